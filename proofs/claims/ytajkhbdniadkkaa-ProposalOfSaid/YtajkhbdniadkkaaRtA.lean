/- Layer 12: quantities, rows of samples in memory, one step of a counter. -/
import Derived.Test.YtajkhbdniadkkaaProg
import Derived.Lib.SmallJoins
import Derived.WalkLawsBesides
import Derived.Deep.RegionWith
import Derived.Lib.Hide
import Derived.Below
import Derived.WalkKit
import Derived.ChangeSame
import Derived.ProofKit
import Derived.OpenShut
import Derived.Carry
import Derived.BigQuiet
import Derived.IntWalk
import Derived.Deep.QuietTactic
import Derived.StillTailTactics
import Derived.Deep.DeepCutAuto
import Derived.LoopTactic
namespace Go.Proofs.Ytajkhbdniadkkaa.Rt
open Go.RowKit Go.Lib
open Go.Joins (cell_of_block unfrozen_of_block block_setCell)
set_option linter.unusedVariables false
set_option linter.unusedSimpArgs false
set_option maxRecDepth 20000

theorem Below.drewN' {n0 : Nat} {a b : World} (h : Below n0 a b) (n : Nat) : Below n0 a (b.drewN n) := ⟨h.os, h.tape, h.output, h.size, h.block⟩
theorem right_yes (m : Int) (w : World) (h0 : 0 ≤ m) (h1 : m ≤ 9007199254740992) :
    Calls Try.prog 19 #[.int .i64 m] w fun e w' => e = .returned (.bool true) ∧ w = w' := by
  go_enter Try.func19, Try.ntmps19
  go_wp2
  go_ret
  exact ⟨rfl, rfl⟩
theorem add_over (a b : Int) (w : World) (ha : 0 ≤ a) (ha1 : a ≤ 9007199254740992) (hb : 0 ≤ b) (hb1 : b ≤ 9007199254740992) (h : 9007199254740992 < a + b) :
    Calls Try.prog 59 #[.int .i64 a, .int .i64 b] w fun e w' => e = .returned (.tuple #[.int .i64 0, .int .i64 3]) ∧ w = w' := by
  have t1 : 9007199254740992 - b < a := by omega
  go_enter Try.func59, Try.ntmps59
  go_wp2_with fail
  refine (right_yes _ _ ha ha1).mono ?_
  rintro e w' ⟨rfl, rfl⟩
  go_wp2_with fail
  refine (right_yes _ _ hb hb1).mono ?_
  rintro e w' ⟨rfl, rfl⟩
  go_wp2
  go_ret2
  exact ⟨rfl, rfl⟩
theorem add_within (a b : Int) (w : World) (ha : 0 ≤ a) (ha1 : a ≤ 9007199254740992) (hb : 0 ≤ b) (hb1 : b ≤ 9007199254740992) (h : a + b ≤ 9007199254740992) :
    Calls Try.prog 59 #[.int .i64 a, .int .i64 b] w fun e w' => e = .returned (.tuple #[.int .i64 (a + b), .int .i64 0]) ∧ w = w' := by
  have t1 : ¬ 9007199254740992 - b < a := by omega
  go_enter Try.func59, Try.ntmps59
  go_wp2_with fail
  refine (right_yes _ _ ha ha1).mono ?_
  rintro e w' ⟨rfl, rfl⟩
  go_wp2_with fail
  refine (right_yes _ _ hb hb1).mono ?_
  rintro e w' ⟨rfl, rfl⟩
  go_wp2
  go_ret2
  exact ⟨rfl, rfl⟩
/-- How much more: by one sample. -/
def stp (a b : Int) : Int := if b < a then b else b - a
theorem stp_low {a b : Int} (h : b < a) : stp a b = b := if_pos h
theorem stp_up {a b : Int} (h : ¬ b < a) : stp a b = b - a := if_neg h
theorem stp_rng {a b : Int} (ha : 0 ≤ a) (hb : 0 ≤ b) (hb1 : b ≤ 9007199254740992) : 0 ≤ stp a b ∧ stp a b ≤ 9007199254740992 := by unfold stp; split <;> omega
/-- A sample: its tick, its value. -/
abbrev Sam := Int × Int
abbrev TSQ : TypeId := 108
def Fits64 (n : Int) : Prop := -9223372036854775808 ≤ n ∧ n ≤ 9223372036854775807
/-- A slice that holds samples. -/
def RowS (W : World) (q : Option Addr) (l : List Sam) : Prop := ∀ i x, l[i]? = some x → (Fits64 x.1 ∧ Fits64 x.2) ∧ ∃ b off : Nat, q = some ⟨b, off, none⟩ ∧ b < W.heap.size ∧ W.cell? ⟨b, off + i * 2, none⟩ = some (.int .i64 x.1) ∧ W.cell? ⟨b, off + i * 2 + 1, none⟩ = some (.int .i64 x.2)
theorem RowS.below {W W' : World} {q : Option Addr} {l : List Sam} (h : RowS W q l) (hb : Below W.heap.size W W') : RowS W' q l := fun i x hx => by
  obtain ⟨h0, b, off, e, hlt, c0, c1⟩ := h i x hx
  exact ⟨h0, b, off, e, Nat.lt_of_lt_of_le hlt hb.size, (hb.cell (p := ⟨b, _, none⟩) hlt).trans c0, (hb.cell (p := ⟨b, _, none⟩) hlt).trans c1⟩
theorem RowS.take {W : World} {q : Option Addr} {l : List Sam} (h : RowS W q l) (k : Nat) : RowS W q (l.take k) := fun i x hx => by
  rw [List.getElem?_take] at hx
  split at hx
  · exact h i x hx
  · cases hx
theorem RowS.drop {W : World} {b off : Nat} {l : List Sam} (h : RowS W (some ⟨b, off, none⟩) l) (k : Nat) : RowS W (some ⟨b, off + k * 2, none⟩) (l.drop k) := fun i x hx => by
  rw [List.getElem?_drop] at hx
  obtain ⟨h0, b', off', e, hlt, c0, c1⟩ := h _ x hx
  cases e
  have e1 : off + (k + i) * 2 = off + k * 2 + i * 2 := by omega
  rw [e1] at c0 c1
  exact ⟨h0, b, _, rfl, hlt, c0, c1⟩

/-- Quantities, at ticks that rise. -/
def Good (l : List Sam) : Prop := (∀ (i : Nat) x, l[i]? = some x → 0 ≤ x.2 ∧ x.2 ≤ 9007199254740992) ∧ ∀ (i : Nat) x y, l[i]? = some x → l[i + 1]? = some y → x.1 < y.1
theorem Good.take {l : List Sam} (h : Good l) (k : Nat) : Good (l.take k) := by
  refine ⟨fun i x hx => ?_, fun i x y hx hy => ?_⟩
  · rw [List.getElem?_take] at hx
    split at hx
    · exact h.1 i x hx
    · cases hx
  · rw [List.getElem?_take] at hx hy
    split at hx
    · split at hy
      · exact h.2 i x y hx hy
      · cases hy
    · cases hx
theorem Good.drop {l : List Sam} (h : Good l) (k : Nat) : Good (l.drop k) := by
  refine ⟨fun i x hx => ?_, fun i x y hx hy => ?_⟩
  · rw [List.getElem?_drop] at hx
    exact h.1 _ x hx
  · rw [List.getElem?_drop] at hx hy
    exact h.2 (k + i) x y hx hy
theorem Good.nil : Good ([] : List Sam) := ⟨fun i x h => by simp at h, fun i x y h => by simp at h⟩
/-- One sample more. -/
theorem good_more {l : List Sam} {k : Nat} {x : Sam} (h : Good (l.take k)) (hx : l[k]? = some x) (h0 : 0 ≤ x.2) (h1 : x.2 ≤ 9007199254740992) (hp : ∀ y, 0 < k → l[k - 1]? = some y → y.1 < x.1) : Good (l.take (k + 1)) := by
  refine ⟨fun i y hy => ?_, fun i y z hy hz => ?_⟩
  · rw [List.getElem?_take] at hy
    split at hy
    · rename_i hi
      by_cases e : i = k
      · subst e
        rw [hx] at hy
        cases hy
        exact ⟨h0, h1⟩
      · exact h.1 i y (by rw [List.getElem?_take, if_pos (by omega)]; exact hy)
    · cases hy
  · rw [List.getElem?_take] at hy hz
    split at hz
    · rename_i hi
      rw [if_pos (by omega)] at hy
      by_cases e : i + 1 = k
      · rw [e, hx] at hz
        cases hz
        exact hp y (by omega) (by rw [show k - 1 = i by omega]; exact hy)
      · exact h.2 i y z (by rw [List.getElem?_take, if_pos (by omega)]; exact hy) (by rw [List.getElem?_take, if_pos (by omega)]; exact hz)
    · cases hz

/-- How much more, by the first so many steps. -/
def inc (l : List Sam) : Nat → Int
  | 0 => 0
  | k + 1 => inc l k + stp (l.getD k (0, 0)).2 (l.getD (k + 1) (0, 0)).2
/-- How often less, by the first so many steps. -/
def fal (l : List Sam) : Nat → Int
  | 0 => 0
  | k + 1 => fal l k + if (l.getD (k + 1) (0, 0)).2 < (l.getD k (0, 0)).2 then 1 else 0
theorem getD_of {l : List Sam} {k : Nat} {x : Sam} (h : l[k]? = some x) : l.getD k (0, 0) = x := by rw [List.getD_eq_getElem?_getD, h]; rfl
theorem inc_more {l : List Sam} {k : Nat} {x y : Sam} (hx : l[k]? = some x) (hy : l[k + 1]? = some y) : inc l (k + 1) = inc l k + stp x.2 y.2 := by
  show inc l k + _ = _
  rw [getD_of hx, getD_of hy]
theorem fal_more {l : List Sam} {k : Nat} {x y : Sam} (hx : l[k]? = some x) (hy : l[k + 1]? = some y) : fal l (k + 1) = fal l k + if y.2 < x.2 then 1 else 0 := by
  show fal l k + _ = _
  rw [getD_of hx, getD_of hy]
theorem inc_mono {l : List Sam} (h : Good l) : ∀ (d k : Nat), k + d < l.length → inc l k ≤ inc l (k + d) := by
  intro d
  induction d with
  | zero => intro k _; exact Int.le_refl _
  | succ d ih =>
    intro k hk
    have hx : l[k + d]? = some l[k + d] := List.getElem?_eq_getElem (by omega)
    have hy : l[k + d + 1]? = some l[k + d + 1] := List.getElem?_eq_getElem (by omega)
    have := ih k (by omega)
    have hs := stp_rng (h.1 _ _ hx).1 (h.1 _ _ hy).1 (h.1 _ _ hy).2
    rw [show k + (d + 1) = k + d + 1 by omega, inc_more hx hy]
    omega
theorem inc_le {l : List Sam} (h : Good l) {k n : Nat} (hk : k ≤ n) (hn : n < l.length) : inc l k ≤ inc l n := by
  have := inc_mono h (n - k) k (by omega)
  rw [show k + (n - k) = n by omega] at this
  exact this
theorem inc_pos {l : List Sam} (h : Good l) {n : Nat} (hn : n < l.length) : 0 ≤ inc l n := inc_le h (Nat.zero_le n) hn
theorem inc_take {l : List Sam} {m : Nat} : ∀ k, k < m → inc (l.take m) k = inc l k := by
  intro k
  induction k with
  | zero => intro _; rfl
  | succ k ih =>
    intro hk
    show inc (l.take m) k + _ = inc l k + _
    rw [ih (by omega)]
    simp only [List.getD_eq_getElem?_getD, List.getElem?_take]
    rw [if_pos (by omega), if_pos (by omega)]
theorem inc_drop {l : List Sam} {m : Nat} : ∀ k, inc l m + inc (l.drop m) k = inc l (m + k) := by
  intro k
  induction k with
  | zero => show inc l m + 0 = _; rw [Int.add_zero]; rfl
  | succ k ih =>
    show inc l m + (inc (l.drop m) k + _) = inc l (m + k) + _
    rw [← Int.add_assoc, ih]
    simp only [List.getD_eq_getElem?_getD, List.getElem?_drop]
    rfl
end Go.Proofs.Ytajkhbdniadkkaa.Rt
