/- Layer 22 (policy): rows of numbers; the greatest and the least of one (slices.Max, slices.Min). -/
import Derived.Test.YtfmllfolpcimpaaPyA
import Derived.OwnWalk
namespace Go.Proofs.Ytfmllfolpcimpaa.Py
open Go.RowKit Go.Shelf Go.Lib Go.Sort Go.Deep
open Go.Joins (cell_of_block unfrozen_of_block block_setCell)
open Go.Proofs.Ytfmllfolpcimpaa.Ow
set_option linter.unusedVariables false
set_option linter.unusedSimpArgs false
set_option maxRecDepth 20000

abbrev InT : TypeId := 3
abbrev SlIn : TypeId := 29
def encZ (z : Int) : List Value := [.int .i64 z]
theorem lenZ (x : Int) : (encZ x).length = 1 := rfl
theorem oneZ (x : Int) : ∀ u ∈ encZ x, u.oneCell' = true := by
  intro u hu
  simp [encZ] at hu
  rcases hu with rfl
  rfl
theorem info_InT : ∃ i : TypeInfo, Try.prog.info? InT = some i ∧ i.zero = some (.int .i64 0) ∧ i.size = 1 ∧ i.bytes = 8 := by
  have hinf : (Try.prog.info? InT).map (fun i => (i.zero, i.size, i.bytes)) = some (some (.int .i64 0), 1, 8) := by kernel_rfl
  cases hi : Try.prog.info? InT with
  | none => rw [hi] at hinf; cases hinf
  | some i =>
    rw [hi] at hinf
    simp only [Option.map_some, Option.some.injEq, Prod.mk.injEq] at hinf
    exact ⟨i, rfl, hinf.1, hinf.2.1, hinf.2.2⟩
theorem int_at {W w : World} {q : Option Addr} {l : List Int} (h : RowR 1 encZ W q l) (b : Below W.heap.size W w) {j : Nat} {x : Int} (hx : l[j]? = some x) : ∃ g off, q = some ⟨g, off, none⟩ ∧ w.cell? ⟨g, off + j, none⟩ = some (.int .i64 x) := by
  obtain ⟨g, off, e, _, hc⟩ := h.below b j x hx
  have h0 := hc 0 _ rfl
  rw [Nat.add_zero, Nat.mul_one] at h0
  exact ⟨g, off, e, h0⟩
/-- The call owns the slice v, which reads as these numbers. -/
def OwnZ (N : Nat) (w : World) (v : Value) (l : List Int) : Prop := w.ownsRow N InT 1 v l.length (flat encZ l)
theorem OwnZ.below {N : Nat} {w w' : World} {v : Value} {l : List Int} (h : OwnZ N w v l) (b : Below w.heap.size w w') : OwnZ N w' v l := below_own h b
theorem OwnZ.row {N : Nat} {w : World} {q : Option Addr} {n c : Nat} {l : List Int} (h : OwnZ N w (.slice q n c) l) : n = l.length ∧ RowR 1 encZ w q l := by
  obtain ⟨q', c', e, r, _⟩ := own_lies lenZ h
  simp only [Value.slice.injEq] at e
  obtain ⟨rfl, rfl, rfl⟩ := e
  exact ⟨rfl, r⟩
theorem flat_appZ (l : List Int) (x : Int) : flat encZ (l ++ [x]) = flat encZ l ++ encZ x := by simp [flat]

/-- The greatest one of a row (0 of none), and the least one. -/
def maxZ : List Int → Int
  | [] => 0
  | x :: r => r.foldl max x
def minZ : List Int → Int
  | [] => 0
  | x :: r => r.foldl min x
theorem maxZ_add {l : List Int} {j : Nat} {y : Int} (h0 : 1 ≤ j) (hy : l[j]? = some y) : maxZ (l.take (j + 1)) = max (maxZ (l.take j)) y := by
  have hj : j < l.length := (List.getElem?_eq_some_iff.1 hy).1
  rw [List.take_add_one, hy]
  cases h : l.take j with
  | nil =>
    exfalso
    have := congrArg List.length h
    rw [List.length_take, List.length_nil] at this
    omega
  | cons x r =>
    show maxZ (x :: (r ++ [y])) = _
    unfold maxZ
    simp
theorem minZ_add {l : List Int} {j : Nat} {y : Int} (h0 : 1 ≤ j) (hy : l[j]? = some y) : minZ (l.take (j + 1)) = min (minZ (l.take j)) y := by
  have hj : j < l.length := (List.getElem?_eq_some_iff.1 hy).1
  rw [List.take_add_one, hy]
  cases h : l.take j with
  | nil =>
    exfalso
    have := congrArg List.length h
    rw [List.length_take, List.length_nil] at this
    omega
  | cons x r =>
    show minZ (x :: (r ++ [y])) = _
    unfold minZ
    simp

set_option maxHeartbeats 4000000 in
theorem py_max (w : World) (q : Option Addr) (c : Nat) (l : List Int) (hr : RowR 1 encZ w q l) (h1 : 1 ≤ l.length) (hl : l.length ≤ 1000000) :
    Calls Try.prog 14 #[.slice q l.length c] w fun e w' => e = .returned (.int .i64 (maxZ l)) ∧ w = w' := by
  obtain ⟨n, hn⟩ : ∃ n, n = l.length := ⟨_, rfl⟩
  obtain ⟨x, hx⟩ : ∃ x, l[0]? = some x := ⟨l[0]'(by omega), List.getElem?_eq_getElem (by omega)⟩
  obtain ⟨g, off, rfl, c0⟩ := int_at hr (Below.refl _ w) hx
  rw [Nat.add_zero] at c0
  rw [← hn] at hl h1
  rw [← hn]
  obtain ⟨S, hS⟩ : ∃ S : Nat → Int, S = fun j => maxZ (l.take j) := ⟨_, rfl⟩
  have S1 : S 1 = x := by
    rw [hS]
    cases l with
    | nil => simp at hx
    | cons z r => simp at hx; subst hx; rfl
  have SN : Hid (∀ j y, 1 ≤ j → l[j]? = some y → S (j + 1) = max (S j) y) := fun j y h0 hy => by rw [hS]; exact maxZ_add h0 hy
  have SE : Hid (S n = maxZ l) := by show _ = _; rw [hS, hn]; show maxZ (l.take _) = _; rw [List.take_length]
  generalize maxZ l = R at SE ⊢
  have HH := Lib.hid (And.intro hr hn)
  have t1 : decide (n < 1) = false := decide_eq_false (by omega)
  have t1' : decide ((n : Int) < 1) = false := decide_eq_false (by omega)
  have n0 : (0 : Int) < (n : Int) := by omega
  rw [← S1] at c0
  have C0 := c0
  clear hr hn hx hS S1
  go_enter Try.func14, Try.ntmps14
  go_wp2_with fail
  clear t1 t1' c0
  go_loopg [3, 4] n (fun g1 v3 vi wr => ∃ j : Nat, vi = .int .i64 (j : Int) ∧ 1 ≤ j ∧ j ≤ n ∧ n - j ≤ g1 ∧ v3 = .int .i64 (S j) ∧ wr = w)
  case atStart => exact ⟨1, rfl, Nat.le_refl _, h1, by omega, rfl, rfl⟩
  case round =>
    obtain ⟨j, rfl, hj1, hj2, hg, rfl, rfl⟩ := hrel
    by_cases hlt : j < n
    · obtain ⟨y, hy⟩ : ∃ y, l[j]? = some y := ⟨l[j]'(by have := HH.out.2; omega), List.getElem?_eq_getElem (by have := HH.out.2; omega)⟩
      have SX := Lib.hid (SN.out j y hj1 hy)
      obtain ⟨g', off', e, cj⟩ := int_at HH.out.1 (Below.refl _ _) hy
      cases e
      clear hy
      go_wp2
      go_roundg (n - (j + 1))
      case measure => omega
      case rel => exact ⟨j + 1, by push_cast; rfl, by omega, by omega, by omega, by rw [SX.out], rfl⟩
    · obtain rfl : j = n := by omega
      go_wp2
      go_ret
      exact ⟨by rw [← SE.out]; rfl, rfl⟩
set_option maxHeartbeats 4000000 in
theorem py_min (w : World) (q : Option Addr) (c : Nat) (l : List Int) (hr : RowR 1 encZ w q l) (h1 : 1 ≤ l.length) (hl : l.length ≤ 1000000) :
    Calls Try.prog 15 #[.slice q l.length c] w fun e w' => e = .returned (.int .i64 (minZ l)) ∧ w = w' := by
  obtain ⟨n, hn⟩ : ∃ n, n = l.length := ⟨_, rfl⟩
  obtain ⟨x, hx⟩ : ∃ x, l[0]? = some x := ⟨l[0]'(by omega), List.getElem?_eq_getElem (by omega)⟩
  obtain ⟨g, off, rfl, c0⟩ := int_at hr (Below.refl _ w) hx
  rw [Nat.add_zero] at c0
  rw [← hn] at hl h1
  rw [← hn]
  obtain ⟨S, hS⟩ : ∃ S : Nat → Int, S = fun j => minZ (l.take j) := ⟨_, rfl⟩
  have S1 : S 1 = x := by
    rw [hS]
    cases l with
    | nil => simp at hx
    | cons z r => simp at hx; subst hx; rfl
  have SN : Hid (∀ j y, 1 ≤ j → l[j]? = some y → S (j + 1) = min (S j) y) := fun j y h0 hy => by rw [hS]; exact minZ_add h0 hy
  have SE : Hid (S n = minZ l) := by show _ = _; rw [hS, hn]; show minZ (l.take _) = _; rw [List.take_length]
  generalize minZ l = R at SE ⊢
  have HH := Lib.hid (And.intro hr hn)
  have t1 : decide (n < 1) = false := decide_eq_false (by omega)
  have t1' : decide ((n : Int) < 1) = false := decide_eq_false (by omega)
  have n0 : (0 : Int) < (n : Int) := by omega
  rw [← S1] at c0
  have C0 := c0
  clear hr hn hx hS S1
  go_enter Try.func15, Try.ntmps15
  go_wp2_with fail
  clear t1 t1' c0
  go_loopg [3, 4] n (fun g1 v3 vi wr => ∃ j : Nat, vi = .int .i64 (j : Int) ∧ 1 ≤ j ∧ j ≤ n ∧ n - j ≤ g1 ∧ v3 = .int .i64 (S j) ∧ wr = w)
  case atStart => exact ⟨1, rfl, Nat.le_refl _, h1, by omega, rfl, rfl⟩
  case round =>
    obtain ⟨j, rfl, hj1, hj2, hg, rfl, rfl⟩ := hrel
    by_cases hlt : j < n
    · obtain ⟨y, hy⟩ : ∃ y, l[j]? = some y := ⟨l[j]'(by have := HH.out.2; omega), List.getElem?_eq_getElem (by have := HH.out.2; omega)⟩
      have SX := Lib.hid (SN.out j y hj1 hy)
      obtain ⟨g', off', e, cj⟩ := int_at HH.out.1 (Below.refl _ _) hy
      cases e
      clear hy
      go_wp2
      go_roundg (n - (j + 1))
      case measure => omega
      case rel => exact ⟨j + 1, by push_cast; rfl, by omega, by omega, by omega, by rw [SX.out], rfl⟩
    · obtain rfl : j = n := by omega
      go_wp2
      go_ret
      exact ⟨by rw [← SE.out]; rfl, rfl⟩
end Go.Proofs.Ytfmllfolpcimpaa.Py
