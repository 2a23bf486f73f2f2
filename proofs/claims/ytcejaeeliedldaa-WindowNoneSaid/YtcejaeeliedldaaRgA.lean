/- A ring: rows of samples that go round, in memory; what is touched. -/
import Derived.Test.YtcejaeeliedldaaProg
import Derived.Lib.SmallJoins
import Derived.WalkLawsBesides
import Derived.Deep.LoopGhost
import Derived.Deep.RegionWith
import Derived.Lib.Hide
import Derived.Below
import Derived.WalkKit
import Derived.ChangeSame
import Derived.ProofKit
import Derived.OpenShut
import Derived.Carry
import Derived.BigQuiet
import Derived.Deep.QuietTactic
import Derived.StillTailTactics
import Derived.Deep.DeepCutAuto
import Derived.Deep.RegionHeld
import Derived.Deep.RegionHeld3
import Derived.Laws.AppendOwn
import Derived.Laws.OwnMore
import Derived.RangeFuncBox
import Derived.LoopTactic
import Derived.OneCell
import Derived.ChangeAlike
import Derived.Outline
namespace Go.Proofs.Ytcejaeeliedldaa
open Go.RowKit
open Go.Joins (cell_of_block unfrozen_of_block block_setCell)
set_option linter.unusedVariables false
set_option linter.unusedSimpArgs false
set_option maxRecDepth 20000

/-- Of the blocks that were there only these were touched. -/
structure Tch (S : List Nat) (w w' : World) : Prop where
  os : w'.os = w.os
  tape : w'.tape = w.tape
  output : w'.output = w.output
  size : w.heap.size ≤ w'.heap.size
  block : ∀ g, g < w.heap.size → g ∉ S → w'.heap[g]? = w.heap[g]?
theorem Tch.refl (S : List Nat) (w : World) : Tch S w w := ⟨rfl, rfl, rfl, Nat.le_refl _, fun _ _ _ => rfl⟩
theorem Tch.trans {S S' : List Nat} {a b c : World} (h : Tch S a b) (k : Tch S' b c) (hS : ∀ g ∈ S', g ∈ S ∨ a.heap.size ≤ g) : Tch S a c :=
  ⟨k.os.trans h.os, k.tape.trans h.tape, k.output.trans h.output, Nat.le_trans h.size k.size, fun g hg hn => (k.block g (Nat.lt_of_lt_of_le hg h.size) (fun hm => by
    rcases hS g hm with h1 | h1
    · exact hn h1
    · omega)).trans (h.block g hg hn)⟩
theorem Tch.ofBelow {w w' : World} (h : Below w.heap.size w w') (S : List Nat) : Tch S w w' := ⟨h.os, h.tape, h.output, h.size, fun g hg _ => h.block g hg⟩
theorem Tch.ofGrown {w w' : World} {row : Option Nat} (h : w.grownBy w' row) {S : List Nat} (hs : ∀ g, row = some g → g ∈ S ∨ w.heap.size ≤ g) : Tch S w w' :=
  ⟨h.os, h.tape, h.output, h.size, fun g hg hn => h.block g hg (fun e => by rcases hs g e.symm with h1 | h1; exact hn h1; omega)⟩
theorem Tch.setCell {S : List Nat} {a b : World} (h : Tch S a b) {g : Nat} (i : Nat) (v : Value) (hg : g ∈ S ∨ a.heap.size ≤ g) : Tch S a (b.setCell ⟨g, i, none⟩ v) :=
  ⟨h.os, h.tape, h.output, by have := h.size; simpa [World.setCell] using this, fun k hk hn => by
    rw [Below.heap_setCell _ _ _ _ (by show k ≠ g; rintro rfl; rcases hg with h1 | h1; exact hn h1; omega)]
    exact h.block k hk hn⟩
theorem Tch.drewN {S : List Nat} {a b : World} (h : Tch S a b) (n : Nat) : Tch S a (b.drewN n) := ⟨h.os, h.tape, h.output, h.size, h.block⟩
theorem Tch.alloc {S : List Nat} {a b : World} (h : Tch S a b) (o : Obj) : Tch S a (b.alloc o) :=
  ⟨h.os, h.tape, h.output, by have := h.size; simp; omega, fun g hg hn => (Below.heap_alloc b o g (Nat.lt_of_lt_of_le hg h.size)).trans (h.block g hg hn)⟩
theorem Tch.less {S S' : List Nat} {w w' : World} (h : Tch S w w') (hs : ∀ g ∈ S, g ∈ S' ∨ w.heap.size ≤ g) : Tch S' w w' :=
  ⟨h.os, h.tape, h.output, h.size, fun g hg hn => h.block g hg (fun hm => by rcases hs g hm with h1 | h1; exact hn h1; omega)⟩
theorem Tch.below {S : List Nat} {base : Nat} {w w' : World} (h : Tch S w w') (hs : ∀ g ∈ S, base ≤ g) (hb : base ≤ w.heap.size) : Below base w w' :=
  ⟨h.os, h.tape, h.output, h.size, fun g hg => h.block g (Nat.lt_of_lt_of_le hg hb) (fun hm => by have := hs g hm; omega)⟩
theorem Below.drewN' {n0 : Nat} {a b : World} (h : Below n0 a b) (n : Nat) : Below n0 a (b.drewN n) := ⟨h.os, h.tape, h.output, h.size, h.block⟩

/-- Where the sample is that i elder ones stand ahead of. -/
def pl (n f i : Nat) : Nat := if f + i < n then f + i else f + i - n
theorem pl_lt {n f i : Nat} (hf : f < n) (hi : i ≤ n) : pl n f i < n := by unfold pl; split <;> omega
theorem pl_zero {n f : Nat} (hf : f < n) : pl n f 0 = f := by unfold pl; rw [if_pos (by omega)]; omega
theorem pl_inj {n f i j : Nat} (hf : f < n) (hi : i < n) (hj : j < n) (h : pl n f i = pl n f j) : i = j := by
  unfold pl at h; split at h <;> split at h <;> omega
theorem pl_one {n f i : Nat} (hf : f < n) (hi : i < n) : pl n (pl n f 1) i = pl n f (i + 1) := by
  unfold pl; repeat' split
  all_goals omega

/-- The block is a ring's, its room another one's: n places, the eldest one at f, m samples; what lies at each place. -/
structure Rgs {α : Type} (TR TS : TypeId) (en : α → Value) (w : World) (rb gb n cp f m : Nat) (c : Nat → Int × α) : Prop where
  ring : w.heap[rb]? = some (.cells #[.slice (some ⟨gb, 0, none⟩) n cp, .int .i64 (f : Int), .int .i64 (m : Int)] TR (0, 0))
  room : ∃ cs : Array Value, w.heap[gb]? = some (.cells cs TS (0, 0)) ∧ n * 2 ≤ cs.size ∧ ∀ j, j < n → cs[j * 2]? = some (.int .i64 (c j).1) ∧ cs[j * 2 + 1]? = some (en (c j).2)
  ne : rb ≠ gb
  hn : 1 ≤ n ∧ n ≤ 32
  hf : f < n
  hm : m ≤ n
section
variable {α : Type} {TR TS : TypeId} {en : α → Value} {w w' : World} {rb gb n cp f m : Nat} {c : Nat → Int × α}
theorem Rgs.lt (h : Rgs TR TS en w rb gb n cp f m c) : rb < w.heap.size ∧ gb < w.heap.size := by
  obtain ⟨cs, h2, _⟩ := h.room
  exact ⟨(Array.getElem?_eq_some_iff.1 h.ring).1, (Array.getElem?_eq_some_iff.1 h2).1⟩
theorem Rgs.keep (h : Rgs TR TS en w rb gb n cp f m c) (h1 : w'.heap[rb]? = w.heap[rb]?) (h2 : w'.heap[gb]? = w.heap[gb]?) : Rgs TR TS en w' rb gb n cp f m c := by
  obtain ⟨cs, h3, h4⟩ := h.room
  exact ⟨h1.trans h.ring, ⟨cs, h2.trans h3, h4⟩, h.ne, h.hn, h.hf, h.hm⟩
theorem Rgs.gr (h : Rgs TR TS en w rb gb n cp f m c) (b : Below w.heap.size w w') : Rgs TR TS en w' rb gb n cp f m c := h.keep (b.block _ h.lt.1) (b.block _ h.lt.2)
theorem Rgs.drewN (h : Rgs TR TS en w rb gb n cp f m c) (k : Nat) : Rgs TR TS en (w.drewN k) rb gb n cp f m c := h.keep rfl rfl
theorem Rgs.c0 (h : Rgs TR TS en w rb gb n cp f m c) : w.cell? ⟨rb, 0, none⟩ = some (.slice (some ⟨gb, 0, none⟩) n cp) := cell_of_block h.ring 0
theorem Rgs.c1 (h : Rgs TR TS en w rb gb n cp f m c) : w.cell? ⟨rb, 1, none⟩ = some (.int .i64 (f : Int)) := cell_of_block h.ring 1
theorem Rgs.c2 (h : Rgs TR TS en w rb gb n cp f m c) : w.cell? ⟨rb, 2, none⟩ = some (.int .i64 (m : Int)) := cell_of_block h.ring 2
theorem Rgs.u1 (h : Rgs TR TS en w rb gb n cp f m c) : w.frozen? ⟨rb, 1, none⟩ = false := unfrozen_of_block h.ring 1
theorem Rgs.u2 (h : Rgs TR TS en w rb gb n cp f m c) : w.frozen? ⟨rb, 2, none⟩ = false := unfrozen_of_block h.ring 2
theorem Rgs.at0 (h : Rgs TR TS en w rb gb n cp f m c) {j : Nat} (hj : j < n) : w.cell? ⟨gb, j * 2, none⟩ = some (.int .i64 (c j).1) := by
  obtain ⟨cs, h3, h4, h5⟩ := h.room
  rw [cell_of_block h3]; exact (h5 j hj).1
theorem Rgs.at1 (h : Rgs TR TS en w rb gb n cp f m c) {j : Nat} (hj : j < n) : w.cell? ⟨gb, j * 2 + 1, none⟩ = some (en (c j).2) := by
  obtain ⟨cs, h3, h4, h5⟩ := h.room
  rw [cell_of_block h3]; exact (h5 j hj).2
theorem Rgs.uat (h : Rgs TR TS en w rb gb n cp f m c) (i : Nat) : w.frozen? ⟨gb, i, none⟩ = false := by
  obtain ⟨cs, h3, h4, h5⟩ := h.room
  exact unfrozen_of_block h3 i
/-- The eldest one's place, and how many there are, are set. -/
theorem Rgs.setF (h : Rgs TR TS en w rb gb n cp f m c) {f' : Nat} (hf : f' < n) : Rgs TR TS en (w.setCell ⟨rb, 1, none⟩ (.int .i64 (f' : Int))) rb gb n cp f' m c := by
  obtain ⟨cs, h3, h4⟩ := h.room
  exact ⟨by rw [block_setCell h.ring]; rfl, ⟨cs, by rw [Below.heap_setCell _ _ _ _ (by show gb ≠ rb; exact fun e => h.ne e.symm)]; exact h3, h4⟩, h.ne, h.hn, hf, h.hm⟩
theorem Rgs.setM (h : Rgs TR TS en w rb gb n cp f m c) {m' : Nat} (hm : m' ≤ n) : Rgs TR TS en (w.setCell ⟨rb, 2, none⟩ (.int .i64 (m' : Int))) rb gb n cp f m' c := by
  obtain ⟨cs, h3, h4⟩ := h.room
  exact ⟨by rw [block_setCell h.ring]; rfl, ⟨cs, by rw [Below.heap_setCell _ _ _ _ (by show gb ≠ rb; exact fun e => h.ne e.symm)]; exact h3, h4⟩, h.ne, h.hn, h.hf, hm⟩
/-- A sample is laid at a place. -/
def upd (c : Nat → Int × α) (j : Nat) (x : Int × α) : Nat → Int × α := fun i => if i = j then x else c i
theorem upd_same (c : Nat → Int × α) (j : Nat) (x : Int × α) : upd c j x j = x := if_pos rfl
theorem upd_other (c : Nat → Int × α) {j i : Nat} (x : Int × α) (h : i ≠ j) : upd c j x i = c i := if_neg h
theorem Rgs.setS (h : Rgs TR TS en w rb gb n cp f m c) {j : Nat} (hj : j < n) (x : Int × α) : Rgs TR TS en ((w.setCell ⟨gb, j * 2, none⟩ (.int .i64 x.1)).setCell ⟨gb, j * 2 + 1, none⟩ (en x.2)) rb gb n cp f m (upd c j x) := by
  obtain ⟨cs, h3, h4, h5⟩ := h.room
  have hne : rb ≠ gb := h.ne
  refine ⟨?_, ⟨(cs.setIfInBounds (j * 2) (.int .i64 x.1)).setIfInBounds (j * 2 + 1) (en x.2), ?_, by simp; exact h4, fun i hi => ?_⟩, h.ne, h.hn, h.hf, h.hm⟩
  · rw [Below.heap_setCell _ _ _ _ (by show rb ≠ gb; exact hne), Below.heap_setCell _ _ _ _ (by show rb ≠ gb; exact hne)]
    exact h.ring
  · rw [block_setCell (block_setCell h3 _)]
  · by_cases e : i = j
    · subst e
      rw [upd_same]
      refine ⟨?_, ?_⟩
      · rw [Array.getElem?_setIfInBounds_ne (by omega), Array.getElem?_setIfInBounds_self_of_lt (by omega)]
      · rw [Array.getElem?_setIfInBounds_self_of_lt (by simp; omega)]
    · rw [upd_other c x e, Array.getElem?_setIfInBounds_ne (by omega), Array.getElem?_setIfInBounds_ne (by omega), Array.getElem?_setIfInBounds_ne (by omega), Array.getElem?_setIfInBounds_ne (by omega)]
      exact h5 i hi

/-- A ring that has these samples. -/
def Has (TR TS : TypeId) (en : α → Value) (w : World) (rb gb n : Nat) (L : List (Int × α)) : Prop :=
  ∃ cp f c, Rgs TR TS en w rb gb n cp f L.length c ∧ ∀ i x, L[i]? = some x → c (pl n f i) = x
variable {L : List (Int × α)}
theorem Has.lt (h : Has TR TS en w rb gb n L) : rb < w.heap.size ∧ gb < w.heap.size := by obtain ⟨cp, f, c, h1, _⟩ := h; exact h1.lt
theorem Has.keep (h : Has TR TS en w rb gb n L) (h1 : w'.heap[rb]? = w.heap[rb]?) (h2 : w'.heap[gb]? = w.heap[gb]?) : Has TR TS en w' rb gb n L := by
  obtain ⟨cp, f, c, h3, h4⟩ := h; exact ⟨cp, f, c, h3.keep h1 h2, h4⟩
theorem Has.gr (h : Has TR TS en w rb gb n L) (b : Below w.heap.size w w') : Has TR TS en w' rb gb n L := h.keep (b.block _ h.lt.1) (b.block _ h.lt.2)
theorem Has.drewN (h : Has TR TS en w rb gb n L) (k : Nat) : Has TR TS en (w.drewN k) rb gb n L := h.keep rfl rfl
theorem Has.tch {S : List Nat} (h : Has TR TS en w rb gb n L) (t : Tch S w w') (h1 : rb ∉ S) (h2 : gb ∉ S) : Has TR TS en w' rb gb n L := h.keep (t.block _ h.lt.1 h1) (t.block _ h.lt.2 h2)
theorem Has.few (h : Has TR TS en w rb gb n L) : L.length ≤ n ∧ 1 ≤ n ∧ n ≤ 32 := by obtain ⟨cp, f, c, h1, _⟩ := h; exact ⟨h1.hm, h1.hn⟩
end
end Go.Proofs.Ytcejaeeliedldaa
