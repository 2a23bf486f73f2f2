/- Worlds in which one block alone was changed, of those that were there. -/
import Derived.Test.YtfmllfolpcimpaaObEa
namespace Go.Proofs.Ytfmllfolpcimpaa
open Go.RowKit Go.Shelf Go.Lib Go.Sort
open Go.Joins (cell_of_block unfrozen_of_block block_setCell)
set_option linter.unusedVariables false

structure Xc (L : Nat) (w w' : World) : Prop where
  os : w'.os = w.os
  tape : w'.tape = w.tape
  output : w'.output = w.output
  drawn : w.drawn ≤ w'.drawn
  size : w.heap.size ≤ w'.heap.size
  block : ∀ k, k < w.heap.size → k ≠ L → w'.heap[k]? = w.heap[k]?
theorem Xc.refl (L : Nat) (w : World) : Xc L w w := ⟨rfl, rfl, rfl, Nat.le_refl _, Nat.le_refl _, fun _ _ _ => rfl⟩
theorem Xc.trans {L : Nat} {a b c : World} (h : Xc L a b) (k : Xc L b c) : Xc L a c :=
  ⟨k.os.trans h.os, k.tape.trans h.tape, k.output.trans h.output, Nat.le_trans h.drawn k.drawn, Nat.le_trans h.size k.size, fun i hi hn => (k.block i (Nat.lt_of_lt_of_le hi h.size) hn).trans (h.block i hi hn)⟩
theorem gr_drawn {w w' : World} (h : Gr w w') : w.drawn ≤ w'.drawn := by
  obtain ⟨q, os, rfl⟩ := h
  exact Nat.le_add_right _ _
theorem Xc.ofGr {w w' : World} (h : Gr w w') (L : Nat) : Xc L w w' :=
  ⟨h.below.os, h.below.tape, h.below.output, gr_drawn h, h.size, fun k hk _ => h.heap hk⟩
theorem Xc.gr {L : Nat} {a b c : World} (h : Xc L a b) (k : Gr b c) : Xc L a c := h.trans (Xc.ofGr k L)
theorem Xc.setCell {L : Nat} {a b : World} (h : Xc L a b) (i : Nat) (v : Value) : Xc L a (b.setCell ⟨L, i, none⟩ v) :=
  h.trans ⟨rfl, rfl, rfl, Nat.le_refl _, by simp [World.setCell], fun k _ hn => Below.heap_setCell _ _ _ _ hn⟩
theorem Xc.below {L : Nat} {w w' : World} (h : Xc L w w') {N : Nat} (hN : N ≤ L) (hw : N ≤ w.heap.size) : Below N w w' :=
  ⟨h.os, h.tape, h.output, h.size, fun k hk => h.block k (by omega) (by omega)⟩
/-- All that is new is the call's own. -/
theorem Xc.out {L : Nat} {w w1 w' : World} (g : Gr w w1) (h : Xc L w1 w') (hL : w.heap.size ≤ L) : Gr w w' := by
  refine Bd.gr ⟨g.below.trans (h.below hL g.size), Nat.le_trans (gr_drawn g) h.drawn⟩
theorem Xc.cell {L : Nat} {w w' : World} (h : Xc L w w') {p : Addr} {v : Value} (hp : w.cell? p = some v) (hn : p.block ≠ L) : w'.cell? p = some v :=
  (World.cell?_of_block (h.block _ (World.block_lt_of_cell? w p hp) hn)).trans hp
end Go.Proofs.Ytfmllfolpcimpaa
