/- Policies filled in: fillWay, fill. -/
import Derived.Test.YtcfilaiejccfkaaVaN
import Derived.Deep.RegionHeld3
namespace Go.Proofs.Ytcfilaiejccfkaa
open Go.RowKit Go.Shelf Go.Lib Go.Sort Go.Deep
open Go.Joins (cell_of_block unfrozen_of_block block_setCell)
set_option linter.unusedVariables false
set_option linter.unusedSimpArgs false
set_option maxRecDepth 20000

def dblP : Pol := (true, 1000, 15)
def fourP : Pol := (false, 4, 15)
/-- The policies of a way, filled in. -/
def wayR (l : List Pol) (pick : Int) (m : List Pol) : List Pol := if l = [] ∧ pick ≠ 2 then m else l
/-- One way filled in. -/
theorem way_step {u : World} {B p N : Nat} {L : Array Value} {TO : TypeId} {l m : List Pol} {k : Int} (hB : u.heap[B]? = some (.cells L TO (0, 0))) (hN : B < N) (hNu : N ≤ u.heap.size) (ho : OwnC N u 87 3 encP L (p + 2) l) (hml : m.length ≤ 1000) :
    ∀ U, U = (u.alloc (.cells (flat encP m).toArray 87)).drew → ∀ R, R = (if l.length = 0 ∧ k ≠ 2 then U.setCell ⟨B, p + 2, none⟩ (.slice (some ⟨u.heap.size, 0, none⟩) m.length m.length) else U) →
    U.heap[B]? = some (.cells L TO (0, 0)) ∧ Xb B u U ∧ ∃ L1, R.heap[B]? = some (.cells L1 TO (0, 0)) ∧ L1.size = L.size ∧ (∀ i, i ≠ p + 2 → L1[i]? = L[i]?) ∧ OwnC N R 87 3 encP L1 (p + 2) (wayR l k m) ∧ Xb B u R := by
  intro U hU R hR
  have hlt : B < u.heap.size := (Array.getElem?_eq_some_iff.1 hB).1
  have hUu : ∀ g, g < u.heap.size → U.heap[g]? = u.heap[g]? := fun g hg => by rw [hU]; exact ((Gr.refl u).alloc _).heap hg
  have hX : Xb B u U := by
    rw [hU]
    exact (Xb.ofGr ((Gr.refl u).alloc _) B).trans ⟨rfl, rfl, rfl, Nat.le_refl _, fun _ _ _ => rfl⟩
  have hUB : U.heap[B]? = some (.cells L TO (0, 0)) := (hUu B hlt).trans hB
  refine ⟨hUB, hX, ?_⟩
  have hnew : U.heap[u.heap.size]? = some (.cells (flat encP m).toArray 87 (0, 0)) := by rw [hU]; exact heap_alloc_new u _
  have hlen : l = [] ↔ l.length = 0 := List.length_eq_zero_iff.symm
  by_cases hc : l.length = 0 ∧ k ≠ 2
  · rw [if_pos hc] at hR
    have hw : wayR l k m = m := if_pos ⟨hlen.2 hc.1, hc.2⟩
    obtain ⟨v0, hv0, _⟩ := ho
    have hp : p + 2 < L.size := (Array.getElem?_eq_some_iff.1 hv0).1
    refine ⟨L.setIfInBounds (p + 2) (.slice (some ⟨u.heap.size, 0, none⟩) m.length m.length), by rw [hR, block_setCell hUB], by simp, fun i hi => by rw [Array.getElem?_setIfInBounds_ne (fun e => hi e.symm)], ?_, ?_⟩
    · rw [hw]
      refine ⟨_, by rw [Array.getElem?_setIfInBounds_self_of_lt hp], flat_length lenP m, .inr ⟨u.heap.size, m.length, (flat encP m).toArray, rfl, hNu, ?_, Nat.le_refl _, Nat.le_trans hml (by decide), by simp [flat_length lenP], by rw [← flat_length lenP m]; simp⟩⟩
      rw [hR, Below.heap_setCell _ _ _ _ (by show u.heap.size ≠ B; omega)]
      exact hnew
    · rw [hR]
      exact hX.setCell _ _
  · rw [if_neg hc] at hR
    have hw : wayR l k m = l := if_neg (fun h => hc ⟨hlen.1 h.1, h.2⟩)
    rw [hR, hw]
    exact ⟨L, hUB, rfl, fun _ _ => rfl, ho.keep (fun g h1 h2 => hUu g h2) rfl, hX⟩

end Go.Proofs.Ytcfilaiejccfkaa
