/- Rows of a call's own, written into: what stays. -/
import Derived.Test.YtcfilaiejccfkaaVaD
namespace Go.Proofs.Ytcfilaiejccfkaa
open Go.RowKit Go.Shelf Go.Lib Go.Sort
open Go.Joins (cell_of_block unfrozen_of_block block_setCell)
set_option linter.unusedVariables false

/-- Blocks from N up to M alone were written into, and kept their length. -/
structure In (N M : Nat) (w w' : World) : Prop where
  os : w'.os = w.os
  tape : w'.tape = w.tape
  output : w'.output = w.output
  size : w.heap.size ≤ w'.heap.size
  block : ∀ k, k < w.heap.size → (k < N ∨ M ≤ k) → w'.heap[k]? = w.heap[k]?
  shape : ∀ (g : Nat) (cur : Array Value) (E : TypeId), w.heap[g]? = some (Obj.cells cur E (0, 0)) → ∃ cur' : Array Value, w'.heap[g]? = some (.cells cur' E (0, 0)) ∧ cur'.size = cur.size
theorem In.refl (N M : Nat) (w : World) : In N M w w := ⟨rfl, rfl, rfl, Nat.le_refl _, fun _ _ _ => rfl, fun _ cur _ h => ⟨cur, h, rfl⟩⟩
theorem In.trans {N M : Nat} {a b c : World} (h : In N M a b) (k : In N M b c) : In N M a c :=
  ⟨k.os.trans h.os, k.tape.trans h.tape, k.output.trans h.output, Nat.le_trans h.size k.size, fun i hi hn => (k.block i (Nat.lt_of_lt_of_le hi h.size) hn).trans (h.block i hi hn), fun g cur E hg => by
    obtain ⟨c1, h1, s1⟩ := h.shape g cur E hg
    obtain ⟨c2, h2, s2⟩ := k.shape g c1 E h1
    exact ⟨c2, h2, s2.trans s1⟩⟩
theorem In.ofBelow {N M : Nat} {w w' : World} (h : Below w.heap.size w w') : In N M w w' :=
  ⟨h.os, h.tape, h.output, h.size, fun k hk _ => h.block k hk, fun g cur E hg => ⟨cur, (h.block g (Array.getElem?_eq_some_iff.1 hg).1).trans hg, rfl⟩⟩
theorem In.setCell {N M : Nat} {a b : World} (h : In N M a b) {g : Nat} (i : Nat) (v : Value) (h1 : N ≤ g) (h2 : g < M) : In N M a (b.setCell ⟨g, i, none⟩ v) :=
  h.trans ⟨rfl, rfl, rfl, by simp [World.setCell], fun k _ hn => Below.heap_setCell _ _ _ _ (by show k ≠ g; omega), fun g' cur E hg => by
    by_cases e : g' = g
    · subst e
      exact ⟨_, block_setCell hg v, by simp⟩
    · exact ⟨cur, (Below.heap_setCell _ _ _ _ e).trans hg, rfl⟩⟩
theorem In.below {N M : Nat} {w w' : World} (h : In N M w w') (hN : N ≤ w.heap.size) : Below N w w' :=
  ⟨h.os, h.tape, h.output, h.size, fun k hk => h.block k (by omega) (.inl hk)⟩
theorem In.cell {N M : Nat} {w w' : World} (h : In N M w w') {b i : Nat} {v : Value} (hM : M ≤ b) (hp : w.cell? ⟨b, i, none⟩ = some v) : w'.cell? ⟨b, i, none⟩ = some v :=
  (World.cell?_of_block (h.block _ (World.block_lt_of_cell? w _ hp) (.inr hM))).trans hp
/-- A row lies in those blocks. -/
def Lies (N M : Nat) (w : World) (q : Option Addr) (n k : Nat) : Prop := 0 < n → ∃ (g off : Nat) (cur : Array Value) (E : TypeId), q = some ⟨g, off, none⟩ ∧ N ≤ g ∧ g < M ∧ w.heap[g]? = some (.cells cur E (0, 0)) ∧ off + n * k ≤ cur.size
theorem Lies.in {N M : Nat} {w w' : World} {q : Option Addr} {n k : Nat} (h : Lies N M w q n k) (hi : In N M w w') : Lies N M w' q n k := fun hn => by
  obtain ⟨g, off, cur, E, h1, h2, h3, h4, h5⟩ := h hn
  obtain ⟨cur', e1, e2⟩ := hi.shape g cur E h4
  exact ⟨g, off, cur', E, h1, h2, h3, e1, by omega⟩
theorem Lies.at {N M : Nat} {w : World} {q : Option Addr} {n k : Nat} (h : Lies N M w q n k) {i t : Nat} (hi : i < n) (ht : t < k) : ∃ g off v, q = some ⟨g, off, none⟩ ∧ N ≤ g ∧ g < M ∧ w.cell? ⟨g, off + i * k + t, none⟩ = some v ∧ w.frozen? ⟨g, off + i * k + t, none⟩ = false := by
  obtain ⟨g, off, cur, E, h1, h2, h3, h4, h5⟩ := h (by omega)
  have hlt : i * k + t < n * k := by
    have : (i + 1) * k ≤ n * k := Nat.mul_le_mul hi (Nat.le_refl _)
    rw [Nat.add_mul] at this
    omega
  refine ⟨g, off, cur[off + i * k + t]'(by omega), h1, h2, h3, ?_, unfrozen_of_block h4 _⟩
  rw [cell_of_block h4]
  exact Array.getElem?_eq_getElem (by omega)
theorem lies_own {α : Type} {N M : Nat} {w : World} {E : TypeId} {k : Nat} {enc : α → List Value} (hk : ∀ x, (enc x).length = k) {D : Array Value} {i : Nat} {l : List α} {q : Option Addr} {n c : Nat} (h : OwnC N w E k enc D i l) (hD : D[i]? = some (.slice q n c)) (hM : w.heap.size ≤ M) : Lies N M w q n k := fun hn => by
  obtain ⟨v, hv, ho⟩ := h
  obtain ⟨q', c', rfl, hr, _, hq⟩ := own_lies hk ho
  rw [hv] at hD
  cases hD
  have hx : l[0]? = some (l[0]'hn) := List.getElem?_eq_getElem hn
  obtain ⟨b, off, e, _⟩ := hr 0 _ hx
  obtain ⟨g, cur, e2, h1, h2, h3⟩ := hq _ e
  rw [e2] at e
  exact ⟨g, 0, cur, E, e.trans (by rw [e2] at *), h1, Nat.lt_of_lt_of_le (Array.getElem?_eq_some_iff.1 h2).1 hM, h2, by omega⟩
end Go.Proofs.Ytcfilaiejccfkaa
