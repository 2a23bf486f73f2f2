/- An object's rows put into new memory. -/
import Derived.Test.YtbkoepghmcdnhaaDoorVaK
import Derived.Test.YtbkoepghmcdnhaaDoorObNil
namespace Go.Proofs.YtbkoepghmcdnhaaDoor
open Go.RowKit Go.Shelf Go.Lib Go.Sort
open Go.Joins (cell_of_block unfrozen_of_block block_setCell)
set_option linter.unusedVariables false
set_option linter.unusedSimpArgs false
set_option maxRecDepth 20000

/-- The row at a cell lies in memory from N on, all its own. -/
def OwnC {α : Type} (N : Nat) (w : World) (E : TypeId) (k : Nat) (enc : α → List Value) (D : Array Value) (i : Nat) (l : List α) : Prop := ∃ v, D[i]? = some v ∧ w.ownsRow N E k v l.length (flat enc l)
theorem OwnC.keep {α : Type} {N : Nat} {w w' : World} {E : TypeId} {k : Nat} {enc : α → List Value} {D D' : Array Value} {i : Nat} {l : List α} (h : OwnC N w E k enc D i l) (hw : ∀ g, N ≤ g → g < w.heap.size → w'.heap[g]? = w.heap[g]?) (hd : D'[i]? = D[i]?) : OwnC N w' E k enc D' i l := by
  obtain ⟨v, hv, ho⟩ := h
  exact ⟨v, hd.trans hv, own_stays ho hw⟩
theorem OwnC.less {α : Type} {M N : Nat} {w : World} {E : TypeId} {k : Nat} {enc : α → List Value} {D : Array Value} {i : Nat} {l : List α} (h : OwnC N w E k enc D i l) (hm : M ≤ N) : OwnC M w E k enc D i l := by
  obtain ⟨v, hv, ho⟩ := h
  exact ⟨v, hv, own_mono ho hm⟩
theorem OwnC.slr {α : Type} {N : Nat} {w : World} {E : TypeId} {k : Nat} {enc : α → List Value} (hk : ∀ x, (enc x).length = k) {D : Array Value} {i : Nat} {l : List α} (h : OwnC N w E k enc D i l) : SlR k enc w D[i]? l := by
  obtain ⟨v, hv, ho⟩ := h
  obtain ⟨q, c, rfl, hr, _⟩ := own_lies hk ho
  exact ⟨q, c, hv, hr⟩

def OwnAt (N : Nat) (w : World) (o : Ob) (D : Array Value) : Nat → Prop
  | 6 => OwnC N w 79 2 encL D 6 o.w.lab
  | 7 => OwnC N w 93 3 encR D 7 o.w.sel
  | 8 => OwnC N w 79 2 encL D 8 o.w.tol
  | 16 => OwnC N w 79 2 encL D 16 o.p.lab
  | 17 => OwnC N w 93 3 encR D 17 o.p.sel
  | 18 => OwnC N w 79 2 encL D 18 o.p.tol
  | 23 => OwnC N w 79 2 encL D 23 o.n.lab
  | 24 => OwnC N w 79 2 encL D 24 o.n.tnt
  | 32 => OwnC N w 79 2 encL D 32 o.g.lab
  | 33 => OwnC N w 79 2 encL D 33 o.g.tnt
  | 38 => OwnC N w 65 3 encM D 38 o.h.met
  | 42 => OwnC N w 81 3 encP D 42 o.h.upol
  | 45 => OwnC N w 81 3 encP D 45 o.h.dpol
  | 46 => OwnC N w 63 3 encS D 46 o.h.past
  | _ => True
theorem OwnAt.keep {N : Nat} {w w' : World} {o : Ob} {D D' : Array Value} {i : Nat} (h : OwnAt N w o D i) (hw : ∀ g, N ≤ g → g < w.heap.size → w'.heap[g]? = w.heap[g]?) (hd : D'[i]? = D[i]?) : OwnAt N w' o D' i := by
  unfold OwnAt at h ⊢
  split at h <;> first | exact h.keep hw hd | trivial
theorem OwnAt.less {M N : Nat} {w : World} {o : Ob} {D : Array Value} {i : Nat} (h : OwnAt N w o D i) (hm : M ≤ N) : OwnAt M w o D i := by
  unfold OwnAt at h ⊢
  split at h <;> first | exact h.less hm | trivial
/-- Part of the rows renewed. -/
def Dup (N B : Nat) (cs : Array Value) (o : Ob) (done : List Nat) (w : World) : Prop :=
  ∃ D : Array Value, w.heap[B]? = some (.cells D 44 (0, 0)) ∧ D.size = cs.size ∧ (∀ i, i ∉ done → D[i]? = cs[i]?) ∧ ∀ i ∈ done, OwnAt N w o D i
theorem Dup.step {N B : Nat} {cs : Array Value} {o : Ob} {done more : List Nat} {w w' : World} {D D' : Array Value} (hN : B < N)
    (hs : D.size = cs.size) (ho : ∀ i, i ∉ done → D[i]? = cs[i]?) (hi : ∀ i ∈ done, OwnAt N w o D i)
    (hb : w'.heap[B]? = some (.cells D' 44 (0, 0))) (hs' : D'.size = D.size) (ho' : ∀ i, i ∉ more → D'[i]? = D[i]?) (hi' : ∀ i ∈ more, OwnAt N w' o D' i) (hd : ∀ i ∈ done, i ∉ more) (hx : Xb B w w') : Dup N B cs o (done ++ more) w' := by
  refine ⟨D', hb, hs'.trans hs, fun i h => ?_, fun i h => ?_⟩
  · rw [List.mem_append, not_or] at h
    rw [ho' i h.2, ho i h.1]
  · rcases List.mem_append.1 h with h | h
    · exact (hi i h).keep (fun g h1 h2 => hx.block g h2 (by omega)) (ho' i (hd i h))
    · exact hi' i h

theorem rows_nil {α : Type} {P : Nat → α → Prop} : ∀ (j o : Nat), ([] : List Nat)[j]? = some o → ∃ l, ([] : List α)[j]? = some l ∧ P o l := by
  intro j o h
  simp at h
theorem rows_cons {α : Type} {P : Nat → α → Prop} {i : Nat} {l : α} {is : List Nat} {ls : List α} (h0 : P i l) (h : ∀ (j o : Nat), is[j]? = some o → ∃ l, ls[j]? = some l ∧ P o l) : ∀ (j o : Nat), (i :: is)[j]? = some o → ∃ x, (l :: ls)[j]? = some x ∧ P o x := by
  intro j o hj
  rcases j with _ | j
  · rw [List.getElem?_cons_zero] at hj ⊢
    cases hj
    exact ⟨l, rfl, h0⟩
  · rw [List.getElem?_cons_succ] at hj ⊢
    exact h j o hj
theorem RowAt.cell {α : Type} {k b : Nat} {enc : α → List Value} {w0 : World} {L L' : Array Value} {o : Nat} {l : List α} (h : RowAt k b enc w0 L o l) (hs : L'.size = L.size) (hc : L'[o]? = L[o]?) : RowAt k b enc w0 L' o l := by
  obtain ⟨h1, h2, h3⟩ := h
  exact ⟨by omega, by rw [hc]; exact h2, h3⟩

end Go.Proofs.YtbkoepghmcdnhaaDoor
