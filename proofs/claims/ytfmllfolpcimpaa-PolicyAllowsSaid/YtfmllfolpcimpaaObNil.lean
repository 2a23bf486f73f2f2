/- A row of an object that came in, that is nil, has no room. -/
import Derived.Test.YtfmllfolpcimpaaObOp
namespace Go.Proofs.Ytfmllfolpcimpaa
open Go.ChangeShapes Go.WideShapes Go.ChangeAt Go.RowKit Go.Deep Go.Lib Go.Shelf
set_option linter.unusedVariables false
set_option maxRecDepth 20000

def rowsIx : List Nat := [6, 7, 8, 16, 17, 18, 23, 24, 32, 33, 38, 42, 45, 46]
def NilO (cs : Array Value) : Prop := ∀ i n c, i ∈ rowsIx → cs[i]? = some (.slice none n c) → c = 0
theorem nil_leaf {H : Type} {enc : TypeId × Value → H} {W : World} {S E : TypeId} {n o : Nat} {cs : List Value} {y : DataW H × List MemPlace} (hS : Try.prog.underlying S = some (.slice E)) (h : DataW.trod enc Try.prog W 0 (fun _ => true) true n S ((cs.drop o).take 1) = some y) : ∀ n c, cs[o]? = some (.slice none n c) → c = 0 := by
  intro m c hc
  rcases open_slice hS h with ⟨hcs, hx⟩ | ⟨a, len, cap, m', n', D, Pl, hcs, _⟩
  · have := at1 hcs
    rw [hc] at this
    injection this with this
    injection this
  · have := at1 hcs
    rw [hc] at this
    injection this with this
    injection this with e1 _ _
    cases e1
theorem into {cs : List Value} {o m j : Nat} {v : Value} (hj : j < m) (h : cs[o + j]? = some v) : ((cs.drop o).take m)[j]? = some v := by
  rw [List.getElem?_take_of_lt hj, List.getElem?_drop]
  exact h
end Go.Proofs.Ytfmllfolpcimpaa
