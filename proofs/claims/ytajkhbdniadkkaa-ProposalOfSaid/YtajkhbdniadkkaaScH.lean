/- What is fresh of a series: Row. -/
import Derived.Test.YtajkhbdniadkkaaScG
namespace Go.Proofs.Ytajkhbdniadkkaa
open Go.RowKit Go.Shelf Go.Lib Go.Sort
open Go.Joins (cell_of_block unfrozen_of_block block_setCell)
set_option linter.unusedVariables false
set_option linter.unusedSimpArgs false
set_option maxRecDepth 20000

theorem own_less {w : World} {B N n s : Nat} {T : TypeId} {v : Value} {xs : List Value} (h : w.ownsRow B T s v n xs) (hN : N ≤ B) : w.ownsRow N T s v n xs := by
  obtain ⟨h0, h⟩ := h
  refine ⟨h0, ?_⟩
  rcases h with h | ⟨g, cap, cur, e, hb, r⟩
  · exact .inl h
  · exact .inr ⟨g, cap, cur, e, by omega, r⟩
def rowOf (now a : Int) (l : List (Int × Int)) : List (Int × Int) := l.filter (fun x => !decide (a < now - x.1))
theorem row_few (now a : Int) (l : List (Int × Int)) : (rowOf now a l).length ≤ l.length := List.length_filter_le _ _
theorem row_next (now a : Int) {L : List (Int × Int)} {j : Nat} {x : Int × Int} (h : L[j]? = some x) : rowOf now a (L.take (j + 1)) = rowOf now a (L.take j) ++ (if a < now - x.1 then [] else [x]) := by
  obtain ⟨hl, rfl⟩ := List.getElem?_eq_some_iff.1 h
  unfold rowOf
  rw [List.take_succ_eq_append_getElem hl, List.filter_append]
  congr 1
  by_cases e : a < now - L[j].1 <;> simp [List.filter_cons, e]
end Go.Proofs.Ytajkhbdniadkkaa
