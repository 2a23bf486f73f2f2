/- Layer 21 (window): what the laws say of the stable number. -/
import Derived.Test.YtcejaeeliedldaaWnP
namespace Go.Proofs.Ytcejaeeliedldaa.Wn
open Go.RowKit Go.Shelf Go.Lib Go.Sort Go.Deep
open Go.Proofs.Ytcejaeeliedldaa.Ow
set_option linter.unusedVariables false
set_option linter.unusedSimpArgs false

/-- What the law found stands behind what the memory tells. -/
theorem stab_range (a : Bool) (lo : Int) (b : Bool) (hi there low high : Int) (h1 : a = true → lo = low) (h2 : b = true → hi = high) : min there high ≤ stab a lo b hi there ∧ stab a lo b hi there ≤ max there low := by
  unfold stab
  split
  · rename_i h
    have := h1 h.1
    omega
  · split
    · rename_i h
      have := h2 h.1
      omega
    · omega
/-- The last one of what is left. -/
theorem left_last {o : List Nt} (h : o ≠ []) : ∃ l1 x, leftN o = l1 ++ [x] ∧ x.1 = lastN o ∧ x ∈ o := by
  rcases List.eq_nil_or_concat o with e | ⟨o1, x, e⟩
  · exact absurd e h
  · rw [List.concat_eq_append] at e
    have e2 : lastN o = x.1 := by rw [e, lastN_app]
    refine ⟨o1.filter fun y => decide (lastN o - y.1 ≤ 1800), x, ?_, e2.symm, by rw [e]; simp⟩
    have : (leftN o) = (o1 ++ [x]).filter fun y => decide (lastN o - y.1 ≤ 1800) := by unfold leftN; rw [← e]
    rw [this, List.filter_append]
    congr 1
    simp [e2]
theorem left_empty {o : List Nt} (h : leftN o = []) : o = [] := by
  cases o with
  | nil => rfl
  | cons x r =>
    obtain ⟨l1, y, e, _⟩ := left_last (o := x :: r) (by simp)
    rw [h] at e
    simp at e
theorem Rep.top {o : List Nt} {l : List Tk} (h : Rep o l) : lastN o ≤ 4611686018427387904 := by
  rw [← h.last]
  rcases List.eq_nil_or_concat l with e | ⟨l1, t, e⟩
  · rw [e]; decide
  · rw [List.concat_eq_append] at e
    have := (h.ris.2 t (by rw [e]; simp)).2
    rw [e, lastT_app]
    exact this
theorem Rep.leftOk {o : List Nt} {l : List Tk} (h : Rep o l) : ∀ x ∈ leftN o, 0 ≤ x.1 := fun x hx => (h.ok x (List.mem_filter.1 hx).1).1
theorem left_len (o : List Nt) : (leftN o).length ≤ o.length := List.length_filter_le _ _
end Go.Proofs.Ytcejaeeliedldaa.Wn
