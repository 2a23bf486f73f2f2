/- The document's Sort of labels. -/
import Derived.Test.YtmdpkblkbokhoaaStK
namespace Go.Proofs.Ytmdpkblkbokhoaa
open Go.Shelf Go.RowKit Go.Lib Go.Sort
set_option linter.unusedVariables false

/-- Is the key behind the last one that is there? -/
def beyond (out : List Lab) (y : Lab) : Bool := match out.getLast? with | none => true | some z => decide (kl z < kl y)
theorem beyond_nil (y : Lab) : beyond [] y = true := rfl
theorem beyond_last {out : List Lab} {z : Lab} (h : out.getLast? = some z) (y : Lab) : beyond out y = decide (kl z < kl y) := by simp [beyond, h]
/-- What stands of the gathering. -/
def Gat (l out : List Lab) : Prop :=
  Strict out ∧ (∀ x ∈ out, l.find? (hit x.1) = some x) ∧ (∀ y ∈ l, beyond out y = false → ∃ x ∈ out, kl x = kl y) ∧ out.length + (l.filter (beyond out)).length ≤ l.length
theorem gat_nil (l : List Lab) : Gat l [] := by
  refine ⟨List.Pairwise.nil, by simp, fun y hy h => (by rw [beyond_nil] at h; cases h), ?_⟩
  have : l.filter (beyond []) = l := List.filter_eq_self.2 (fun y _ => rfl)
  rw [this]
  simp
/-- The best of the first 'k' labels. -/
def BestOf (l out : List Lab) (k : Nat) (v : Int) : Prop :=
  (v = -1 ∧ ∀ j y, j < k → l[j]? = some y → beyond out y = false) ∨
  (∃ (b : Nat) (x : Lab), v = (b : Int) ∧ b < k ∧ l[b]? = some x ∧ beyond out x = true ∧ (∀ j y, j < k → l[j]? = some y → beyond out y = true → ¬ kl y < kl x) ∧ (∀ j y, j < b → l[j]? = some y → kl y ≠ kl x))
theorem best_zero (l out : List Lab) : BestOf l out 0 (-1) := .inl ⟨rfl, fun j y h => absurd h (Nat.not_lt_zero _)⟩
theorem best_skip {l out : List Lab} {k : Nat} {v : Int} {x : Lab} (h : BestOf l out k v) (hx : l[k]? = some x) (hn : beyond out x = false) : BestOf l out (k + 1) v := by
  rcases h with ⟨e, h⟩ | ⟨b, y, e, hb, hy, h1, h2, h3⟩
  · refine .inl ⟨e, fun j z hj hz => ?_⟩
    by_cases hjk : j = k
    · subst hjk
      rw [hx] at hz
      injection hz with hz
      rw [← hz]
      exact hn
    · exact h j z (by omega) hz
  · refine .inr ⟨b, y, e, by omega, hy, h1, fun j z hj hz hb2 => ?_, h3⟩
    by_cases hjk : j = k
    · subst hjk
      rw [hx] at hz
      injection hz with hz
      rw [← hz, hn] at hb2
      cases hb2
    · exact h2 j z (by omega) hz hb2
theorem best_stay {l out : List Lab} {k b : Nat} {x y : Lab} (h : BestOf l out k (b : Int)) (hx : l[k]? = some x) (hy : l[b]? = some y) (hn : ¬ kl x < kl y) : BestOf l out (k + 1) (b : Int) := by
  rcases h with ⟨e, h⟩ | ⟨b', y', e, hb, hy', h1, h2, h3⟩
  · omega
  · obtain rfl : b = b' := by omega
    rw [hy] at hy'
    injection hy' with hy'
    subst hy'
    refine .inr ⟨b, y, rfl, by omega, hy, h1, fun j z hj hz hb2 => ?_, h3⟩
    by_cases hjk : j = k
    · subst hjk
      rw [hx] at hz
      injection hz with hz
      rw [← hz]
      exact hn
    · exact h2 j z (by omega) hz hb2
theorem best_first {l out : List Lab} {k : Nat} {x : Lab} (h : BestOf l out k (-1)) (hx : l[k]? = some x) (hb : beyond out x = true) : BestOf l out (k + 1) (k : Int) := by
  rcases h with ⟨e, h⟩ | ⟨b', y', e, _⟩
  · refine .inr ⟨k, x, rfl, by omega, hx, hb, fun j z hj hz hb2 => ?_, fun j z hj hz he => ?_⟩
    · by_cases hjk : j = k
      · subst hjk
        rw [hx] at hz
        injection hz with hz
        rw [← hz]
        exact lt_irr _
      · rw [h j z (by omega) hz] at hb2
        cases hb2
    · have h1 := h j z hj hz
      have h2 : beyond out z = beyond out x := by
        unfold beyond
        cases out.getLast? with
        | none => rfl
        | some w => rw [he]
      rw [h1, hb] at h2
      cases h2
  · omega
theorem best_less {l out : List Lab} {k b : Nat} {x y : Lab} (h : BestOf l out k (b : Int)) (hx : l[k]? = some x) (hy : l[b]? = some y) (hb : beyond out x = true) (hl : kl x < kl y) : BestOf l out (k + 1) (k : Int) := by
  rcases h with ⟨e, h⟩ | ⟨b', y', e, hb', hy', h1, h2, h3⟩
  · omega
  · obtain rfl : b = b' := by omega
    rw [hy] at hy'
    injection hy' with hy'
    subst hy'
    refine .inr ⟨k, x, rfl, by omega, hx, hb, fun j z hj hz hb2 hlt => ?_, fun j z hj hz he => ?_⟩
    · by_cases hjk : j = k
      · subst hjk
        rw [hx] at hz
        injection hz with hz
        rw [← hz] at hlt
        exact lt_irr _ hlt
      · exact h2 j z (by omega) hz hb2 (lt_tr hlt hl)
    · have hbz : beyond out z = true := by
        rw [← hb]
        unfold beyond
        cases out.getLast? with
        | none => rfl
        | some w => simp only [he]
      exact h2 j z hj hz hbz (by rw [he]; exact hl)
/-- The best one goes on. -/
theorem gat_more {l out : List Lab} {b : Nat} {x : Lab} (h : Gat l out) (hb : BestOf l out l.length (b : Int)) (hx : l[b]? = some x) : Gat l (out ++ [x]) ∧ (l.filter (beyond (out ++ [x]))).length < (l.filter (beyond out)).length := by
  obtain ⟨h1, h2, h3, h4⟩ := h
  rcases hb with ⟨e, _⟩ | ⟨b', x', e, hb', hx', g1, g2, g3⟩
  · omega
  obtain rfl : b = b' := by omega
  rw [hx] at hx'
  injection hx' with hx'
  subst hx'
  have hlast : (out ++ [x]).getLast? = some x := by simp
  have hbx : ∀ y, beyond (out ++ [x]) y = decide (kl x < kl y) := beyond_last hlast
  have himp : ∀ y, beyond (out ++ [x]) y = true → beyond out y = true := by
    intro y hy
    rw [hbx] at hy
    unfold beyond at g1 ⊢
    cases hz : out.getLast? with
    | none => rfl
    | some z =>
      rw [hz] at g1
      simp at g1 hy ⊢
      exact lt_tr g1 hy
  have hmem : x ∈ l := List.mem_of_getElem? hx
  have hlen : (l.filter (beyond (out ++ [x]))).length < (l.filter (beyond out)).length := by
    have e1 : l.filter (beyond (out ++ [x])) = (l.filter (beyond out)).filter (beyond (out ++ [x])) := by
      rw [List.filter_filter]
      apply List.filter_congr
      intro y _
      cases hy : beyond (out ++ [x]) y with
      | false => simp
      | true => simp [himp y hy]
    rw [e1, List.length_filter_lt_length_iff_exists]
    refine ⟨x, List.mem_filter.2 ⟨hmem, g1⟩, ?_⟩
    rw [hbx]
    simp [lt_irr]
  refine ⟨⟨?_, ?_, ?_, ?_⟩, hlen⟩
  · refine List.pairwise_append.2 ⟨h1, List.pairwise_singleton _ _, ?_⟩
    intro a ha y hy
    simp at hy
    subst hy
    cases hz : out.getLast? with
    | none => rw [List.getLast?_eq_none_iff] at hz; subst hz; cases ha
    | some z =>
      rw [beyond_last hz] at g1
      simp at g1
      obtain ⟨ys, rfl⟩ := List.getLast?_eq_some_iff.1 hz
      rw [List.mem_append] at ha
      rcases ha with ha | ha
      · exact lt_tr ((List.pairwise_append.1 h1).2.2 a ha z (by simp)) g1
      · simp at ha; subst ha; exact g1
  · intro y hy
    rw [List.mem_append] at hy
    rcases hy with hy | hy
    · exact h2 y hy
    · simp at hy
      subst hy
      refine find_hit hx (fun j z hj hz => ?_) (hit_iff.2 rfl)
      cases hh : hit y.1 z with
      | false => rfl
      | true => exact absurd (hit_iff.1 hh) (g3 j z hj hz)
  · intro y hy hn
    cases hb2 : beyond out y with
    | false =>
      obtain ⟨z, hz, e⟩ := h3 y hy hb2
      exact ⟨z, List.mem_append_left _ hz, e⟩
    | true =>
      rw [hbx] at hn
      simp at hn
      obtain ⟨j, hj⟩ := List.getElem?_of_mem hy
      have := g2 j y (List.getElem?_eq_some_iff.1 hj).1 hj hb2
      refine ⟨x, by simp, ?_⟩
      rcases lt_tri (kl x) (kl y) with r | r | r
      · exact absurd r hn
      · exact r
      · exact absurd r this
  · rw [List.length_append]
    simp
    omega
theorem gat_done {l out : List Lab} (h : Gat l out) (hb : BestOf l out l.length (-1)) : Strict out ∧ Same1 l out := by
  obtain ⟨h1, h2, h3, h4⟩ := h
  rcases hb with ⟨_, hb⟩ | ⟨b', x', e, _⟩
  · refine ⟨h1, fun k => ?_⟩
    have hall : ∀ y ∈ l, ∃ x ∈ out, kl x = kl y := by
      intro y hy
      obtain ⟨j, hj⟩ := List.getElem?_of_mem hy
      exact h3 y hy (hb j y (List.getElem?_eq_some_iff.1 hj).1 hj)
    have hsame : ∀ x : Lab, hit k x = true → hit k = hit x.1 := by
      intro x hx
      have := hit_iff.1 hx
      funext y
      unfold hit
      have e : x.1.toList = k.toList := this
      rw [e]
    cases hl : l.find? (hit k) with
    | none =>
      symm
      rw [List.find?_eq_none]
      intro x hx hh
      have := h2 x hx
      have hm := List.mem_of_find?_eq_some this
      exact List.find?_eq_none.1 hl x hm hh
    | some y =>
      have hy := List.find?_some hl
      obtain ⟨x, hx, e⟩ := hall y (List.mem_of_find?_eq_some hl)
      have hkx : hit k x = true := hit_iff.2 (e.trans (hit_iff.1 hy))
      cases ho : out.find? (hit k) with
      | none => exact absurd hkx (List.find?_eq_none.1 ho x hx)
      | some x' =>
        have h5 := h2 x' (List.mem_of_find?_eq_some ho)
        rw [← hsame x' (List.find?_some ho), hl] at h5
        exact h5
  · omega
end Go.Proofs.Ytmdpkblkbokhoaa
