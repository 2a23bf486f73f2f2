/- Rows of labels: what a merge in place comes to. -/
import Derived.Test.YtmdpkblkbokhoaaStP
namespace Go.Proofs.Ytmdpkblkbokhoaa
open Go.RowKit Go.Lib
set_option linter.unusedVariables false

theorem Sorted.get {v : List Lab} (h : Sorted v) {i j : Nat} (hij : i ≤ j) (hj : j < v.length) : ¬ kl (v[j]'hj) < kl (v[i]'(by omega)) := by
  rcases Nat.lt_or_ge i j with h1 | h1
  · exact List.pairwise_iff_getElem.1 h i j (by omega) hj h1
  · obtain rfl : i = j := by omega
    exact lt_irr _
theorem Sorted.tk {v : List Lab} (h : Sorted v) (c : Nat) : Sorted (v.take c) := List.Pairwise.sublist (List.take_sublist c v) h
theorem Sorted.dr {v : List Lab} (h : Sorted v) (c : Nat) : Sorted (v.drop c) := List.Pairwise.sublist (List.drop_sublist c v) h
theorem mem_tk {v : List Lab} {c : Nat} {y : Lab} (h : y ∈ v.take c) : ∃ t, ∃ ht : t < v.length, t < c ∧ v[t] = y := by
  obtain ⟨t, ht, e⟩ := List.getElem_of_mem h
  rw [List.length_take] at ht
  rw [List.getElem_take] at e
  exact ⟨t, by omega, by omega, e⟩
theorem mem_dr {v : List Lab} {c : Nat} {y : Lab} (h : y ∈ v.drop c) : ∃ t, ∃ ht : t < v.length, c ≤ t ∧ v[t] = y := by
  obtain ⟨t, ht, e⟩ := List.getElem_of_mem h
  rw [List.length_drop] at ht
  rw [List.getElem_drop] at e
  exact ⟨c + t, by omega, by omega, e⟩

/-- Is the label at this place of the row, if there is one, less than that one? -/
def lessAt (v : List Lab) (c : Nat) (x : Lab) : Prop := ∃ h : c < v.length, kl (v[c]) < kl x
theorem front_done {v : List Lab} {x : Lab} {c : Nat} (hs : Sorted v) (hc : c ≤ v.length) (h1 : c = 0 ∨ ∃ h : c - 1 < v.length, kl (v[c - 1]) < kl x) (h2 : c = v.length ∨ ∃ h : c < v.length, ¬ kl (v[c]) < kl x) :
    Sorted (v.take c ++ x :: v.drop c) ∧ Same1 ([x] ++ v) (v.take c ++ x :: v.drop c) := by
  have lo : ∀ y ∈ v.take c, kl y < kl x := by
    intro y hy
    obtain ⟨t, ht, htc, e⟩ := mem_tk hy
    subst e
    rcases h1 with h | ⟨h, g⟩
    · omega
    · exact lt_of_nlt_lt (hs.get (i := t) (j := c - 1) (by omega) h) g
  have hi : ∀ y ∈ v.drop c, ¬ kl y < kl x := by
    intro y hy
    obtain ⟨t, ht, htc, e⟩ := mem_dr hy
    subst e
    rcases h2 with h | ⟨h, g⟩
    · omega
    · exact nlt_tr g (hs.get (i := c) (j := t) htc ht)
  constructor
  · refine Sorted.app (hs.tk c) (List.pairwise_cons.2 ⟨hi, hs.dr c⟩) ?_
    intro y hy z hz
    rw [List.mem_cons] at hz
    rcases hz with rfl | hz
    · exact lt_asy (lo y hy)
    · exact fun e => hi z hz (lt_tr e (lo y hy))
  · have h := Same1.mid (Same1.swap (u := [x]) (v := v.take c) (fun a ha y hy => by
      simp at ha; subst ha
      intro e
      have := lo y hy
      rw [e] at this
      exact lt_irr _ this)) [] (v.drop c)
    simpa [List.take_append_drop] using h
theorem back_done {u : List Lab} {x : Lab} {c : Nat} (hs : Sorted u) (hc : c ≤ u.length) (h1 : c = 0 ∨ ∃ h : c - 1 < u.length, ¬ kl x < kl (u[c - 1])) (h2 : c = u.length ∨ ∃ h : c < u.length, kl x < kl (u[c])) :
    Sorted (u.take c ++ x :: u.drop c) ∧ Same1 (u ++ [x]) (u.take c ++ x :: u.drop c) := by
  have lo : ∀ y ∈ u.take c, ¬ kl x < kl y := by
    intro y hy
    obtain ⟨t, ht, htc, e⟩ := mem_tk hy
    subst e
    rcases h1 with h | ⟨h, g⟩
    · omega
    · exact nlt_tr (hs.get (i := t) (j := c - 1) (by omega) h) g
  have hi : ∀ y ∈ u.drop c, kl x < kl y := by
    intro y hy
    obtain ⟨t, ht, htc, e⟩ := mem_dr hy
    subst e
    rcases h2 with h | ⟨h, g⟩
    · omega
    · exact lt_of_lt_nlt g (hs.get (i := c) (j := t) htc ht)
  constructor
  · refine Sorted.app (hs.tk c) (List.pairwise_cons.2 ⟨fun y hy => lt_asy (hi y hy), hs.dr c⟩) ?_
    intro y hy z hz
    rw [List.mem_cons] at hz
    rcases hz with rfl | hz
    · exact lo y hy
    · exact fun e => lo y hy (lt_tr (hi z hz) e)
  · have h := Same1.mid (Same1.swap (u := u.drop c) (v := [x]) (fun y hy a ha => by
      simp at ha; subst ha
      intro e
      have := hi y hy
      rw [e] at this
      exact lt_irr _ this)) (u.take c) []
    have e : u.take c ++ u.drop c = u := List.take_append_drop _ _
    simp only [List.append_nil, List.singleton_append] at h
    rw [← List.append_assoc, e] at h
    exact h

/-- Two sorted rows, each cut in two, the second part of the one behind the first part of the other. -/
theorem cut_cross {u v : List Lab} {cu cv : Nat} (hu : Sorted u) (hv : Sorted v) (A : u.length ≤ cu ∨ cv = 0 ∨ ∃ (h : cv - 1 < v.length) (g : cu < u.length), kl (v[cv - 1]) < kl (u[cu]))
    (B : cu = 0 ∨ v.length ≤ cv ∨ ∃ (h : cv < v.length) (g : cu - 1 < u.length), ¬ kl (v[cv]) < kl (u[cu - 1])) :
    (∀ x ∈ u.drop cu, ∀ y ∈ v.take cv, kl y < kl x) ∧ (∀ x ∈ u.take cu, ∀ y ∈ v.drop cv, ¬ kl y < kl x) := by
  constructor
  · intro x hx y hy
    obtain ⟨t, ht, htc, e⟩ := mem_dr hx
    obtain ⟨r, hr, hrc, e'⟩ := mem_tk hy
    subst e e'
    rcases A with h | h | ⟨h, g, l⟩
    · omega
    · omega
    · exact lt_of_nlt_lt (hv.get (i := r) (j := cv - 1) (by omega) h) (lt_of_lt_nlt l (hu.get (i := cu) (j := t) htc ht))
  · intro x hx y hy
    obtain ⟨t, ht, htc, e⟩ := mem_tk hx
    obtain ⟨r, hr, hrc, e'⟩ := mem_dr hy
    subst e e'
    rcases B with h | h | ⟨h, g, l⟩
    · omega
    · omega
    · exact nlt_tr (hu.get (i := t) (j := cu - 1) (by omega) g) (nlt_tr l (hv.get (i := cv) (j := r) hrc hr))
theorem merge_done {u1 u2 v1 v2 s1 s2 : List Lab} (hu : Sorted (u1 ++ u2)) (hv : Sorted (v1 ++ v2)) (A : ∀ x ∈ u2, ∀ y ∈ v1, kl y < kl x) (B : ∀ x ∈ u1, ∀ y ∈ v2, ¬ kl y < kl x)
    (h1 : Sorted s1) (h2 : Sorted s2) (e1 : Same1 (u1 ++ v1) s1) (e2 : Same1 (u2 ++ v2) s2) : Sorted (s1 ++ s2) ∧ Same1 ((u1 ++ u2) ++ (v1 ++ v2)) (s1 ++ s2) := by
  constructor
  · refine Sorted.app h1 h2 (bounds_over e1 e2 ?_)
    intro x hx y hy
    rw [List.mem_append] at hx hy
    rcases hx with hx | hx <;> rcases hy with hy | hy
    · exact hu.cross x hx y hy
    · exact B x hx y hy
    · exact lt_asy (A y hy x hx)
    · exact hv.cross x hx y hy
  · have h := Same1.mid (Same1.swap (u := u2) (v := v1) (fun x hx y hy e => by
      have := A x hx y hy
      rw [e] at this
      exact lt_irr _ this)) u1 v2
    refine Same1.trans ?_ (e1.app e2)
    simpa using h
end Go.Proofs.Ytmdpkblkbokhoaa
