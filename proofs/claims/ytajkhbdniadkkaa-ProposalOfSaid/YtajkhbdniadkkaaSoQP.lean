/- A row sorted by an order, stably: what is so of rows (by sort/gensort.py). -/
import Derived.Test.YtajkhbdniadkkaaQsR
import Derived.Test.YtajkhbdniadkkaaHeldE
import Derived.Shelf.SlSortCmp.KitK
import Derived.Sort.WalkB2
import Derived.Deep.LoopGhost
namespace Go.Proofs.Ytajkhbdniadkkaa.Qs
open Go.Shelf Go.RowKit Go.Lib Go.Sort Go.Deep
open Go.Joins (cell_of_block unfrozen_of_block block_setCell)
set_option linter.unusedVariables false
set_option linter.unusedSimpArgs false

theorem cf_neg (x y : El) : cf x y < 0 ↔ lt x y := Iff.rfl
theorem lt_irr (a : El) : ¬ lt a a := fun h => lt_asy h h
theorem lt_of_nlt_lt {a b c : El} (h : ¬ lt b a) (k : lt b c) : lt a c := Classical.byContradiction fun e => nlt_tr e h k
theorem lt_of_lt_nlt {a b c : El} (h : lt a b) (k : ¬ lt c b) : lt a c := Classical.byContradiction fun e => nlt_tr k e h
theorem lt_tr {a b c : El} (h : lt a b) (k : lt b c) : lt a c := lt_of_lt_nlt h (lt_asy k)
/-- Neither goes first. -/
def eqv (x y : El) : Bool := !decide (cf x y < 0) && !decide (cf y x < 0)
theorem eqv_iff {x y : El} : eqv x y = true ↔ ¬ lt x y ∧ ¬ lt y x := by unfold eqv lt; simp
def Sorted (l : List El) : Prop := l.Pairwise fun x y => ¬ lt y x
/-- The same ones, those of which neither goes first in the same order. -/
def Same1 (s t : List El) : Prop := s.Perm t ∧ ∀ z, s.filter (eqv z) = t.filter (eqv z)
def Apart (u v : List El) : Prop := ∀ x ∈ u, ∀ y ∈ v, lt x y ∨ lt y x
theorem Same1.refl (s : List El) : Same1 s s := ⟨.refl _, fun _ => rfl⟩
theorem Same1.symm {s t : List El} (h : Same1 s t) : Same1 t s := ⟨h.1.symm, fun k => (h.2 k).symm⟩
theorem Same1.trans {s t u : List El} (h : Same1 s t) (g : Same1 t u) : Same1 s u := ⟨h.1.trans g.1, fun k => (h.2 k).trans (g.2 k)⟩
theorem Same1.app {s t u v : List El} (h : Same1 s t) (g : Same1 u v) : Same1 (s ++ u) (t ++ v) := ⟨h.1.append g.1, fun k => by rw [List.filter_append, List.filter_append, h.2 k, g.2 k]⟩
theorem Same1.mid {s t : List El} (h : Same1 s t) (p q : List El) : Same1 (p ++ s ++ q) (p ++ t ++ q) := (Same1.app (Same1.refl p) h).app (Same1.refl q)
theorem Same1.swap {u v : List El} (h : Apart u v) : Same1 (u ++ v) (v ++ u) := by
  refine ⟨List.perm_append_comm, fun z => ?_⟩
  rw [List.filter_append, List.filter_append]
  cases hu : u.filter (eqv z) with
  | nil => simp
  | cons x r =>
    have hv : v.filter (eqv z) = [] := by
      rw [List.filter_eq_nil_iff]
      intro y hy hh
      have hx : x ∈ u.filter (eqv z) := by rw [hu]; simp
      rw [List.mem_filter] at hx
      have h1 := eqv_iff.1 hx.2
      have h2 := eqv_iff.1 hh
      rcases h x hx.1 y hy with g | g
      · exact h2.1 (lt_of_nlt_lt h1.2 g)
      · exact h1.1 (lt_of_nlt_lt h2.2 g)
    rw [hv]
    simp
theorem Same1.key {s t : List El} (h : Same1 s t) {y : El} (hy : y ∈ t) : ∃ x ∈ s, x = y := ⟨y, h.1.mem_iff.2 hy, rfl⟩
theorem Sorted.app {u v : List El} (h : Sorted u) (g : Sorted v) (c : ∀ x ∈ u, ∀ y ∈ v, ¬ lt y x) : Sorted (u ++ v) := List.pairwise_append.2 ⟨h, g, c⟩
theorem Sorted.left {u v : List El} (h : Sorted (u ++ v)) : Sorted u := (List.pairwise_append.1 h).1
theorem Sorted.right {u v : List El} (h : Sorted (u ++ v)) : Sorted v := (List.pairwise_append.1 h).2.1
theorem Sorted.cross {u v : List El} (h : Sorted (u ++ v)) : ∀ x ∈ u, ∀ y ∈ v, ¬ lt y x := (List.pairwise_append.1 h).2.2
theorem Sorted.nil : Sorted [] := List.Pairwise.nil
theorem Sorted.one (x : El) : Sorted [x] := List.pairwise_singleton _ _
/-- Bounds go over to a row of the same ones. -/
theorem bounds_over {u u' v v' : List El} (h : Same1 u u') (g : Same1 v v') (c : ∀ x ∈ u, ∀ y ∈ v, ¬ lt y x) : ∀ x ∈ u', ∀ y ∈ v', ¬ lt y x := fun x hx y hy => c x (h.1.mem_iff.2 hx) y (g.1.mem_iff.2 hy)
/-! ### a row in which one label goes to its place -/
theorem insert_stop {y1 y2 : List El} {x : El} (h : Sorted (y1 ++ y2)) (g : ∀ y ∈ y2, lt x y) (c : ∀ z, y1.getLast? = some z → ¬ lt x z) : Sorted (y1 ++ x :: y2) := by
  have h1 : ∀ z ∈ y1, ¬ lt x z := by
    intro z hz
    cases hl : y1.getLast? with
    | none => rw [List.getLast?_eq_none_iff] at hl; subst hl; cases hz
    | some z0 =>
      have c0 := c z0 hl
      obtain ⟨ys, rfl⟩ := List.getLast?_eq_some_iff.1 hl
      rw [List.mem_append] at hz
      rcases hz with hz | hz
      · have := (h.left).cross z hz z0 (by simp)
        exact nlt_tr this c0
      · simp at hz; subst hz; exact c0
  refine Sorted.app h.left (List.pairwise_cons.2 ⟨fun y hy => lt_asy (g y hy), h.right⟩) ?_
  intro z hz y hy
  rw [List.mem_cons] at hy
  rcases hy with rfl | hy
  · exact h1 z hz
  · exact h.cross z hz y hy

theorem Sorted.get {v : List El} (h : Sorted v) {i j : Nat} (hij : i ≤ j) (hj : j < v.length) : ¬ lt (v[j]'hj) (v[i]'(by omega)) := by
  rcases Nat.lt_or_ge i j with h1 | h1
  · exact List.pairwise_iff_getElem.1 h i j (by omega) hj h1
  · obtain rfl : i = j := by omega
    exact lt_irr _
theorem Sorted.tk {v : List El} (h : Sorted v) (c : Nat) : Sorted (v.take c) := List.Pairwise.sublist (List.take_sublist c v) h
theorem Sorted.dr {v : List El} (h : Sorted v) (c : Nat) : Sorted (v.drop c) := List.Pairwise.sublist (List.drop_sublist c v) h
theorem mem_tk {v : List El} {c : Nat} {y : El} (h : y ∈ v.take c) : ∃ t, ∃ ht : t < v.length, t < c ∧ v[t] = y := by
  obtain ⟨t, ht, e⟩ := List.getElem_of_mem h
  rw [List.length_take] at ht
  rw [List.getElem_take] at e
  exact ⟨t, by omega, by omega, e⟩
theorem mem_dr {v : List El} {c : Nat} {y : El} (h : y ∈ v.drop c) : ∃ t, ∃ ht : t < v.length, c ≤ t ∧ v[t] = y := by
  obtain ⟨t, ht, e⟩ := List.getElem_of_mem h
  rw [List.length_drop] at ht
  rw [List.getElem_drop] at e
  exact ⟨c + t, by omega, by omega, e⟩

/-- Is the label at this place of the row, if there is one, less than that one? -/
def lessAt (v : List El) (c : Nat) (x : El) : Prop := ∃ h : c < v.length, lt (v[c]) x
theorem front_done {v : List El} {x : El} {c : Nat} (hs : Sorted v) (hc : c ≤ v.length) (h1 : c = 0 ∨ ∃ h : c - 1 < v.length, lt (v[c - 1]) x) (h2 : c = v.length ∨ ∃ h : c < v.length, ¬ lt (v[c]) x) :
    Sorted (v.take c ++ x :: v.drop c) ∧ Same1 ([x] ++ v) (v.take c ++ x :: v.drop c) := by
  have lo : ∀ y ∈ v.take c, lt y x := by
    intro y hy
    obtain ⟨t, ht, htc, e⟩ := mem_tk hy
    subst e
    rcases h1 with h | ⟨h, g⟩
    · omega
    · exact lt_of_nlt_lt (hs.get (i := t) (j := c - 1) (by omega) h) g
  have hi : ∀ y ∈ v.drop c, ¬ lt y x := by
    intro y hy
    obtain ⟨t, ht, htc, e⟩ := mem_dr hy
    subst e
    rcases h2 with h | ⟨h, g⟩
    · omega
    · exact nlt_tr g (hs.get (i := c) (j := t) htc ht)
  constructor
  · refine Sorted.app (hs.tk c) (List.pairwise_cons.2 ⟨hi, hs.dr c⟩) ?_
    intro y hy z hz
    rw [List.mem_cons] at hz
    rcases hz with rfl | hz
    · exact lt_asy (lo y hy)
    · exact fun e => hi z hz (lt_tr e (lo y hy))
  · have h := Same1.mid (Same1.swap (u := [x]) (v := v.take c) (fun a ha y hy => by
      simp at ha; subst ha
      exact .inr (lo y hy))) [] (v.drop c)
    simpa [List.take_append_drop] using h
theorem back_done {u : List El} {x : El} {c : Nat} (hs : Sorted u) (hc : c ≤ u.length) (h1 : c = 0 ∨ ∃ h : c - 1 < u.length, ¬ lt x (u[c - 1])) (h2 : c = u.length ∨ ∃ h : c < u.length, lt x (u[c])) :
    Sorted (u.take c ++ x :: u.drop c) ∧ Same1 (u ++ [x]) (u.take c ++ x :: u.drop c) := by
  have lo : ∀ y ∈ u.take c, ¬ lt x y := by
    intro y hy
    obtain ⟨t, ht, htc, e⟩ := mem_tk hy
    subst e
    rcases h1 with h | ⟨h, g⟩
    · omega
    · exact nlt_tr (hs.get (i := t) (j := c - 1) (by omega) h) g
  have hi : ∀ y ∈ u.drop c, lt x y := by
    intro y hy
    obtain ⟨t, ht, htc, e⟩ := mem_dr hy
    subst e
    rcases h2 with h | ⟨h, g⟩
    · omega
    · exact lt_of_lt_nlt g (hs.get (i := c) (j := t) htc ht)
  constructor
  · refine Sorted.app (hs.tk c) (List.pairwise_cons.2 ⟨fun y hy => lt_asy (hi y hy), hs.dr c⟩) ?_
    intro y hy z hz
    rw [List.mem_cons] at hz
    rcases hz with rfl | hz
    · exact lo y hy
    · exact fun e => lo y hy (lt_tr (hi z hz) e)
  · have h := Same1.mid (Same1.swap (u := u.drop c) (v := [x]) (fun y hy a ha => by
      simp at ha; subst ha
      exact .inr (hi y hy))) (u.take c) []
    have e : u.take c ++ u.drop c = u := List.take_append_drop _ _
    simp only [List.append_nil, List.singleton_append] at h
    rw [← List.append_assoc, e] at h
    exact h

/-- Two sorted rows, each cut in two, the second part of the one behind the first part of the other. -/
theorem cut_cross {u v : List El} {cu cv : Nat} (hu : Sorted u) (hv : Sorted v) (A : u.length ≤ cu ∨ cv = 0 ∨ ∃ (h : cv - 1 < v.length) (g : cu < u.length), lt (v[cv - 1]) (u[cu]))
    (B : cu = 0 ∨ v.length ≤ cv ∨ ∃ (h : cv < v.length) (g : cu - 1 < u.length), ¬ lt (v[cv]) (u[cu - 1])) :
    (∀ x ∈ u.drop cu, ∀ y ∈ v.take cv, lt y x) ∧ (∀ x ∈ u.take cu, ∀ y ∈ v.drop cv, ¬ lt y x) := by
  constructor
  · intro x hx y hy
    obtain ⟨t, ht, htc, e⟩ := mem_dr hx
    obtain ⟨r, hr, hrc, e'⟩ := mem_tk hy
    subst e e'
    rcases A with h | h | ⟨h, g, l⟩
    · omega
    · omega
    · exact lt_of_nlt_lt (hv.get (i := r) (j := cv - 1) (by omega) h) (lt_of_lt_nlt l (hu.get (i := cu) (j := t) htc ht))
  · intro x hx y hy
    obtain ⟨t, ht, htc, e⟩ := mem_tk hx
    obtain ⟨r, hr, hrc, e'⟩ := mem_dr hy
    subst e e'
    rcases B with h | h | ⟨h, g, l⟩
    · omega
    · omega
    · exact nlt_tr (hu.get (i := t) (j := cu - 1) (by omega) g) (nlt_tr l (hv.get (i := cv) (j := r) hrc hr))
theorem merge_done {u1 u2 v1 v2 s1 s2 : List El} (hu : Sorted (u1 ++ u2)) (hv : Sorted (v1 ++ v2)) (A : ∀ x ∈ u2, ∀ y ∈ v1, lt y x) (B : ∀ x ∈ u1, ∀ y ∈ v2, ¬ lt y x)
    (h1 : Sorted s1) (h2 : Sorted s2) (e1 : Same1 (u1 ++ v1) s1) (e2 : Same1 (u2 ++ v2) s2) : Sorted (s1 ++ s2) ∧ Same1 ((u1 ++ u2) ++ (v1 ++ v2)) (s1 ++ s2) := by
  constructor
  · refine Sorted.app h1 h2 (bounds_over e1 e2 ?_)
    intro x hx y hy
    rw [List.mem_append] at hx hy
    rcases hx with hx | hx <;> rcases hy with hy | hy
    · exact hu.cross x hx y hy
    · exact B x hx y hy
    · exact lt_asy (A y hy x hx)
    · exact hv.cross x hx y hy
  · have h := Same1.mid (Same1.swap (u := u2) (v := v1) (fun x hx y hy => .inr (A x hx y hy))) u1 v2
    refine Same1.trans ?_ (e1.app e2)
    simpa using h
end Go.Proofs.Ytajkhbdniadkkaa.Qs
