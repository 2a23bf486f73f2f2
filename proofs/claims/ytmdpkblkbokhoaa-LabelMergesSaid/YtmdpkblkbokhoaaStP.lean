/- Rows of labels: sorted by keys; with the same first label of each key. -/
import Derived.Test.YtmdpkblkbokhoaaLabA
import Derived.Lib.Bytealg
import Derived.Sort.Walk0
namespace Go.Proofs.Ytmdpkblkbokhoaa
open Go.RowKit Go.Lib
set_option linter.unusedVariables false

def kl (x : Lab) : List UInt8 := x.1.toList
theorem hit_iff {k : ByteArray} {x : Lab} : hit k x = true ↔ kl x = k.toList := by simp [hit, kl]
theorem lt_irr (a : List UInt8) : ¬ a < a := List.lt_irrefl a
theorem lt_tri (a b : List UInt8) : a < b ∨ a = b ∨ b < a := by
  by_cases h1 : a < b
  · exact .inl h1
  by_cases h2 : b < a
  · exact .inr (.inr h2)
  exact .inr (.inl (List.le_antisymm (List.not_lt.1 h2) (List.not_lt.1 h1)))
theorem lt_tr {a b c : List UInt8} (h : a < b) (k : b < c) : a < c := List.lt_trans h k
theorem lt_asy {a b : List UInt8} (h : a < b) : ¬ b < a := fun k => lt_irr a (lt_tr h k)
theorem nlt_tr {a b c : List UInt8} (h : ¬ b < a) (k : ¬ c < b) : ¬ c < a := by
  intro e
  rcases lt_tri b c with g | g | g
  · exact h (lt_tr g e)
  · subst g; exact h e
  · exact k g
theorem lt_of_nlt_lt {a b c : List UInt8} (h : ¬ b < a) (k : b < c) : a < c := by
  rcases lt_tri a b with g | g | g
  · exact lt_tr g k
  · rw [g]; exact k
  · exact absurd g h
theorem lt_of_lt_nlt {a b c : List UInt8} (h : a < b) (k : ¬ c < b) : a < c := by
  rcases lt_tri b c with g | g | g
  · exact lt_tr h g
  · rw [← g]; exact h
  · exact absurd g k

def Sorted (l : List Lab) : Prop := l.Pairwise fun x y => ¬ kl y < kl x
def Same1 (s t : List Lab) : Prop := ∀ k, s.find? (hit k) = t.find? (hit k)
def Apart (u v : List Lab) : Prop := ∀ x ∈ u, ∀ y ∈ v, kl x ≠ kl y

theorem Same1.refl (s : List Lab) : Same1 s s := fun _ => rfl
theorem Same1.symm {s t : List Lab} (h : Same1 s t) : Same1 t s := fun k => (h k).symm
theorem Same1.trans {s t u : List Lab} (h : Same1 s t) (g : Same1 t u) : Same1 s u := fun k => (h k).trans (g k)
theorem Same1.app {s t u v : List Lab} (h : Same1 s t) (g : Same1 u v) : Same1 (s ++ u) (t ++ v) := fun k => by rw [List.find?_append, List.find?_append, h k, g k]
theorem Same1.mid {s t : List Lab} (h : Same1 s t) (p q : List Lab) : Same1 (p ++ s ++ q) (p ++ t ++ q) := (Same1.app (Same1.refl p) h).app (Same1.refl q)
theorem Same1.swap {u v : List Lab} (h : Apart u v) : Same1 (u ++ v) (v ++ u) := by
  intro k
  rw [List.find?_append, List.find?_append]
  cases hu : u.find? (hit k) with
  | none => simp
  | some x =>
    have hv : v.find? (hit k) = none := by
      rw [List.find?_eq_none]
      intro y hy hh
      have h1 := hit_iff.1 (List.find?_some hu)
      have h2 := hit_iff.1 hh
      exact h x (List.mem_of_find?_eq_some hu) y hy (h1.trans h2.symm)
    simp [hv]
/-- Whatever key stands in the one stands in the other. -/
theorem Same1.key {s t : List Lab} (h : Same1 s t) {y : Lab} (hy : y ∈ t) : ∃ x ∈ s, kl x = kl y := by
  cases hx : t.find? (hit y.1) with
  | none =>
    have := List.find?_eq_none.1 hx y hy
    exact absurd (hit_iff.2 rfl) this
  | some z =>
    have h1 : s.find? (hit y.1) = some z := by rw [h]; exact hx
    exact ⟨z, List.mem_of_find?_eq_some h1, hit_iff.1 (List.find?_some h1)⟩
theorem Sorted.app {u v : List Lab} (h : Sorted u) (g : Sorted v) (c : ∀ x ∈ u, ∀ y ∈ v, ¬ kl y < kl x) : Sorted (u ++ v) := List.pairwise_append.2 ⟨h, g, c⟩
theorem Sorted.left {u v : List Lab} (h : Sorted (u ++ v)) : Sorted u := (List.pairwise_append.1 h).1
theorem Sorted.right {u v : List Lab} (h : Sorted (u ++ v)) : Sorted v := (List.pairwise_append.1 h).2.1
theorem Sorted.cross {u v : List Lab} (h : Sorted (u ++ v)) : ∀ x ∈ u, ∀ y ∈ v, ¬ kl y < kl x := (List.pairwise_append.1 h).2.2
theorem Sorted.nil : Sorted [] := List.Pairwise.nil
theorem Sorted.one (x : Lab) : Sorted [x] := List.pairwise_singleton _ _
/-- Bounds go over to a row with the same keys. -/
theorem bounds_over {u u' v v' : List Lab} (h : Same1 u u') (g : Same1 v v') (c : ∀ x ∈ u, ∀ y ∈ v, ¬ kl y < kl x) : ∀ x ∈ u', ∀ y ∈ v', ¬ kl y < kl x := by
  intro x hx y hy
  obtain ⟨x0, m0, e0⟩ := h.key hx
  obtain ⟨y0, m1, e1⟩ := g.key hy
  rw [← e0, ← e1]
  exact c x0 m0 y0 m1

/-! ### the order that the program's comparison tells -/
theorem compare_neg : ∀ a b : List UInt8, compareBytes a b < 0 ↔ a < b
  | [], [] => by simp [compareBytes]
  | [], _ :: _ => by simp [compareBytes]
  | _ :: _, [] => by simp [compareBytes]
  | a :: r, b :: t => by
    rw [compareBytes, List.cons_lt_cons_iff]
    by_cases h1 : a < b
    · simp [h1]
    · by_cases h2 : b < a
      · have : a ≠ b := by intro e; subst e; exact h1 h2
        simp [h1, h2, this]
      · have e : a = b := UInt8.le_antisymm (UInt8.not_lt.1 h2) (UInt8.not_lt.1 h1)
        subst e
        simp [compare_neg r t]
def cfL (x y : Lab) : Int := compareBytes (kl x) (kl y)
theorem cfL_neg (x y : Lab) : cfL x y < 0 ↔ kl x < kl y := compare_neg _ _

/-! ### a row in which one label goes to its place -/
theorem insert_stop {y1 y2 : List Lab} {x : Lab} (h : Sorted (y1 ++ y2)) (g : ∀ y ∈ y2, kl x < kl y) (c : ∀ z, y1.getLast? = some z → ¬ kl x < kl z) : Sorted (y1 ++ x :: y2) := by
  have h1 : ∀ z ∈ y1, ¬ kl x < kl z := by
    intro z hz
    cases hl : y1.getLast? with
    | none => rw [List.getLast?_eq_none_iff] at hl; subst hl; cases hz
    | some z0 =>
      have c0 := c z0 hl
      obtain ⟨ys, rfl⟩ := List.getLast?_eq_some_iff.1 hl
      rw [List.mem_append] at hz
      rcases hz with hz | hz
      · have := (h.left).cross z hz z0 (by simp)
        exact nlt_tr this c0
      · simp at hz; subst hz; exact c0
  refine Sorted.app h.left (List.pairwise_cons.2 ⟨fun y hy => lt_asy (g y hy), h.right⟩) ?_
  intro z hz y hy
  rw [List.mem_cons] at hy
  rcases hy with rfl | hy
  · exact h1 z hz
  · exact h.cross z hz y hy
end Go.Proofs.Ytmdpkblkbokhoaa
