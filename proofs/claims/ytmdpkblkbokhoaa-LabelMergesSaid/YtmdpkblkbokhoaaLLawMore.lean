/- What the laws on sorted labels have in common. -/
import Derived.Test.YtmdpkblkbokhoaaLLawBase
import Derived.Test.YtmdpkblkbokhoaaStJ
import Derived.Test.YtmdpkblkbokhoaaStM
namespace Go.Proofs.Ytmdpkblkbokhoaa
open Go.ChangeShapes Go.WideShapes Go.ChangeAt Go.RowKit Go.Deep
set_option linter.unusedVariables false

theorem open_labs2 {H : Type} {enc : TypeId × Value → H} {W : World} {base : Nat} {v : Value} {d : DataW H} {p : List MemPlace} (o : Value.okWide Try.prog W .any base 22 v)
    (h : DataW.Trod enc Try.prog W 0 (fun _ => true) true 22 v d p) : ∃ q c l, v = .slice q l.length c ∧ Labs W q l ∧ l.length ≤ maxLen ∧ (q = none → c = 0 ∧ l = []) := by
  obtain ⟨q, c, l, hv, hl, hm⟩ := open_labs o h
  refine ⟨q, c, l, hv, hl, hm, fun hq => ?_⟩
  subst hq
  obtain ⟨fuel, hf⟩ := h
  rw [hv] at hf
  rcases open_slice Try.underlying22 hf with ⟨hcs, hx⟩ | ⟨a, len', cap', m, n, D, Pl, hcs, _⟩
  · simp [Value.cells] at hcs
    exact ⟨hcs.2, hcs.1⟩
  · simp [Value.cells] at hcs
theorem fresh {w0 wr : World} (h : w0.heap.size ≤ wr.heap.size) : OwnL (wr.alloc (.cells #[] 33)) w0.heap.size (.slice (some ⟨wr.heap.size, 0, none⟩) 0 0) [] := World.ownsRow_made wr #[] 0 h (Nat.zero_le _) rfl
theorem own_read {w : World} {base : Nat} {v : Value} {l : List Lab} (h : OwnL w base v l) : ∃ q c, v = .slice q l.length c ∧ Labs w q l ∧ (q = none → c = 0 ∧ l = []) := by
  rcases OwnL.lies h with ⟨rfl, rfl⟩ | ⟨g, c, rfl, _, _, _, _, hL⟩
  · exact ⟨none, 0, rfl, Labs.nil _ _, fun _ => ⟨rfl, rfl⟩⟩
  · exact ⟨_, c, rfl, hL, fun h => by cases h⟩
theorem strict_find {out : List Lab} (h : Strict out) {x : Lab} (hx : x ∈ out) : out.find? (hit x.1) = some x := by
  obtain ⟨j, hj⟩ := List.getElem?_of_mem hx
  refine find_hit hj (fun i y hi hy => ?_) (hit_iff.2 rfl)
  obtain ⟨g1, e1⟩ := List.getElem?_eq_some_iff.1 hj
  obtain ⟨g2, e2⟩ := List.getElem?_eq_some_iff.1 hy
  have := List.pairwise_iff_getElem.1 h i j g2 g1 hi
  rw [e1, e2] at this
  cases hh : hit x.1 y with
  | false => rfl
  | true =>
    have e : kl y = kl x := hit_iff.1 hh
    rw [e] at this
    exact absurd this (lt_irr _)
theorem len_le : ∀ (out l : List Lab), out.Pairwise (· ≠ ·) → (∀ x ∈ out, x ∈ l) → out.length ≤ l.length
  | [], _, _, _ => Nat.zero_le _
  | x :: r, l, h, g => by
    obtain ⟨l1, l2, rfl⟩ := List.append_of_mem (g x List.mem_cons_self)
    obtain ⟨h1, h2⟩ := List.pairwise_cons.1 h
    have := len_le r (l1 ++ l2) h2 (fun y hy => by
      have h3 := g y (List.mem_cons_of_mem _ hy)
      have h4 := h1 y hy
      simp only [List.mem_append, List.mem_cons] at h3 ⊢
      rcases h3 with h3 | h3 | h3
      · exact .inl h3
      · exact absurd h3.symm h4
      · exact .inr h3)
    simp at this ⊢
    omega
theorem strict_len {out l : List Lab} (h : Strict out) (g : Same1 l out) : out.length ≤ l.length :=
  len_le out l (h.imp (fun hlt e => by rw [e] at hlt; exact lt_irr _ hlt)) (fun x hx => by
    have h1 := strict_find h hx
    rw [← g] at h1
    exact List.mem_of_find?_eq_some h1)
end Go.Proofs.Ytmdpkblkbokhoaa
