/- What Sort of package label answers. -/
import Derived.Test.YtmdpkblkbokhoaaStH
namespace Go.Proofs.Ytmdpkblkbokhoaa
open Go.Shelf Go.RowKit Go.Lib Go.Sort
set_option linter.unusedVariables false

theorem insertion_nil (w : World) : Calls Try.prog 31 #[.slice none 0 0, .int .i64 0, .int .i64 0, fvC] w fun e w' => e = .returned (.tuple #[]) ∧ w = w' := by
  go_enter Try.func31, Try.ntmps31
  go_wp2
  refine wp_loop_rounds 1 ?_
  rw [rounds_succ]
  go_wp2
  go_end0
  exact ⟨rfl, rfl⟩
theorem stable_nil (w : World) : Calls Try.prog 28 #[.slice none 0 0, .int .i64 0, fvC] w fun e w' => e = .returned (.tuple #[]) ∧ w = w' := by
  have C := Lib.hid (insertion_nil)
  go_enter Try.func28, Try.ntmps28
  go_wp2_with fail
  refine wp_loop_rounds 1 ?_
  rw [rounds_succ]
  go_wp2_with fail
  refine (C.out _).mono ?_
  rintro e w1 ⟨rfl, rfl⟩
  go_wp2_with fail
  refine wp_loop_rounds 1 ?_
  rw [rounds_succ]
  go_wp2
  go_end0
  exact ⟨rfl, rfl⟩
theorem sortStable_nil (w : World) : Calls Try.prog 21 #[.slice none 0 0, fvC] w fun e w' => e = .returned (.tuple #[]) ∧ w = w' := by
  have C := Lib.hid stable_nil
  go_enter Try.func21, Try.ntmps21
  go_wp2_with fail
  refine (C.out _).mono ?_
  rintro e w1 ⟨rfl, rfl⟩
  go_wp2
  go_end0
  exact ⟨rfl, rfl⟩
theorem compact_nil (w : World) : Calls Try.prog 24 #[.slice none 0 0, fvS] w fun e w' => e = .returned (.slice none 0 0) ∧ w = w' := by
  go_enter Try.func24, Try.ntmps24
  go_wp2
  go_ret
  exact ⟨rfl, rfl⟩

/-- What a function that sorts these labels answers. -/
def Sorts (w : World) (l : List Lab) (e : Ending) (w' : World) : Prop :=
  ∃ q c out, e = .returned (.slice q out.length c) ∧ Strict out ∧ Same1 l out ∧ Labs w' q out ∧ (q = none → c = 0 ∧ out = []) ∧ Below w.heap.size w w'

set_option maxHeartbeats 1000000 in
theorem sort_any (w : World) (q : Option Addr) (c : Nat) (l : List Lab) (hL : Labs w q l) (hq : q = none → c = 0 ∧ l = []) (hl : l.length ≤ 100000) :
    Calls Try.prog 14 #[.slice q l.length c] w (Sorts w l) := by
  have HL := Lib.hid hL
  have HQ := Lib.hid hq
  have SN := Lib.hid sortStable_nil
  have CN := Lib.hid compact_nil
  clear hL hq
  go_enter Try.func14, Try.ntmps14
  go_wp2_with (at_builtin; refine wpList_append_labs rfl _ _ rfl w.heap.size (.slice none 0 0) [] rfl (OwnL.nil _ _) q c l rfl HL.out HQ.out (by simp; omega) (Nat.le_refl _) ?_; intro v w1 hO hB)
  rcases OwnL.lies hO with ⟨rfl, h0⟩ | ⟨g, c1, rfl, hg, hg1, hc1, hH, hLb⟩
  · have HB := Lib.hid hB
    have H0 := Lib.hid h0
    clear hO hB h0
    go_wp2_with fail
    refine (SN.out _).mono ?_
    rintro e w2 ⟨rfl, rfl⟩
    go_wp2_with fail
    refine (CN.out _).mono ?_
    rintro e w2 ⟨rfl, rfl⟩
    go_wp2
    go_ret
    have : l = [] := by simpa using H0.out
    subst this
    exact ⟨none, 0, [], rfl, List.Pairwise.nil, Same1.refl _, Labs.nil _ _, fun _ => ⟨rfl, rfl⟩, HB.out⟩
  · have HB := Lib.hid hB
    have C1 := Lib.hid (sortStable_any w1 g 0 c1 l (by simpa using hH) hg1 (by omega))
    have HH : Hid (HoldsK encL 2 w1 g 0 l.toArray) := by simpa [Hid] using hH
    have HC : Hid (l.length ≤ c1) := by simpa [Hid] using hc1
    have HG : Hid (w.heap.size ≤ g ∧ g < w1.heap.size) := ⟨hg, hg1⟩
    clear hO hB hH hLb hc1 hg hg1
    go_wp2_with fail
    refine C1.out.mono ?_
    rintro e w2 ⟨rfl, s, l2, o2, m2, S2⟩
    have S2' : SWK encL 2 w1 g 0 s.toArray w2 := S2
    have hH2 : HoldsK encL 2 w2 g 0 s.toArray := S2'.holds HG.out.2 HH.out (by simpa using l2)
    have C2 := Lib.hid (compact_any w2 g 0 c1 s o2 hH2 (S2'.lt HG.out.2) (by omega) (by rw [l2]; exact HC.out) (labs_sort HH.out HG.out.2 l2 S2'))
    rw [l2] at C2
    have HB2 : Hid (Below w.heap.size w w2) := HB.out.trans (below_sort HG.out.1 HB.out.size S2')
    have M2 := Lib.hid m2
    clear l2 o2 m2 S2 S2' hH2 C1
    go_wp2_with fail
    refine C2.out.mono ?_
    rintro e w3 ⟨out, c3, rfl, st, sm, lb, bl⟩
    have F : Hid (Strict out ∧ Same1 s out ∧ Labs w3 (some ⟨g, 0, none⟩) out ∧ Below g w2 w3) := ⟨st, sm, lb, bl⟩
    clear st sm lb bl C2
    go_wp2
    go_ret
    obtain ⟨st, sm, lb, bl⟩ := F.out
    exact ⟨some ⟨g, 0, none⟩, c3, out, rfl, st, M2.out.trans sm, lb, fun h => by (cases h), HB2.out.trans (bl.mono HG.out.1)⟩

theorem find_uniq {o1 o2 : List Lab} (h1 : Strict o1) (h2 : Strict o2) (h : Same1 o1 o2) : o1 = o2 := by
  induction o1 generalizing o2 with
  | nil =>
    cases o2 with
    | nil => rfl
    | cons y r =>
      obtain ⟨x, hx, _⟩ := h.key (y := y) (by simp)
      cases hx
  | cons x r ih =>
    cases o2 with
    | nil =>
      obtain ⟨y, hy, _⟩ := h.symm.key (y := x) (by simp)
      cases hy
    | cons y t =>
      obtain ⟨a1, b1⟩ := List.pairwise_cons.1 h1
      obtain ⟨a2, b2⟩ := List.pairwise_cons.1 h2
      have e : x = y := by
        have hx := h x.1
        have hy := h y.1
        have k1 : hit x.1 x = true := hit_iff.2 rfl
        have k2 : hit y.1 y = true := hit_iff.2 rfl
        rw [List.find?_cons, k1] at hx
        rw [List.find?_cons, List.find?_cons, k2] at hy
        rcases lt_tri (kl x) (kl y) with l | l | l
        · have n1 : (y :: t).find? (hit x.1) = none := by
            rw [List.find?_eq_none]
            intro z hz hh
            have hz2 := hit_iff.1 hh
            rw [List.mem_cons] at hz
            rcases hz with rfl | hz
            · have e1 : kl z = kl x := hz2
              rw [e1] at l
              exact lt_irr _ l
            · have e1 : kl z = kl x := hz2
              have := a2 z hz
              rw [e1] at this
              exact lt_irr _ (lt_tr l this)
          rw [n1] at hx
          cases hx
        · have hh : hit x.1 y = true := hit_iff.2 l.symm
          rw [List.find?_cons, hh] at hx
          injection hx
        · have hh : hit y.1 x = false := by
            cases hc : hit y.1 x with
            | false => rfl
            | true =>
              have e1 : kl x = kl y := hit_iff.1 hc
              rw [e1] at l
              exact absurd l (lt_irr _)
          rw [hh] at hy
          have hm := List.mem_of_find?_eq_some hy
          exact absurd (lt_tr l (a1 y hm)) (lt_irr _)
      subst e
      congr 1
      refine ih b1 b2 ?_
      intro k
      cases hk : hit k x with
      | true =>
        have e1 := hit_iff.1 hk
        have nn : ∀ m : List Lab, (∀ z ∈ m, kl x < kl z) → m.find? (hit k) = none := by
          intro m hm
          rw [List.find?_eq_none]
          intro z hz hh
          have e2 := hit_iff.1 hh
          have := hm z hz
          rw [e1, e2] at this
          exact lt_irr _ this
        rw [nn r a1, nn t a2]
      | false =>
        have := h k
        rw [List.find?_cons, List.find?_cons, hk] at this
        exact this
end Go.Proofs.Ytmdpkblkbokhoaa
