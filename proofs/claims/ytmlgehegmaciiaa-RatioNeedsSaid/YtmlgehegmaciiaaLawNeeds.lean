/- Proved here: the law RatioNeeds of layer 3 holds for every number of replicas and every two quantities' numbers: how many replicas are needed, and how many times a target goes into a use, is exact, rounded up, at most a million, or it is told what is wrong. No conditions. -/
import Derived.Test.YtmlgehegmaciiaaRLawBase
namespace Go.Proofs.Ytmlgehegmaciiaa.ratioNeeds
open Go.ChangeShapes Go.WideShapes Go.ChangeAt Go.RowKit
set_option linter.unusedVariables false

theorem bad_case (r u t : Int) (w : World) (h : Bad u ∨ (Fine u ∧ Bad t)) :
    Calls Try.prog 3 #[.int .i64 r, .int .i64 u, .int .i64 t] w fun e w' => e = .returned (.bool true) ∧ Below w.heap.size w w' := by
  have N := Lib.hid (fun W : World => need_bad r u t W h)
  have H := Lib.hid (fun W : World => whole_bad u t W h)
  have R := Lib.hid (fun W : World => right_two u t false W (two_bad h))
  clear h
  go_enter Try.func3, Try.ntmps3
  go_wp2_with fail
  refine (lives_any _).mono ?_
  rintro e w1 ⟨rfl, h1⟩
  go_wp2_with fail
  refine (N.out _).mono ?_
  rintro e w' ⟨rfl, rfl⟩
  go_wp2_with fail
  refine (H.out _).mono ?_
  rintro e w' ⟨rfl, rfl⟩
  go_wp2_with fail
  refine (R.out _).mono ?_
  rintro e w' ⟨rfl, rfl⟩
  go_wp2
  go_ret
  exact ⟨rfl, h1.alloc h1.size _⟩

theorem zero_case (r u : Int) (w : World) (h : Fine u) :
    Calls Try.prog 3 #[.int .i64 r, .int .i64 u, .int .i64 0] w fun e w' => e = .returned (.bool true) ∧ Below w.heap.size w w' := by
  have H := Lib.hid (fun W : World => whole_zero u W h)
  have R := Lib.hid (fun W : World => right_two u 0 true W (two_fine h fine_zero))
  rcases some_or_odd r with g | g
  · have N := Lib.hid (fun W : World => need_zero r u W g h)
    clear h g
    go_enter Try.func3, Try.ntmps3
    go_wp2_with fail
    refine (lives_any _).mono ?_
    rintro e w1 ⟨rfl, h1⟩
    go_wp2_with fail
    refine (N.out _).mono ?_
    rintro e w' ⟨rfl, rfl⟩
    go_wp2_with fail
    refine (H.out _).mono ?_
    rintro e w' ⟨rfl, rfl⟩
    go_wp2_with fail
    refine (R.out _).mono ?_
    rintro e w' ⟨rfl, rfl⟩
    go_wp2
    go_ret
    exact ⟨rfl, h1.alloc h1.size _⟩
  · have N := Lib.hid (fun W : World => need_odd r u 0 W g)
    clear h
    rcases g with g | g
    · have t1 : decide (r < 0) = true := by simpa using g
      clear g
      go_enter Try.func3, Try.ntmps3
      go_wp2_with fail
      refine (lives_any _).mono ?_
      rintro e w1 ⟨rfl, h1⟩
      go_wp2_with fail
      refine (N.out _).mono ?_
      rintro e w' ⟨rfl, rfl⟩
      go_wp2_with fail
      refine (H.out _).mono ?_
      rintro e w' ⟨rfl, rfl⟩
      go_wp2_with fail
      refine (R.out _).mono ?_
      rintro e w' ⟨rfl, rfl⟩
      go_wp2
      go_ret
      exact ⟨rfl, h1.alloc h1.size _⟩
    · have t1 : decide (r < 0) = false := by simp; omega
      have t2 : decide (1000000 < r) = true := by simpa using g
      clear g
      go_enter Try.func3, Try.ntmps3
      go_wp2_with fail
      refine (lives_any _).mono ?_
      rintro e w1 ⟨rfl, h1⟩
      go_wp2_with fail
      refine (N.out _).mono ?_
      rintro e w' ⟨rfl, rfl⟩
      go_wp2_with fail
      refine (H.out _).mono ?_
      rintro e w' ⟨rfl, rfl⟩
      go_wp2_with fail
      refine (R.out _).mono ?_
      rintro e w' ⟨rfl, rfl⟩
      go_wp2
      go_ret
      exact ⟨rfl, h1.alloc h1.size _⟩

set_option maxHeartbeats 1000000 in
theorem odd_case (r : Int) (u t : Nat) (w : World) (hu : u ≤ 9007199254740992) (ht : t ≤ 9007199254740992) (h0 : 0 < t) (hr : Odd_ r) :
    Calls Try.prog 3 #[.int .i64 r, .int .i64 (u : Int), .int .i64 (t : Int)] w fun e w' => e = .returned (.bool true) ∧ Below w.heap.size w w' := by
  obtain ⟨n, hn⟩ : ∃ n, n = min (upDiv 1 u t) 1000000 := ⟨_, rfl⟩
  have hb : n ≤ 1000000 := by rw [hn]; exact Nat.min_le_right _ _
  have N := Lib.hid (fun W : World => need_odd r (u : Int) (t : Int) W hr)
  have H := Lib.hid (fun W : World => whole_ok u t n W hu ht h0 hn)
  have R := Lib.hid (fun W : World => right_two (u : Int) (t : Int) true W (two_fine ⟨by omega, by omega⟩ ⟨by omega, by omega⟩))
  have c : ∀ W : World, Calls Try.prog 11 #[.int .u64 1, .int .u64 (u : Int), .int .u64 (t : Int), .int .u64 1000000] W fun e w' => e = .returned (.int .u64 (n : Int)) ∧ Below W.heap.size W w' := fun W => by
    rw [hn]
    exact ceil_any 1 u t 1000000 W (by decide) (by omega) (by omega) (by decide) h0
  have C := Lib.hid c
  have t0 : ((t : Int) == 0) = false := by simp; omega
  clear c hn
  rcases hr with g | g
  · have t1 : decide (r < 0) = true := by simpa using g
    clear g
    go_enter Try.func3, Try.ntmps3
    go_wp2_with fail
    refine (lives_any _).mono ?_
    rintro e w1 ⟨rfl, h1⟩
    go_wp2_with fail
    refine (N.out _).mono ?_
    rintro e w' ⟨rfl, rfl⟩
    go_wp2_with fail
    refine (H.out _).mono ?_
    rintro e w2 ⟨rfl, h2⟩
    go_wp2_with fail
    refine (R.out _).mono ?_
    rintro e w' ⟨rfl, rfl⟩
    go_wp2_with fail
    refine (C.out _).mono ?_
    rintro e w3 ⟨rfl, h3⟩
    go_wp2
    go_ret
    have hB := (h1.trans (h2.mono h1.size)).alloc (Nat.le_trans h1.size h2.size) (.cells #[.int .i64 (u : Int), .int .i64 (t : Int)] 22)
    exact ⟨rfl, hB.trans (h3.mono hB.size)⟩
  · have t1 : decide (r < 0) = false := by simp; omega
    have t2 : decide (1000000 < r) = true := by simpa using g
    clear g
    go_enter Try.func3, Try.ntmps3
    go_wp2_with fail
    refine (lives_any _).mono ?_
    rintro e w1 ⟨rfl, h1⟩
    go_wp2_with fail
    refine (N.out _).mono ?_
    rintro e w' ⟨rfl, rfl⟩
    go_wp2_with fail
    refine (H.out _).mono ?_
    rintro e w2 ⟨rfl, h2⟩
    go_wp2_with fail
    refine (R.out _).mono ?_
    rintro e w' ⟨rfl, rfl⟩
    go_wp2_with fail
    refine (C.out _).mono ?_
    rintro e w3 ⟨rfl, h3⟩
    go_wp2
    go_ret
    have hB := (h1.trans (h2.mono h1.size)).alloc (Nat.le_trans h1.size h2.size) (.cells #[.int .i64 (u : Int), .int .i64 (t : Int)] 22)
    exact ⟨rfl, hB.trans (h3.mono hB.size)⟩

set_option maxHeartbeats 1000000 in
theorem full_case (r u t : Nat) (w : World) (hr : r ≤ 1000000) (hu : u ≤ 9007199254740992) (ht : t ≤ 9007199254740992) (h0 : 0 < t) :
    Calls Try.prog 3 #[.int .i64 (r : Int), .int .i64 (u : Int), .int .i64 (t : Int)] w fun e w' => e = .returned (.bool true) ∧ Below w.heap.size w w' := by
  obtain ⟨n, hn⟩ : ∃ n, n = min (upDiv 1 u t) 1000000 := ⟨_, rfl⟩
  obtain ⟨m, hm⟩ : ∃ m, m = min (upDiv r u t) 1000000 := ⟨_, rfl⟩
  have hb : n ≤ 1000000 := by rw [hn]; exact Nat.min_le_right _ _
  have hb2 : m ≤ 1000000 := by rw [hm]; exact Nat.min_le_right _ _
  have q := fun W : World => need_ok r u t W hr hu ht h0
  rw [← hm] at q
  have N := Lib.hid q
  have H := Lib.hid (fun W : World => whole_ok u t n W hu ht h0 hn)
  have R := Lib.hid (fun W : World => right_two (u : Int) (t : Int) true W (two_fine ⟨by omega, by omega⟩ ⟨by omega, by omega⟩))
  have c : ∀ W : World, Calls Try.prog 11 #[.int .u64 1, .int .u64 (u : Int), .int .u64 (t : Int), .int .u64 1000000] W fun e w' => e = .returned (.int .u64 (n : Int)) ∧ Below W.heap.size W w' := fun W => by
    rw [hn]
    exact ceil_any 1 u t 1000000 W (by decide) (by omega) (by omega) (by decide) h0
  have d : ∀ W : World, Calls Try.prog 11 #[.int .u64 (r : Int), .int .u64 (u : Int), .int .u64 (t : Int), .int .u64 1000000] W fun e w' => e = .returned (.int .u64 (m : Int)) ∧ Below W.heap.size W w' := fun W => by
    rw [hm]
    exact ceil_any r u t 1000000 W (by omega) (by omega) (by omega) (by decide) h0
  have C := Lib.hid c
  have D := Lib.hid d
  have t0 : ((t : Int) == 0) = false := by simp; omega
  clear c d hn hm q
  go_enter Try.func3, Try.ntmps3
  go_wp2_with fail
  refine (lives_any _).mono ?_
  rintro e w1 ⟨rfl, h1⟩
  go_wp2_with fail
  refine (N.out _).mono ?_
  rintro e w2 ⟨rfl, h2⟩
  go_wp2_with fail
  refine (H.out _).mono ?_
  rintro e w3 ⟨rfl, h3⟩
  go_wp2_with fail
  refine (R.out _).mono ?_
  rintro e w' ⟨rfl, rfl⟩
  go_wp2_with fail
  refine (C.out _).mono ?_
  rintro e w4 ⟨rfl, h4⟩
  go_wp2_with fail
  refine (D.out _).mono ?_
  rintro e w5 ⟨rfl, h5⟩
  go_wp2
  go_ret
  have hA := (h1.trans (h2.mono h1.size)).trans (h3.mono (Nat.le_trans h1.size h2.size))
  have hB := hA.alloc hA.size (.cells #[.int .i64 (u : Int), .int .i64 (t : Int)] 22)
  have hC := hB.trans (h4.mono hB.size)
  exact ⟨rfl, hC.trans (h5.mono hC.size)⟩

theorem walk (r u t : Int) (w0 : (Lit.int .i64 r).wf = true) (w1 : (Lit.int .i64 u).wf = true) (w2 : (Lit.int .i64 t).wf = true) (w : World) :
    Calls Try.prog 3 #[.int .i64 r, .int .i64 u, .int .i64 t] w fun e w' => e = .returned (.bool true) ∧ Below w.heap.size w w' := by
  rcases fine_or_bad u with hu | hu
  · rcases fine_or_bad t with ht | ht
    · by_cases h0 : t = 0
      · subst h0
        exact zero_case r u w hu
      · obtain ⟨u', rfl⟩ : ∃ x : Nat, u = x := ⟨u.toNat, by have := hu.1; omega⟩
        obtain ⟨t', rfl⟩ : ∃ x : Nat, t = x := ⟨t.toNat, by have := ht.1; omega⟩
        have h1 := hu.2
        have h2 := ht.2
        rcases some_or_odd r with hr | hr
        · obtain ⟨r', rfl⟩ : ∃ x : Nat, r = x := ⟨r.toNat, by have := hr.1; omega⟩
          have h3 := hr.2
          exact full_case r' u' t' w (by omega) (by omega) (by omega) (by omega)
        · exact odd_case r u' t' w (by omega) (by omega) (by omega) hr
    · exact bad_case r u t w (.inr ⟨hu, ht⟩)
  · exact bad_case r u t w (.inl hu)

/-! ### THE ROW's STEP: WRITTEN OUT: LEAVE IT -/
set_option maxRecDepth 100000 in
theorem lifted (os : Os) (started : os.Started) (H : Type) (enc : TypeId × Value → H) :
    ReturnsInHanded {} Try.checked os 3 .any (Rows.ratioNeedsSpec.pre6 enc Try.prog Try.f3 Rows.ratioNeedsRow.domain false) (Rows.ratioNeedsSpec.post enc Try.prog Try.f3 false true false false) := by
  refine returnsInHanded_of_change (C := Try.checked) own started (by kernel_rfl) Try.func3
    (ChangeSpec.witness6 (enc := enc) (C := Try.checked) false ⟨#[], #[.int .i64 0, .int .i64 0, .int .i64 0], []⟩ 8 (by kernel_rfl) (by kernel_rfl) (by kernel_rfl) (by kernel_rfl)) ?_
  intro W base args ds gs before hval0 hW hcnd _
  have hval : ∀ (j : Nat) t v, Try.f3.params[j]? = some t → args[j]? = some v → Value.okWide Try.prog W .any base t v := hval0
  have hW' := hW
  obtain ⟨p, q, hA0, hV, rfl, hfz, hnd⟩ := hW
  have hA : DataW.TrodAll enc Try.prog W 0 (fun _ => true) true Try.f3.params.toList args.toList ds p := hA0
  rw [Try.params3] at hA hval
  obtain ⟨v0, vs0, d0, ds0, p0, q0, hargs, rfl, rfl, h0, r0⟩ := trodAll_cons hA
  obtain ⟨v1, vs1, d1, ds1, p1, q1, rfl, rfl, rfl, h1, r1⟩ := trodAll_cons r0
  obtain ⟨v2, vs2, d2, ds2, p2, q2, rfl, rfl, rfl, h2, r2⟩ := trodAll_cons r1
  obtain ⟨rfl, rfl, rfl⟩ := trodAll_nil r2
  obtain rfl : args = #[v0, v1, v2] := by cases args; simp_all
  obtain ⟨rfl, rfl⟩ := trodVars_none hV
  obtain ⟨a0, rfl, rfl, rfl, w0⟩ := open_int Try.underlying3 (hval 0 3 v0 rfl rfl) h0
  obtain ⟨a1, rfl, rfl, rfl, w1⟩ := open_int Try.underlying22 (hval 1 22 v1 rfl rfl) h1
  obtain ⟨a2, rfl, rfl, rfl, w2⟩ := open_int Try.underlying22 (hval 2 22 v2 rfl rfl) h2
  clear hA0 hval0
  simp only [List.append_nil] at hW'
  refine (walk a0 a1 a2 w0 w1 w2 W).mono fun e W' ⟨he, hg⟩ => ?_
  subst he
  exact ⟨_, rfl, post_below hW' hg (fun _ _ _ => (trodAll_cons_mk (shut_bool Try.underlying4 _) trodAll_mk0)) (fun sp _ => (trodAll_cons_mk (shut_int Try.underlying3 w0) (trodAll_cons_mk (shut_int Try.underlying22 w1) (trodAll_cons_mk (shut_int Try.underlying22 w2) trodAll_mk0)))) (fun _ => rfl) (ok_one (by kernel_rfl) rfl (okWide_bool_mk Try.underlying4 _))⟩

theorem over : Rows.ratioNeedsRow.holds Try.pinned (OpenSpec.ofChange Rows.ratioNeedsSpec) :=
  OpenClaim.holds_of_wide 3 Try.f3 rfl rfl rfl rfl rfl rfl rfl ⟨rfl, rfl, rfl, rfl, rfl⟩ rfl rfl rfl rfl rfl (by kernel_rfl) Try.func3 (by kernel_rfl)
    (of_decide_eq_true (by kernel_rfl)) (by unfold Func.isWrapper; first | (rw [if_pos (by decide +kernel)]; kernel_rfl) | (rw [if_neg (by decide +kernel)]; exact ⟨rfl, rfl⟩))
    (fun os started H enc _ => lifted os started H enc)

/-- The statement. -/
theorem proved : Rows.RatioNeedsSaid :=
  over
#print axioms proved
end Go.Proofs.Ytmlgehegmaciiaa.ratioNeeds

