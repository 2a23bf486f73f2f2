/- Proved here: the law RatioNear of layer 3 holds for every two quantities' numbers and every tolerance: whether a use is near a target is exact, or it is told what is wrong. No conditions. -/
import Derived.Test.YtmlgehegmaciiaaRLawBase
namespace Go.Proofs.Ytmlgehegmaciiaa.ratioNear
open Go.ChangeShapes Go.WideShapes Go.ChangeAt Go.RowKit
set_option linter.unusedVariables false

/-- The two quantities aren't both right. -/
theorem bad_case (u t x : Int) (w : World) (h : Bad u ∨ (Fine u ∧ Bad t)) :
    Calls Try.prog 4 #[.int .i64 u, .int .i64 t, .int .i64 x] w fun e w' => e = .returned (.bool true) ∧ Below w.heap.size w w' := by
  have n : ∀ W : World, Calls Try.prog 12 #[.int .i64 u, .int .i64 t, .int .i64 x] W fun e w' => e = .returned (.tuple #[.bool false, .int .i64 1]) ∧ W = w' := fun W => by
    by_cases g : 0 ≤ x ∧ x ≤ 1000
    · exact near_bad u t x W g.1 g.2 h
    · exact near_odd u t x W (by unfold Wide_; omega)
  have N := Lib.hid n
  have R := Lib.hid (fun W : World => right_two u t false W (two_bad h))
  clear h n
  go_enter Try.func4, Try.ntmps4
  go_wp2_with fail
  refine (lives_any _).mono ?_
  rintro e w1 ⟨rfl, h1⟩
  go_wp2_with fail
  refine (N.out _).mono ?_
  rintro e w' ⟨rfl, rfl⟩
  go_wp2_with fail
  refine (R.out _).mono ?_
  rintro e w' ⟨rfl, rfl⟩
  go_wp2
  go_ret
  exact ⟨rfl, h1.alloc h1.size _⟩
/-- They are, but the tolerance is none. -/
theorem odd_case (u t x : Int) (w : World) (hu : Fine u) (ht : Fine t) (h : Wide_ x) :
    Calls Try.prog 4 #[.int .i64 u, .int .i64 t, .int .i64 x] w fun e w' => e = .returned (.bool true) ∧ Below w.heap.size w w' := by
  have N := Lib.hid (fun W : World => near_odd u t x W h)
  have R := Lib.hid (fun W : World => right_two u t true W (two_fine hu ht))
  clear hu ht
  rcases h with h | h
  · have t1 : decide (x < 0) = true := by simpa using h
    clear h
    go_enter Try.func4, Try.ntmps4
    go_wp2_with fail
    refine (lives_any _).mono ?_
    rintro e w1 ⟨rfl, h1⟩
    go_wp2_with fail
    refine (N.out _).mono ?_
    rintro e w' ⟨rfl, rfl⟩
    go_wp2_with fail
    refine (R.out _).mono ?_
    rintro e w' ⟨rfl, rfl⟩
    go_wp2
    go_ret
    exact ⟨rfl, h1.alloc h1.size _⟩
  · have t1 : decide (x < 0) = false := by simp; omega
    have t2 : decide (1000 < x) = true := by simpa using h
    clear h
    go_enter Try.func4, Try.ntmps4
    go_wp2_with fail
    refine (lives_any _).mono ?_
    rintro e w1 ⟨rfl, h1⟩
    go_wp2_with fail
    refine (N.out _).mono ?_
    rintro e w' ⟨rfl, rfl⟩
    go_wp2_with fail
    refine (R.out _).mono ?_
    rintro e w' ⟨rfl, rfl⟩
    go_wp2
    go_ret
    exact ⟨rfl, h1.alloc h1.size _⟩
theorem zero_case (u x : Int) (w : World) (hu : Fine u) (h0 : 0 ≤ x) (h1 : x ≤ 1000) :
    Calls Try.prog 4 #[.int .i64 u, .int .i64 0, .int .i64 x] w fun e w' => e = .returned (.bool true) ∧ Below w.heap.size w w' := by
  have N := Lib.hid (fun W : World => near_zero u x W h0 h1 hu)
  have R := Lib.hid (fun W : World => right_two u 0 true W (two_fine hu fine_zero))
  have t1 : decide (x < 0) = false := by simp; omega
  have t2 : decide (1000 < x) = false := by simp; omega
  clear hu h0 h1
  go_enter Try.func4, Try.ntmps4
  go_wp2_with fail
  refine (lives_any _).mono ?_
  rintro e w1 ⟨rfl, h1⟩
  go_wp2_with fail
  refine (N.out _).mono ?_
  rintro e w' ⟨rfl, rfl⟩
  go_wp2_with fail
  refine (R.out _).mono ?_
  rintro e w' ⟨rfl, rfl⟩
  go_wp2
  go_ret
  exact ⟨rfl, h1.alloc h1.size _⟩
theorem full_case (u t x : Nat) (w : World) (hu : u ≤ 9007199254740992) (ht : t ≤ 9007199254740992) (h0 : 0 < t) (hx : x ≤ 1000) :
    Calls Try.prog 4 #[.int .i64 (u : Int), .int .i64 (t : Int), .int .i64 (x : Int)] w fun e w' => e = .returned (.bool true) ∧ Below w.heap.size w w' := by
  obtain ⟨p, hp⟩ : ∃ p, p = decide (apart u t * 1000 ≤ t * x) := ⟨_, rfl⟩
  have n := fun W : World => near_ok u t x W hu ht h0 hx
  have c := fun W : World => near_ref u t x W (by omega) (by omega) (by omega)
  rw [← hp] at n c
  have N := Lib.hid n
  have C := Lib.hid c
  have R := Lib.hid (fun W : World => right_two (u : Int) (t : Int) true W (two_fine ⟨by omega, by omega⟩ ⟨by omega, by omega⟩))
  have t0 : ((t : Int) == 0) = false := by simp; omega
  have t1 : decide ((x : Int) < 0) = false := by simp
  have t2 : decide ((1000 : Int) < (x : Int)) = false := by simp; omega
  clear hp n c
  go_enter Try.func4, Try.ntmps4
  go_wp2_with fail
  refine (lives_any _).mono ?_
  rintro e w1 ⟨rfl, h1⟩
  go_wp2_with fail
  refine (N.out _).mono ?_
  rintro e w2 ⟨rfl, h2⟩
  go_wp2_with fail
  refine (R.out _).mono ?_
  rintro e w' ⟨rfl, rfl⟩
  go_wp2_with fail
  refine (C.out _).mono ?_
  rintro e w3 ⟨rfl, h3⟩
  go_wp2
  go_ret
  have hA := h1.trans (h2.mono h1.size)
  have hB := hA.alloc hA.size (.cells #[.int .i64 (u : Int), .int .i64 (t : Int)] 22)
  exact ⟨by cases p <;> rfl, hB.trans (h3.mono hB.size)⟩
theorem walk (u t x : Int) (w0 : (Lit.int .i64 u).wf = true) (w1 : (Lit.int .i64 t).wf = true) (w2 : (Lit.int .i64 x).wf = true) (w : World) :
    Calls Try.prog 4 #[.int .i64 u, .int .i64 t, .int .i64 x] w fun e w' => e = .returned (.bool true) ∧ Below w.heap.size w w' := by
  rcases fine_or_bad u with hu | hu
  · rcases fine_or_bad t with ht | ht
    · by_cases hx : 0 ≤ x ∧ x ≤ 1000
      · obtain ⟨x0, x1⟩ := hx
        by_cases h0 : t = 0
        · subst h0
          exact zero_case u x w hu x0 x1
        · obtain ⟨u', rfl⟩ : ∃ y : Nat, u = y := ⟨u.toNat, by have := hu.1; omega⟩
          obtain ⟨t', rfl⟩ : ∃ y : Nat, t = y := ⟨t.toNat, by have := ht.1; omega⟩
          obtain ⟨x', rfl⟩ : ∃ y : Nat, x = y := ⟨x.toNat, by omega⟩
          have h1 := hu.2
          have h2 := ht.2
          exact full_case u' t' x' w (by omega) (by omega) (by omega) (by omega)
      · exact odd_case u t x w hu ht (by unfold Wide_; omega)
    · exact bad_case u t x w (.inr ⟨hu, ht⟩)
  · exact bad_case u t x w (.inl hu)

/-! ### THE ROW's STEP: WRITTEN OUT: LEAVE IT -/
set_option maxRecDepth 100000 in
theorem lifted (os : Os) (started : os.Started) (H : Type) (enc : TypeId × Value → H) :
    ReturnsInHanded {} Try.checked os 4 .any (Rows.ratioNearSpec.pre6 enc Try.prog Try.f4 Rows.ratioNearRow.domain false) (Rows.ratioNearSpec.post enc Try.prog Try.f4 false true false false) := by
  refine returnsInHanded_of_change (C := Try.checked) own started (by kernel_rfl) Try.func4
    (ChangeSpec.witness6 (enc := enc) (C := Try.checked) false ⟨#[], #[.int .i64 0, .int .i64 0, .int .i64 0], []⟩ 8 (by kernel_rfl) (by kernel_rfl) (by kernel_rfl) (by kernel_rfl)) ?_
  intro W base args ds gs before hval0 hW hcnd _
  have hval : ∀ (j : Nat) t v, Try.f4.params[j]? = some t → args[j]? = some v → Value.okWide Try.prog W .any base t v := hval0
  have hW' := hW
  obtain ⟨p, q, hA0, hV, rfl, hfz, hnd⟩ := hW
  have hA : DataW.TrodAll enc Try.prog W 0 (fun _ => true) true Try.f4.params.toList args.toList ds p := hA0
  rw [Try.params4] at hA hval
  obtain ⟨v0, vs0, d0, ds0, p0, q0, hargs, rfl, rfl, h0, r0⟩ := trodAll_cons hA
  obtain ⟨v1, vs1, d1, ds1, p1, q1, rfl, rfl, rfl, h1, r1⟩ := trodAll_cons r0
  obtain ⟨v2, vs2, d2, ds2, p2, q2, rfl, rfl, rfl, h2, r2⟩ := trodAll_cons r1
  obtain ⟨rfl, rfl, rfl⟩ := trodAll_nil r2
  obtain rfl : args = #[v0, v1, v2] := by cases args; simp_all
  obtain ⟨rfl, rfl⟩ := trodVars_none hV
  obtain ⟨a0, rfl, rfl, rfl, w0⟩ := open_int Try.underlying22 (hval 0 22 v0 rfl rfl) h0
  obtain ⟨a1, rfl, rfl, rfl, w1⟩ := open_int Try.underlying22 (hval 1 22 v1 rfl rfl) h1
  obtain ⟨a2, rfl, rfl, rfl, w2⟩ := open_int Try.underlying3 (hval 2 3 v2 rfl rfl) h2
  clear hA0 hval0
  simp only [List.append_nil] at hW'
  refine (walk a0 a1 a2 w0 w1 w2 W).mono fun e W' ⟨he, hg⟩ => ?_
  subst he
  exact ⟨_, rfl, post_below hW' hg (fun _ _ _ => (trodAll_cons_mk (shut_bool Try.underlying4 _) trodAll_mk0)) (fun sp _ => (trodAll_cons_mk (shut_int Try.underlying22 w0) (trodAll_cons_mk (shut_int Try.underlying22 w1) (trodAll_cons_mk (shut_int Try.underlying3 w2) trodAll_mk0)))) (fun _ => rfl) (ok_one (by kernel_rfl) rfl (okWide_bool_mk Try.underlying4 _))⟩

theorem over : Rows.ratioNearRow.holds Try.pinned (OpenSpec.ofChange Rows.ratioNearSpec) :=
  OpenClaim.holds_of_wide 4 Try.f4 rfl rfl rfl rfl rfl rfl rfl ⟨rfl, rfl, rfl, rfl, rfl⟩ rfl rfl rfl rfl rfl (by kernel_rfl) Try.func4 (by kernel_rfl)
    (of_decide_eq_true (by kernel_rfl)) (by unfold Func.isWrapper; first | (rw [if_pos (by decide +kernel)]; kernel_rfl) | (rw [if_neg (by decide +kernel)]; exact ⟨rfl, rfl⟩))
    (fun os started H enc _ => lifted os started H enc)

/-- The statement. -/
theorem proved : Rows.RatioNearSaid :=
  over
#print axioms proved
end Go.Proofs.Ytmlgehegmaciiaa.ratioNear

