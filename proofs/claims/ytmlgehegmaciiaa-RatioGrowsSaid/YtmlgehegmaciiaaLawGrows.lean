/- Proved here: the law RatioGrows of layer 3 holds for every number of replicas and every four quantities' numbers: more use needs no fewer replicas, a greater target no more. No conditions. -/
import Derived.Test.YtmlgehegmaciiaaRLawBase
namespace Go.Proofs.Ytmlgehegmaciiaa.ratioGrows
open Go.ChangeShapes Go.WideShapes Go.ChangeAt Go.RowKit
set_option linter.unusedVariables false

/-- The law says nothing of it: its test says so. -/
theorem idle_case (r u v t s : Int) (w : World) (h : [u, v, t, s].all fine = false ∨ ([u, v, t, s].all fine = true ∧ (v < u ∨ ¬ v < u ∧ (s < t ∨ ¬ s < t ∧ (t = 0 ∨ t ≠ 0 ∧ (r < 0 ∨ ¬ r < 0 ∧ 1000000 < r)))))) :
    Calls Try.prog 6 #[.int .i64 r, .int .i64 u, .int .i64 v, .int .i64 t, .int .i64 s] w fun e w' => e = .returned (.bool true) ∧ Below w.heap.size w w' := by
  rcases h with h | ⟨h, g | ⟨g1, g | ⟨g2, rfl | ⟨g3, g | ⟨g4, g5⟩⟩⟩⟩⟩
  · have R := Lib.hid (fun W : World => right_four u v t s false W h)
    clear h
    go_enter Try.func6, Try.ntmps6
    go_wp2_with fail
    refine (lives_any _).mono ?_
    rintro e w1 ⟨rfl, h1⟩
    go_wp2_with fail
    refine (R.out _).mono ?_
    rintro e w' ⟨rfl, rfl⟩
    go_wp2
    go_ret
    exact ⟨rfl, h1.alloc h1.size _⟩
  · have R := Lib.hid (fun W : World => right_four u v t s true W h)
    clear h
    go_enter Try.func6, Try.ntmps6
    go_wp2_with fail
    refine (lives_any _).mono ?_
    rintro e w1 ⟨rfl, h1⟩
    go_wp2_with fail
    refine (R.out _).mono ?_
    rintro e w' ⟨rfl, rfl⟩
    go_wp2
    go_ret
    exact ⟨rfl, h1.alloc h1.size _⟩
  · have R := Lib.hid (fun W : World => right_four u v t s true W h)
    clear h
    go_enter Try.func6, Try.ntmps6
    go_wp2_with fail
    refine (lives_any _).mono ?_
    rintro e w1 ⟨rfl, h1⟩
    go_wp2_with fail
    refine (R.out _).mono ?_
    rintro e w' ⟨rfl, rfl⟩
    go_wp2
    go_ret
    exact ⟨rfl, h1.alloc h1.size _⟩
  · have R := Lib.hid (fun W : World => right_four u v 0 s true W h)
    clear h
    go_enter Try.func6, Try.ntmps6
    go_wp2_with fail
    refine (lives_any _).mono ?_
    rintro e w1 ⟨rfl, h1⟩
    go_wp2_with fail
    refine (R.out _).mono ?_
    rintro e w' ⟨rfl, rfl⟩
    go_wp2
    go_ret
    exact ⟨rfl, h1.alloc h1.size _⟩
  · have R := Lib.hid (fun W : World => right_four u v t s true W h)
    have t3 : (t == 0) = false := by simpa using g3
    clear h
    go_enter Try.func6, Try.ntmps6
    go_wp2_with fail
    refine (lives_any _).mono ?_
    rintro e w1 ⟨rfl, h1⟩
    go_wp2_with fail
    refine (R.out _).mono ?_
    rintro e w' ⟨rfl, rfl⟩
    go_wp2
    go_ret
    exact ⟨rfl, h1.alloc h1.size _⟩
  · have R := Lib.hid (fun W : World => right_four u v t s true W h)
    have t3 : (t == 0) = false := by simpa using g3
    clear h
    go_enter Try.func6, Try.ntmps6
    go_wp2_with fail
    refine (lives_any _).mono ?_
    rintro e w1 ⟨rfl, h1⟩
    go_wp2_with fail
    refine (R.out _).mono ?_
    rintro e w' ⟨rfl, rfl⟩
    go_wp2
    go_ret
    exact ⟨rfl, h1.alloc h1.size _⟩

theorem upDiv_ceil {a b y : Nat} (hy : 0 < y) : upDiv a b y = (a * b + (y - 1)) / y := by
  unfold upDiv
  have h := Nat.div_add_mod (a * b) y
  have hm := Nat.mod_lt (a * b) hy
  generalize hq : a * b / y = q at *
  generalize hr : a * b % y = r at *
  split
  · rename_i h0
    subst h0
    rw [← h]
    simp only [Nat.add_zero]
    rw [Nat.mul_add_div hy, Nat.div_eq_of_lt (by omega), Nat.add_zero]
  · rw [← h, Nat.add_assoc, Nat.mul_add_div hy]
    congr 1
    rw [show r + (y - 1) = y * 1 + (r - 1) by omega, Nat.mul_add_div hy, Nat.div_eq_of_lt (by omega)]
theorem up_more {r u v t : Nat} (h : u ≤ v) (ht : 0 < t) : upDiv r u t ≤ upDiv r v t := by
  rw [upDiv_ceil ht, upDiv_ceil ht]
  exact Nat.div_le_div_right (Nat.add_le_add_right (Nat.mul_le_mul_left r h) _)
theorem up_great {r u t s : Nat} (h : t ≤ s) (ht : 0 < t) : upDiv r u s ≤ upDiv r u t := by
  have hs : 0 < s := by omega
  rw [upDiv_ceil ht, upDiv_ceil hs]
  generalize hk : (r * u + (t - 1)) / t = k
  have h1 : r * u ≤ k * t := by
    have h2 := Nat.div_add_mod (r * u + (t - 1)) t
    have h3 := Nat.mod_lt (r * u + (t - 1)) ht
    rw [hk, Nat.mul_comm t k] at h2
    omega
  have h2 : k * t ≤ k * s := Nat.mul_le_mul_left k h
  have h3 : r * u + (s - 1) < (k + 1) * s := by rw [Nat.add_mul, Nat.one_mul]; omega
  have h4 := (Nat.div_lt_iff_lt_mul hs).2 h3
  omega
theorem min_le {a b : Nat} (h : a ≤ b) : min a 1000000 ≤ min b 1000000 := by omega

set_option maxHeartbeats 1000000 in
theorem full_case (r u v t s : Nat) (w : World) (hr : r ≤ 1000000) (hu : u ≤ v) (hv : v ≤ 9007199254740992) (ht : t ≤ s) (hs : s ≤ 9007199254740992) (h0 : 0 < t) :
    Calls Try.prog 6 #[.int .i64 (r : Int), .int .i64 (u : Int), .int .i64 (v : Int), .int .i64 (t : Int), .int .i64 (s : Int)] w fun e w' => e = .returned (.bool true) ∧ Below w.heap.size w w' := by
  have n1 := fun W : World => need_ok r u t W hr (by omega) (by omega) h0
  have n2 := fun W : World => need_ok r v t W hr hv (by omega) h0
  have n3 := fun W : World => need_ok r u s W hr (by omega) hs (by omega)
  have e1 := min_le (up_more (r := r) hu h0)
  have e2 := min_le (up_great (r := r) (u := u) ht h0)
  generalize min (upDiv r u t) 1000000 = a at *
  generalize min (upDiv r v t) 1000000 = b at *
  generalize min (upDiv r u s) 1000000 = c at *
  have N1 := Lib.hid n1
  have N2 := Lib.hid n2
  have N3 := Lib.hid n3
  have R := Lib.hid (fun W : World => right_four (u : Int) (v : Int) (t : Int) (s : Int) true W (by simp [fine]; omega))
  have t0 : ((t : Int) == 0) = false := by simp; omega
  have g1 : ¬ (v : Int) < (u : Int) := by omega
  have g2 : ¬ (s : Int) < (t : Int) := by omega
  have g3 : ¬ (r : Int) < 0 := by omega
  have g4 : ¬ (1000000 : Int) < (r : Int) := by omega
  clear n1 n2 n3 hv hs
  go_enter Try.func6, Try.ntmps6
  go_wp2_with fail
  refine (lives_any _).mono ?_
  rintro e w1 ⟨rfl, h1⟩
  go_wp2_with fail
  refine (R.out _).mono ?_
  rintro e w' ⟨rfl, rfl⟩
  go_wp2_with fail
  refine (N1.out _).mono ?_
  rintro e w2 ⟨rfl, h2⟩
  go_wp2_with fail
  refine (N2.out _).mono ?_
  rintro e w3 ⟨rfl, h3⟩
  go_wp2_with fail
  refine (N3.out _).mono ?_
  rintro e w4 ⟨rfl, h4⟩
  go_wp2
  go_ret
  have hB := h1.alloc h1.size (.cells #[.int .i64 (u : Int), .int .i64 (v : Int), .int .i64 (t : Int), .int .i64 (s : Int)] 22)
  have hC := hB.trans (h2.mono hB.size)
  have hD := hC.trans (h3.mono hC.size)
  exact ⟨by first | rfl | exact ret_all (decide_eq_true e2), hD.trans (h4.mono hD.size)⟩
theorem fine_iff {z : Int} (h : fine z = true) : 0 ≤ z ∧ z ≤ 9007199254740992 := by simpa [fine] using h
theorem walk (r u v t s : Int) (w0 : (Lit.int .i64 r).wf = true) (w1 : (Lit.int .i64 u).wf = true) (w2 : (Lit.int .i64 v).wf = true) (w3 : (Lit.int .i64 t).wf = true) (w4 : (Lit.int .i64 s).wf = true) (w : World) :
    Calls Try.prog 6 #[.int .i64 r, .int .i64 u, .int .i64 v, .int .i64 t, .int .i64 s] w fun e w' => e = .returned (.bool true) ∧ Below w.heap.size w w' := by
  by_cases hf : [u, v, t, s].all fine = true
  · by_cases g : v < u ∨ ¬ v < u ∧ (s < t ∨ ¬ s < t ∧ (t = 0 ∨ t ≠ 0 ∧ (r < 0 ∨ ¬ r < 0 ∧ 1000000 < r)))
    · exact idle_case r u v t s w (.inr ⟨hf, g⟩)
    · have hf2 := hf
      simp only [List.all_cons, List.all_nil, Bool.and_true, Bool.and_eq_true] at hf2
      obtain ⟨fu, fv, ft, fs⟩ := hf2
      have iu := fine_iff fu
      have iv := fine_iff fv
      have it := fine_iff ft
      have is_ := fine_iff fs
      obtain ⟨r', rfl⟩ : ∃ y : Nat, r = y := ⟨r.toNat, by omega⟩
      obtain ⟨u', rfl⟩ : ∃ y : Nat, u = y := ⟨u.toNat, by omega⟩
      obtain ⟨v', rfl⟩ : ∃ y : Nat, v = y := ⟨v.toNat, by omega⟩
      obtain ⟨t', rfl⟩ : ∃ y : Nat, t = y := ⟨t.toNat, by omega⟩
      obtain ⟨s', rfl⟩ : ∃ y : Nat, s = y := ⟨s.toNat, by omega⟩
      exact full_case r' u' v' t' s' w (by omega) (by omega) (by omega) (by omega) (by omega) (by omega)
  · exact idle_case r u v t s w (.inl (by simpa using hf))

/-! ### THE ROW's STEP: WRITTEN OUT: LEAVE IT -/
set_option maxRecDepth 100000 in
theorem lifted (os : Os) (started : os.Started) (H : Type) (enc : TypeId × Value → H) :
    ReturnsInHanded {} Try.checked os 6 .any (Rows.ratioGrowsSpec.pre6 enc Try.prog Try.f6 Rows.ratioGrowsRow.domain false) (Rows.ratioGrowsSpec.post enc Try.prog Try.f6 false true false false) := by
  refine returnsInHanded_of_change (C := Try.checked) own started (by kernel_rfl) Try.func6
    (ChangeSpec.witness6 (enc := enc) (C := Try.checked) false ⟨#[], #[.int .i64 0, .int .i64 0, .int .i64 0, .int .i64 0, .int .i64 0], []⟩ 8 (by kernel_rfl) (by kernel_rfl) (by kernel_rfl) (by kernel_rfl)) ?_
  intro W base args ds gs before hval0 hW hcnd _
  have hval : ∀ (j : Nat) t v, Try.f6.params[j]? = some t → args[j]? = some v → Value.okWide Try.prog W .any base t v := hval0
  have hW' := hW
  obtain ⟨p, q, hA0, hV, rfl, hfz, hnd⟩ := hW
  have hA : DataW.TrodAll enc Try.prog W 0 (fun _ => true) true Try.f6.params.toList args.toList ds p := hA0
  rw [Try.params6] at hA hval
  obtain ⟨v0, vs0, d0, ds0, p0, q0, hargs, rfl, rfl, h0, r0⟩ := trodAll_cons hA
  obtain ⟨v1, vs1, d1, ds1, p1, q1, rfl, rfl, rfl, h1, r1⟩ := trodAll_cons r0
  obtain ⟨v2, vs2, d2, ds2, p2, q2, rfl, rfl, rfl, h2, r2⟩ := trodAll_cons r1
  obtain ⟨v3, vs3, d3, ds3, p3, q3, rfl, rfl, rfl, h3, r3⟩ := trodAll_cons r2
  obtain ⟨v4, vs4, d4, ds4, p4, q4, rfl, rfl, rfl, h4, r4⟩ := trodAll_cons r3
  obtain ⟨rfl, rfl, rfl⟩ := trodAll_nil r4
  obtain rfl : args = #[v0, v1, v2, v3, v4] := by cases args; simp_all
  obtain ⟨rfl, rfl⟩ := trodVars_none hV
  obtain ⟨a0, rfl, rfl, rfl, w0⟩ := open_int Try.underlying3 (hval 0 3 v0 rfl rfl) h0
  obtain ⟨a1, rfl, rfl, rfl, w1⟩ := open_int Try.underlying22 (hval 1 22 v1 rfl rfl) h1
  obtain ⟨a2, rfl, rfl, rfl, w2⟩ := open_int Try.underlying22 (hval 2 22 v2 rfl rfl) h2
  obtain ⟨a3, rfl, rfl, rfl, w3⟩ := open_int Try.underlying22 (hval 3 22 v3 rfl rfl) h3
  obtain ⟨a4, rfl, rfl, rfl, w4⟩ := open_int Try.underlying22 (hval 4 22 v4 rfl rfl) h4
  clear hA0 hval0
  simp only [List.append_nil] at hW'
  refine (walk a0 a1 a2 a3 a4 w0 w1 w2 w3 w4 W).mono fun e W' ⟨he, hg⟩ => ?_
  subst he
  exact ⟨_, rfl, post_below hW' hg (fun _ _ _ => (trodAll_cons_mk (shut_bool Try.underlying4 _) trodAll_mk0)) (fun sp _ => (trodAll_cons_mk (shut_int Try.underlying3 w0) (trodAll_cons_mk (shut_int Try.underlying22 w1) (trodAll_cons_mk (shut_int Try.underlying22 w2) (trodAll_cons_mk (shut_int Try.underlying22 w3) (trodAll_cons_mk (shut_int Try.underlying22 w4) trodAll_mk0)))))) (fun _ => rfl) (ok_one (by kernel_rfl) rfl (okWide_bool_mk Try.underlying4 _))⟩

theorem over : Rows.ratioGrowsRow.holds Try.pinned (OpenSpec.ofChange Rows.ratioGrowsSpec) :=
  OpenClaim.holds_of_wide 6 Try.f6 rfl rfl rfl rfl rfl rfl rfl ⟨rfl, rfl, rfl, rfl, rfl⟩ rfl rfl rfl rfl rfl (by kernel_rfl) Try.func6 (by kernel_rfl)
    (of_decide_eq_true (by kernel_rfl)) (by unfold Func.isWrapper; first | (rw [if_pos (by decide +kernel)]; kernel_rfl) | (rw [if_neg (by decide +kernel)]; exact ⟨rfl, rfl⟩))
    (fun os started H enc _ => lifted os started H enc)

/-- The statement. -/
theorem proved : Rows.RatioGrowsSaid :=
  over
#print axioms proved
end Go.Proofs.Ytmlgehegmaciiaa.ratioGrows

