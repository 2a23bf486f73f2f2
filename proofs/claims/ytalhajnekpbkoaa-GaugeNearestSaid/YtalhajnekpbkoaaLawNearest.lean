/- Proved here: the law GaugeNearest of layer 4 holds for every quantity's number: the bits that are written are no farther from it than those ahead and behind, and of two that are as near the even one. No conditions. -/
import Derived.Test.YtalhajnekpbkoaaGLawBase
import Derived.Test.YtalhajnekpbkoaaGaugeN
namespace Go.Proofs.Ytalhajnekpbkoaa.gaugeNearest
open Go.ChangeShapes Go.WideShapes Go.ChangeAt Go.RowKit
set_option linter.unusedVariables false

theorem offA_lt (x K : Nat) (hK : K = 3000) : offA x < 2 ^ K := by
  have h1 : (x % 4503599627370496 + 4503599627370496) * 1000 < 2 ^ 64 := by omega
  have h2 : 2 ^ (x / 4503599627370496 % 2048 + 25) < 2 ^ (x / 4503599627370496 % 2048 + 26) := pow_lt2 (by omega)
  exact Nat.lt_of_lt_of_le (mul_lt_pow h1 h2) (pow_le2 (by omega))
theorem dist_lt {a b n : Nat} (ha : a < n) (hb : b < n) : dist a b < n := by unfold dist; omega
theorem sgn_le_yes {a b : Nat} (h : a ≤ b) : decide (sgn a b ≤ 0) = true := by rw [sgn_le, decide_eq_true h]
theorem sgn_lt_yes {a b : Nat} (h : a < b) : decide (sgn a b < 0) = true := by rw [sgn_lt h]; rfl
theorem out_case (m : Int) (w : World) (h : m < 1 ∨ 9007199254740992 < m) :
    Calls Try.prog 5 #[.int .i64 m] w fun e w' => e = .returned (.bool true) ∧ Below w.heap.size w w' := by
  rcases h with h | h
  · have t1 : decide (m < 1) = true := by simpa using h
    go_enter Try.func5, Try.ntmps5
    go_wp2_with fail
    refine (lives_any _).mono ?_
    rintro e w1 ⟨rfl, k1, rfl⟩
    go_wp2_with fail
    refine (lives_any _).mono ?_
    rintro e w1 ⟨rfl, k2, rfl⟩
    go_wp2
    go_ret
    exact ⟨rfl, ((Below.refl _ _).alloc (Nat.le_refl _) _).trans (below_draw _ _ _)⟩
  · have t1 : decide (m < 1) = false := by simp; omega
    have t2 : decide (9007199254740992 < m) = true := by simpa using h
    clear h
    go_enter Try.func5, Try.ntmps5
    go_wp2_with fail
    refine (lives_any _).mono ?_
    rintro e w1 ⟨rfl, k1, rfl⟩
    go_wp2_with fail
    refine (lives_any _).mono ?_
    rintro e w1 ⟨rfl, k2, rfl⟩
    go_wp2
    go_ret
    exact ⟨rfl, ((Below.refl _ _).alloc (Nat.le_refl _) _).trans (below_draw _ _ _)⟩

set_option maxHeartbeats 1000000 in
theorem right_case (m : Nat) (w : World) (h : m ≤ 9007199254740992) (h0 : 1 ≤ m) :
    Calls Try.prog 5 #[.int .i64 (m : Int)] w fun e w' => e = .returned (.bool true) ∧ Below w.heap.size w w' := by
  obtain ⟨x, hW, hx⟩ := write_ok m h
  obtain ⟨N, hN⟩ : ∃ N, N = 1100 := ⟨_, rfl⟩
  obtain ⟨D, hD⟩ : ∃ D, D = 2 ^ N := ⟨_, rfl⟩
  obtain ⟨V, a0, a1, a2, b, hV, f0, f1, f2, fb, l1, l2, l3, b1, b2⟩ := off_three hW h0 hN hD
  obtain ⟨y, hy⟩ : ∃ y, y = x - 1 := ⟨_, rfl⟩
  obtain ⟨z, hz⟩ : ∃ z, z = x + 1 := ⟨_, rfl⟩
  obtain ⟨H, hH⟩ : ∃ H, H = dist (offA x) (m * D) := ⟨_, rfl⟩
  obtain ⟨A1, hA1⟩ : ∃ H, H = dist (offA y) (m * D) := ⟨_, rfl⟩
  obtain ⟨A2, hA2⟩ : ∃ H, H = dist (offA z) (m * D) := ⟨_, rfl⟩
  have g0 : H = dist a0 b * V := by rw [hH, f0, fb, dist_mul]
  have g1 : A1 = dist a1 b * V := by rw [hA1, hy, f1, fb, dist_mul]
  have g2 : A2 = dist a2 b * V := by rw [hA2, hz, f2, fb, dist_mul]
  have L1 : H ≤ A1 := by rw [g0, g1]; exact Nat.mul_le_mul_right _ l1
  have L2 : H ≤ A2 := by rw [g0, g2]; exact Nat.mul_le_mul_right _ l2
  have L3 : x % 2 = 1 → H < A1 ∧ H < A2 := fun hp => by
    obtain ⟨p1, p2⟩ := l3 hp
    rw [g0, g1, g2]
    exact ⟨Nat.mul_lt_mul_of_pos_right p1 hV, Nat.mul_lt_mul_of_pos_right p2 hV⟩
  have hD1 : D = 2 ^ 1100 := by rw [hD, hN]
  obtain ⟨N1, hN1⟩ : ∃ N, N = 1101 := ⟨_, rfl⟩
  have hD2 : D < 2 ^ N1 := by rw [hD]; exact pow_lt2 (by omega)
  obtain ⟨K, hK⟩ : ∃ K, K = 3000 := ⟨_, rfl⟩
  have hB : m * D < 2 ^ K := by
    have h1 : m < 2 ^ 54 := by omega
    exact Nat.lt_of_lt_of_le (mul_lt_pow h1 hD2) (pow_le2 (by omega))
  have C0 : ∀ (W : World) (p : Addr), p.block < W.heap.size → W.cell? p = some (.int .i64 (m : Int)) → Calls Try.prog 12 #[.int .u64 (x : Int), .pointer (some p)] W (RetNum W H) := fun W p c1 c2 => by
    rw [hH]; exact off_any x m D N1 W p (by omega) h hD1 hN1 hD2 c1 c2
  have C1 : ∀ (W : World) (p : Addr), p.block < W.heap.size → W.cell? p = some (.int .i64 (m : Int)) → Calls Try.prog 12 #[.int .u64 (y : Int), .pointer (some p)] W (RetNum W A1) := fun W p c1 c2 => by
    rw [hA1]; exact off_any y m D N1 W p (by omega) h hD1 hN1 hD2 c1 c2
  have C2 : ∀ (W : World) (p : Addr), p.block < W.heap.size → W.cell? p = some (.int .i64 (m : Int)) → Calls Try.prog 12 #[.int .u64 (z : Int), .pointer (some p)] W (RetNum W A2) := fun W p c1 c2 => by
    rw [hA2]; exact off_any z m D N1 W p (by omega) h hD1 hN1 hD2 c1 c2
  have M := Lib.hid hx
  have HC0 := Lib.hid C0
  have HC1 := Lib.hid C1
  have HC2 := Lib.hid C2
  have BH : Hid (H < 2 ^ K) := by show H < 2 ^ K; rw [hH]; exact dist_lt (offA_lt x K hK) hB
  have BA1 : Hid (A1 < 2 ^ K) := by show A1 < 2 ^ K; rw [hA1]; exact dist_lt (offA_lt y K hK) hB
  have BA2 : Hid (A2 < 2 ^ K) := by show A2 < 2 ^ K; rw [hA2]; exact dist_lt (offA_lt z K hK) hB
  have BK := Lib.hid (show K ≤ 1000000 by omega)
  have T1 := sgn_le_yes L1
  have T2 := sgn_le_yes L2
  have t1 : ¬ ((m : Int) < 1) := by omega
  have t2 : decide (9007199254740992 < (m : Int)) = false := by simp; omega
  obtain ⟨X, hX⟩ : ∃ X, X = x / 4503599627370496 := ⟨_, rfl⟩
  have t3 : (x : Int) / 4503599627370496 = (X : Int) := by omega
  have t4 : ((X : Int) == 0) = false := by simp; omega
  have t5 : decide (2046 ≤ (X : Int)) = false := by simp; omega
  have t6 : IntKind.u64.wrap ((x : Int) - 1) = (y : Int) := by
    have : (x : Int) - 1 = (y : Int) := by omega
    rw [this]; exact wrapN y (by omega)
  have t7 : IntKind.u64.wrap ((x : Int) + 1) = (z : Int) := by
    have : (x : Int) + 1 = (z : Int) := by omega
    rw [this]; exact wrapN z (by omega)
  have hand : bits .and .u64 (x : Int) 1 = ((x % 2 : Nat) : Int) := by
    rw [u64_and _ _ (by omega) (by omega) (by decide) (by decide)]
    have : (x : Int).toNat &&& (1 : Int).toNat = x % 2 := Nat.and_two_pow_sub_one_eq_mod x 1
    rw [this]
  have hcase : bits .and .u64 (x : Int) 1 = 0 ∨ (bits .and .u64 (x : Int) 1 = 1 ∧ decide (sgn H A1 < 0) = true ∧ decide (sgn H A2 < 0) = true) := by
    rcases Nat.mod_two_eq_zero_or_one x with g | g
    · exact .inl (by rw [hand, g]; rfl)
    · obtain ⟨p1, p2⟩ := L3 g
      exact .inr ⟨by rw [hand, g]; rfl, sgn_lt_yes p1, sgn_lt_yes p2⟩
  clear hx hW hN hD hV f0 f1 f2 fb l1 l2 l3 b1 b2 hy hz hH hA1 hA2 g0 g1 g2 L1 L2 L3 hD1 hN1 hD2 hK hB C0 C1 C2 hX hand h
  have HQ := Lib.hid hcase
  clear hcase
  go_enter Try.func5, Try.ntmps5
  go_wp2_with fail
  refine (lives_any _).mono ?_
  rintro e w1 ⟨rfl, k1, rfl⟩
  go_wp2_with fail
  refine (M.out _).mono ?_
  rintro e w1 ⟨rfl, rfl⟩
  have hb0 : Below w.heap.size w ((w.alloc (.cells #[.int .i64 (m : Int)] 24)).drewN k1) := ((Below.refl _ _).alloc (Nat.le_refl _) _).trans (below_draw _ _ _)
  have hsz : w.heap.size < ((w.alloc (.cells #[.int .i64 (m : Int)] 24)).drewN k1).heap.size := by simp
  have hcell : ((w.alloc (.cells #[.int .i64 (m : Int)] 24)).drewN k1).cell? ⟨w.heap.size, 0, none⟩ = some (.int .i64 (m : Int)) := by simp
  obtain ⟨w1, hw1⟩ : ∃ w1, w1 = (w.alloc (.cells #[.int .i64 (m : Int)] 24)).drewN k1 := ⟨_, rfl⟩
  rw [← hw1] at hb0 hsz hcell ⊢
  have HB0 := Lib.hid hb0
  have HS := Lib.hid hsz
  have HCE := Lib.hid hcell
  clear hw1 hb0 hsz
  go_wp2_with fail
  refine (HC0.out w1 ⟨w.heap.size, 0, none⟩ HS.out HCE.out).mono ?_
  rintro e w2 ⟨v2, rfl, n2, h2⟩
  have s2 := h2.size
  have b2 := HB0.out.trans (h2.mono HB0.out.size)
  have c2 : w2.cell? ⟨w.heap.size, 0, none⟩ = some (.int .i64 (m : Int)) := (h2.cell HS.out).trans HCE.out
  clear hcell
  have HC2' := Lib.hid c2
  have HB2 := Lib.hid b2
  have HN2 := Lib.hid n2
  have HS2 : Hid (w.heap.size < w2.heap.size) := Lib.hid (Nat.lt_of_lt_of_le HS.out s2)
  clear b2 n2 h2 s2
  go_wp2_with fail
  refine (HC1.out w2 ⟨w.heap.size, 0, none⟩ HS2.out HC2'.out).mono ?_
  rintro e w3 ⟨v3, rfl, n3, h3⟩
  have s3 := h3.size
  have b3 := HB2.out.trans (h3.mono HB2.out.size)
  have c3 : w3.cell? ⟨w.heap.size, 0, none⟩ = some (.int .i64 (m : Int)) := (h3.cell HS2.out).trans HC2'.out
  have HN2' := Lib.hid (HN2.out.below h3)
  have HC3' := Lib.hid c3
  have HB3 := Lib.hid b3
  have HN3 := Lib.hid n3
  have HS3 : Hid (w.heap.size < w3.heap.size) := Lib.hid (Nat.lt_of_lt_of_le HS2.out s3)
  clear b3 n3 h3 s3 c2
  go_wp2_with fail
  refine (HC2.out w3 ⟨w.heap.size, 0, none⟩ HS3.out HC3'.out).mono ?_
  rintro e w4 ⟨v4, rfl, n4, h4⟩
  have s4 := h4.size
  have HB4 := Lib.hid (HB3.out.trans (h4.mono HB3.out.size))
  have HN2'' := Lib.hid (HN2'.out.below h4)
  have HN3' := Lib.hid (HN3.out.below h4)
  have HN4 := Lib.hid n4
  clear n4 h4 s4 c3
  go_wp2_with fail
  refine (cmp_num K HN2''.out HN3'.out BH.out BA1.out BK.out).mono ?_
  rintro e w' ⟨rfl, rfl⟩
  go_wp2_with fail
  refine (cmp_num K HN2''.out HN4.out BH.out BA2.out BK.out).mono ?_
  rintro e w' ⟨rfl, rfl⟩
  rcases HQ.out with q0 | ⟨q0, q1, q2⟩
  · go_wp2
    go_ret
    exact ⟨rfl, HB4.out⟩
  · go_wp2_with fail
    refine (cmp_num K HN2''.out HN3'.out BH.out BA1.out BK.out).mono ?_
    rintro e w' ⟨rfl, rfl⟩
    go_wp2_with fail
    refine (cmp_num K HN2''.out HN4.out BH.out BA2.out BK.out).mono ?_
    rintro e w' ⟨rfl, rfl⟩
    go_wp2
    go_ret
    exact ⟨rfl, HB4.out⟩

theorem walk (m : Int) (w0 : (Lit.int .i64 m).wf = true) (w : World) :
    Calls Try.prog 5 #[.int .i64 m] w fun e w' => e = .returned (.bool true) ∧ Below w.heap.size w w' := by
  by_cases h : m < 1 ∨ 9007199254740992 < m
  · exact out_case m w h
  · obtain ⟨n, rfl⟩ : ∃ n : Nat, m = n := ⟨m.toNat, by omega⟩
    exact right_case n w (by omega) (by omega)

/-! ### THE ROW's STEP: WRITTEN OUT: LEAVE IT -/
set_option maxRecDepth 100000 in
theorem lifted (os : Os) (started : os.Started) (H : Type) (enc : TypeId × Value → H) :
    ReturnsInHanded {} Try.checked os 5 .any (Rows.gaugeNearestSpec.pre6 enc Try.prog Try.f5 Rows.gaugeNearestRow.domain false) (Rows.gaugeNearestSpec.post enc Try.prog Try.f5 false true false false) := by
  refine returnsInHanded_of_change (C := Try.checked) own started (by kernel_rfl) Try.func5
    (ChangeSpec.witness6 (enc := enc) (C := Try.checked) false ⟨#[], #[.int .i64 0], []⟩ 8 (by kernel_rfl) (by kernel_rfl) (by kernel_rfl) (by kernel_rfl)) ?_
  intro W base args ds gs before hval0 hW hcnd _
  have hval : ∀ (j : Nat) t v, Try.f5.params[j]? = some t → args[j]? = some v → Value.okWide Try.prog W .any base t v := hval0
  have hW' := hW
  obtain ⟨p, q, hA0, hV, rfl, hfz, hnd⟩ := hW
  have hA : DataW.TrodAll enc Try.prog W 0 (fun _ => true) true Try.f5.params.toList args.toList ds p := hA0
  rw [Try.params5] at hA hval
  obtain ⟨v0, vs0, d0, ds0, p0, q0, hargs, rfl, rfl, h0, r0⟩ := trodAll_cons hA
  obtain ⟨rfl, rfl, rfl⟩ := trodAll_nil r0
  obtain rfl : args = #[v0] := by cases args; simp_all
  obtain ⟨rfl, rfl⟩ := trodVars_none hV
  obtain ⟨a0, rfl, rfl, rfl, w0⟩ := open_int Try.underlying24 (hval 0 24 v0 rfl rfl) h0
  clear hA0 hval0
  simp only [List.append_nil] at hW'
  refine (walk a0 w0 W).mono fun e W' ⟨he, hg⟩ => ?_
  subst he
  exact ⟨_, rfl, post_below hW' hg (fun _ _ _ => (trodAll_cons_mk (shut_bool Try.underlying4 _) trodAll_mk0)) (fun sp _ => (trodAll_cons_mk (shut_int Try.underlying24 w0) trodAll_mk0)) (fun _ => rfl) (ok_one (by kernel_rfl) rfl (okWide_bool_mk Try.underlying4 _))⟩

theorem over : Rows.gaugeNearestRow.holds Try.pinned (OpenSpec.ofChange Rows.gaugeNearestSpec) :=
  OpenClaim.holds_of_wide 5 Try.f5 rfl rfl rfl rfl rfl rfl rfl ⟨rfl, rfl, rfl, rfl, rfl⟩ rfl rfl rfl rfl rfl (by kernel_rfl) Try.func5 (by kernel_rfl)
    (of_decide_eq_true (by kernel_rfl)) (by unfold Func.isWrapper; first | (rw [if_pos (by decide +kernel)]; kernel_rfl) | (rw [if_neg (by decide +kernel)]; exact ⟨rfl, rfl⟩))
    (fun os started H enc _ => lifted os started H enc)

/-- The statement. -/
theorem proved : Rows.GaugeNearestSaid :=
  over
#print axioms proved
end Go.Proofs.Ytalhajnekpbkoaa.gaugeNearest

