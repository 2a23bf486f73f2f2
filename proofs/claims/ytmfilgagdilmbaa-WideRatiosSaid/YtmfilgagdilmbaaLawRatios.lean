/- Proved here: the law WideRatios of layer 1 holds for every four numbers of 64 bits: how two ratios stand is exact, and turned about it is turned about; with 0 below it is refused. No conditions. -/
import Derived.Test.YtmfilgagdilmbaaRows
import Derived.Test.YtmfilgagdilmbaaRefE
import Derived.Test.YtmfilgagdilmbaaWideB
import Derived.Test.YtmfilgagdilmbaaPost
import Derived.ProofKit
import Derived.OpenShut
namespace Go.Proofs.Ytmfilgagdilmbaa.wideRatios
open Go.ChangeShapes Go.WideShapes Go.ChangeAt Go.RowKit
set_option linter.unusedVariables false

theorem own : ownKnob Try.prog.godebug = none := by kernel_rfl

theorem zero_case (a b c d : Nat) (w : World) (h : b = 0 ∨ d = 0) :
    Calls Try.prog 6 #[.int .u64 (a : Int), .int .u64 (b : Int), .int .u64 (c : Int), .int .u64 (d : Int)] w fun e w' => e = .returned (.bool true) ∧ Below w.heap.size w w' := by
  have C1 := Lib.hid (fun W : World => ratio_zero a b c d W h)
  have C2 := Lib.hid (fun W : World => ratio_zero c d a b W h.symm)
  rcases Nat.eq_zero_or_pos b with h0 | h0
  · have t1 : ((b : Int) == 0) = true := by rw [h0]; rfl
    clear h h0
    go_enter Try.func6, Try.ntmps6
    go_wp2_with fail
    refine (lives_any _).mono ?_
    rintro e w1 ⟨rfl, h1⟩
    go_wp2_with fail
    refine (C1.out _).mono ?_
    rintro e w2 ⟨rfl, h2⟩
    go_wp2_with fail
    refine (C2.out _).mono ?_
    rintro e w3 ⟨rfl, h3⟩
    go_wp2
    go_ret
    have s1 := h1.size
    have s2 := h2.size
    exact ⟨rfl, (h1.trans (h2.mono s1)).trans (h3.mono (by omega))⟩
  · have t1 : ((b : Int) == 0) = false := by simp; omega
    have t2 : ((d : Int) == 0) = true := by rw [show d = 0 by omega]; rfl
    clear h h0
    go_enter Try.func6, Try.ntmps6
    go_wp2_with fail
    refine (lives_any _).mono ?_
    rintro e w1 ⟨rfl, h1⟩
    go_wp2_with fail
    refine (C1.out _).mono ?_
    rintro e w2 ⟨rfl, h2⟩
    go_wp2_with fail
    refine (C2.out _).mono ?_
    rintro e w3 ⟨rfl, h3⟩
    go_wp2
    go_ret
    have s1 := h1.size
    have s2 := h2.size
    exact ⟨rfl, (h1.trans (h2.mono s1)).trans (h3.mono (by omega))⟩

theorem full_case (a b c d : Nat) (w : World) (ha : a < 18446744073709551616) (hb : b < 18446744073709551616) (hc : c < 18446744073709551616) (hd : d < 18446744073709551616) (hb0 : b ≠ 0) (hd0 : d ≠ 0) :
    Calls Try.prog 6 #[.int .u64 (a : Int), .int .u64 (b : Int), .int .u64 (c : Int), .int .u64 (d : Int)] w fun e w' => e = .returned (.bool true) ∧ Below w.heap.size w w' := by
  have t1 : ((b : Int) == 0) = false := by simp; omega
  have t2 : ((d : Int) == 0) = false := by simp; omega
  have C1 := fun W : World => ratio_any a b c d W ha hb hc hd hb0 hd0
  have C2 := fun W : World => ratio_any c d a b W hc hd ha hb hd0 hb0
  have HA := Lib.hid (show a < 2 ^ 64 from ha)
  have HB := Lib.hid (show b < 2 ^ 64 from hb)
  have HC := Lib.hid (show c < 2 ^ 64 from hc)
  have HD := Lib.hid (show d < 2 ^ 64 from hd)
  have O1 := Lib.hid (fun W : World => of_any W a ha)
  have O2 := Lib.hid (fun W : World => of_any W d hd)
  have O3 := Lib.hid (fun W : World => of_any W c hc)
  have O4 := Lib.hid (fun W : World => of_any W b hb)
  have hcase : c * b < a * d ∨ a * d = c * b ∨ a * d < c * b := by omega
  have hsg : ∃ x : Int, (x = 1 ∨ x = 0 ∨ x = -1) ∧ sgn (a * d) (c * b) = x ∧ sgn (c * b) (a * d) = -x := by
    rcases hcase with h | h | h
    · exact ⟨1, .inl rfl, sgn_gt h, sgn_lt h⟩
    · exact ⟨0, .inr (.inl rfl), sgn_eq h, sgn_eq h.symm⟩
    · exact ⟨-1, .inr (.inr rfl), sgn_lt h, sgn_gt h⟩
  obtain ⟨x, hx, hs1, hs2⟩ := hsg
  rw [hs1] at C1
  rw [hs2] at C2
  have H1 := Lib.hid C1
  have H2 := Lib.hid C2
  have S1 := Lib.hid hs1
  clear C1 C2 hs1 hs2 hcase ha hb hc hd hb0 hd0
  rcases hx with rfl | rfl | rfl
  all_goals
    go_enter Try.func6, Try.ntmps6
    go_wp2_with fail
    refine (lives_any _).mono ?_
    rintro e w1 ⟨rfl, h1⟩
    go_wp2_with fail
    refine (H1.out _).mono ?_
    rintro e w2 ⟨rfl, h2⟩
    go_wp2_with fail
    refine (H2.out _).mono ?_
    rintro e w3 ⟨rfl, h3⟩
    go_wp2_with fail
    refine (O1.out _).mono ?_
    rintro e w4 ⟨v4, rfl, n4, h4⟩
    go_wp2_with fail
    refine (O2.out _).mono ?_
    rintro e w5 ⟨v5, rfl, n5, h5⟩
    go_wp2_with fail
    refine (mul_any 64 64 (n4.below h5) n5 HA.out HD.out (by decide)).mono ?_
    rintro e w6 ⟨v6, rfl, n6, h6⟩
    go_wp2_with fail
    refine (O3.out _).mono ?_
    rintro e w7 ⟨v7, rfl, n7, h7⟩
    go_wp2_with fail
    refine (O4.out _).mono ?_
    rintro e w8 ⟨v8, rfl, n8, h8⟩
    go_wp2_with fail
    refine (mul_any 64 64 (n7.below h8) n8 HC.out HB.out (by decide)).mono ?_
    rintro e w9 ⟨v9, rfl, n9, h9⟩
    go_wp2_with fail
    refine (cmp_num 128 (((n6.below h7).below h8).below h9) n9 (mul_lt_pow HA.out HD.out) (mul_lt_pow HC.out HB.out) (by decide)).mono ?_
    rintro e w' ⟨rfl, rfl⟩
    rw [S1.out]
    go_wp2
    go_ret
    have s1 := h1.size
    have s2 := h2.size
    have s3 := h3.size
    have s4 := h4.size
    have s5 := h5.size
    have s6 := h6.size
    have s7 := h7.size
    have s8 := h8.size
    exact ⟨rfl, (((((((h1.trans (h2.mono s1)).trans (h3.mono (by omega))).trans (h4.mono (by omega))).trans (h5.mono (by omega))).trans (h6.mono (by omega))).trans (h7.mono (by omega))).trans (h8.mono (by omega))).trans (h9.mono (by omega))⟩

theorem walk (a0 : Int) (a1 : Int) (a2 : Int) (a3 : Int) (w0 : (Lit.int .u64 a0).wf = true) (w1 : (Lit.int .u64 a1).wf = true) (w2 : (Lit.int .u64 a2).wf = true) (w3 : (Lit.int .u64 a3).wf = true) (w : World) :
    Calls Try.prog 6 #[.int .u64 a0, .int .u64 a1, .int .u64 a2, .int .u64 a3] w fun e w' => e = .returned (.bool true) ∧ Below w.heap.size w w' := by
  obtain ⟨a, rfl, ha⟩ := nat_of_wf w0
  obtain ⟨b, rfl, hb⟩ := nat_of_wf w1
  obtain ⟨c, rfl, hc⟩ := nat_of_wf w2
  obtain ⟨d, rfl, hd⟩ := nat_of_wf w3
  by_cases h : b = 0 ∨ d = 0
  · exact zero_case a b c d w h
  · exact full_case a b c d w ha hb hc hd (fun e => h (.inl e)) (fun e => h (.inr e))

/-! ### the row, from the walk -/
set_option maxRecDepth 100000 in
theorem lifted (os : Os) (started : os.Started) (H : Type) (enc : TypeId × Value → H) :
    ReturnsInHanded {} Try.checked os 6 .any (Rows.wideRatiosSpec.pre6 enc Try.prog Try.f6 Rows.wideRatiosRow.domain false) (Rows.wideRatiosSpec.post enc Try.prog Try.f6 false true false false) := by
  refine returnsInHanded_of_change (C := Try.checked) own started (by kernel_rfl) Try.func6
    (ChangeSpec.witness6 (enc := enc) (C := Try.checked) false ⟨#[], #[.int .u64 0, .int .u64 0, .int .u64 0, .int .u64 0], []⟩ 8 (by kernel_rfl) (by kernel_rfl) (by kernel_rfl) (by kernel_rfl)) ?_
  intro W base args ds gs before hval0 hW hcnd _
  have hval : ∀ (j : Nat) t v, Try.f6.params[j]? = some t → args[j]? = some v → Value.okWide Try.prog W .any base t v := hval0
  have hW' := hW
  obtain ⟨p, q, hA0, hV, rfl, hfz, hnd⟩ := hW
  have hA : DataW.TrodAll enc Try.prog W 0 (fun _ => true) true Try.f6.params.toList args.toList ds p := hA0
  rw [Try.params6] at hA hval
  obtain ⟨v0, vs0, d0, ds0, p0, q0, hargs, rfl, rfl, h0, r0⟩ := trodAll_cons hA
  obtain ⟨v1, vs1, d1, ds1, p1, q1, rfl, rfl, rfl, h1, r1⟩ := trodAll_cons r0
  obtain ⟨v2, vs2, d2, ds2, p2, q2, rfl, rfl, rfl, h2, r2⟩ := trodAll_cons r1
  obtain ⟨v3, vs3, d3, ds3, p3, q3, rfl, rfl, rfl, h3, r3⟩ := trodAll_cons r2
  obtain ⟨rfl, rfl, rfl⟩ := trodAll_nil r3
  obtain rfl : args = #[v0, v1, v2, v3] := by cases args; simp_all
  obtain ⟨rfl, rfl⟩ := trodVars_none hV
  obtain ⟨a0, rfl, rfl, rfl, w0⟩ := open_int Try.underlying22 (hval 0 22 v0 rfl rfl) h0
  obtain ⟨a1, rfl, rfl, rfl, w1⟩ := open_int Try.underlying22 (hval 1 22 v1 rfl rfl) h1
  obtain ⟨a2, rfl, rfl, rfl, w2⟩ := open_int Try.underlying22 (hval 2 22 v2 rfl rfl) h2
  obtain ⟨a3, rfl, rfl, rfl, w3⟩ := open_int Try.underlying22 (hval 3 22 v3 rfl rfl) h3
  clear hA0 hval0
  simp only [List.append_nil] at hW'
  refine (walk a0 a1 a2 a3 w0 w1 w2 w3 W).mono fun e W' ⟨he, hg⟩ => ?_
  subst he
  exact ⟨_, rfl, post_below hW' hg (fun _ _ _ => (trodAll_cons_mk (shut_bool Try.underlying4 _) trodAll_mk0)) (fun sp _ => (trodAll_cons_mk (shut_int Try.underlying22 w0) (trodAll_cons_mk (shut_int Try.underlying22 w1) (trodAll_cons_mk (shut_int Try.underlying22 w2) (trodAll_cons_mk (shut_int Try.underlying22 w3) trodAll_mk0))))) (fun _ => rfl) (ok_one (by kernel_rfl) rfl (okWide_bool_mk Try.underlying4 _))⟩

theorem over : Rows.wideRatiosRow.holds Try.pinned (OpenSpec.ofChange Rows.wideRatiosSpec) :=
  OpenClaim.holds_of_wide 6 Try.f6 rfl rfl rfl rfl rfl rfl rfl ⟨rfl, rfl, rfl, rfl, rfl⟩ rfl rfl rfl rfl rfl (by kernel_rfl) Try.func6 (by kernel_rfl)
    (of_decide_eq_true (by kernel_rfl)) (by unfold Func.isWrapper; first | (rw [if_pos (by decide +kernel)]; kernel_rfl) | (rw [if_neg (by decide +kernel)]; exact ⟨rfl, rfl⟩))
    (fun os started H enc _ => lifted os started H enc)

/-- The statement. -/
theorem proved : Rows.WideRatiosSaid :=
  over
#print axioms proved
end Go.Proofs.Ytmfilgagdilmbaa.wideRatios

