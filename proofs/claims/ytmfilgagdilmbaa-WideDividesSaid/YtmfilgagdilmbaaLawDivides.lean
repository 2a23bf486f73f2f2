/- Proved here: the law WideDivides of layer 1 holds for every wide number and every divisor of 64 bits: the quotient and the rest are exact, and by 0 it is refused. No conditions. -/
import Derived.Test.YtmfilgagdilmbaaRows
import Derived.Test.YtmfilgagdilmbaaRefE
import Derived.Test.YtmfilgagdilmbaaWideB
import Derived.Test.YtmfilgagdilmbaaPost
import Derived.ProofKit
import Derived.OpenShut
namespace Go.Proofs.Ytmfilgagdilmbaa.wideDivides
open Go.ChangeShapes Go.WideShapes Go.ChangeAt Go.RowKit
set_option linter.unusedVariables false

theorem own : ownKnob Try.prog.godebug = none := by kernel_rfl

theorem zero_case (h l : Nat) (w : World) :
    Calls Try.prog 4 #[.int .u64 (h : Int), .int .u64 (l : Int), .int .u64 0] w fun e w' => e = .returned (.bool true) ∧ Below w.heap.size w w' := by
  go_enter Try.func4, Try.ntmps4
  go_wp2_with fail
  refine (lives_any _).mono ?_
  rintro e w1 ⟨rfl, h1⟩
  go_wp2_with fail
  refine (wide_div0 _ _ _).mono ?_
  rintro e w2 ⟨rfl, h2⟩
  have s1 := h1.size
  have s2 := h2.size
  go_wp2
  go_ret
  exact ⟨rfl, (h1.trans (h2.mono s1)).alloc (by omega) _⟩

theorem full_case (h l y : Nat) (w : World) (hh : h < 18446744073709551616) (hl : l < 18446744073709551616) (hy : y < 18446744073709551616) (hy0 : 0 < y) :
    Calls Try.prog 4 #[.int .u64 (h : Int), .int .u64 (l : Int), .int .u64 (y : Int)] w fun e w' => e = .returned (.bool true) ∧ Below w.heap.size w w' := by
  have t1 : ((y : Int) == 0) = false := by simp; omega
  obtain ⟨N, hN⟩ : ∃ n, n = h * 2 ^ 64 + l := ⟨_, rfl⟩
  have hN128 : N < 2 ^ 128 := by rw [hN]; omega
  have hNH : N / 18446744073709551616 = h := by omega
  have hNL : N % 18446744073709551616 = l := by omega
  obtain ⟨Q, hQ⟩ : ∃ n, n = N / y / 18446744073709551616 := ⟨_, rfl⟩
  obtain ⟨P, hP⟩ : ∃ n, n = N / y % 18446744073709551616 := ⟨_, rfl⟩
  obtain ⟨R, hR⟩ : ∃ n, n = N % y := ⟨_, rfl⟩
  have C1 := Lib.hid (fun W : World => wide_divV N y h l Q P R W hy0 (by rw [hNH]; exact hh) hy hNH.symm hNL.symm hQ hP hR)
  have hRy : R < y := by rw [hR]; exact Nat.mod_lt _ hy0
  have hqle : N / y ≤ N := Nat.div_le_self _ _
  have e1 : low (N / y / 2 ^ 64) = Q := by
    rw [show (2 : Nat) ^ 64 = 18446744073709551616 by decide, ← hQ]
    refine low_of ?_
    have : N / y / 18446744073709551616 ≤ N / 18446744073709551616 := Nat.div_le_div_right hqle
    omega
  have e2 : low (N / y) = P := hP.symm
  have e3 : low R = R := low_of (by omega)
  have E1 := Lib.hid e1
  have E2 := Lib.hid e2
  have E3 := Lib.hid e3
  have HR := Lib.hid hR
  have J := Lib.hid (fun W : World => join_any W h l hh hl)
  have O := Lib.hid (fun W : World => of_any W y hy)
  have HN := Lib.hid hN
  have HB := Lib.hid hN128
  have HY := Lib.hid (show y < 2 ^ 128 by omega)
  have HQB := Lib.hid (Nat.lt_of_le_of_lt hqle hN128)
  have HRB := Lib.hid (show R < 2 ^ 128 by omega)
  clear e1 e2 e3 hR hQ hP hNH hNL hN hN128 hqle hRy
  go_enter Try.func4, Try.ntmps4
  go_wp2_with fail
  refine (lives_any _).mono ?_
  rintro e w1 ⟨rfl, h1⟩
  go_wp2_with fail
  refine (C1.out _).mono ?_
  rintro e w2 ⟨rfl, h2⟩
  have s1 := h1.size
  have s2 := h2.size
  have b2 : Below w.heap.size w (w2.alloc (.cells #[.int .u64 (Q : Int), .int .u64 (P : Int)] 29)) := (h1.trans (h2.mono s1)).alloc (by omega) _
  go_wp2_with fail
  refine (J.out _).mono ?_
  rintro e w3 ⟨v3, rfl, n3, h3⟩
  rw [← HN.out] at n3
  have s3 := h3.size
  go_wp2_with fail
  refine (O.out _).mono ?_
  rintro e w4 ⟨v4, rfl, n4, h4⟩
  have s4 := h4.size
  go_wp2_with fail
  refine (div_any 128 (n3.below h4) n4 HB.out HY.out hy0 (by decide)).mono ?_
  rintro e w5 ⟨v5, u5, rfl, n5, m5, h5⟩
  rw [← HR.out] at m5
  have s5 := h5.size
  go_wp2_with fail
  refine (two_num n5 128 HQB.out (by decide)).mono ?_
  rintro e w6 ⟨rfl, h6⟩
  rw [E1.out, E2.out]
  have s6 := h6.size
  go_wp2_with fail
  refine (number_num (m5.below h6) 128 HRB.out (by decide)).mono ?_
  rintro e w' ⟨rfl, rfl⟩
  rw [E3.out]
  have k2 : Below (w2.heap.size + 1) (w2.alloc (.cells #[.int .u64 (Q : Int), .int .u64 (P : Int)] 29)) w6 := by
    simp only [World.size_alloc] at h3 s3
    exact (((h3.trans (h4.mono s3)).trans (h5.mono (by omega))).trans (h6.mono (by omega)))
  have c0 : w6.cell? ⟨w2.heap.size, 0, none⟩ = some (.int .u64 (Q : Int)) := by
    rw [k2.cell (p := ⟨w2.heap.size, 0, none⟩) (Nat.lt_succ_self _)]
    simp
  have c1 : w6.cell? ⟨w2.heap.size, 1, none⟩ = some (.int .u64 (P : Int)) := by
    rw [k2.cell (p := ⟨w2.heap.size, 1, none⟩) (Nat.lt_succ_self _)]
    simp
  have bend : Below w.heap.size w w6 := b2.trans (k2.mono (by omega))
  clear k2 b2 h3 h4 h5 h6 n3 n4 n5 m5
  go_wp2
  go_ret
  exact ⟨rfl, bend⟩

theorem walk (a0 : Int) (a1 : Int) (a2 : Int) (w0 : (Lit.int .u64 a0).wf = true) (w1 : (Lit.int .u64 a1).wf = true) (w2 : (Lit.int .u64 a2).wf = true) (w : World) :
    Calls Try.prog 4 #[.int .u64 a0, .int .u64 a1, .int .u64 a2] w fun e w' => e = .returned (.bool true) ∧ Below w.heap.size w w' := by
  obtain ⟨h, rfl, hh⟩ := nat_of_wf w0
  obtain ⟨l, rfl, hl⟩ := nat_of_wf w1
  obtain ⟨y, rfl, hy⟩ := nat_of_wf w2
  rcases Nat.eq_zero_or_pos y with rfl | hy0
  · exact zero_case h l w
  · exact full_case h l y w hh hl hy hy0

/-! ### the row, from the walk -/
set_option maxRecDepth 100000 in
theorem lifted (os : Os) (started : os.Started) (H : Type) (enc : TypeId × Value → H) :
    ReturnsInHanded {} Try.checked os 4 .any (Rows.wideDividesSpec.pre6 enc Try.prog Try.f4 Rows.wideDividesRow.domain false) (Rows.wideDividesSpec.post enc Try.prog Try.f4 false true false false) := by
  refine returnsInHanded_of_change (C := Try.checked) own started (by kernel_rfl) Try.func4
    (ChangeSpec.witness6 (enc := enc) (C := Try.checked) false ⟨#[], #[.int .u64 0, .int .u64 0, .int .u64 0], []⟩ 8 (by kernel_rfl) (by kernel_rfl) (by kernel_rfl) (by kernel_rfl)) ?_
  intro W base args ds gs before hval0 hW hcnd _
  have hval : ∀ (j : Nat) t v, Try.f4.params[j]? = some t → args[j]? = some v → Value.okWide Try.prog W .any base t v := hval0
  have hW' := hW
  obtain ⟨p, q, hA0, hV, rfl, hfz, hnd⟩ := hW
  have hA : DataW.TrodAll enc Try.prog W 0 (fun _ => true) true Try.f4.params.toList args.toList ds p := hA0
  rw [Try.params4] at hA hval
  obtain ⟨v0, vs0, d0, ds0, p0, q0, hargs, rfl, rfl, h0, r0⟩ := trodAll_cons hA
  obtain ⟨v1, vs1, d1, ds1, p1, q1, rfl, rfl, rfl, h1, r1⟩ := trodAll_cons r0
  obtain ⟨v2, vs2, d2, ds2, p2, q2, rfl, rfl, rfl, h2, r2⟩ := trodAll_cons r1
  obtain ⟨rfl, rfl, rfl⟩ := trodAll_nil r2
  obtain rfl : args = #[v0, v1, v2] := by cases args; simp_all
  obtain ⟨rfl, rfl⟩ := trodVars_none hV
  obtain ⟨a0, rfl, rfl, rfl, w0⟩ := open_int Try.underlying22 (hval 0 22 v0 rfl rfl) h0
  obtain ⟨a1, rfl, rfl, rfl, w1⟩ := open_int Try.underlying22 (hval 1 22 v1 rfl rfl) h1
  obtain ⟨a2, rfl, rfl, rfl, w2⟩ := open_int Try.underlying22 (hval 2 22 v2 rfl rfl) h2
  clear hA0 hval0
  simp only [List.append_nil] at hW'
  refine (walk a0 a1 a2 w0 w1 w2 W).mono fun e W' ⟨he, hg⟩ => ?_
  subst he
  exact ⟨_, rfl, post_below hW' hg (fun _ _ _ => (trodAll_cons_mk (shut_bool Try.underlying4 _) trodAll_mk0)) (fun sp _ => (trodAll_cons_mk (shut_int Try.underlying22 w0) (trodAll_cons_mk (shut_int Try.underlying22 w1) (trodAll_cons_mk (shut_int Try.underlying22 w2) trodAll_mk0)))) (fun _ => rfl) (ok_one (by kernel_rfl) rfl (okWide_bool_mk Try.underlying4 _))⟩

theorem over : Rows.wideDividesRow.holds Try.pinned (OpenSpec.ofChange Rows.wideDividesSpec) :=
  OpenClaim.holds_of_wide 4 Try.f4 rfl rfl rfl rfl rfl rfl rfl ⟨rfl, rfl, rfl, rfl, rfl⟩ rfl rfl rfl rfl rfl (by kernel_rfl) Try.func4 (by kernel_rfl)
    (of_decide_eq_true (by kernel_rfl)) (by unfold Func.isWrapper; first | (rw [if_pos (by decide +kernel)]; kernel_rfl) | (rw [if_neg (by decide +kernel)]; exact ⟨rfl, rfl⟩))
    (fun os started H enc _ => lifted os started H enc)

/-- The statement. -/
theorem proved : Rows.WideDividesSaid :=
  over
#print axioms proved
end Go.Proofs.Ytmfilgagdilmbaa.wideDivides

