/- What the law's own reading of a sample answers: subnormal and great numbers; all cases; that it is what 'Read' answers. -/
import Derived.Test.YtalhajnekpbkoaaGaugeC
namespace Go.Proofs.Ytalhajnekpbkoaa
open Go.RowKit
set_option linter.unusedVariables false

theorem lread_low (x D K : Nat) (w : World) (hx : x < 4503599627370496) (hD : D = 2 ^ 1074) (hD64 : 2 ^ 64 ≤ D) (hDK : D < 2 ^ K) (hK : 64 ≤ K) (hK2 : K ≤ 10000) :
    Calls Try.prog 10 #[.int .u64 (x : Int)] w fun e w' => e = .returned (.tuple #[.int .i64 0, .int .i64 0]) ∧ Below w.heap.size w w' := by
  have e1 : (x : Int) / 4503599627370496 % 2048 = 0 := by omega
  have e5 : (x : Int) % 4503599627370496 = (x : Int) := by omega
  have e3 : ((x : Int) == 9223372036854775808) = false := by simp; omega
  have e4 : (x : Int) / 9223372036854775808 = 0 := by omega
  obtain ⟨u, hu⟩ : ∃ u, u = x * 1000 := ⟨_, rfl⟩
  have hq0 : u / D = 0 := Nat.div_eq_of_lt (by omega)
  have hr0 : u % D = u := Nat.mod_eq_of_lt (by omega)
  have hK64 : 2 ^ 64 ≤ 2 ^ K := pow_le2 (by omega)
  have hKK : 2 ^ (K + 1) = 2 * 2 ^ K := by rw [Nat.pow_succ]; omega
  have O1 := Lib.hid (fun W : World => of_any W x (by omega))
  have O2 := Lib.hid (fun W : World => of_any W 1000 (by decide))
  have O3 := Lib.hid (fun W : World => of_any W 1 (by decide))
  have O4 := Lib.hid (fun W : World => of_any W 9007199254740992 (by decide))
  have P := Lib.hid (fun W : World => power_any 1074 W (by decide))
  rw [← hD] at P
  have B1 := Lib.hid (show x < 2 ^ 64 by omega)
  have BU := Lib.hid (show u < 2 ^ K by omega)
  have BD := Lib.hid hDK
  have B2R := Lib.hid (show u + u < 2 ^ (K + 1) by omega)
  have BD1 := Lib.hid (show D < 2 ^ (K + 1) by omega)
  have HD0 := Lib.hid (show 0 < D by omega)
  have s := sgn_lt (show u + u < D by omega)
  have S := Lib.hid s
  have T := sgn_within (show 0 ≤ 9007199254740992 by decide)
  have HU := Lib.hid hu
  have HQ0 := Lib.hid hq0
  have HR0 := Lib.hid hr0
  clear hx hD hD64 hDK hu hq0 hr0 hK64 hKK s
  go_enter Try.func10, Try.ntmps10
  go_wp2_with fail
  refine (O1.out _).mono ?_
  rintro e w1 ⟨v1, rfl, n1, h1⟩
  go_wp2_with fail
  refine (O2.out _).mono ?_
  rintro e w2 ⟨v2, rfl, n2, h2⟩
  go_wp2_with fail
  refine (mul_any 64 64 (n1.below h2) n2 B1.out (by decide) (by decide)).mono ?_
  rintro e w3 ⟨v3, rfl, n3, h3⟩
  rw [← HU.out] at n3
  go_wp2_with fail
  refine (O3.out _).mono ?_
  rintro e w4 ⟨v4, rfl, n4, h4⟩
  go_wp2_with fail
  refine (P.out _).mono ?_
  rintro e w5 ⟨v5, rfl, n5, h5⟩
  have n3' := Lib.hid ((n3.below h4).below h5)
  have n5' := Lib.hid n5
  clear n3 n5
  go_wp2_with fail
  refine (div_any K n3'.out n5'.out BU.out BD.out HD0.out (by omega)).mono ?_
  rintro e w6 ⟨v6, v7, rfl, n6, n7, h6⟩
  rw [HQ0.out] at n6
  rw [HR0.out] at n7
  go_wp2_with fail
  refine (add_any K n7 n7 BU.out BU.out (by omega)).mono ?_
  rintro e w7 ⟨v8, rfl, n8, h7⟩
  go_wp2_with fail
  refine (cmp_num (K + 1) n8 ((n5'.out.below h6).below h7) B2R.out BD1.out (by omega)).mono ?_
  rintro e w' ⟨rfl, rfl⟩
  have N6 := Lib.hid (n6.below h7)
  have hbel : Below w.heap.size w w7 := ((((((h1.trans (h2.mono h1.size)).trans (h3.mono (by have := h1.size; have := h2.size; omega))).trans (h4.mono (by have := h1.size; have := h2.size; have := h3.size; omega))).trans (h5.mono (by have := h1.size; have := h2.size; have := h3.size; have := h4.size; omega))).trans (h6.mono (by have := h1.size; have := h2.size; have := h3.size; have := h4.size; have := h5.size; omega)))).trans (h7.mono (by have := h1.size; have := h2.size; have := h3.size; have := h4.size; have := h5.size; have := h6.size; omega))
  clear n1 n2 n4 n7 n8 h1 h2 h3 h4 h5 h6 h7 n6
  obtain ⟨l6, row6, bin6, tig6, val6⟩ := id N6.out
  obtain ⟨ad6, c6, rfl, hc6, ha6, hb6, hcells⟩ := row6
  have hz := (tig6.zero_iff bin6).2 val6
  obtain rfl : l6 = [] := List.eq_nil_of_length_eq_zero hz
  have HB := Lib.hid hbel
  clear hz hcells tig6 val6 bin6 hc6 ha6 hb6 hbel
  rw [S.out]
  go_wp2_with fail
  refine (O4.out _).mono ?_
  rintro e w10 ⟨v11, rfl, n11, h10⟩
  go_wp2_with fail
  refine (cmp_num 65 (N6.out.below h10) n11 (by decide) (by decide) (by decide)).mono ?_
  rintro e w' ⟨rfl, rfl⟩
  go_wp2_with fail
  refine (number_num (N6.out.below h10) 65 (by decide) (by decide)).mono ?_
  rintro e w' ⟨rfl, rfl⟩
  have lo : low 0 = 0 := rfl
  rw [lo]
  go_wp2
  go_ret2
  exact ⟨rfl, HB.out.trans (h10.mono HB.out.size)⟩

theorem lread_high (x E m sg t K : Nat) (w : World) (hE : E < 2047) (hE2 : 1075 ≤ E) (hx : x = E * 4503599627370496 + m) (hm : m < 4503599627370496) (hsg : sg = m + 4503599627370496) (ht : t + 1075 = E) (hK : 1100 ≤ K) (hK2 : K ≤ 10000) :
    Calls Try.prog 10 #[.int .u64 (x : Int)] w fun e w' => e = .returned (.tuple #[.int .i64 0, .int .i64 3]) ∧ Below w.heap.size w w' := by
  have e1 : (x : Int) / 4503599627370496 % 2048 = (E : Int) := by omega
  have e5 : (x : Int) % 4503599627370496 = (m : Int) := by omega
  have e2 : ((E : Int) == 2047) = false := by simp; omega
  have e3 : ((x : Int) == 9223372036854775808) = false := by simp; omega
  have e4 : (x : Int) / 9223372036854775808 = 0 := by omega
  have e6 : 0 < E := by omega
  have e7 : IntKind.u64.wrap ((m : Int) + 4503599627370496) = (sg : Int) := by
    have : (m : Int) + 4503599627370496 = (sg : Int) := by omega
    rw [this]; exact wrapN sg (by omega)
  have e8 : decide (1075 ≤ (E : Int)) = true := by simp; omega
  have e9 : (E : Int) - 1075 = (t : Int) := by omega
  obtain ⟨u, hu⟩ : ∃ u, u = sg * 1000 := ⟨_, rfl⟩
  obtain ⟨q0, hq0⟩ : ∃ q, q = u * 2 ^ t := ⟨_, rfl⟩
  have hK64 : 2 ^ 64 ≤ 2 ^ K := pow_le2 (by omega)
  have hqu : 9007199254740992 < q0 := by
    have h1 : u * 1 ≤ u * 2 ^ t := Nat.mul_le_mul_left _ (Nat.two_pow_pos _)
    omega
  have hqK : q0 < 2 ^ K := by
    have h1 : u < 2 ^ 64 := by omega
    have h2 : 2 ^ t < 2 ^ (t + 1) := pow_lt2 (by omega)
    have h3 := mul_lt_pow h1 h2
    rw [hq0]
    exact Nat.lt_of_lt_of_le h3 (pow_le2 (by omega))
  have O1 := Lib.hid (fun W : World => of_any W sg (by omega))
  have O2 := Lib.hid (fun W : World => of_any W 1000 (by decide))
  have O3 := Lib.hid (fun W : World => of_any W 1 (by decide))
  have O4 := Lib.hid (fun W : World => of_any W 9007199254740992 (by decide))
  have P := Lib.hid (fun W : World => power_any t W (by omega))
  have B1 := Lib.hid (show sg < 2 ^ 64 by omega)
  have BU := Lib.hid (show u < 2 ^ 64 by omega)
  have BP := Lib.hid (show 2 ^ t < 2 ^ (t + 1) from pow_lt2 (by omega))
  have BQ := Lib.hid hqK
  have BO := Lib.hid (show 1 < 2 ^ K by omega)
  have T := sgn_over hqu
  have BM := Lib.hid (show 9007199254740992 < 2 ^ K by omega)
  have BT := Lib.hid (show 64 + (t + 1) ≤ 1000000 by omega)
  have HU := Lib.hid hu
  have HQ0 := Lib.hid hq0
  have H0 := Lib.hid (show 0 < q0 by omega)
  clear hx hm hsg ht hu hq0 hK64 hqu hqK hE hE2
  go_enter Try.func10, Try.ntmps10
  go_wp2_with fail
  refine (O1.out _).mono ?_
  rintro e w1 ⟨v1, rfl, n1, h1⟩
  go_wp2_with fail
  refine (O2.out _).mono ?_
  rintro e w2 ⟨v2, rfl, n2, h2⟩
  go_wp2_with fail
  refine (mul_any 64 64 (n1.below h2) n2 B1.out (by decide) (by decide)).mono ?_
  rintro e w3 ⟨v3, rfl, n3, h3⟩
  rw [← HU.out] at n3
  go_wp2_with fail
  refine (O3.out _).mono ?_
  rintro e w4 ⟨v4, rfl, n4, h4⟩
  go_wp2_with fail
  refine (P.out _).mono ?_
  rintro e w5 ⟨v5, rfl, n5, h5⟩
  have n3' := Lib.hid ((n3.below h4).below h5)
  have n5' := Lib.hid n5
  clear n3 n5
  go_wp2_with fail
  refine (mul_any 64 (t + 1) n3'.out n5'.out BU.out BP.out BT.out).mono ?_
  rintro e w5b ⟨v5b, rfl, n5b, h5b⟩
  rw [← HQ0.out] at n5b
  have n5b' := Lib.hid n5b
  have n4' := Lib.hid ((n4.below h5).below h5b)
  clear n5b
  go_wp2_with fail
  refine (div_any K n5b'.out n4'.out BQ.out BO.out (by decide) (by omega)).mono ?_
  rintro e w6 ⟨v6, v7, rfl, n6, n7, h6⟩
  rw [Nat.div_one] at n6
  rw [Nat.mod_one] at n7
  go_wp2_with fail
  refine (add_any 1 n7 n7 (by decide) (by decide) (by decide)).mono ?_
  rintro e w7 ⟨v8, rfl, n8, h7⟩
  go_wp2_with fail
  refine (cmp_num 1 n8 ((n4'.out.below h6).below h7) (by decide) (by decide) (by decide)).mono ?_
  rintro e w' ⟨rfl, rfl⟩
  rw [show sgn (0 + 0) 1 = -1 by decide]
  have N6 := Lib.hid (n6.below h7)
  have hbel : Below w.heap.size w w7 := (((((((h1.trans (h2.mono h1.size)).trans (h3.mono (by have := h1.size; have := h2.size; omega))).trans (h4.mono (by have := h1.size; have := h2.size; have := h3.size; omega))).trans (h5.mono (by have := h1.size; have := h2.size; have := h3.size; have := h4.size; omega))).trans (h5b.mono (by have := h1.size; have := h2.size; have := h3.size; have := h4.size; have := h5.size; omega))).trans (h6.mono (by have := h1.size; have := h2.size; have := h3.size; have := h4.size; have := h5.size; have := h5b.size; omega)))).trans (h7.mono (by have := h1.size; have := h2.size; have := h3.size; have := h4.size; have := h5.size; have := h5b.size; have := h6.size; omega))
  clear n1 n2 n4 n7 n8 h1 h2 h3 h4 h5 h5b h6 h7 n6
  obtain ⟨l6, row6, bin6, tig6, val6⟩ := id N6.out
  obtain ⟨ad6, c6, rfl, hc6, ha6, hb6, hcells⟩ := row6
  have hz := tig6.zero_iff bin6
  rw [val6] at hz
  have hl : 0 < l6.length := by
    have := H0.out
    omega
  have hget := get_bit l6 bin6 0
  rw [val6] at hget
  have had : ad6.add 0 = ad6 := by unfold Addr.add; rw [if_pos rfl]
  have hodd : w7.cell? ad6 = some (.int .u8 ((q0 % 2 : Nat) : Int)) := by
    have := (show Cells w7 ad6 l6 from hcells).at_ hl
    rw [had, hget] at this
    rw [this]
    simp [bit]
  have hpar : w7.cell? ad6 = some (.int .u8 1) ∨ w7.cell? ad6 = some (.int .u8 0) := by
    rcases Nat.mod_two_eq_zero_or_one q0 with g | g
    · exact .inr (by rw [hodd, g]; rfl)
    · exact .inl (by rw [hodd, g]; rfl)
  have HB := Lib.hid hbel
  clear hz hcells tig6 val6 bin6 hc6 ha6 hb6 hbel hodd had hget
  rcases hpar with z | z
  all_goals
    go_wp2_with fail
    refine (O4.out _).mono ?_
    rintro e w10 ⟨v11, rfl, n11, h10⟩
    go_wp2_with fail
    refine (cmp_num K (N6.out.below h10) n11 BQ.out BM.out (by omega)).mono ?_
    rintro e w' ⟨rfl, rfl⟩
    go_wp2
    go_ret2
    exact ⟨rfl, HB.out.trans (h10.mono HB.out.size)⟩

theorem mil_low {r : Nat} (h : r < 4503599627370496) : mil r = 0 := by
  have e2 : sig r = r := by unfold sig; rw [if_pos h]
  obtain ⟨T, hT⟩ : ∃ T, T = 1074 - upw r := ⟨_, rfl⟩
  have hT2 : 64 ≤ T := by rw [hT]; unfold upw; omega
  unfold mil
  rw [e2, ← hT]
  have p4 : 2 ^ 64 ≤ 2 ^ T := pow_le2 hT2
  generalize 2 ^ T = B at *
  exact rne_low (by omega)
theorem pow_big (T : Nat) (h : 64 ≤ T) (K : Nat) (hK : T < K) : ∃ D, D = 2 ^ T ∧ 2 ^ 64 ≤ D ∧ D < 2 ^ K := ⟨_, rfl, pow_le2 h, pow_lt2 hK⟩
theorem ret_rde {a b c d : Int} {e : Ending} (he : e = .returned (.tuple #[.int .i64 a, .int .i64 b])) (h : a = c) (g : b = d) : e = .returned (.tuple #[.int .i64 c, .int .i64 d]) := by rw [he, h, g]
/-- What the law reads is what 'Read' answers. -/
theorem lread_any (x : Nat) (w : World) (hx : x < 18446744073709551616) :
    Calls Try.prog 10 #[.int .u64 (x : Int)] w fun e w' => e = .returned (.tuple #[.int .i64 (rdV x : Int), .int .i64 (rdE x : Int)]) ∧ Below w.heap.size w w' := by
  by_cases hn : 9218868437227405312 < x % 9223372036854775808
  · have v1 : rdE x = 2 := by unfold rdE; rw [if_pos hn]
    have v2 : rdV x = 0 := by unfold rdV; rw [v1]; rfl
    rw [v1, v2]
    refine (lread_nan x w hx hn).mono ?_
    rintro e w' ⟨he, rfl⟩
    exact ⟨he, Below.refl _ _⟩
  by_cases h0 : x = 9223372036854775808
  · have v1 : rdE x = 0 := by unfold rdE; rw [if_neg hn, if_pos h0]
    have v2 : rdV x = 0 := by
      unfold rdV; rw [if_pos v1, h0]
      exact mil_low (by decide)
    rw [v1, v2, h0]
    refine (lread_m0 w).mono ?_
    rintro e w' ⟨he, rfl⟩
    exact ⟨he, Below.refl _ _⟩
  have hcase : (9223372036854775808 < x ∨ x = 9218868437227405312) ∨ x < 9218868437227405312 := by omega
  rcases hcase with h | h
  · have v1 : rdE x = 3 := by unfold rdE; rw [if_neg hn, if_neg h0, if_pos (by omega)]
    have v2 : rdV x = 0 := by unfold rdV; rw [v1]; rfl
    rw [v1, v2]
    refine (lread_neg x w hx hn h).mono ?_
    rintro e w' ⟨he, rfl⟩
    exact ⟨he, Below.refl _ _⟩
  have hmod : x % 9223372036854775808 = x := Nat.mod_eq_of_lt (by omega)
  rcases Nat.lt_or_ge x 4503599627370496 with h1 | h1
  · have hm := mil_low h1
    have v1 : rdE x = 0 := by unfold rdE; rw [if_neg hn, if_neg h0, if_neg (by omega), if_neg (by omega)]
    have v2 : rdV x = 0 := by unfold rdV; rw [if_pos v1, hmod, hm]
    rw [v1, v2]
    obtain ⟨D, hD, a, b⟩ := pow_big 1074 (by decide) 1100 (by decide)
    exact lread_low x D 1100 w h1 hD a b (by decide) (by decide)
  obtain ⟨E, hE⟩ : ∃ E, E = x / 4503599627370496 := ⟨_, rfl⟩
  obtain ⟨m, hm⟩ : ∃ m, m = x % 4503599627370496 := ⟨_, rfl⟩
  have hxe : x = E * 4503599627370496 + m := by omega
  rcases Nat.lt_or_ge E 1075 with h2 | h2
  · have e2 : sig x = m + 4503599627370496 := by unfold sig; rw [if_neg (by omega), ← hm, Nat.add_comm]
    have e3 : 1074 - upw x = 1075 - E := by unfold upw; omega
    have hQ : mil x = rne ((m + 4503599627370496) * 1000) (2 ^ (1075 - E)) := by unfold mil; rw [e2, e3]
    have hbig : 4805340802404319232 ≤ x → 9007199254740992 < mil x := fun hb => by
      rw [hQ]
      obtain ⟨a, b, _⟩ := rne_spec (n := (m + 4503599627370496) * 1000) (Nat.two_pow_pos (1075 - E))
      have p : 2 ^ (1075 - E) ≤ 2 ^ 8 := pow_le2 (by omega)
      generalize rne ((m + 4503599627370496) * 1000) (2 ^ (1075 - E)) = q at *
      generalize 2 ^ (1075 - E) = d at *
      have h3 : q * d ≤ q * 256 := Nat.mul_le_mul_left _ p
      omega
    have hE' : rdE x = if 9007199254740992 < mil x then 3 else 0 := by
      unfold rdE
      rw [if_neg hn, if_neg h0]
      by_cases hb : 4805340802404319232 ≤ x
      · rw [if_pos hb, if_pos (hbig hb)]
      · rw [if_neg hb]
    refine (lread_mid x E m (m + 4503599627370496) (1075 - E) 1100 w (by omega) h2 hxe (by omega) rfl (by omega) (by decide) (by decide) (mil x) hQ (rdV x) (rdE x) ?_)
    rcases Nat.lt_or_ge 9007199254740992 (mil x) with g | g
    · left
      have v1 : rdE x = 3 := by rw [hE', if_pos g]
      have v2 : rdV x = 0 := by unfold rdV; rw [v1]; rfl
      rw [v1, v2]
      exact ⟨g, rfl, rfl⟩
    · right
      have v1 : rdE x = 0 := by rw [hE', if_neg (by omega)]
      have v2 : rdV x = mil x := by unfold rdV; rw [if_pos v1, hmod]
      rw [v1, v2]
      exact ⟨g, rfl, rfl⟩
  · have v1 : rdE x = 3 := by unfold rdE; rw [if_neg hn, if_neg h0, if_pos (by omega)]
    have v2 : rdV x = 0 := by unfold rdV; rw [v1]; rfl
    rw [v1, v2]
    exact lread_high x E m (m + 4503599627370496) (E - 1075) 1200 w (by omega) h2 hxe (by omega) rfl (by omega) (by decide) (by decide)

/-- The chapter's example, with which each law begins. -/
theorem lives_any (w : World) : Calls Try.prog 8 #[] w fun e w' => e = .returned (.bool true) ∧ ∃ k, w' = w.drewN k := by
  have M1 := Lib.hid (fun W : World => read_any 4591870180066957722 W (by decide))
  have M2 := Lib.hid (fun W : World => read_any 4557750909289998844 W (by decide))
  have v1 : rdE 4591870180066957722 = 0 := by decide +kernel
  have v2 : rdV 4591870180066957722 = 100 := by decide +kernel
  have v3 : rdE 4557750909289998844 = 0 := by decide +kernel
  have v4 : rdV 4557750909289998844 = 1 := by decide +kernel
  rw [v1, v2] at M1
  rw [v3, v4] at M2
  clear v1 v2 v3 v4
  go_enter Try.func8, Try.ntmps8
  go_wp2_with fail
  refine (M1.out _).mono ?_
  rintro e w1 ⟨rfl, k1, rfl⟩
  go_wp2_with fail
  refine (M2.out _).mono ?_
  rintro e w2 ⟨rfl, k2, rfl⟩
  go_wp2
  go_ret
  exact ⟨rfl, _, rfl⟩

end Go.Proofs.Ytalhajnekpbkoaa
