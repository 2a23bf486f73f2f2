/- What the document's answers of layer 3 are: 'Ceil', 'Floor', 'Near'. -/
import Derived.Test.YtajkhbdniadkkaaRefE
import Derived.Test.YtajkhbdniadkkaaQRight
namespace Go.Proofs.Ytajkhbdniadkkaa
open Go.RowKit
set_option linter.unusedVariables false

def upDiv (a b y : Nat) : Nat := a * b / y + (if a * b % y = 0 then 0 else 1)
theorem upDiv_even {a b y : Nat} (h : a * b % y = 0) : upDiv a b y = a * b / y := by unfold upDiv; rw [if_pos h, Nat.add_zero]
theorem upDiv_odd {a b y : Nat} (h : 0 < a * b % y) : upDiv a b y = a * b / y + 1 := by unfold upDiv; rw [if_neg (by omega)]
theorem ret_u64 {a b : Nat} (h : a = b) : Ending.returned (.int .u64 (a : Int)) = .returned (.int .u64 (b : Int)) := by rw [h]

set_option maxHeartbeats 1000000 in
theorem ceil_even (a b y most : Nat) (w : World) (ha : a < 18446744073709551616) (hb : b < 18446744073709551616) (hy : y < 18446744073709551616) (hm : most < 18446744073709551616) (hy0 : 0 < y) (hr : a * b % y = 0) :
    Calls Try.prog 27 #[.int .u64 (a : Int), .int .u64 (b : Int), .int .u64 (y : Int), .int .u64 (most : Int)] w fun e w' => e = .returned (.int .u64 ((min (a * b / y) most : Nat) : Int)) ∧ Below w.heap.size w w' := by
  obtain ⟨n, hn⟩ : ∃ n, n = a * b / y := ⟨_, rfl⟩
  rw [← hn]
  have HA := Lib.hid (show a < 2 ^ 64 from ha)
  have HB := Lib.hid (show b < 2 ^ 64 from hb)
  have hab : a * b < 2 ^ 128 := mul_lt_pow (k := 64) (m := 64) ha hb
  have hnb : n < 2 ^ 128 := by rw [hn]; exact Nat.lt_of_le_of_lt (Nat.div_le_self _ _) hab
  have HAB := Lib.hid hab
  have HY := Lib.hid (show y < 2 ^ 128 by omega)
  have HM := Lib.hid (show most < 2 ^ 128 by omega)
  have HN := Lib.hid hn
  have HNB := Lib.hid hnb
  have HR := Lib.hid hr
  have O1 := Lib.hid (fun W : World => of_any W a ha)
  have O2 := Lib.hid (fun W : World => of_any W b hb)
  have O3 := Lib.hid (fun W : World => of_any W y hy)
  have O4 := Lib.hid (fun W : World => of_any W most hm)
  clear hab hn hnb hr
  rcases Nat.lt_or_ge most n with h | h
  · have hmin : min n most = most := Nat.min_eq_right (by omega)
    rw [hmin]
    have T := Lib.hid (sgn_over h)
    clear h hmin ha hb hy hm
    go_enter Try.func27, Try.ntmps27
    go_wp2_with fail
    refine (O1.out _).mono ?_
    rintro e w1 ⟨v1, rfl, n1, h1⟩
    go_wp2_with fail
    refine (O2.out _).mono ?_
    rintro e w2 ⟨v2, rfl, n2, h2⟩
    go_wp2_with fail
    refine (mul_any 64 64 (n1.below h2) n2 HA.out HB.out (by decide)).mono ?_
    rintro e w3 ⟨v3, rfl, n3, h3⟩
    go_wp2_with fail
    refine (O3.out _).mono ?_
    rintro e w4 ⟨v4, rfl, n4, h4⟩
    go_wp2_with fail
    refine (div_any 128 (n3.below h4) n4 HAB.out HY.out hy0 (by decide)).mono ?_
    rintro e w5 ⟨v5, u5, rfl, n5, m5, h5⟩
    rw [← HN.out] at n5
    obtain ⟨l5, r5, bin5, t5, e5⟩ := id m5
    obtain ⟨ad5, c5, rfl, _⟩ := r5
    have hlen : Hid (l5.length = 0) := (t5.zero_iff bin5).2 (e5.trans HR.out)
    rw [hlen.out]
    clear e5
    go_wp2_with fail
    refine (O4.out _).mono ?_
    rintro e w6 ⟨v6, rfl, n6, h6⟩
    go_wp2_with fail
    refine (cmp_num 128 (n5.below h6) n6 HNB.out HM.out (by decide)).mono ?_
    rintro e w' ⟨rfl, rfl⟩
    have t := T.out
    have s1 := h1.size
    have s2 := h2.size
    have s3 := h3.size
    have s4 := h4.size
    have s5 := h5.size
    go_wp2
    go_ret
    exact ⟨rfl, ((((h1.trans (h2.mono s1)).trans (h3.mono (by omega))).trans (h4.mono (by omega))).trans (h5.mono (by omega))).trans (h6.mono (by omega))⟩
  · have hmin : min n most = n := Nat.min_eq_left h
    rw [hmin]
    have T := Lib.hid (sgn_within h)
    have HL := Lib.hid (low_of (n := n) (by omega))
    clear h hmin ha hb hy hm
    go_enter Try.func27, Try.ntmps27
    go_wp2_with fail
    refine (O1.out _).mono ?_
    rintro e w1 ⟨v1, rfl, n1, h1⟩
    go_wp2_with fail
    refine (O2.out _).mono ?_
    rintro e w2 ⟨v2, rfl, n2, h2⟩
    go_wp2_with fail
    refine (mul_any 64 64 (n1.below h2) n2 HA.out HB.out (by decide)).mono ?_
    rintro e w3 ⟨v3, rfl, n3, h3⟩
    go_wp2_with fail
    refine (O3.out _).mono ?_
    rintro e w4 ⟨v4, rfl, n4, h4⟩
    go_wp2_with fail
    refine (div_any 128 (n3.below h4) n4 HAB.out HY.out hy0 (by decide)).mono ?_
    rintro e w5 ⟨v5, u5, rfl, n5, m5, h5⟩
    rw [← HN.out] at n5
    obtain ⟨l5, r5, bin5, t5, e5⟩ := id m5
    obtain ⟨ad5, c5, rfl, _⟩ := r5
    have hlen : Hid (l5.length = 0) := (t5.zero_iff bin5).2 (e5.trans HR.out)
    rw [hlen.out]
    clear e5
    go_wp2_with fail
    refine (O4.out _).mono ?_
    rintro e w6 ⟨v6, rfl, n6, h6⟩
    go_wp2_with fail
    refine (cmp_num 128 (n5.below h6) n6 HNB.out HM.out (by decide)).mono ?_
    rintro e w' ⟨rfl, rfl⟩
    have t := T.out
    have s1 := h1.size
    have s2 := h2.size
    have s3 := h3.size
    have s4 := h4.size
    have s5 := h5.size
    go_wp2_with fail
    refine (number_num (n5.below h6) 128 HNB.out (by decide)).mono ?_
    rintro e w' ⟨rfl, rfl⟩
    rw [HL.out]
    go_wp2
    go_ret
    exact ⟨rfl, ((((h1.trans (h2.mono s1)).trans (h3.mono (by omega))).trans (h4.mono (by omega))).trans (h5.mono (by omega))).trans (h6.mono (by omega))⟩
set_option maxHeartbeats 1000000 in
theorem ceil_odd (a b y most : Nat) (w : World) (ha : a < 18446744073709551616) (hb : b < 18446744073709551616) (hy : y < 18446744073709551616) (hm : most < 18446744073709551616) (hy0 : 0 < y) (hr : 0 < a * b % y) :
    Calls Try.prog 27 #[.int .u64 (a : Int), .int .u64 (b : Int), .int .u64 (y : Int), .int .u64 (most : Int)] w fun e w' => e = .returned (.int .u64 ((min (a * b / y + 1) most : Nat) : Int)) ∧ Below w.heap.size w w' := by
  obtain ⟨n, hn⟩ : ∃ n, n = a * b / y + 1 := ⟨_, rfl⟩
  rw [← hn]
  have HA := Lib.hid (show a < 2 ^ 64 from ha)
  have HB := Lib.hid (show b < 2 ^ 64 from hb)
  have hab : a * b < 2 ^ 128 := mul_lt_pow (k := 64) (m := 64) ha hb
  have hq : a * b / y < 2 ^ 128 := Nat.lt_of_le_of_lt (Nat.div_le_self _ _) hab
  have hnb : n < 2 ^ 129 := by rw [hn]; omega
  have HAB := Lib.hid hab
  have HQ := Lib.hid hq
  have HY := Lib.hid (show y < 2 ^ 128 by omega)
  have HM := Lib.hid (show most < 2 ^ 129 by omega)
  have HN := Lib.hid hn
  have HNB := Lib.hid hnb
  have HR := Lib.hid hr
  have O1 := Lib.hid (fun W : World => of_any W a ha)
  have O2 := Lib.hid (fun W : World => of_any W b hb)
  have O3 := Lib.hid (fun W : World => of_any W y hy)
  have O4 := Lib.hid (fun W : World => of_any W most hm)
  clear hab hn hnb hr hq
  rcases Nat.lt_or_ge most n with h | h
  · have hmin : min n most = most := Nat.min_eq_right (by omega)
    rw [hmin]
    have T := Lib.hid (sgn_over h)
    clear h hmin ha hb hy hm
    go_enter Try.func27, Try.ntmps27
    go_wp2_with fail
    refine (O1.out _).mono ?_
    rintro e w1 ⟨v1, rfl, n1, h1⟩
    go_wp2_with fail
    refine (O2.out _).mono ?_
    rintro e w2 ⟨v2, rfl, n2, h2⟩
    go_wp2_with fail
    refine (mul_any 64 64 (n1.below h2) n2 HA.out HB.out (by decide)).mono ?_
    rintro e w3 ⟨v3, rfl, n3, h3⟩
    go_wp2_with fail
    refine (O3.out _).mono ?_
    rintro e w4 ⟨v4, rfl, n4, h4⟩
    go_wp2_with fail
    refine (div_any 128 (n3.below h4) n4 HAB.out HY.out hy0 (by decide)).mono ?_
    rintro e w5 ⟨v5, u5, rfl, n5, m5, h5⟩
    obtain ⟨l5, r5, bin5, t5, e5⟩ := id m5
    obtain ⟨ad5, c5, rfl, _⟩ := r5
    have hlen : 0 < l5.length := by
      have h0 := t5.zero_iff bin5
      have h1 := HR.out
      omega
    clear e5
    go_wp2_with fail
    refine (of_any _ 1 (by decide)).mono ?_
    rintro e w6 ⟨v6, rfl, n6, h6⟩
    go_wp2_with fail
    refine (add_any 128 (n5.below h6) n6 HQ.out (by decide) (by decide)).mono ?_
    rintro e w7 ⟨v7, rfl, n7, h7⟩
    rw [← HN.out] at n7
    go_wp2_with fail
    refine (O4.out _).mono ?_
    rintro e w8 ⟨v8, rfl, n8, h8⟩
    go_wp2_with fail
    refine (cmp_num 129 (n7.below h8) n8 HNB.out HM.out (by decide)).mono ?_
    rintro e w' ⟨rfl, rfl⟩
    have t := T.out
    have s1 := h1.size
    have s2 := h2.size
    have s3 := h3.size
    have s4 := h4.size
    have s5 := h5.size
    have s6 := h6.size
    have s7 := h7.size
    go_wp2
    go_ret
    exact ⟨rfl, ((((((h1.trans (h2.mono s1)).trans (h3.mono (by omega))).trans (h4.mono (by omega))).trans (h5.mono (by omega))).trans (h6.mono (by omega))).trans (h7.mono (by omega))).trans (h8.mono (by omega))⟩
  · have hmin : min n most = n := Nat.min_eq_left h
    rw [hmin]
    have T := Lib.hid (sgn_within h)
    have HL := Lib.hid (low_of (n := n) (by omega))
    clear h hmin ha hb hy hm
    go_enter Try.func27, Try.ntmps27
    go_wp2_with fail
    refine (O1.out _).mono ?_
    rintro e w1 ⟨v1, rfl, n1, h1⟩
    go_wp2_with fail
    refine (O2.out _).mono ?_
    rintro e w2 ⟨v2, rfl, n2, h2⟩
    go_wp2_with fail
    refine (mul_any 64 64 (n1.below h2) n2 HA.out HB.out (by decide)).mono ?_
    rintro e w3 ⟨v3, rfl, n3, h3⟩
    go_wp2_with fail
    refine (O3.out _).mono ?_
    rintro e w4 ⟨v4, rfl, n4, h4⟩
    go_wp2_with fail
    refine (div_any 128 (n3.below h4) n4 HAB.out HY.out hy0 (by decide)).mono ?_
    rintro e w5 ⟨v5, u5, rfl, n5, m5, h5⟩
    obtain ⟨l5, r5, bin5, t5, e5⟩ := id m5
    obtain ⟨ad5, c5, rfl, _⟩ := r5
    have hlen : 0 < l5.length := by
      have h0 := t5.zero_iff bin5
      have h1 := HR.out
      omega
    clear e5
    go_wp2_with fail
    refine (of_any _ 1 (by decide)).mono ?_
    rintro e w6 ⟨v6, rfl, n6, h6⟩
    go_wp2_with fail
    refine (add_any 128 (n5.below h6) n6 HQ.out (by decide) (by decide)).mono ?_
    rintro e w7 ⟨v7, rfl, n7, h7⟩
    rw [← HN.out] at n7
    go_wp2_with fail
    refine (O4.out _).mono ?_
    rintro e w8 ⟨v8, rfl, n8, h8⟩
    go_wp2_with fail
    refine (cmp_num 129 (n7.below h8) n8 HNB.out HM.out (by decide)).mono ?_
    rintro e w' ⟨rfl, rfl⟩
    have t := T.out
    have s1 := h1.size
    have s2 := h2.size
    have s3 := h3.size
    have s4 := h4.size
    have s5 := h5.size
    have s6 := h6.size
    have s7 := h7.size
    go_wp2_with fail
    refine (number_num (n7.below h8) 129 HNB.out (by decide)).mono ?_
    rintro e w' ⟨rfl, rfl⟩
    rw [HL.out]
    go_wp2
    go_ret
    exact ⟨rfl, ((((((h1.trans (h2.mono s1)).trans (h3.mono (by omega))).trans (h4.mono (by omega))).trans (h5.mono (by omega))).trans (h6.mono (by omega))).trans (h7.mono (by omega))).trans (h8.mono (by omega))⟩
theorem ceil_any (a b y most : Nat) (w : World) (ha : a < 18446744073709551616) (hb : b < 18446744073709551616) (hy : y < 18446744073709551616) (hm : most < 18446744073709551616) (hy0 : 0 < y) :
    Calls Try.prog 27 #[.int .u64 (a : Int), .int .u64 (b : Int), .int .u64 (y : Int), .int .u64 (most : Int)] w fun e w' => e = .returned (.int .u64 ((min (upDiv a b y) most : Nat) : Int)) ∧ Below w.heap.size w w' := by
  rcases Nat.eq_zero_or_pos (a * b % y) with hr | hr
  · rw [upDiv_even hr]
    exact ceil_even a b y most w ha hb hy hm hy0 hr
  · rw [upDiv_odd hr]
    exact ceil_odd a b y most w ha hb hy hm hy0 hr


theorem ret_le {p q : Bool} (h : p = q) : Ending.returned (.bool p) = .returned (.bool q) := by rw [h]
/-- How far apart two numbers are. -/
def apart (u t : Nat) : Nat := (u - t) + (t - u)
set_option maxHeartbeats 1000000 in
theorem near_ref (u t x : Nat) (w : World) (hu : u < 18446744073709551616) (ht : t < 18446744073709551616) (hx : x < 18446744073709551616) :
    Calls Try.prog 26 #[.int .u64 (u : Int), .int .u64 (t : Int), .int .u64 (x : Int)] w fun e w' => e = .returned (.bool (decide (apart u t * 1000 ≤ t * x))) ∧ Below w.heap.size w w' := by
  obtain ⟨d, hd⟩ : ∃ d, d = apart u t := ⟨_, rfl⟩
  rw [← hd]
  have hdb : d < 18446744073709551616 := by rw [hd]; unfold apart; omega
  have HD := Lib.hid (show d < 2 ^ 64 from hdb)
  have HT := Lib.hid (show t < 2 ^ 64 from ht)
  have HX := Lib.hid (show x < 2 ^ 64 from hx)
  have HP := Lib.hid (show d * 1000 < 2 ^ 128 from mul_lt_pow (k := 64) (m := 64) hdb (by decide))
  have HQ := Lib.hid (show t * x < 2 ^ 128 from mul_lt_pow (k := 64) (m := 64) ht hx)
  have O1 := Lib.hid (fun W : World => of_any W d hdb)
  have O2 := Lib.hid (fun W : World => of_any W 1000 (by decide))
  have O3 := Lib.hid (fun W : World => of_any W t ht)
  have O4 := Lib.hid (fun W : World => of_any W x hx)
  rcases Nat.lt_or_ge u t with h | h
  · have c1 : IntKind.u64.wrap ((t : Int) - (u : Int)) = (d : Int) := by rw [hd]; unfold apart; rw [IntKind.wrap_u64]; omega
    clear hd hdb hu ht hx
    go_enter Try.func26, Try.ntmps26
    go_wp2_with (simp only [c1])
    refine (O1.out _).mono ?_
    rintro e w1 ⟨v1, rfl, n1, h1⟩
    go_wp2_with fail
    refine (O2.out _).mono ?_
    rintro e w2 ⟨v2, rfl, n2, h2⟩
    go_wp2_with fail
    refine (mul_any 64 64 (n1.below h2) n2 HD.out (by decide) (by decide)).mono ?_
    rintro e w3 ⟨v3, rfl, n3, h3⟩
    go_wp2_with fail
    refine (O3.out _).mono ?_
    rintro e w4 ⟨v4, rfl, n4, h4⟩
    go_wp2_with fail
    refine (O4.out _).mono ?_
    rintro e w5 ⟨v5, rfl, n5, h5⟩
    go_wp2_with fail
    refine (mul_any 64 64 (n4.below h5) n5 HT.out HX.out (by decide)).mono ?_
    rintro e w6 ⟨v6, rfl, n6, h6⟩
    go_wp2_with fail
    refine (cmp_num 128 (((n3.below h4).below h5).below h6) n6 HP.out HQ.out (by decide)).mono ?_
    rintro e w' ⟨rfl, rfl⟩
    have s1 := h1.size
    have s2 := h2.size
    have s3 := h3.size
    have s4 := h4.size
    have s5 := h5.size
    go_wp2
    go_ret
    exact ⟨ret_le sgn_le, ((((h1.trans (h2.mono s1)).trans (h3.mono (by omega))).trans (h4.mono (by omega))).trans (h5.mono (by omega))).trans (h6.mono (by omega))⟩
  · have c1 : IntKind.u64.wrap ((u : Int) - (t : Int)) = (d : Int) := by rw [hd]; unfold apart; rw [IntKind.wrap_u64]; omega
    clear hd hdb hu ht hx
    go_enter Try.func26, Try.ntmps26
    go_wp2_with (simp only [c1])
    refine (O1.out _).mono ?_
    rintro e w1 ⟨v1, rfl, n1, h1⟩
    go_wp2_with fail
    refine (O2.out _).mono ?_
    rintro e w2 ⟨v2, rfl, n2, h2⟩
    go_wp2_with fail
    refine (mul_any 64 64 (n1.below h2) n2 HD.out (by decide) (by decide)).mono ?_
    rintro e w3 ⟨v3, rfl, n3, h3⟩
    go_wp2_with fail
    refine (O3.out _).mono ?_
    rintro e w4 ⟨v4, rfl, n4, h4⟩
    go_wp2_with fail
    refine (O4.out _).mono ?_
    rintro e w5 ⟨v5, rfl, n5, h5⟩
    go_wp2_with fail
    refine (mul_any 64 64 (n4.below h5) n5 HT.out HX.out (by decide)).mono ?_
    rintro e w6 ⟨v6, rfl, n6, h6⟩
    go_wp2_with fail
    refine (cmp_num 128 (((n3.below h4).below h5).below h6) n6 HP.out HQ.out (by decide)).mono ?_
    rintro e w' ⟨rfl, rfl⟩
    have s1 := h1.size
    have s2 := h2.size
    have s3 := h3.size
    have s4 := h4.size
    have s5 := h5.size
    go_wp2
    go_ret
    exact ⟨ret_le sgn_le, ((((h1.trans (h2.mono s1)).trans (h3.mono (by omega))).trans (h4.mono (by omega))).trans (h5.mono (by omega))).trans (h6.mono (by omega))⟩

end Go.Proofs.Ytajkhbdniadkkaa
