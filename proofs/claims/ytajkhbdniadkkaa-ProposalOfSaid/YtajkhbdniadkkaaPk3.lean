/- What the document's answers of layer 3 are: 'Ceil', 'Floor', 'Near'. -/
import Derived.Test.YtajkhbdniadkkaaPk2
import Derived.Test.YtajkhbdniadkkaaQRight
import Derived.Deep.QuietTactic
import Derived.BigQuiet
import Derived.Deep.RegionWith
import Derived.Test.YtajkhbdniadkkaaObOp
import Derived.Test.YtajkhbdniadkkaaObEa
import Derived.Test.YtajkhbdniadkkaaObS
import Derived.Laws.Rows
import Derived.Maps.AppendAt
import Derived.Laws.AppendOwnNone
import Derived.Test.YtajkhbdniadkkaaObD
namespace Go.Proofs.Ytajkhbdniadkkaa
open Go.RowKit
set_option linter.unusedVariables false

def upDiv (a b y : Nat) : Nat := a * b / y + (if a * b % y = 0 then 0 else 1)
theorem upDiv_even {a b y : Nat} (h : a * b % y = 0) : upDiv a b y = a * b / y := by unfold upDiv; rw [if_pos h, Nat.add_zero]
theorem upDiv_odd {a b y : Nat} (h : 0 < a * b % y) : upDiv a b y = a * b / y + 1 := by unfold upDiv; rw [if_neg (by omega)]
theorem ret_u64 {a b : Nat} (h : a = b) : Ending.returned (.int .u64 (a : Int)) = .returned (.int .u64 (b : Int)) := by rw [h]

set_option maxHeartbeats 1000000 in
theorem ceil_even (a b y most : Nat) (w : World) (ha : a < 18446744073709551616) (hb : b < 18446744073709551616) (hy : y < 18446744073709551616) (hm : most < 18446744073709551616) (hy0 : 0 < y) (hr : a * b % y = 0) :
    Calls Try.prog 27 #[.int .u64 (a : Int), .int .u64 (b : Int), .int .u64 (y : Int), .int .u64 (most : Int)] w fun e w' => e = .returned (.int .u64 ((min (a * b / y) most : Nat) : Int)) ∧ Below w.heap.size w w' := by
  obtain ⟨n, hn⟩ : ∃ n, n = a * b / y := ⟨_, rfl⟩
  rw [← hn]
  have HA := Lib.hid (show a < 2 ^ 64 from ha)
  have HB := Lib.hid (show b < 2 ^ 64 from hb)
  have hab : a * b < 2 ^ 128 := mul_lt_pow (k := 64) (m := 64) ha hb
  have hnb : n < 2 ^ 128 := by rw [hn]; exact Nat.lt_of_le_of_lt (Nat.div_le_self _ _) hab
  have HAB := Lib.hid hab
  have HY := Lib.hid (show y < 2 ^ 128 by omega)
  have HM := Lib.hid (show most < 2 ^ 128 by omega)
  have HN := Lib.hid hn
  have HNB := Lib.hid hnb
  have HR := Lib.hid hr
  have O1 := Lib.hid (fun W : World => of_any W a ha)
  have O2 := Lib.hid (fun W : World => of_any W b hb)
  have O3 := Lib.hid (fun W : World => of_any W y hy)
  have O4 := Lib.hid (fun W : World => of_any W most hm)
  clear hab hn hnb hr
  rcases Nat.lt_or_ge most n with h | h
  · have hmin : min n most = most := Nat.min_eq_right (by omega)
    rw [hmin]
    have T := Lib.hid (sgn_over h)
    clear h hmin ha hb hy hm
    go_enter Try.func27, Try.ntmps27
    go_wp2_with fail
    refine (O1.out _).mono ?_
    rintro e w1 ⟨v1, rfl, n1, h1⟩
    go_wp2_with fail
    refine (O2.out _).mono ?_
    rintro e w2 ⟨v2, rfl, n2, h2⟩
    go_wp2_with fail
    refine (mul_any 64 64 (n1.below h2) n2 HA.out HB.out (by decide)).mono ?_
    rintro e w3 ⟨v3, rfl, n3, h3⟩
    go_wp2_with fail
    refine (O3.out _).mono ?_
    rintro e w4 ⟨v4, rfl, n4, h4⟩
    go_wp2_with fail
    refine (div_any 128 (n3.below h4) n4 HAB.out HY.out hy0 (by decide)).mono ?_
    rintro e w5 ⟨v5, u5, rfl, n5, m5, h5⟩
    rw [← HN.out] at n5
    obtain ⟨l5, r5, bin5, t5, e5⟩ := id m5
    obtain ⟨ad5, c5, rfl, _⟩ := r5
    have hlen : Hid (l5.length = 0) := (t5.zero_iff bin5).2 (e5.trans HR.out)
    rw [hlen.out]
    clear e5
    go_wp2_with fail
    refine (O4.out _).mono ?_
    rintro e w6 ⟨v6, rfl, n6, h6⟩
    go_wp2_with fail
    refine (cmp_num 128 (n5.below h6) n6 HNB.out HM.out (by decide)).mono ?_
    rintro e w' ⟨rfl, rfl⟩
    have t := T.out
    have s1 := h1.size
    have s2 := h2.size
    have s3 := h3.size
    have s4 := h4.size
    have s5 := h5.size
    go_wp2
    go_ret
    exact ⟨rfl, ((((h1.trans (h2.mono s1)).trans (h3.mono (by omega))).trans (h4.mono (by omega))).trans (h5.mono (by omega))).trans (h6.mono (by omega))⟩
  · have hmin : min n most = n := Nat.min_eq_left h
    rw [hmin]
    have T := Lib.hid (sgn_within h)
    have HL := Lib.hid (low_of (n := n) (by omega))
    clear h hmin ha hb hy hm
    go_enter Try.func27, Try.ntmps27
    go_wp2_with fail
    refine (O1.out _).mono ?_
    rintro e w1 ⟨v1, rfl, n1, h1⟩
    go_wp2_with fail
    refine (O2.out _).mono ?_
    rintro e w2 ⟨v2, rfl, n2, h2⟩
    go_wp2_with fail
    refine (mul_any 64 64 (n1.below h2) n2 HA.out HB.out (by decide)).mono ?_
    rintro e w3 ⟨v3, rfl, n3, h3⟩
    go_wp2_with fail
    refine (O3.out _).mono ?_
    rintro e w4 ⟨v4, rfl, n4, h4⟩
    go_wp2_with fail
    refine (div_any 128 (n3.below h4) n4 HAB.out HY.out hy0 (by decide)).mono ?_
    rintro e w5 ⟨v5, u5, rfl, n5, m5, h5⟩
    rw [← HN.out] at n5
    obtain ⟨l5, r5, bin5, t5, e5⟩ := id m5
    obtain ⟨ad5, c5, rfl, _⟩ := r5
    have hlen : Hid (l5.length = 0) := (t5.zero_iff bin5).2 (e5.trans HR.out)
    rw [hlen.out]
    clear e5
    go_wp2_with fail
    refine (O4.out _).mono ?_
    rintro e w6 ⟨v6, rfl, n6, h6⟩
    go_wp2_with fail
    refine (cmp_num 128 (n5.below h6) n6 HNB.out HM.out (by decide)).mono ?_
    rintro e w' ⟨rfl, rfl⟩
    have t := T.out
    have s1 := h1.size
    have s2 := h2.size
    have s3 := h3.size
    have s4 := h4.size
    have s5 := h5.size
    go_wp2_with fail
    refine (number_num (n5.below h6) 128 HNB.out (by decide)).mono ?_
    rintro e w' ⟨rfl, rfl⟩
    rw [HL.out]
    go_wp2
    go_ret
    exact ⟨rfl, ((((h1.trans (h2.mono s1)).trans (h3.mono (by omega))).trans (h4.mono (by omega))).trans (h5.mono (by omega))).trans (h6.mono (by omega))⟩
set_option maxHeartbeats 1000000 in
theorem ceil_odd (a b y most : Nat) (w : World) (ha : a < 18446744073709551616) (hb : b < 18446744073709551616) (hy : y < 18446744073709551616) (hm : most < 18446744073709551616) (hy0 : 0 < y) (hr : 0 < a * b % y) :
    Calls Try.prog 27 #[.int .u64 (a : Int), .int .u64 (b : Int), .int .u64 (y : Int), .int .u64 (most : Int)] w fun e w' => e = .returned (.int .u64 ((min (a * b / y + 1) most : Nat) : Int)) ∧ Below w.heap.size w w' := by
  obtain ⟨n, hn⟩ : ∃ n, n = a * b / y + 1 := ⟨_, rfl⟩
  rw [← hn]
  have HA := Lib.hid (show a < 2 ^ 64 from ha)
  have HB := Lib.hid (show b < 2 ^ 64 from hb)
  have hab : a * b < 2 ^ 128 := mul_lt_pow (k := 64) (m := 64) ha hb
  have hq : a * b / y < 2 ^ 128 := Nat.lt_of_le_of_lt (Nat.div_le_self _ _) hab
  have hnb : n < 2 ^ 129 := by rw [hn]; omega
  have HAB := Lib.hid hab
  have HQ := Lib.hid hq
  have HY := Lib.hid (show y < 2 ^ 128 by omega)
  have HM := Lib.hid (show most < 2 ^ 129 by omega)
  have HN := Lib.hid hn
  have HNB := Lib.hid hnb
  have HR := Lib.hid hr
  have O1 := Lib.hid (fun W : World => of_any W a ha)
  have O2 := Lib.hid (fun W : World => of_any W b hb)
  have O3 := Lib.hid (fun W : World => of_any W y hy)
  have O4 := Lib.hid (fun W : World => of_any W most hm)
  clear hab hn hnb hr hq
  rcases Nat.lt_or_ge most n with h | h
  · have hmin : min n most = most := Nat.min_eq_right (by omega)
    rw [hmin]
    have T := Lib.hid (sgn_over h)
    clear h hmin ha hb hy hm
    go_enter Try.func27, Try.ntmps27
    go_wp2_with fail
    refine (O1.out _).mono ?_
    rintro e w1 ⟨v1, rfl, n1, h1⟩
    go_wp2_with fail
    refine (O2.out _).mono ?_
    rintro e w2 ⟨v2, rfl, n2, h2⟩
    go_wp2_with fail
    refine (mul_any 64 64 (n1.below h2) n2 HA.out HB.out (by decide)).mono ?_
    rintro e w3 ⟨v3, rfl, n3, h3⟩
    go_wp2_with fail
    refine (O3.out _).mono ?_
    rintro e w4 ⟨v4, rfl, n4, h4⟩
    go_wp2_with fail
    refine (div_any 128 (n3.below h4) n4 HAB.out HY.out hy0 (by decide)).mono ?_
    rintro e w5 ⟨v5, u5, rfl, n5, m5, h5⟩
    obtain ⟨l5, r5, bin5, t5, e5⟩ := id m5
    obtain ⟨ad5, c5, rfl, _⟩ := r5
    have hlen : 0 < l5.length := by
      have h0 := t5.zero_iff bin5
      have h1 := HR.out
      omega
    clear e5
    go_wp2_with fail
    refine (of_any _ 1 (by decide)).mono ?_
    rintro e w6 ⟨v6, rfl, n6, h6⟩
    go_wp2_with fail
    refine (add_any 128 (n5.below h6) n6 HQ.out (by decide) (by decide)).mono ?_
    rintro e w7 ⟨v7, rfl, n7, h7⟩
    rw [← HN.out] at n7
    go_wp2_with fail
    refine (O4.out _).mono ?_
    rintro e w8 ⟨v8, rfl, n8, h8⟩
    go_wp2_with fail
    refine (cmp_num 129 (n7.below h8) n8 HNB.out HM.out (by decide)).mono ?_
    rintro e w' ⟨rfl, rfl⟩
    have t := T.out
    have s1 := h1.size
    have s2 := h2.size
    have s3 := h3.size
    have s4 := h4.size
    have s5 := h5.size
    have s6 := h6.size
    have s7 := h7.size
    go_wp2
    go_ret
    exact ⟨rfl, ((((((h1.trans (h2.mono s1)).trans (h3.mono (by omega))).trans (h4.mono (by omega))).trans (h5.mono (by omega))).trans (h6.mono (by omega))).trans (h7.mono (by omega))).trans (h8.mono (by omega))⟩
  · have hmin : min n most = n := Nat.min_eq_left h
    rw [hmin]
    have T := Lib.hid (sgn_within h)
    have HL := Lib.hid (low_of (n := n) (by omega))
    clear h hmin ha hb hy hm
    go_enter Try.func27, Try.ntmps27
    go_wp2_with fail
    refine (O1.out _).mono ?_
    rintro e w1 ⟨v1, rfl, n1, h1⟩
    go_wp2_with fail
    refine (O2.out _).mono ?_
    rintro e w2 ⟨v2, rfl, n2, h2⟩
    go_wp2_with fail
    refine (mul_any 64 64 (n1.below h2) n2 HA.out HB.out (by decide)).mono ?_
    rintro e w3 ⟨v3, rfl, n3, h3⟩
    go_wp2_with fail
    refine (O3.out _).mono ?_
    rintro e w4 ⟨v4, rfl, n4, h4⟩
    go_wp2_with fail
    refine (div_any 128 (n3.below h4) n4 HAB.out HY.out hy0 (by decide)).mono ?_
    rintro e w5 ⟨v5, u5, rfl, n5, m5, h5⟩
    obtain ⟨l5, r5, bin5, t5, e5⟩ := id m5
    obtain ⟨ad5, c5, rfl, _⟩ := r5
    have hlen : 0 < l5.length := by
      have h0 := t5.zero_iff bin5
      have h1 := HR.out
      omega
    clear e5
    go_wp2_with fail
    refine (of_any _ 1 (by decide)).mono ?_
    rintro e w6 ⟨v6, rfl, n6, h6⟩
    go_wp2_with fail
    refine (add_any 128 (n5.below h6) n6 HQ.out (by decide) (by decide)).mono ?_
    rintro e w7 ⟨v7, rfl, n7, h7⟩
    rw [← HN.out] at n7
    go_wp2_with fail
    refine (O4.out _).mono ?_
    rintro e w8 ⟨v8, rfl, n8, h8⟩
    go_wp2_with fail
    refine (cmp_num 129 (n7.below h8) n8 HNB.out HM.out (by decide)).mono ?_
    rintro e w' ⟨rfl, rfl⟩
    have t := T.out
    have s1 := h1.size
    have s2 := h2.size
    have s3 := h3.size
    have s4 := h4.size
    have s5 := h5.size
    have s6 := h6.size
    have s7 := h7.size
    go_wp2_with fail
    refine (number_num (n7.below h8) 129 HNB.out (by decide)).mono ?_
    rintro e w' ⟨rfl, rfl⟩
    rw [HL.out]
    go_wp2
    go_ret
    exact ⟨rfl, ((((((h1.trans (h2.mono s1)).trans (h3.mono (by omega))).trans (h4.mono (by omega))).trans (h5.mono (by omega))).trans (h6.mono (by omega))).trans (h7.mono (by omega))).trans (h8.mono (by omega))⟩
theorem ceil_any (a b y most : Nat) (w : World) (ha : a < 18446744073709551616) (hb : b < 18446744073709551616) (hy : y < 18446744073709551616) (hm : most < 18446744073709551616) (hy0 : 0 < y) :
    Calls Try.prog 27 #[.int .u64 (a : Int), .int .u64 (b : Int), .int .u64 (y : Int), .int .u64 (most : Int)] w fun e w' => e = .returned (.int .u64 ((min (upDiv a b y) most : Nat) : Int)) ∧ Below w.heap.size w w' := by
  rcases Nat.eq_zero_or_pos (a * b % y) with hr | hr
  · rw [upDiv_even hr]
    exact ceil_even a b y most w ha hb hy hm hy0 hr
  · rw [upDiv_odd hr]
    exact ceil_odd a b y most w ha hb hy hm hy0 hr


theorem ret_le {p q : Bool} (h : p = q) : Ending.returned (.bool p) = .returned (.bool q) := by rw [h]
/-- How far apart two numbers are. -/
def apart (u t : Nat) : Nat := (u - t) + (t - u)
set_option maxHeartbeats 1000000 in
theorem near_ref (u t x : Nat) (w : World) (hu : u < 18446744073709551616) (ht : t < 18446744073709551616) (hx : x < 18446744073709551616) :
    Calls Try.prog 26 #[.int .u64 (u : Int), .int .u64 (t : Int), .int .u64 (x : Int)] w fun e w' => e = .returned (.bool (decide (apart u t * 1000 ≤ t * x))) ∧ Below w.heap.size w w' := by
  obtain ⟨d, hd⟩ : ∃ d, d = apart u t := ⟨_, rfl⟩
  rw [← hd]
  have hdb : d < 18446744073709551616 := by rw [hd]; unfold apart; omega
  have HD := Lib.hid (show d < 2 ^ 64 from hdb)
  have HT := Lib.hid (show t < 2 ^ 64 from ht)
  have HX := Lib.hid (show x < 2 ^ 64 from hx)
  have HP := Lib.hid (show d * 1000 < 2 ^ 128 from mul_lt_pow (k := 64) (m := 64) hdb (by decide))
  have HQ := Lib.hid (show t * x < 2 ^ 128 from mul_lt_pow (k := 64) (m := 64) ht hx)
  have O1 := Lib.hid (fun W : World => of_any W d hdb)
  have O2 := Lib.hid (fun W : World => of_any W 1000 (by decide))
  have O3 := Lib.hid (fun W : World => of_any W t ht)
  have O4 := Lib.hid (fun W : World => of_any W x hx)
  rcases Nat.lt_or_ge u t with h | h
  · have c1 : IntKind.u64.wrap ((t : Int) - (u : Int)) = (d : Int) := by rw [hd]; unfold apart; rw [IntKind.wrap_u64]; omega
    clear hd hdb hu ht hx
    go_enter Try.func26, Try.ntmps26
    go_wp2_with (simp only [c1])
    refine (O1.out _).mono ?_
    rintro e w1 ⟨v1, rfl, n1, h1⟩
    go_wp2_with fail
    refine (O2.out _).mono ?_
    rintro e w2 ⟨v2, rfl, n2, h2⟩
    go_wp2_with fail
    refine (mul_any 64 64 (n1.below h2) n2 HD.out (by decide) (by decide)).mono ?_
    rintro e w3 ⟨v3, rfl, n3, h3⟩
    go_wp2_with fail
    refine (O3.out _).mono ?_
    rintro e w4 ⟨v4, rfl, n4, h4⟩
    go_wp2_with fail
    refine (O4.out _).mono ?_
    rintro e w5 ⟨v5, rfl, n5, h5⟩
    go_wp2_with fail
    refine (mul_any 64 64 (n4.below h5) n5 HT.out HX.out (by decide)).mono ?_
    rintro e w6 ⟨v6, rfl, n6, h6⟩
    go_wp2_with fail
    refine (cmp_num 128 (((n3.below h4).below h5).below h6) n6 HP.out HQ.out (by decide)).mono ?_
    rintro e w' ⟨rfl, rfl⟩
    have s1 := h1.size
    have s2 := h2.size
    have s3 := h3.size
    have s4 := h4.size
    have s5 := h5.size
    go_wp2
    go_ret
    exact ⟨ret_le sgn_le, ((((h1.trans (h2.mono s1)).trans (h3.mono (by omega))).trans (h4.mono (by omega))).trans (h5.mono (by omega))).trans (h6.mono (by omega))⟩
  · have c1 : IntKind.u64.wrap ((u : Int) - (t : Int)) = (d : Int) := by rw [hd]; unfold apart; rw [IntKind.wrap_u64]; omega
    clear hd hdb hu ht hx
    go_enter Try.func26, Try.ntmps26
    go_wp2_with (simp only [c1])
    refine (O1.out _).mono ?_
    rintro e w1 ⟨v1, rfl, n1, h1⟩
    go_wp2_with fail
    refine (O2.out _).mono ?_
    rintro e w2 ⟨v2, rfl, n2, h2⟩
    go_wp2_with fail
    refine (mul_any 64 64 (n1.below h2) n2 HD.out (by decide) (by decide)).mono ?_
    rintro e w3 ⟨v3, rfl, n3, h3⟩
    go_wp2_with fail
    refine (O3.out _).mono ?_
    rintro e w4 ⟨v4, rfl, n4, h4⟩
    go_wp2_with fail
    refine (O4.out _).mono ?_
    rintro e w5 ⟨v5, rfl, n5, h5⟩
    go_wp2_with fail
    refine (mul_any 64 64 (n4.below h5) n5 HT.out HX.out (by decide)).mono ?_
    rintro e w6 ⟨v6, rfl, n6, h6⟩
    go_wp2_with fail
    refine (cmp_num 128 (((n3.below h4).below h5).below h6) n6 HP.out HQ.out (by decide)).mono ?_
    rintro e w' ⟨rfl, rfl⟩
    have s1 := h1.size
    have s2 := h2.size
    have s3 := h3.size
    have s4 := h4.size
    have s5 := h5.size
    go_wp2
    go_ret
    exact ⟨ret_le sgn_le, ((((h1.trans (h2.mono s1)).trans (h3.mono (by omega))).trans (h4.mono (by omega))).trans (h5.mono (by omega))).trans (h6.mono (by omega))⟩

end Go.Proofs.Ytajkhbdniadkkaa
/- What the functions of package ratio answer. -/
namespace Go.Proofs.Ytajkhbdniadkkaa
open Go.RowKit
set_option linter.unusedVariables false

theorem mdWant_up (a b y : Nat) : mdWant a b y true = upDiv a b y := by
  unfold mdWant upDiv
  by_cases h : a * b % y = 0
  · rw [if_neg (by simp [h]), if_pos h]
  · rw [if_pos ⟨rfl, h⟩, if_neg h]
theorem mdWant_down (a b y : Nat) : mdWant a b y false = a * b / y := by
  unfold mdWant
  rw [if_neg (by simp), Nat.add_zero]

/-- A quantity that is right. -/
def Fine (m : Int) : Prop := 0 ≤ m ∧ m ≤ 9007199254740992
def Bad (m : Int) : Prop := m < 0 ∨ 9007199254740992 < m
theorem fine_or_bad (m : Int) : Fine m ∨ Bad m := by unfold Fine Bad; omega
/-- A count of replicas that can be. -/
def Some_ (n : Int) : Prop := 0 ≤ n ∧ n ≤ 1000000
def Odd_ (n : Int) : Prop := n < 0 ∨ 1000000 < n
theorem some_or_odd (n : Int) : Some_ n ∨ Odd_ n := by unfold Some_ Odd_; omega

theorem count_yes (n : Int) (w : World) (h : Some_ n) : Calls Try.prog 45 #[.int .i64 n] w fun e w' => e = .returned (.bool true) ∧ w = w' := by
  obtain ⟨h0, h1⟩ := h
  go_enter Try.func45, Try.ntmps45
  go_wp2
  go_ret
  exact ⟨rfl, rfl⟩
theorem count_no (n : Int) (w : World) (h : Odd_ n) : Calls Try.prog 45 #[.int .i64 n] w fun e w' => e = .returned (.bool false) ∧ w = w' := by
  rcases h with h | h
  · have t1 : decide (0 ≤ n) = false := by simpa using h
    go_enter Try.func45, Try.ntmps45
    go_wp2
    go_ret
    exact ⟨rfl, rfl⟩
  · have t1 : decide (0 ≤ n) = true := by simp; omega
    have t2 : decide (n ≤ 1000000) = false := by simpa using h
    go_enter Try.func45, Try.ntmps45
    go_wp2
    go_ret
    exact ⟨rfl, rfl⟩

theorem against_bad (u t : Int) (w : World) (h : Bad u ∨ (Fine u ∧ Bad t)) : Calls Try.prog 46 #[.int .i64 u, .int .i64 t] w fun e w' => e = .returned (.int .i64 1) ∧ w = w' := by
  rcases h with h | ⟨h, g⟩
  · go_enter Try.func46, Try.ntmps46
    go_wp2_with fail
    refine (right_no u _ h).mono ?_
    rintro e w' ⟨rfl, rfl⟩
    go_wp2
    go_ret
    exact ⟨rfl, rfl⟩
  · go_enter Try.func46, Try.ntmps46
    go_wp2_with fail
    refine (right_yes u _ h.1 h.2).mono ?_
    rintro e w' ⟨rfl, rfl⟩
    go_wp2_with fail
    refine (right_no t _ g).mono ?_
    rintro e w' ⟨rfl, rfl⟩
    go_wp2
    go_ret
    exact ⟨rfl, rfl⟩
theorem fine_zero : Fine 0 := by unfold Fine; omega
theorem against_zero (u : Int) (w : World) (h : Fine u) : Calls Try.prog 46 #[.int .i64 u, .int .i64 0] w fun e w' => e = .returned (.int .i64 5) ∧ w = w' := by
  go_enter Try.func46, Try.ntmps46
  go_wp2_with fail
  refine (right_yes u _ h.1 h.2).mono ?_
  rintro e w' ⟨rfl, rfl⟩
  go_wp2_with fail
  refine (right_yes 0 _ fine_zero.1 fine_zero.2).mono ?_
  rintro e w' ⟨rfl, rfl⟩
  go_wp2
  go_ret
  exact ⟨rfl, rfl⟩
theorem against_ok (u t : Int) (w : World) (h : Fine u) (g : Fine t) (h0 : t ≠ 0) : Calls Try.prog 46 #[.int .i64 u, .int .i64 t] w fun e w' => e = .returned (.int .i64 0) ∧ w = w' := by
  have t1 : (t == 0) = false := by simpa using h0
  go_enter Try.func46, Try.ntmps46
  go_wp2_with fail
  refine (right_yes u _ h.1 h.2).mono ?_
  rintro e w' ⟨rfl, rfl⟩
  go_wp2_with fail
  refine (right_yes t _ g.1 g.2).mono ?_
  rintro e w' ⟨rfl, rfl⟩
  go_wp2
  go_ret
  exact ⟨rfl, rfl⟩

/-! ### 'Need', 'Whole' -/
theorem need_odd (r u t : Int) (w : World) (h : Odd_ r) : Calls Try.prog 21 #[.int .i64 r, .int .i64 u, .int .i64 t] w fun e w' => e = .returned (.tuple #[.int .i64 0, .int .i64 1]) ∧ w = w' := by
  have C := Lib.hid (fun W : World => count_no r W h)
  clear h
  go_enter Try.func21, Try.ntmps21
  go_wp2_with fail
  refine (C.out _).mono ?_
  rintro e w' ⟨rfl, rfl⟩
  go_wp2
  go_ret2
  exact ⟨rfl, rfl⟩
theorem need_bad (r u t : Int) (w : World) (h : Bad u ∨ (Fine u ∧ Bad t)) : Calls Try.prog 21 #[.int .i64 r, .int .i64 u, .int .i64 t] w fun e w' => e = .returned (.tuple #[.int .i64 0, .int .i64 1]) ∧ w = w' := by
  rcases some_or_odd r with g | g
  · have C := Lib.hid (fun W : World => count_yes r W g)
    have D := Lib.hid (fun W : World => against_bad u t W h)
    clear h g
    go_enter Try.func21, Try.ntmps21
    go_wp2_with fail
    refine (C.out _).mono ?_
    rintro e w' ⟨rfl, rfl⟩
    go_wp2_with fail
    refine (D.out _).mono ?_
    rintro e w' ⟨rfl, rfl⟩
    go_wp2
    go_ret2
    exact ⟨rfl, rfl⟩
  · exact need_odd r u t w g
theorem need_zero (r u : Int) (w : World) (h : Some_ r) (g : Fine u) : Calls Try.prog 21 #[.int .i64 r, .int .i64 u, .int .i64 0] w fun e w' => e = .returned (.tuple #[.int .i64 0, .int .i64 5]) ∧ w = w' := by
  have C := Lib.hid (fun W : World => count_yes r W h)
  have D := Lib.hid (fun W : World => against_zero u W g)
  clear h g
  go_enter Try.func21, Try.ntmps21
  go_wp2_with fail
  refine (C.out _).mono ?_
  rintro e w' ⟨rfl, rfl⟩
  go_wp2_with fail
  refine (D.out _).mono ?_
  rintro e w' ⟨rfl, rfl⟩
  go_wp2
  go_ret2
  exact ⟨rfl, rfl⟩
theorem need_ok (r u t : Nat) (w : World) (hr : r ≤ 1000000) (hu : u ≤ 9007199254740992) (ht : t ≤ 9007199254740992) (h0 : 0 < t) :
    Calls Try.prog 21 #[.int .i64 (r : Int), .int .i64 (u : Int), .int .i64 (t : Int)] w fun e w' => e = .returned (.tuple #[.int .i64 ((min (upDiv r u t) 1000000 : Nat) : Int), .int .i64 0]) ∧ Below w.heap.size w w' := by
  have C := Lib.hid (fun W : World => count_yes (r : Int) W ⟨by omega, by omega⟩)
  have D := Lib.hid (fun W : World => against_ok (u : Int) (t : Int) W ⟨by omega, by omega⟩ ⟨by omega, by omega⟩ (by omega))
  obtain ⟨n, hn⟩ : ∃ n, n = upDiv r u t := ⟨_, rfl⟩
  rw [← hn]
  have m := fun W : World => muldiv_any r u t true W (by omega) (by omega) (by omega)
  have hw : mdWant r u t true = n := by rw [mdWant_up, hn]
  have HR := Lib.hid hr
  have HU := Lib.hid hu
  have HT := Lib.hid ht
  rcases Nat.lt_or_ge n 18446744073709551616 with h | h
  · obtain ⟨k1, k2⟩ := muldiv_ok (up := true) h0 hw h
    rw [k1, k2] at m
    have M := Lib.hid m
    clear m k1 k2 hw hn
    rcases Nat.lt_or_ge 1000000 n with g | g
    · rw [Nat.min_eq_right (by omega)]
      have t1 : decide ((1000000 : Int) < (n : Int)) = true := by simp; omega
      clear g h
      go_enter Try.func21, Try.ntmps21
      go_wp2_with fail
      refine (C.out _).mono ?_
      rintro e w' ⟨rfl, rfl⟩
      go_wp2_with fail
      refine (D.out _).mono ?_
      rintro e w' ⟨rfl, rfl⟩
      go_wp2_with fail
      refine (M.out _).mono ?_
      rintro e w1 ⟨rfl, h1⟩
      go_wp2
      go_ret2
      exact ⟨rfl, h1⟩
    · rw [Nat.min_eq_left g]
      have t1 : decide ((1000000 : Int) < (n : Int)) = false := by simp; omega
      clear h
      go_enter Try.func21, Try.ntmps21
      go_wp2_with fail
      refine (C.out _).mono ?_
      rintro e w' ⟨rfl, rfl⟩
      go_wp2_with fail
      refine (D.out _).mono ?_
      rintro e w' ⟨rfl, rfl⟩
      go_wp2_with fail
      refine (M.out _).mono ?_
      rintro e w1 ⟨rfl, h1⟩
      go_wp2
      go_ret2
      exact ⟨rfl, h1⟩
  · obtain ⟨k1, k2⟩ := muldiv_over (a := r) (b := u) (up := true) h0 (by rw [hw]; exact h)
    rw [k1, k2] at m
    have M := Lib.hid m
    rw [Nat.min_eq_right (by omega)]
    clear m k1 k2 hw hn h
    go_enter Try.func21, Try.ntmps21
    go_wp2_with fail
    refine (C.out _).mono ?_
    rintro e w' ⟨rfl, rfl⟩
    go_wp2_with fail
    refine (D.out _).mono ?_
    rintro e w' ⟨rfl, rfl⟩
    go_wp2_with fail
    refine (M.out _).mono ?_
    rintro e w1 ⟨rfl, h1⟩
    go_wp2
    go_ret2
    exact ⟨rfl, h1⟩

end Go.Proofs.Ytajkhbdniadkkaa
/- What 'Near', 'Percent' and 'Share' of package ratio answer. -/
namespace Go.Proofs.Ytajkhbdniadkkaa
open Go.RowKit
set_option linter.unusedVariables false

def Wide_ (x : Int) : Prop := x < 0 ∨ 1000 < x
theorem near_odd (u t x : Int) (w : World) (h : Wide_ x) : Calls Try.prog 44 #[.int .i64 u, .int .i64 t, .int .i64 x] w fun e w' => e = .returned (.tuple #[.bool false, .int .i64 1]) ∧ w = w' := by
  rcases h with h | h
  · go_enter Try.func44, Try.ntmps44
    go_wp2
    go_ret2
    exact ⟨rfl, rfl⟩
  · have t1 : ¬ x < 0 := by omega
    go_enter Try.func44, Try.ntmps44
    go_wp2
    go_ret2
    exact ⟨rfl, rfl⟩
theorem near_bad (u t x : Int) (w : World) (h0 : 0 ≤ x) (h1 : x ≤ 1000) (h : Bad u ∨ (Fine u ∧ Bad t)) : Calls Try.prog 44 #[.int .i64 u, .int .i64 t, .int .i64 x] w fun e w' => e = .returned (.tuple #[.bool false, .int .i64 1]) ∧ w = w' := by
  have D := Lib.hid (fun W : World => against_bad u t W h)
  clear h
  go_enter Try.func44, Try.ntmps44
  go_wp2_with fail
  refine (D.out _).mono ?_
  rintro e w' ⟨rfl, rfl⟩
  go_wp2
  go_ret2
  exact ⟨rfl, rfl⟩
theorem near_zero (u x : Int) (w : World) (h0 : 0 ≤ x) (h1 : x ≤ 1000) (h : Fine u) : Calls Try.prog 44 #[.int .i64 u, .int .i64 0, .int .i64 x] w fun e w' => e = .returned (.tuple #[.bool false, .int .i64 5]) ∧ w = w' := by
  have D := Lib.hid (fun W : World => against_zero u W h)
  clear h
  go_enter Try.func44, Try.ntmps44
  go_wp2_with fail
  refine (D.out _).mono ?_
  rintro e w' ⟨rfl, rfl⟩
  go_wp2
  go_ret2
  exact ⟨rfl, rfl⟩
theorem wrap_milli {n : Nat} (h : n ≤ 9007199254740992) : IntKind.i64.wrap (n : Int) = (n : Int) := by rw [IntKind.wrap_i64]; omega
theorem ret_near {p q : Bool} (h : p = q) : Ending.returned (.tuple #[.bool p, .int .i64 0]) = .returned (.tuple #[.bool q, .int .i64 0]) := by rw [h]
set_option maxHeartbeats 1000000 in
theorem near_ok (u t x : Nat) (w : World) (hu : u ≤ 9007199254740992) (ht : t ≤ 9007199254740992) (h0 : 0 < t) (hx : x ≤ 1000) :
    Calls Try.prog 44 #[.int .i64 (u : Int), .int .i64 (t : Int), .int .i64 (x : Int)] w fun e w' => e = .returned (.tuple #[.bool (decide (apart u t * 1000 ≤ t * x)), .int .i64 0]) ∧ Below w.heap.size w w' := by
  have D := Lib.hid (fun W : World => against_ok (u : Int) (t : Int) W ⟨by omega, by omega⟩ ⟨by omega, by omega⟩ (by omega))
  obtain ⟨d, hd⟩ : ∃ d, d = apart u t := ⟨_, rfl⟩
  rw [← hd]
  have hdb : d ≤ 9007199254740992 := by rw [hd]; unfold apart; omega
  obtain ⟨H, hH⟩ : ∃ n, n = t * x / 18446744073709551616 := ⟨_, rfl⟩
  obtain ⟨L, hL⟩ : ∃ n, n = t * x % 18446744073709551616 := ⟨_, rfl⟩
  obtain ⟨H', hH'⟩ : ∃ n, n = d * 1000 / 18446744073709551616 := ⟨_, rfl⟩
  obtain ⟨L', hL'⟩ : ∃ n, n = d * 1000 % 18446744073709551616 := ⟨_, rfl⟩
  have C1 := Lib.hid (fun W : World => wide_ofV t x H L W (by omega) (by omega) hH hL)
  have C2 : Hid (∀ W : World, Calls Try.prog 67 #[.int .u64 (d : Int), .int .u64 1000] W fun e w' => e = .returned (wd (H' : Int) (L' : Int)) ∧ Below W.heap.size W w') := Lib.hid (fun W : World => wide_ofV d 1000 H' L' W (by omega) (by omega) hH' hL')
  have C3 := Lib.hid (fun W : World => wide_cmpN (m := d * 1000) (n := t * x) W (by omega) hH' hL' hH hL)
  have HD := Lib.hid hdb
  have W1 := Lib.hid (wrap_milli hdb)
  have W2 : IntKind.u64.wrap (d : Int) = (d : Int) := by rw [IntKind.wrap_u64]; omega
  have c1 : max (u : Int) (t : Int) - min (u : Int) (t : Int) = (d : Int) := by rw [hd]; unfold apart; omega
  clear hd hdb hH hL hH' hL'
  go_enter Try.func44, Try.ntmps44
  go_wp2_with fail
  refine (D.out _).mono ?_
  rintro e w' ⟨rfl, rfl⟩
  go_wp2_with fail
  refine (C1.out _).mono ?_
  rintro e w1 ⟨rfl, h1⟩
  go_wp2_with fail
  have hB : Below w.heap.size w (w1.alloc (.cells #[.int .u64 (H : Int), .int .u64 (L : Int)] 144)) := h1.alloc h1.size _
  have k0 : (w1.alloc (.cells #[.int .u64 (H : Int), .int .u64 (L : Int)] 144)).cell? ⟨w1.heap.size, 0, none⟩ = some (.int .u64 (H : Int)) := by simp
  have k1 : (w1.alloc (.cells #[.int .u64 (H : Int), .int .u64 (L : Int)] 144)).cell? ⟨w1.heap.size, 1, none⟩ = some (.int .u64 (L : Int)) := by simp
  have kb : w1.heap.size < (w1.alloc (.cells #[.int .u64 (H : Int), .int .u64 (L : Int)] 144)).heap.size := by simp
  generalize w1.alloc (.cells #[.int .u64 (H : Int), .int .u64 (L : Int)] 144) = w2 at *
  generalize w1.heap.size = b at *
  have hB := hB.drew
  have k0 : w2.drew.cell? ⟨b, 0, none⟩ = some (.int .u64 (H : Int)) := k0
  have k1 : w2.drew.cell? ⟨b, 1, none⟩ = some (.int .u64 (L : Int)) := k1
  have kb : b < w2.drew.heap.size := kb
  clear h1
  go_region_with (first
    | (go_at_call 67; (with_reducible refine (C2.out _).mono ?_); rintro e w3 ⟨rfl, h3⟩; have k0 := (h3.cell (p := ⟨b, 0, none⟩) kb).trans k0; have k1 := (h3.cell (p := ⟨b, 1, none⟩) kb).trans k1; have kb := Nat.lt_of_lt_of_le kb h3.size; have hB := hB.trans (h3.mono hB.size))
    | (go_at_call 68; refine (C3.out _).mono ?_; rintro e w4 ⟨rfl, h4⟩; have hB := hB.trans (h4.mono hB.size)))
  all_goals
    go_wp2_with fail
    go_ret2
    exact ⟨ret_near sgn_le, hB⟩

/-! ### 'quotient', 'Percent', 'Share' -/
theorem share_le {p t : Nat} (h : p ≤ t) (h0 : 0 < t) : p * 1000 / t ≤ 1000 := by
  rw [Nat.div_le_iff_le_mul_add_pred h0]
  have := Nat.mul_le_mul_right 1000 h
  rw [Nat.mul_comm t 1000] at this
  omega
end Go.Proofs.Ytajkhbdniadkkaa
/- What the small functions of package quant answer: 'Right', 'product', 'Add', 'Sub', 'Times'. -/
namespace Go.Proofs.Ytajkhbdniadkkaa
open Go.RowKit
set_option linter.unusedVariables false

theorem prod_lt {a b : Nat} (ha : a < 18446744073709551616) (hb : b < 18446744073709551616) : a * b < 340282366920938463463374607431768211456 := by
  have := Nat.mul_lt_mul'' ha hb
  omega
theorem product_over (a b : Nat) (w : World) (ha : a < 18446744073709551616) (hb : b < 18446744073709551616) (h : 9007199254740992 < a * b) :
    Calls Try.prog 48 #[.int .u64 (a : Int), .int .u64 (b : Int)] w fun e w' => e = .returned (.tuple #[.int .i64 0, .int .i64 3]) ∧ Below w.heap.size w w' := by
  obtain ⟨H, hH⟩ : ∃ H, H = a * b / 18446744073709551616 := ⟨_, rfl⟩
  obtain ⟨L, hL⟩ : ∃ L, L = a * b % 18446744073709551616 := ⟨_, rfl⟩
  have O := Lib.hid (fun W : World => wide_ofV a b H L W ha hb hH hL)
  have C := Lib.hid (fun W : World => wide_cmpN (m := a * b) (n := 9007199254740992) (c := 0) (d := 9007199254740992) W (prod_lt ha hb) hH hL rfl rfl)
  have T := Lib.hid (sgn_over h)
  clear h ha hb hH hL
  go_enter Try.func48, Try.ntmps48
  go_wp2_with fail
  refine (O.out _).mono ?_
  rintro e w1 ⟨rfl, h1⟩
  go_wp2_with fail
  refine (C.out _).mono ?_
  rintro e w2 ⟨rfl, h2⟩
  have t := T.out
  go_wp2
  go_ret2
  have s1 := h1.size
  simp at h2
  exact ⟨rfl, (h1.alloc s1 _).trans (h2.mono (by omega))⟩
theorem product_within (a b : Nat) (w : World) (ha : a < 18446744073709551616) (hb : b < 18446744073709551616) (h : a * b ≤ 9007199254740992) :
    Calls Try.prog 48 #[.int .u64 (a : Int), .int .u64 (b : Int)] w fun e w' => e = .returned (.tuple #[.int .i64 ((a * b : Nat) : Int), .int .i64 0]) ∧ Below w.heap.size w w' := by
  obtain ⟨H, hH⟩ : ∃ H, H = a * b / 18446744073709551616 := ⟨_, rfl⟩
  obtain ⟨L, hL⟩ : ∃ L, L = a * b % 18446744073709551616 := ⟨_, rfl⟩
  have O := Lib.hid (fun W : World => wide_ofV a b H L W ha hb hH hL)
  have C := Lib.hid (fun W : World => wide_cmpN (m := a * b) (n := 9007199254740992) (c := 0) (d := 9007199254740992) W (prod_lt ha hb) hH hL rfl rfl)
  have T := Lib.hid (sgn_within h)
  have hL2 : L = a * b := by omega
  rw [← hL2]
  have hLb : (L : Int) ≤ 9007199254740992 := by omega
  clear h ha hb hH hL hL2
  go_enter Try.func48, Try.ntmps48
  go_wp2_with fail
  refine (O.out _).mono ?_
  rintro e w1 ⟨rfl, h1⟩
  go_wp2_with fail
  refine (C.out _).mono ?_
  rintro e w2 ⟨rfl, h2⟩
  have t := T.out
  have hc : w2.cell? ⟨w1.heap.size, 1, none⟩ = some (.int .u64 (L : Int)) := (h2.cell (p := ⟨w1.heap.size, 1, none⟩) (by simp)).trans (by simp)
  go_wp2
  go_ret2
  have s1 := h1.size
  simp at h2
  exact ⟨rfl, (h1.alloc s1 _).trans (h2.mono (by omega))⟩

/-- What 'Add' answers. -/
theorem add_arg (a b : Int) (w : World) (h : (a < 0 ∨ 9007199254740992 < a) ∨ (b < 0 ∨ 9007199254740992 < b)) :
    Calls Try.prog 59 #[.int .i64 a, .int .i64 b] w fun e w' => e = .returned (.tuple #[.int .i64 0, .int .i64 1]) ∧ w = w' := by
  by_cases h1 : a < 0 ∨ 9007199254740992 < a
  · go_enter Try.func59, Try.ntmps59
    go_wp2_with fail
    refine (right_no _ _ h1).mono ?_
    rintro e w' ⟨rfl, rfl⟩
    go_wp2
    go_ret2
    exact ⟨rfl, rfl⟩
  · have h2 := h.resolve_left h1
    go_enter Try.func59, Try.ntmps59
    go_wp2_with fail
    refine (right_yes _ _ (by omega) (by omega)).mono ?_
    rintro e w' ⟨rfl, rfl⟩
    go_wp2_with fail
    refine (right_no _ _ h2).mono ?_
    rintro e w' ⟨rfl, rfl⟩
    go_wp2
    go_ret2
    exact ⟨rfl, rfl⟩
theorem add_over (a b : Int) (w : World) (ha : 0 ≤ a) (ha1 : a ≤ 9007199254740992) (hb : 0 ≤ b) (hb1 : b ≤ 9007199254740992) (h : 9007199254740992 < a + b) :
    Calls Try.prog 59 #[.int .i64 a, .int .i64 b] w fun e w' => e = .returned (.tuple #[.int .i64 0, .int .i64 3]) ∧ w = w' := by
  have t1 : 9007199254740992 - b < a := by omega
  go_enter Try.func59, Try.ntmps59
  go_wp2_with fail
  refine (right_yes _ _ ha ha1).mono ?_
  rintro e w' ⟨rfl, rfl⟩
  go_wp2_with fail
  refine (right_yes _ _ hb hb1).mono ?_
  rintro e w' ⟨rfl, rfl⟩
  go_wp2
  go_ret2
  exact ⟨rfl, rfl⟩
theorem add_within (a b : Int) (w : World) (ha : 0 ≤ a) (ha1 : a ≤ 9007199254740992) (hb : 0 ≤ b) (hb1 : b ≤ 9007199254740992) (h : a + b ≤ 9007199254740992) :
    Calls Try.prog 59 #[.int .i64 a, .int .i64 b] w fun e w' => e = .returned (.tuple #[.int .i64 (a + b), .int .i64 0]) ∧ w = w' := by
  have t1 : ¬ 9007199254740992 - b < a := by omega
  go_enter Try.func59, Try.ntmps59
  go_wp2_with fail
  refine (right_yes _ _ ha ha1).mono ?_
  rintro e w' ⟨rfl, rfl⟩
  go_wp2_with fail
  refine (right_yes _ _ hb hb1).mono ?_
  rintro e w' ⟨rfl, rfl⟩
  go_wp2
  go_ret2
  exact ⟨rfl, rfl⟩

/-- What 'Times' answers. -/
theorem times_arg (a n : Int) (w : World) (h : (a < 0 ∨ 9007199254740992 < a) ∨ n < 0) :
    Calls Try.prog 22 #[.int .i64 a, .int .i64 n] w fun e w' => e = .returned (.tuple #[.int .i64 0, .int .i64 1]) ∧ Below w.heap.size w w' := by
  by_cases h1 : a < 0 ∨ 9007199254740992 < a
  · go_enter Try.func22, Try.ntmps22
    go_wp2_with fail
    refine (right_no _ _ h1).mono ?_
    rintro e w' ⟨rfl, rfl⟩
    go_wp2
    go_ret2
    exact ⟨rfl, Below.refl _ _⟩
  · have h2 := h.resolve_left h1
    go_enter Try.func22, Try.ntmps22
    go_wp2_with fail
    refine (right_yes _ _ (by omega) (by omega)).mono ?_
    rintro e w' ⟨rfl, rfl⟩
    go_wp2
    go_ret2
    exact ⟨rfl, Below.refl _ _⟩
theorem times_over (a n : Nat) (w : World) (ha : a ≤ 9007199254740992) (hn : n < 9223372036854775808) (h : 9007199254740992 < a * n) :
    Calls Try.prog 22 #[.int .i64 (a : Int), .int .i64 (n : Int)] w fun e w' => e = .returned (.tuple #[.int .i64 0, .int .i64 3]) ∧ Below w.heap.size w w' := by
  have P := Lib.hid (fun W : World => product_over a n W (by omega) (by omega) h)
  clear h
  have h1 : (a : Int) ≤ 9007199254740992 := by omega
  have c1 : IntKind.u64.wrap (a : Int) = (a : Int) := by rw [IntKind.wrap_u64]; omega
  have c2 : IntKind.u64.wrap (n : Int) = (n : Int) := by rw [IntKind.wrap_u64]; omega
  have c3 : decide ((n : Int) < 0) = false := by simp
  clear ha hn
  go_enter Try.func22, Try.ntmps22
  go_wp2_with fail
  refine (right_yes _ _ (by omega) h1).mono ?_
  rintro e w' ⟨rfl, rfl⟩
  go_wp2_with fail
  refine (P.out _).mono ?_
  rintro e w1 ⟨rfl, g1⟩
  go_wp2
  go_ret2
  exact ⟨rfl, g1⟩
theorem times_within (a n : Nat) (w : World) (ha : a ≤ 9007199254740992) (hn : n < 9223372036854775808) (h : a * n ≤ 9007199254740992) :
    Calls Try.prog 22 #[.int .i64 (a : Int), .int .i64 (n : Int)] w fun e w' => e = .returned (.tuple #[.int .i64 ((a * n : Nat) : Int), .int .i64 0]) ∧ Below w.heap.size w w' := by
  obtain ⟨x, hx⟩ : ∃ x, x = a * n := ⟨_, rfl⟩
  have P := Lib.hid (fun W : World => product_within a n W (by omega) (by omega) h)
  rw [← hx] at P ⊢
  clear h hx
  have h1 : (a : Int) ≤ 9007199254740992 := by omega
  have c1 : IntKind.u64.wrap (a : Int) = (a : Int) := by rw [IntKind.wrap_u64]; omega
  have c2 : IntKind.u64.wrap (n : Int) = (n : Int) := by rw [IntKind.wrap_u64]; omega
  have c3 : decide ((n : Int) < 0) = false := by simp
  clear ha hn
  go_enter Try.func22, Try.ntmps22
  go_wp2_with fail
  refine (right_yes _ _ (by omega) h1).mono ?_
  rintro e w' ⟨rfl, rfl⟩
  go_wp2_with fail
  refine (P.out _).mono ?_
  rintro e w1 ⟨rfl, g1⟩
  go_wp2
  go_ret2
  exact ⟨rfl, g1⟩

end Go.Proofs.Ytajkhbdniadkkaa
/- A row of an object that came in, that is nil, has no room. -/
namespace Go.Proofs.Ytajkhbdniadkkaa
open Go.ChangeShapes Go.WideShapes Go.ChangeAt Go.RowKit Go.Deep Go.Lib Go.Shelf
set_option linter.unusedVariables false
set_option maxRecDepth 20000

def rowsIx : List Nat := [6, 7, 8, 16, 17, 18, 23, 24, 32, 33, 38, 42, 45, 46]
def NilO (cs : Array Value) : Prop := ∀ i n c, i ∈ rowsIx → cs[i]? = some (.slice none n c) → c = 0
theorem nil_leaf {H : Type} {enc : TypeId × Value → H} {W : World} {S E : TypeId} {n o : Nat} {cs : List Value} {y : DataW H × List MemPlace} (hS : Try.prog.underlying S = some (.slice E)) (h : DataW.trod enc Try.prog W 0 (fun _ => true) true n S ((cs.drop o).take 1) = some y) : ∀ n c, cs[o]? = some (.slice none n c) → c = 0 := by
  intro m c hc
  rcases open_slice hS h with ⟨hcs, hx⟩ | ⟨a, len, cap, m', n', D, Pl, hcs, _⟩
  · have := at1 hcs
    rw [hc] at this
    injection this with this
    injection this
  · have := at1 hcs
    rw [hc] at this
    injection this with this
    injection this with e1 _ _
    cases e1
theorem into {cs : List Value} {o m j : Nat} {v : Value} (hj : j < m) (h : cs[o + j]? = some v) : ((cs.drop o).take m)[j]? = some v := by
  rw [List.getElem?_take_of_lt hj, List.getElem?_drop]
  exact h
theorem open_nil {H : Type} {enc : TypeId × Value → H} {W : World} {cs : Array Value} {d : DataW H} {p : List MemPlace}
    (h : DataW.Trod enc Try.prog W 0 (fun _ => true) true 99 (.agg cs) d p) (wt : Wt 99 d) : NilO cs := by
  obtain ⟨fuel, hf⟩ := h
  have hf : DataW.trod enc Try.prog W 0 (fun _ => true) true fuel 99 cs.toList = some (d, p) := hf
  obtain ⟨_, _, t0, z0⟩ := fld (F := 84) (off := 3) (k := 7) 3 Try.underlying99 (by kernel_rfl) hf wt
  obtain ⟨_, _, r6, _⟩ := fld (F := 81) (off := 3) (k := 1) 2 Try.underlying84 (by kernel_rfl) t0 z0
  have f6 : ∀ n c, cs[6]? = some (.slice none n c) → c = 0 := fun n c hc => nil_leaf Try.underlying81 r6 n c (into (o := 3) (m := 7) (j := 3) (by decide) (by rw [Array.getElem?_toList]; exact hc))
  obtain ⟨_, _, r7, _⟩ := fld (F := 82) (off := 4) (k := 1) 3 Try.underlying84 (by kernel_rfl) t0 z0
  have f7 : ∀ n c, cs[7]? = some (.slice none n c) → c = 0 := fun n c hc => nil_leaf Try.underlying82 r7 n c (into (o := 3) (m := 7) (j := 4) (by decide) (by rw [Array.getElem?_toList]; exact hc))
  obtain ⟨_, _, r8, _⟩ := fld (F := 81) (off := 5) (k := 1) 4 Try.underlying84 (by kernel_rfl) t0 z0
  have f8 : ∀ n c, cs[8]? = some (.slice none n c) → c = 0 := fun n c hc => nil_leaf Try.underlying81 r8 n c (into (o := 3) (m := 7) (j := 5) (by decide) (by rw [Array.getElem?_toList]; exact hc))
  obtain ⟨_, _, t1, z1⟩ := fld (F := 86) (off := 10) (k := 10) 4 Try.underlying99 (by kernel_rfl) hf wt
  obtain ⟨_, _, r16, _⟩ := fld (F := 81) (off := 6) (k := 1) 5 Try.underlying86 (by kernel_rfl) t1 z1
  have f16 : ∀ n c, cs[16]? = some (.slice none n c) → c = 0 := fun n c hc => nil_leaf Try.underlying81 r16 n c (into (o := 10) (m := 10) (j := 6) (by decide) (by rw [Array.getElem?_toList]; exact hc))
  obtain ⟨_, _, r17, _⟩ := fld (F := 82) (off := 7) (k := 1) 6 Try.underlying86 (by kernel_rfl) t1 z1
  have f17 : ∀ n c, cs[17]? = some (.slice none n c) → c = 0 := fun n c hc => nil_leaf Try.underlying82 r17 n c (into (o := 10) (m := 10) (j := 7) (by decide) (by rw [Array.getElem?_toList]; exact hc))
  obtain ⟨_, _, r18, _⟩ := fld (F := 81) (off := 8) (k := 1) 7 Try.underlying86 (by kernel_rfl) t1 z1
  have f18 : ∀ n c, cs[18]? = some (.slice none n c) → c = 0 := fun n c hc => nil_leaf Try.underlying81 r18 n c (into (o := 10) (m := 10) (j := 8) (by decide) (by rw [Array.getElem?_toList]; exact hc))
  obtain ⟨_, _, t2, z2⟩ := fld (F := 88) (off := 20) (k := 7) 5 Try.underlying99 (by kernel_rfl) hf wt
  obtain ⟨_, _, r23, _⟩ := fld (F := 81) (off := 3) (k := 1) 2 Try.underlying88 (by kernel_rfl) t2 z2
  have f23 : ∀ n c, cs[23]? = some (.slice none n c) → c = 0 := fun n c hc => nil_leaf Try.underlying81 r23 n c (into (o := 20) (m := 7) (j := 3) (by decide) (by rw [Array.getElem?_toList]; exact hc))
  obtain ⟨_, _, r24, _⟩ := fld (F := 81) (off := 4) (k := 1) 3 Try.underlying88 (by kernel_rfl) t2 z2
  have f24 : ∀ n c, cs[24]? = some (.slice none n c) → c = 0 := fun n c hc => nil_leaf Try.underlying81 r24 n c (into (o := 20) (m := 7) (j := 4) (by decide) (by rw [Array.getElem?_toList]; exact hc))
  obtain ⟨_, _, t3, z3⟩ := fld (F := 90) (off := 27) (k := 8) 6 Try.underlying99 (by kernel_rfl) hf wt
  obtain ⟨_, _, r32, _⟩ := fld (F := 81) (off := 5) (k := 1) 4 Try.underlying90 (by kernel_rfl) t3 z3
  have f32 : ∀ n c, cs[32]? = some (.slice none n c) → c = 0 := fun n c hc => nil_leaf Try.underlying81 r32 n c (into (o := 27) (m := 8) (j := 5) (by decide) (by rw [Array.getElem?_toList]; exact hc))
  obtain ⟨_, _, r33, _⟩ := fld (F := 81) (off := 6) (k := 1) 5 Try.underlying90 (by kernel_rfl) t3 z3
  have f33 : ∀ n c, cs[33]? = some (.slice none n c) → c = 0 := fun n c hc => nil_leaf Try.underlying81 r33 n c (into (o := 27) (m := 8) (j := 6) (by decide) (by rw [Array.getElem?_toList]; exact hc))
  obtain ⟨_, _, t4, z4⟩ := fld (F := 97) (off := 35) (k := 12) 7 Try.underlying99 (by kernel_rfl) hf wt
  obtain ⟨_, _, r38, _⟩ := fld (F := 91) (off := 3) (k := 1) 3 Try.underlying97 (by kernel_rfl) t4 z4
  have f38 : ∀ n c, cs[38]? = some (.slice none n c) → c = 0 := fun n c hc => nil_leaf Try.underlying91 r38 n c (into (o := 35) (m := 12) (j := 3) (by decide) (by rw [Array.getElem?_toList]; exact hc))
  obtain ⟨_, _, tb42, zb42⟩ := fld (F := 94) (off := 5) (k := 3) 5 Try.underlying97 (by kernel_rfl) t4 z4
  obtain ⟨_, _, r42, _⟩ := fld (F := 92) (off := 2) (k := 1) 2 Try.underlying94 (by kernel_rfl) tb42 zb42
  have f42 : ∀ n c, cs[42]? = some (.slice none n c) → c = 0 := fun n c hc => nil_leaf Try.underlying92 r42 n c (into (by decide) (into (o := 35) (m := 12) (j := 7) (by decide) (by rw [Array.getElem?_toList]; exact hc)))
  obtain ⟨_, _, tb45, zb45⟩ := fld (F := 94) (off := 8) (k := 3) 6 Try.underlying97 (by kernel_rfl) t4 z4
  obtain ⟨_, _, r45, _⟩ := fld (F := 92) (off := 2) (k := 1) 2 Try.underlying94 (by kernel_rfl) tb45 zb45
  have f45 : ∀ n c, cs[45]? = some (.slice none n c) → c = 0 := fun n c hc => nil_leaf Try.underlying92 r45 n c (into (by decide) (into (o := 35) (m := 12) (j := 10) (by decide) (by rw [Array.getElem?_toList]; exact hc)))
  obtain ⟨_, _, r46, _⟩ := fld (F := 95) (off := 11) (k := 1) 7 Try.underlying97 (by kernel_rfl) t4 z4
  have f46 : ∀ n c, cs[46]? = some (.slice none n c) → c = 0 := fun n c hc => nil_leaf Try.underlying95 r46 n c (into (o := 35) (m := 12) (j := 11) (by decide) (by rw [Array.getElem?_toList]; exact hc))
  intro i n c hi hc
  simp only [rowsIx, List.mem_cons, List.not_mem_nil, or_false] at hi
  rcases hi with rfl | rfl | rfl | rfl | rfl | rfl | rfl | rfl | rfl | rfl | rfl | rfl | rfl | rfl
  · exact f6 n c hc
  · exact f7 n c hc
  · exact f8 n c hc
  · exact f16 n c hc
  · exact f17 n c hc
  · exact f18 n c hc
  · exact f23 n c hc
  · exact f24 n c hc
  · exact f32 n c hc
  · exact f33 n c hc
  · exact f38 n c hc
  · exact f42 n c hc
  · exact f45 n c hc
  · exact f46 n c hc
end Go.Proofs.Ytajkhbdniadkkaa
/- Worlds in which one block alone was changed, of those that were there. -/
namespace Go.Proofs.Ytajkhbdniadkkaa
open Go.RowKit Go.Shelf Go.Lib Go.Sort
open Go.Joins (cell_of_block unfrozen_of_block block_setCell)
set_option linter.unusedVariables false

structure Xc (L : Nat) (w w' : World) : Prop where
  os : w'.os = w.os
  tape : w'.tape = w.tape
  output : w'.output = w.output
  drawn : w.drawn ≤ w'.drawn
  size : w.heap.size ≤ w'.heap.size
  block : ∀ k, k < w.heap.size → k ≠ L → w'.heap[k]? = w.heap[k]?
theorem Xc.refl (L : Nat) (w : World) : Xc L w w := ⟨rfl, rfl, rfl, Nat.le_refl _, Nat.le_refl _, fun _ _ _ => rfl⟩
theorem Xc.trans {L : Nat} {a b c : World} (h : Xc L a b) (k : Xc L b c) : Xc L a c :=
  ⟨k.os.trans h.os, k.tape.trans h.tape, k.output.trans h.output, Nat.le_trans h.drawn k.drawn, Nat.le_trans h.size k.size, fun i hi hn => (k.block i (Nat.lt_of_lt_of_le hi h.size) hn).trans (h.block i hi hn)⟩
theorem gr_drawn {w w' : World} (h : Gr w w') : w.drawn ≤ w'.drawn := by
  obtain ⟨q, os, rfl⟩ := h
  exact Nat.le_add_right _ _
theorem Xc.ofGr {w w' : World} (h : Gr w w') (L : Nat) : Xc L w w' :=
  ⟨h.below.os, h.below.tape, h.below.output, gr_drawn h, h.size, fun k hk _ => h.heap hk⟩
theorem Xc.gr {L : Nat} {a b c : World} (h : Xc L a b) (k : Gr b c) : Xc L a c := h.trans (Xc.ofGr k L)
theorem Xc.setCell {L : Nat} {a b : World} (h : Xc L a b) (i : Nat) (v : Value) : Xc L a (b.setCell ⟨L, i, none⟩ v) :=
  h.trans ⟨rfl, rfl, rfl, Nat.le_refl _, by simp [World.setCell], fun k _ hn => Below.heap_setCell _ _ _ _ hn⟩
theorem Xc.below {L : Nat} {w w' : World} (h : Xc L w w') {N : Nat} (hN : N ≤ L) (hw : N ≤ w.heap.size) : Below N w w' :=
  ⟨h.os, h.tape, h.output, h.size, fun k hk => h.block k (by omega) (by omega)⟩
/-- All that is new is the call's own. -/
theorem Xc.out {L : Nat} {w w1 w' : World} (g : Gr w w1) (h : Xc L w1 w') (hL : w.heap.size ≤ L) : Gr w w' := by
  refine Bd.gr ⟨g.below.trans (h.below hL g.size), Nat.le_trans (gr_drawn g) h.drawn⟩
theorem Xc.cell {L : Nat} {w w' : World} (h : Xc L w w') {p : Addr} {v : Value} (hp : w.cell? p = some v) (hn : p.block ≠ L) : w'.cell? p = some v :=
  (World.cell?_of_block (h.block _ (World.block_lt_of_cell? w p hp) hn)).trans hp
end Go.Proofs.Ytajkhbdniadkkaa
/- Objects laid into variables of their own. -/
namespace Go.Proofs.Ytajkhbdniadkkaa
open Go.RowKit Go.Shelf Go.Lib Go.Sort
open Go.Joins (cell_of_block unfrozen_of_block block_setCell)
set_option linter.unusedVariables false
set_option maxRecDepth 20000

/-- The cells of an object without anything. -/
abbrev zerC : Array Value := #[.int .i64 0, .string { data := #[] }, .int .u64 0, .int .i64 0, .int .i64 0, .int .i64 0, .slice none 0 0, .slice none 0 0, .slice none 0 0, .int .i64 0, .string { data := #[] }, .string { data := #[] }, .int .i64 0, .int .i64 0, .int .i64 0, .int .i64 0, .slice none 0 0, .slice none 0 0, .slice none 0 0, .int .i64 0, .string { data := #[] }, .int .i64 0, .int .i64 0, .slice none 0 0, .slice none 0 0, .int .i64 0, .bool false, .int .i64 0, .int .i64 0, .int .i64 0, .int .i64 0, .int .i64 0, .slice none 0 0, .slice none 0 0, .int .i64 0, .string { data := #[] }, .int .i64 0, .int .i64 0, .slice none 0 0, .int .i64 0, .int .i64 0, .int .i64 0, .slice none 0 0, .int .i64 0, .int .i64 0, .slice none 0 0, .slice none 0 0]
def zerO : Ob := ⟨0, ⟨#[]⟩, 0, ⟨0, 0, 0, [], [], [], 0⟩, ⟨⟨#[]⟩, ⟨#[]⟩, 0, 0, 0, 0, [], [], [], 0⟩, ⟨⟨#[]⟩, 0, 0, [], [], 0, false⟩, ⟨0, 0, 0, 0, 0, [], [], 0⟩, ⟨⟨#[]⟩, 0, 0, [], 0, 0, 0, [], 0, 0, [], []⟩⟩
def setAt : Array Value → Nat → List Value → Array Value
  | L, _, [] => L
  | L, i, v :: r => setAt (L.setIfInBounds i v) (i + 1) r
theorem setAt_lt : ∀ (vs : List Value) (L : Array Value) (i j : Nat), j < i → (setAt L i vs)[j]? = L[j]?
  | [], L, i, j, h => rfl
  | v :: r, L, i, j, h => by
    rw [setAt, setAt_lt r _ (i + 1) j (by omega), Array.getElem?_setIfInBounds_ne (by omega)]
theorem setCells_block : ∀ (vs : List Value) (w : World) (b o : Nat) (cs : Array Value) (T : TypeId) (fz : Nat × Nat), w.heap[b]? = some (.cells cs T fz) → (w.setCells b o vs).heap[b]? = some (.cells (setAt cs o vs) T fz)
  | [], w, b, o, cs, T, fz, h => h
  | v :: r, w, b, o, cs, T, fz, h => by
    rw [World.setCells, setAt]
    exact setCells_block r _ b (o + 1) _ T fz (block_setCell h v)
theorem setCells_out : ∀ (vs : List Value) (w : World) (b o k : Nat), k ≠ b → (w.setCells b o vs).heap[k]? = w.heap[k]?
  | [], w, b, o, k, h => rfl
  | v :: r, w, b, o, k, h => by
    rw [World.setCells, setCells_out r _ b (o + 1) k h]
    exact heap_setCell_other _ _ _ _ h
theorem setCells_size : ∀ (vs : List Value) (w : World) (b o : Nat), (w.setCells b o vs).heap.size = w.heap.size
  | [], w, b, o => rfl
  | v :: r, w, b, o => by
    rw [World.setCells, setCells_size r]
    simp [World.setCell]
theorem setCells_rest : ∀ (vs : List Value) (w : World) (b o : Nat), (w.setCells b o vs).os = w.os ∧ (w.setCells b o vs).tape = w.tape ∧ (w.setCells b o vs).output = w.output
  | [], w, b, o => ⟨rfl, rfl, rfl⟩
  | v :: r, w, b, o => by
    rw [World.setCells]
    exact setCells_rest r _ b (o + 1)
theorem setAt_size : ∀ (vs : List Value) (L : Array Value) (i : Nat), (setAt L i vs).size = L.size
  | [], L, i => rfl
  | v :: r, L, i => by rw [setAt, setAt_size r]; simp
theorem setAt_get : ∀ (vs : List Value) (L : Array Value) (i j : Nat), j < vs.length → i + vs.length ≤ L.size → (setAt L i vs)[i + j]? = vs[j]?
  | [], L, i, j, h, _ => by simp at h
  | v :: r, L, i, j, h, hL => by
    rw [setAt]
    simp only [List.length_cons] at h hL
    cases j with
    | zero =>
      show (setAt (L.setIfInBounds i v) (i + 1) r)[i]? = some v
      rw [setAt_lt r _ (i + 1) i (by omega)]
      exact Array.getElem?_setIfInBounds_self_of_lt (by omega)
    | succ j =>
      rw [show i + (j + 1) = (i + 1) + j by omega, setAt_get r _ (i + 1) j (by omega) (by simp; omega)]
      rfl
theorem setAt_full {L L' : Array Value} (h : L.size = L'.size) : setAt L 0 L'.toList = L' := by
  apply Array.ext
  · rw [setAt_size, h]
  · intro j h1 h2
    have := setAt_get L'.toList L 0 j (by simpa using h2) (by simp; omega)
    rw [Nat.zero_add] at this
    rw [Array.getElem?_eq_getElem h1, Array.getElem?_toList, Array.getElem?_eq_getElem h2] at this
    exact Option.some.inj this
theorem slR_one {α : Type} {k : Nat} {enc : α → List Value} {w : World} {v : Option Value} {l : List α} (h : SlR k enc w v l) : ∃ u, v = some u ∧ u.oneCell' = true := by
  obtain ⟨q, c, e, _⟩ := h
  exact ⟨_, e, rfl⟩
theorem objV_one {w : World} {L : Array Value} {x : Ob} (h : ObjV w L x) : L.all (·.oneCell') = true := by
  obtain ⟨hs, ⟨a0, a1, a2, _⟩, hW, hP, hN, hG, hH⟩ := h
  obtain ⟨a3, a4, a5, a6, a7, a8, a9⟩ := hW
  obtain ⟨a10, a11, a12, a13, a14, a15, a16, a17, a18, a19⟩ := hP
  obtain ⟨a20, a21, a22, a23, a24, a25, a26⟩ := hN
  obtain ⟨a27, a28, a29, a30, a31, a32, a33, a34⟩ := hG
  obtain ⟨a35, a36, a37, a38, a39, a40, a41, a42, a43, a44, a45, a46⟩ := hH
  have each : ∀ i, i < 47 → ∃ u, L[i]? = some u ∧ u.oneCell' = true := by
    intro i hi
    match i, hi with
    | 0, _ => exact ⟨_, a0, rfl⟩
    | 1, _ => exact ⟨_, a1, rfl⟩
    | 2, _ => exact ⟨_, a2, rfl⟩
    | 3, _ => exact ⟨_, a3, rfl⟩
    | 4, _ => exact ⟨_, a4, rfl⟩
    | 5, _ => exact ⟨_, a5, rfl⟩
    | 6, _ => exact slR_one a6
    | 7, _ => exact slR_one a7
    | 8, _ => exact slR_one a8
    | 9, _ => exact ⟨_, a9, rfl⟩
    | 10, _ => exact ⟨_, a10, rfl⟩
    | 11, _ => exact ⟨_, a11, rfl⟩
    | 12, _ => exact ⟨_, a12, rfl⟩
    | 13, _ => exact ⟨_, a13, rfl⟩
    | 14, _ => exact ⟨_, a14, rfl⟩
    | 15, _ => exact ⟨_, a15, rfl⟩
    | 16, _ => exact slR_one a16
    | 17, _ => exact slR_one a17
    | 18, _ => exact slR_one a18
    | 19, _ => exact ⟨_, a19, rfl⟩
    | 20, _ => exact ⟨_, a20, rfl⟩
    | 21, _ => exact ⟨_, a21, rfl⟩
    | 22, _ => exact ⟨_, a22, rfl⟩
    | 23, _ => exact slR_one a23
    | 24, _ => exact slR_one a24
    | 25, _ => exact ⟨_, a25, rfl⟩
    | 26, _ => exact ⟨_, a26, rfl⟩
    | 27, _ => exact ⟨_, a27, rfl⟩
    | 28, _ => exact ⟨_, a28, rfl⟩
    | 29, _ => exact ⟨_, a29, rfl⟩
    | 30, _ => exact ⟨_, a30, rfl⟩
    | 31, _ => exact ⟨_, a31, rfl⟩
    | 32, _ => exact slR_one a32
    | 33, _ => exact slR_one a33
    | 34, _ => exact ⟨_, a34, rfl⟩
    | 35, _ => exact ⟨_, a35, rfl⟩
    | 36, _ => exact ⟨_, a36, rfl⟩
    | 37, _ => exact ⟨_, a37, rfl⟩
    | 38, _ => exact slR_one a38
    | 39, _ => exact ⟨_, a39, rfl⟩
    | 40, _ => exact ⟨_, a40, rfl⟩
    | 41, _ => exact ⟨_, a41, rfl⟩
    | 42, _ => exact slR_one a42
    | 43, _ => exact ⟨_, a43, rfl⟩
    | 44, _ => exact ⟨_, a44, rfl⟩
    | 45, _ => exact slR_one a45
    | 46, _ => exact slR_one a46
    | n + 47, h => omega
  rw [Array.all_eq_true]
  intro i hi
  obtain ⟨u, h1, h2⟩ := each i (by omega)
  rw [Array.getElem?_eq_getElem hi] at h1
  injection h1 with h1
  rw [h1]
  exact h2

theorem zer_there (w : World) {n : Nat} (h : n = 47) : (w.alloc (.cells zerC 99)).there w.heap.size 0 n := by
  subst h
  intro j hj
  rw [Nat.zero_add, cell_of_block (heap_alloc_new w _), unfrozen_of_block (heap_alloc_new w _)]
  refine ⟨?_, rfl⟩
  rw [Array.getElem?_eq_getElem (by simpa using hj)]
  rfl
theorem laid_ob (w : World) {cs : Array Value} (hs : cs.size = 47) : ((w.alloc (.cells zerC 99)).setCells w.heap.size 0 cs.toList).heap[w.heap.size]? = some (.cells cs 99 (0, 0)) ∧ Gr w ((w.alloc (.cells zerC 99)).setCells w.heap.size 0 cs.toList) := by
  refine ⟨?_, ?_⟩
  · rw [setCells_block _ _ _ _ _ _ _ (heap_alloc_new w _), setAt_full (by rw [hs]; rfl)]
  · exact (bd_setCells ((Bd.refl w.heap.size w).alloc (Nat.le_refl _) _) w.heap.size 0 (Nat.le_refl _) cs.toList).gr
end Go.Proofs.Ytajkhbdniadkkaa
/- Rows of a call's own; appended anew. -/
namespace Go.Proofs.Ytajkhbdniadkkaa
open Go.RowKit Go.Shelf Go.Lib Go.Sort
open Go.Joins (cell_of_block unfrozen_of_block block_setCell)
set_option linter.unusedVariables false
set_option maxRecDepth 20000

def flat {α : Type} (enc : α → List Value) (l : List α) : List Value := l.flatMap enc
theorem flat_length {α : Type} {enc : α → List Value} {k : Nat} (hk : ∀ x, (enc x).length = k) : ∀ l : List α, (flat enc l).length = l.length * k
  | [] => by simp [flat]
  | x :: l => by
    have := flat_length hk l
    unfold flat at this ⊢
    rw [List.flatMap_cons, List.length_append, this, hk, List.length_cons, Nat.add_mul]
    omega
theorem flat_at {α : Type} {enc : α → List Value} {k : Nat} (hk : ∀ x, (enc x).length = k) : ∀ (l : List α) (i t : Nat) (x : α), l[i]? = some x → t < k → (flat enc l)[i * k + t]? = (enc x)[t]?
  | [], i, t, x, h, _ => by simp at h
  | y :: l, 0, t, x, h, ht => by
    simp at h
    subst h
    unfold flat
    rw [List.flatMap_cons, Nat.zero_mul, Nat.zero_add, List.getElem?_append_left (by rw [hk]; exact ht)]
  | y :: l, i + 1, t, x, h, ht => by
    have := flat_at hk l i t x (by simpa using h) ht
    unfold flat at this ⊢
    rw [List.flatMap_cons, List.getElem?_append_right (by rw [hk, Nat.add_mul]; omega), hk, ← this]
    congr 1
    rw [Nat.add_mul]
    omega
theorem flat_get {α : Type} {enc : α → List Value} {k : Nat} (hk : ∀ x, (enc x).length = k) (h0 : 0 < k) {l : List α} {j : Nat} {u : Value} (h : (flat enc l)[j]? = some u) : ∃ i t x, l[i]? = some x ∧ t < k ∧ (enc x)[t]? = some u ∧ j = i * k + t := by
  have hj : j < l.length * k := by rw [← flat_length hk]; exact (List.getElem?_eq_some_iff.1 h).1
  have hi : j / k < l.length := Nat.div_lt_of_lt_mul (by rw [Nat.mul_comm]; exact hj)
  have ht : j % k < k := Nat.mod_lt _ h0
  have e : j = j / k * k + j % k := by rw [Nat.mul_comm]; exact (Nat.div_add_mod j k).symm
  refine ⟨j / k, j % k, l[j / k], List.getElem?_eq_getElem hi, ht, ?_, e⟩
  rw [← flat_at hk l (j / k) (j % k) _ (List.getElem?_eq_getElem hi) ht, ← e]
  exact h
theorem flat_one {α : Type} {enc : α → List Value} (h1 : ∀ x, ∀ u ∈ enc x, u.oneCell' = true) (l : List α) : ∀ u ∈ flat enc l, u.oneCell' = true := by
  intro u hu
  obtain ⟨x, _, hx⟩ := List.mem_flatMap.1 hu
  exact h1 x u hx

theorem lenL (x : Lab) : (encL x).length = 2 := rfl
theorem lenR (x : Req) : (encR x).length = 3 := rfl
theorem lenM (x : Met) : (encM x).length = 3 := rfl
theorem lenP (x : Pol) : (encP x).length = 3 := rfl
theorem lenS (x : Sca) : (encS x).length = 3 := rfl
theorem oneL (x : Lab) : ∀ u ∈ encL x, u.oneCell' = true := by intro u hu; simp [encL] at hu; rcases hu with rfl | rfl <;> rfl
theorem oneR (x : Req) : ∀ u ∈ encR x, u.oneCell' = true := by intro u hu; simp [encR] at hu; rcases hu with rfl | rfl | rfl <;> rfl
theorem oneM (x : Met) : ∀ u ∈ encM x, u.oneCell' = true := by intro u hu; simp [encM] at hu; rcases hu with rfl | rfl | rfl <;> rfl
theorem oneP (x : Pol) : ∀ u ∈ encP x, u.oneCell' = true := by intro u hu; simp [encP] at hu; rcases hu with rfl | rfl | rfl <;> rfl
theorem oneS (x : Sca) : ∀ u ∈ encS x, u.oneCell' = true := by intro u hu; simp [encS] at hu; rcases hu with rfl | rfl | rfl <;> rfl

/-- How an owned row lies. -/
theorem own_lies {α : Type} {enc : α → List Value} {k : Nat} (hk : ∀ x, (enc x).length = k) {w : World} {N : Nat} {E : TypeId} {v : Value} {l : List α} (h : w.ownsRow N E k v l.length (flat enc l)) :
    ∃ q c, v = .slice q l.length c ∧ RowR k enc w q l ∧ (q = none → c = 0) ∧ ∀ ad, q = some ad → ∃ g cur, ad = ⟨g, 0, none⟩ ∧ N ≤ g ∧ w.heap[g]? = some (.cells cur E (0, 0)) ∧ l.length * k ≤ cur.size := by
  obtain ⟨h0, h⟩ := h
  rcases h with ⟨rfl, h1⟩ | ⟨g, c, cur, rfl, hb, hg, hc, hm, hsz, htk⟩
  · have : l = [] := List.eq_nil_of_length_eq_zero h1
    subst this
    exact ⟨none, 0, rfl, RowR.nil _ _ _ _, fun _ => rfl, fun ad e => by cases e⟩
  · refine ⟨some ⟨g, 0, none⟩, c, rfl, ?_, fun e => (by cases e), fun ad e => ⟨g, cur, (Option.some.inj e).symm, hb, hg, by rw [hsz]; exact Nat.mul_le_mul hc (Nat.le_refl _)⟩⟩
    intro j x hx
    refine ⟨g, 0, rfl, (Array.getElem?_eq_some_iff.1 hg).1, fun t v hv => ?_⟩
    have ht : t < k := by rw [← hk x]; exact (List.getElem?_eq_some_iff.1 hv).1
    have e1 := flat_at hk l j t x hx ht
    rw [hv, ← htk] at e1
    have hj : j < l.length := (List.getElem?_eq_some_iff.1 hx).1
    have hlt : j * k + t < l.length * k := by
      have : (j + 1) * k ≤ l.length * k := Nat.mul_le_mul hj (Nat.le_refl _)
      rw [Nat.add_mul] at this
      omega
    rw [List.getElem?_take_of_lt hlt, Array.getElem?_toList] at e1
    rw [cell_of_block hg, Nat.zero_add]
    exact e1
/-- It stays where what is the call's own stays. -/
theorem own_stays {w w' : World} {N n : Nat} {e : TypeId} {s : Nat} {v : Value} {xs : List Value} (h : w.ownsRow N e s v n xs) (k : ∀ g, N ≤ g → g < w.heap.size → w'.heap[g]? = w.heap[g]?) : w'.ownsRow N e s v n xs := by
  obtain ⟨h0, h⟩ := h
  refine ⟨h0, ?_⟩
  rcases h with h | ⟨g, cap, cur, e1, hb, hg, r⟩
  · exact .inl h
  · exact .inr ⟨g, cap, cur, e1, hb, (k g hb (Array.getElem?_eq_some_iff.1 hg).1).trans hg, r⟩
theorem own_mono {w : World} {N M n : Nat} {e : TypeId} {s : Nat} {v : Value} {xs : List Value} (h : w.ownsRow N e s v n xs) (hM : M ≤ N) : w.ownsRow M e s v n xs := by
  obtain ⟨h0, h⟩ := h
  refine ⟨h0, ?_⟩
  rcases h with h | ⟨g, cap, cur, e1, hb, r⟩
  · exact .inl h
  · exact .inr ⟨g, cap, cur, e1, Nat.le_trans hM hb, r⟩

/-- 'append([]T(nil), row...)'. -/
theorem wpList_append_new {α : Type} {enc : α → List Value} {k bytes : Nat} {z : Value} {w : World} {ops : Array Oper} {rest : List Oper} {o : Oper} {a : Act} {Q : Exit → Act → World → Prop} (hgd : o.guard = none) (s x : Operand) (T E : TypeId)
    (ho : o.op = .call { callee := .builtin .append, args := #[s, x], argTypes := #[T, T] })
    (ht : Try.prog.underlying T = some (.slice E)) (hinfo : (Try.prog.info? E).map (fun i => (i.zero, i.size, i.bytes)) = some (some z, k, bytes)) (hz : z.cells.size = k) (h0 : 0 < k)
    (hk : ∀ x, (enc x).length = k) (h1 : ∀ x, ∀ u ∈ enc x, u.oneCell' = true)
    (hs : a.eval s = .slice none 0 0) (q : Option Addr) (c : Nat) (l : List α) (hx : a.eval x = .slice q l.length c) (hr : RowR k enc w q l) (hq : q = none → c = 0) (hb : l.length * bytes ≤ 140737488355328) (hm : l.length ≤ 9223372036854775807)
    (h : ∀ v' w', w'.ownsRow w.heap.size E k v' l.length (flat enc l) → Below w.heap.size w w' → wpList Try.prog ops Q rest (a.put o.dst v') w') :
    wpList Try.prog ops Q (o :: rest) a w := by
  cases hi : Try.prog.info? E with
  | none => rw [hi] at hinfo; cases hinfo
  | some i =>
    rw [hi] at hinfo
    simp only [Option.map_some, Option.some.injEq, Prod.mk.injEq] at hinfo
    obtain ⟨i0, i1, i2⟩ := hinfo
    cases q with
    | none =>
      obtain rfl := hq rfl
      have hl : l = [] := by
        cases l with
        | nil => rfl
        | cons x l =>
          obtain ⟨_, _, e, _⟩ := hr 0 x rfl
          cases e
      subst hl
      refine wpList_append_own_none hgd s x _ ho w.heap.size E i k ht hi (.slice none 0 0) 0 [] hs (World.ownsRow_nil _ _ _ _) hx ?_
      exact h _ w (World.ownsRow_nil _ _ _ _) (Below.refl _ _)
    | some ad =>
      refine wpList_append_own_at w hgd s x _ ho w.heap.size E i z k bytes ht hi i0 i1 i2 hz h0 (.slice none 0 0) 0 [] hs (World.ownsRow_nil _ _ _ _) ad l.length c (flat enc l) hx
        (flat_length hk l) ?_ (flat_one h1 l) (by unfold maxLen; omega) (by rw [Nat.zero_add]; exact hb) (Nat.le_refl _) ?_
      · intro j u hu
        obtain ⟨i', t, x', hx', ht', hu', rfl⟩ := flat_get hk h0 hu
        obtain ⟨b, off, e, _, hc⟩ := hr i' x' hx'
        cases e
        have ea : (⟨b, off, none⟩ : Addr).add (i' * k + t) = ⟨b, off + (i' * k + t), none⟩ := by unfold Addr.add; split <;> simp_all
        rw [ea, ← Nat.add_assoc]
        exact hc t u hu'
      · intro v' w' h2 h3 _ _
        refine h v' w' ?_ ⟨h3.os, h3.tape, h3.output, h3.size, fun b hb => h3.block b hb (by simp [Value.ownBlock])⟩
        simpa using h2

/-- Of the blocks that were there one alone was changed; how often the tape was asked isn't said. -/
structure Xb (L : Nat) (w w' : World) : Prop where
  os : w'.os = w.os
  tape : w'.tape = w.tape
  output : w'.output = w.output
  size : w.heap.size ≤ w'.heap.size
  block : ∀ k, k < w.heap.size → k ≠ L → w'.heap[k]? = w.heap[k]?
theorem Xb.refl (L : Nat) (w : World) : Xb L w w := ⟨rfl, rfl, rfl, Nat.le_refl _, fun _ _ _ => rfl⟩
theorem Xb.trans {L : Nat} {a b c : World} (h : Xb L a b) (k : Xb L b c) : Xb L a c :=
  ⟨k.os.trans h.os, k.tape.trans h.tape, k.output.trans h.output, Nat.le_trans h.size k.size, fun i hi hn => (k.block i (Nat.lt_of_lt_of_le hi h.size) hn).trans (h.block i hi hn)⟩
theorem Xb.ofBelow {w w' : World} (h : Below w.heap.size w w') (L : Nat) : Xb L w w' := ⟨h.os, h.tape, h.output, h.size, fun k hk _ => h.block k hk⟩
theorem Xb.ofGr {w w' : World} (h : Gr w w') (L : Nat) : Xb L w w' := Xb.ofBelow h.below L
theorem Xb.setCell {L : Nat} {a b : World} (h : Xb L a b) (i : Nat) (v : Value) : Xb L a (b.setCell ⟨L, i, none⟩ v) :=
  h.trans ⟨rfl, rfl, rfl, by simp [World.setCell], fun k _ hn => Below.heap_setCell _ _ _ _ hn⟩
theorem Xb.below {L : Nat} {w w' : World} (h : Xb L w w') {N : Nat} (hN : N ≤ L) (hw : N ≤ w.heap.size) : Below N w w' :=
  ⟨h.os, h.tape, h.output, h.size, fun k hk => h.block k (by omega) (by omega)⟩
theorem Xb.cell {L : Nat} {w w' : World} (h : Xb L w w') {p : Addr} {v : Value} (hp : w.cell? p = some v) (hn : p.block ≠ L) : w'.cell? p = some v :=
  (World.cell?_of_block (h.block _ (World.block_lt_of_cell? w p hp) hn)).trans hp
end Go.Proofs.Ytajkhbdniadkkaa
/- A row of objects that came in, for whatever layer: how it lies; how long its objects' rows can be. -/
namespace Go.Proofs.Ytajkhbdniadkkaa.Ow
open Go.ChangeShapes Go.WideShapes Go.ChangeAt Go.RowKit Go.Deep Go.Lib Go.Shelf
open Go.Joins (cell_of_block unfrozen_of_block block_setCell)
set_option linter.unusedVariables false
set_option maxRecDepth 20000

/-- The cells of an object. -/
abbrev Cs := { a : Array Value // a.size = 47 ∧ a.all (·.oneCell') = true }
abbrev Obv := Cs × Ob
def encOb (x : Obv) : List Value := x.1.1.toList
theorem lenOb (x : Obv) : (encOb x).length = 47 := by unfold encOb; rw [Array.length_toList]; exact x.1.2.1
theorem oneOb (x : Obv) : ∀ u ∈ encOb x, u.oneCell' = true := by
  intro u hu
  have h := x.1.2.2
  rw [← Array.all_toList] at h
  exact List.all_eq_true.1 h u hu
instance : Inhabited Cs := ⟨⟨zerC, rfl, by kernel_rfl⟩⟩
instance : Inhabited Ob := ⟨zerO⟩
/-- None of its rows is longer than memory. -/
def FitR (cs : Array Value) (i b : Nat) : Prop := ∀ q n c, cs[i]? = some (.slice q n c) → n * b ≤ 140737488351232
def FitH (cs : Array Value) : Prop := FitR cs 38 32 ∧ FitR cs 42 24 ∧ FitR cs 45 24 ∧ FitR cs 46 24
/-- .. told of the object. -/
def FitO (o : Ob) : Prop := o.h.met.length * 32 ≤ 140737488351232 ∧ o.h.upol.length * 24 ≤ 140737488351232 ∧ o.h.dpol.length * 24 ≤ 140737488351232 ∧ o.h.past.length * 24 ≤ 140737488351232
theorem FitH.ob {W : World} {cs : Array Value} {o : Ob} (h : FitH cs) (hv : ObjV W cs o) : FitO o := by
  obtain ⟨hsz, _, _, _, _, _, hH⟩ := hv
  obtain ⟨_, _, _, ⟨q1, k1, e1, r1⟩, _, _, _, ⟨q2, k2, e2, r2⟩, _, _, ⟨q3, k3, e3, r3⟩, ⟨q4, k4, e4, r4⟩⟩ := hH
  exact ⟨h.1 _ _ _ e1, h.2.1 _ _ _ e2, h.2.2.1 _ _ _ e3, h.2.2.2 _ _ _ e4⟩
def okOb (W : World) (x : Obv) : Prop := ObjV W x.1.1 x.2 ∧ NilO x.1.1 ∧ FitsO x.2 ∧ I64 x.2.kind ∧ FitO x.2
theorem fit_leaf {H : Type} {enc : TypeId × Value → H} {W : World} {S E : TypeId} {n o b : Nat} {cs : List Value} {y : DataW H × List MemPlace} (hS : Try.prog.underlying S = some (.slice E)) (hb : Try.prog.bytesOf E = b)
    (h : DataW.trod enc Try.prog W 0 (fun _ => true) true n S ((cs.drop o).take 1) = some y) (wt : Wt S y.1) : ∀ q m c, cs[o]? = some (.slice q m c) → m * b ≤ 140737488351232 := by
  intro q m0 c0 hc
  rcases open_slice hS h with ⟨hcs, hx⟩ | ⟨a, len, cap, m, n', D, Pl, hcs, _, hl, hm, hmm, hx, hcell⟩
  · have := at1 hcs
    rw [hc] at this
    injection this with this
    injection this with _ e _
    rw [e]
    omega
  · have e0 := at1 hcs
    rw [hc] at e0
    injection e0 with e0
    injection e0 with _ e _
    have h1 := wt ((((List.range len).map D).length + ((List.range (m - len)).map fun j => D (len + j)).length) * Try.prog.bytesOf E) (by rw [hx, DataW.weights, hS]; exact List.mem_cons_self)
    rw [reach_eq, hb] at h1
    simp only [List.length_map, List.length_range] at h1
    rw [e]
    exact Nat.le_trans (Nat.mul_le_mul_right b (by omega)) h1
theorem open_fit {H : Type} {enc : TypeId × Value → H} {W : World} {cs : Array Value} {d : DataW H} {p : List MemPlace} {fuel : Nat}
    (hf : DataW.trod enc Try.prog W 0 (fun _ => true) true fuel 99 cs.toList = some (d, p)) (wt : Wt 99 d) : FitH cs := by
  obtain ⟨_, _, t4, z4⟩ := fld (F := 97) (off := 35) (k := 12) 7 Try.underlying99 (by kernel_rfl) hf wt
  obtain ⟨_, _, r38, z38⟩ := fld (F := 91) (off := 3) (k := 1) 3 Try.underlying97 (by kernel_rfl) t4 z4
  obtain ⟨_, _, tu, zu⟩ := fld (F := 94) (off := 5) (k := 3) 5 Try.underlying97 (by kernel_rfl) t4 z4
  obtain ⟨_, _, r42, z42⟩ := fld (F := 92) (off := 2) (k := 1) 2 Try.underlying94 (by kernel_rfl) tu zu
  obtain ⟨_, _, td, zd⟩ := fld (F := 94) (off := 8) (k := 3) 6 Try.underlying97 (by kernel_rfl) t4 z4
  obtain ⟨_, _, r45, z45⟩ := fld (F := 92) (off := 2) (k := 1) 2 Try.underlying94 (by kernel_rfl) td zd
  obtain ⟨_, _, r46, z46⟩ := fld (F := 95) (off := 11) (k := 1) 7 Try.underlying97 (by kernel_rfl) t4 z4
  refine ⟨fun q n c hc => ?_, fun q n c hc => ?_, fun q n c hc => ?_, fun q n c hc => ?_⟩
  · exact fit_leaf Try.underlying91 (by kernel_rfl) r38 z38 q n c (into (o := 35) (m := 12) (j := 3) (by decide) (by rw [Array.getElem?_toList]; exact hc))
  · exact fit_leaf Try.underlying92 (by kernel_rfl) r42 z42 q n c (into (o := 5) (m := 3) (j := 2) (by decide) (into (o := 35) (m := 12) (j := 7) (by decide) (by rw [Array.getElem?_toList]; exact hc)))
  · exact fit_leaf Try.underlying92 (by kernel_rfl) r45 z45 q n c (into (o := 8) (m := 3) (j := 2) (by decide) (into (o := 35) (m := 12) (j := 10) (by decide) (by rw [Array.getElem?_toList]; exact hc)))
  · exact fit_leaf Try.underlying95 (by kernel_rfl) r46 z46 q n c (into (o := 35) (m := 12) (j := 11) (by decide) (by rw [Array.getElem?_toList]; exact hc))
theorem open_rowK {α : Type} [Inhabited α] {H : Type} {enc : TypeId × Value → H} {W : World} {S E : TypeId} {k n o : Nat} (e : α → List Value) (ok : α → Prop) (hS : Try.prog.underlying S = some (.slice E)) (hk : Try.prog.cellsOf E = k) (h0 : 0 < k)
    (hb : 0 < Try.prog.bytesOf E) (each : ∀ n cs y, cs.length = k → DataW.trod enc Try.prog W 0 (fun _ => true) true n E cs = some y → Wt E y.1 → ∃ x, (∀ (t : Nat) (v : Value), (e x)[t]? = some v → cs[t]? = some v) ∧ ok x) {cs : List Value} {y : DataW H × List MemPlace} (h : DataW.trod enc Try.prog W 0 (fun _ => true) true n S ((cs.drop o).take 1) = some y) (wt : Wt S y.1) :
    ∃ l : List α, SlR k e W cs[o]? l ∧ (∀ x ∈ l, ok x) ∧ l.length ≤ 140737488351232 := by
  rcases open_slice hS h with ⟨hcs, hx⟩ | ⟨a, len, cap, m, n', D, Pl, hcs, _, hl, hm, hmm, hx, hcell⟩
  · exact ⟨[], ⟨none, 0, at1 hcs, RowR.nil _ _ _ _⟩, by simp, by simp⟩
  · simp only [if_true] at hmm
    have each2 : ∀ i, i < len → ∃ x : α, ∃ b off, a = ⟨b, off, none⟩ ∧ b < W.heap.size ∧ ok x ∧ ∀ (t : Nat) (u : Value), (e x)[t]? = some u → W.cell? ⟨b, off + i * k + t, none⟩ = some u := by
      intro i hi
      obtain ⟨c0, g1, g2⟩ := hcell 0 (by omega)
      rw [hk] at g1
      obtain ⟨l0, p0⟩ := cells_at g1
      obtain ⟨b, off, ha, hbl⟩ := spot_none' (by have := p0 0 (c0[0]'(by omega)) (List.getElem?_eq_getElem (by omega)); simpa [Addr.add] using this)
      subst ha
      obtain ⟨c1, g3, g4⟩ := hcell i (by omega)
      rw [hk] at g3
      obtain ⟨l1, p1⟩ := cells_at g3
      obtain ⟨x, hx1, hx2⟩ := each _ _ _ l1 g4 (fun n hn => wt n (by rw [hx, DataW.weights, hS]; exact List.mem_cons_of_mem _ (List.mem_append_left _ (wt_mem hi hn))))
      refine ⟨x, b, off, rfl, hbl, hx2, fun t u hu => ?_⟩
      have := p1 t u (hx1 t u hu)
      rw [add_none', add_none'] at this
      exact this
    obtain ⟨f, hf⟩ := choose_lt each2
    have hlen : len ≤ 140737488351232 := by
      have h1 := wt ((((List.range len).map D).length + ((List.range (m - len)).map fun j => D (len + j)).length) * Try.prog.bytesOf E) (by rw [hx, DataW.weights, hS]; exact List.mem_cons_self)
      rw [reach_eq] at h1
      simp only [List.length_map, List.length_range] at h1
      have h2 : len + (m - len) ≤ (len + (m - len)) * Try.prog.bytesOf E := Nat.le_mul_of_pos_right _ hb
      omega
    refine ⟨(List.range len).map f, ⟨some a, cap, by rw [at1 hcs]; simp, ?_⟩, ?_, by simp; exact hlen⟩
    · intro j x hj
      rw [List.getElem?_map, Option.map_eq_some_iff] at hj
      obtain ⟨i, hi, rfl⟩ := hj
      obtain ⟨hlt, rfl⟩ := List.getElem?_eq_some_iff.1 hi
      rw [List.getElem_range] at *
      obtain ⟨b, off, e, h1, _, h3⟩ := hf j (by simpa using hlt)
      exact ⟨b, off, by rw [e], h1, h3⟩
    · intro x hx
      obtain ⟨i, hi, rfl⟩ := List.mem_map.1 hx
      obtain ⟨b, off, e, h1, h2, h3⟩ := hf i (by simpa using hi)
      exact h2
theorem open_ob2 {H : Type} {enc : TypeId × Value → H} {W : World} {cs : Array Value} {d : DataW H} {p : List MemPlace} {fuel : Nat} (hs : cs.size = 47)
    (hf : DataW.trod enc Try.prog W 0 (fun _ => true) true fuel 99 cs.toList = some (d, p)) (wt : Wt 99 d) : ∃ o, ObjV W cs o ∧ FitsO o := by
  obtain ⟨nk, yk, tk, zk⟩ := fld (F := 3) (off := 0) (k := 1) 0 Try.underlying99 (by kernel_rfl) hf wt
  obtain ⟨k, a0, w0⟩ := leaf_i Try.underlying3 tk
  obtain ⟨ns, ys, ts, zs⟩ := fld (F := 9) (off := 1) (k := 1) 1 Try.underlying99 (by kernel_rfl) hf wt
  obtain ⟨s, a1, w1⟩ := leaf_s Try.underlying9 ts zs
  obtain ⟨nu, yu, tu, zu⟩ := fld (F := 61) (off := 2) (k := 1) 2 Try.underlying99 (by kernel_rfl) hf wt
  obtain ⟨u, a2, w2⟩ := leaf_u Try.underlying61 tu
  obtain ⟨nx0, yx0, tx0, zx0⟩ := fld (F := 84) (off := 3) (k := 7) 3 Try.underlying99 (by kernel_rfl) hf wt
  obtain ⟨x0, ⟨r0_0, r0_1, r0_2⟩, ⟨m0_0, m0_1, m0_2⟩, f0_0, f0_1, f0_2, f0_3, f0_4, f0_5, f0_6⟩ := open_wl tx0 zx0
  obtain ⟨nx1, yx1, tx1, zx1⟩ := fld (F := 86) (off := 10) (k := 10) 4 Try.underlying99 (by kernel_rfl) hf wt
  obtain ⟨x1, ⟨r1_0, r1_1, r1_2, r1_3, r1_4⟩, ⟨m1_0, m1_1, m1_2⟩, f1_0, f1_1, f1_2, f1_3, f1_4, f1_5, f1_6, f1_7, f1_8, f1_9⟩ := open_pd tx1 zx1
  obtain ⟨nx2, yx2, tx2, zx2⟩ := fld (F := 88) (off := 20) (k := 7) 5 Try.underlying99 (by kernel_rfl) hf wt
  obtain ⟨x2, ⟨r2_0, r2_1, r2_2⟩, ⟨m2_0, m2_1⟩, f2_0, f2_1, f2_2, f2_3, f2_4, f2_5, f2_6⟩ := open_nd tx2 zx2
  obtain ⟨nx3, yx3, tx3, zx3⟩ := fld (F := 90) (off := 27) (k := 8) 6 Try.underlying99 (by kernel_rfl) hf wt
  obtain ⟨x3, ⟨r3_0, r3_1⟩, ⟨m3_0, m3_1⟩, f3_0, f3_1, f3_2, f3_3, f3_4, f3_5, f3_6, f3_7⟩ := open_gp tx3 zx3
  obtain ⟨nx4, yx4, tx4, zx4⟩ := fld (F := 97) (off := 35) (k := 12) 7 Try.underlying99 (by kernel_rfl) hf wt
  obtain ⟨x4, ⟨r4_0, r4_1⟩, ⟨m4_0, m4_1, m4_2, m4_3⟩, f4_0, f4_1, f4_2, f4_3, f4_4, f4_5, f4_6, f4_7, f4_8, f4_9, f4_10, f4_11⟩ := open_hp tx4 zx4
  have e0 : cs[0]? = some (.int .i64 k) := by rw [← Array.getElem?_toList]; exact a0
  have e1 : cs[1]? = some (.string s) := by rw [← Array.getElem?_toList]; exact a1
  have e2 : cs[2]? = some (.int .u64 (u : Int)) := by rw [← Array.getElem?_toList]; exact a2
  exact ⟨⟨k, s, u, x0, x1, x2, x3, x4⟩, ⟨hs, ⟨e0, e1, e2, w2⟩, ⟨el_at f0_0, el_at f0_1, el_at f0_2, slr_at f0_3, slr_at f0_4, slr_at f0_5, el_at f0_6⟩, ⟨el_at f1_0, el_at f1_1, el_at f1_2, el_at f1_3, el_at f1_4, el_at f1_5, slr_at f1_6, slr_at f1_7, slr_at f1_8, el_at f1_9⟩, ⟨el_at f2_0, el_at f2_1, el_at f2_2, slr_at f2_3, slr_at f2_4, el_at f2_5, el_at f2_6⟩, ⟨el_at f3_0, el_at f3_1, el_at f3_2, el_at f3_3, el_at f3_4, slr_at f3_5, slr_at f3_6, el_at f3_7⟩, ⟨el_at f4_0, el_at f4_1, el_at f4_2, slr_at f4_3, el_at f4_4, el_at f4_5, el_at f4_6, slr_at f4_7, el_at f4_8, el_at f4_9, slr_at f4_10, slr_at f4_11⟩⟩, { name := w1, w_lab := List.all_eq_true.2 r0_0, w_sel := List.all_eq_true.2 r0_1, w_tol := List.all_eq_true.2 r0_2, w_lab_r := m0_0, w_sel_r := m0_1, w_tol_r := m0_2, p_own := r1_0, p_node := r1_1, p_lab := List.all_eq_true.2 r1_2, p_sel := List.all_eq_true.2 r1_3, p_tol := List.all_eq_true.2 r1_4, p_lab_r := m1_0, p_sel_r := m1_1, p_tol_r := m1_2, n_grp := r2_0, n_lab := List.all_eq_true.2 r2_1, n_tnt := List.all_eq_true.2 r2_2, n_lab_r := m2_0, n_tnt_r := m2_1, g_lab := List.all_eq_true.2 r3_0, g_tnt := List.all_eq_true.2 r3_1, g_lab_r := m3_0, g_tnt_r := m3_1, h_tg := r4_0, h_met := List.all_eq_true.2 r4_1, h_met_r := m4_0, h_upol_r := m4_1, h_dpol_r := m4_2, h_past_r := m4_3 }⟩
theorem open_one {H : Type} {enc : TypeId × Value → H} {W : World} {n : Nat} {cs : List Value} {y : DataW H × List MemPlace} (hl : cs.length = 47) (h : DataW.trod enc Try.prog W 0 (fun _ => true) true n 99 cs = some y) (wt : Wt 99 y.1) :
    ∃ x : Obv, (∀ (t : Nat) (v : Value), (encOb x)[t]? = some v → cs[t]? = some v) ∧ okOb W x := by
  obtain ⟨d, p⟩ := y
  have hs : cs.toArray.size = 47 := by simpa using hl
  obtain ⟨o, hv, F⟩ := open_ob2 (cs := cs.toArray) hs h wt
  have hn : NilO cs.toArray := open_nil (H := H) (enc := enc) (W := W) (d := d) (p := p) ⟨n, h⟩ wt
  obtain ⟨_, _, t3, z3⟩ := fld (F := 3) (off := 0) (k := 1) 0 Try.underlying99 (by kernel_rfl) h wt
  obtain ⟨ok, a3, w3⟩ := leaf_i Try.underlying3 t3
  refine ⟨⟨⟨cs.toArray, hs, objV_one hv⟩, o⟩, fun t v ht => ht, hv, hn, F, ?_, FitH.ob (open_fit (cs := cs.toArray) h wt) hv⟩
  have e2 : cs[0]? = some (.int .i64 o.kind) := by
    have := hv.2.1.1
    simpa using this
  rw [e2] at a3
  injection a3 with a3
  injection a3 with _ a3
  show I64 o.kind
  rw [a3]
  exact w3
theorem open_objs {H : Type} {enc : TypeId × Value → H} {W : World} {base : Nat} {v : Value} {d : DataW H} {p : List MemPlace} (ok : Value.okWide Try.prog W .any base 33 v)
    (h : DataW.Trod enc Try.prog W 0 (fun _ => true) true 33 v d p) (wt : Wt 33 d) : ∃ q c l, v = .slice q l.length c ∧ RowR 47 encOb W q l ∧ (∀ x ∈ l, okOb W x) ∧ l.length ≤ 140737488351232 := by
  obtain ⟨a0, len, cap, rfl⟩ := okWide_slice Try.underlying33 ok
  obtain ⟨fuel, hf⟩ := h
  have hf : DataW.trod enc Try.prog W 0 (fun _ => true) true fuel 33 (([Value.slice a0 len cap].drop 0).take 1) = some (d, p) := hf
  obtain ⟨l, ⟨q, c, h1, h2⟩, h3, h4⟩ := open_rowK (k := 47) encOb (okOb W) Try.underlying33 (by kernel_rfl) (by decide) (of_decide_eq_true (by kernel_rfl)) (fun n cs y hl h wt => open_one hl h wt) hf wt
  simp at h1
  obtain ⟨rfl, rfl, rfl⟩ := h1
  exact ⟨a0, cap, l, rfl, h2, h3, h4⟩
theorem rangeAt_obs {W : World} {b off : Nat} {l : List Obv} {j : Nat} {x : Obv} (h : RowR 47 encOb W (some ⟨b, off, none⟩) l) (hx : l[j]? = some x) : b < W.heap.size ∧ W.rangeAt b (off + j * 47) (encOb x) := by
  obtain ⟨b', off', e, h1, h2⟩ := h j x hx
  simp only [Option.some.injEq, Addr.mk.injEq] at e
  obtain ⟨rfl, rfl, _⟩ := e
  exact ⟨h1, fun t v hv => h2 t v hv⟩
theorem load_at {w : World} {g o : Nat} {x : Obv} (h : w.rangeAt g o (encOb x)) : (Instr.loadAt 99 (.pointer (some ⟨g, o, none⟩))).run Try.prog w = .ok (.agg x.1.1) w :=
  run_loadAt_mid (P := Try.prog) w g o 99 x.1.1.toList _ h Try.underlying99 rfl (by rw [Array.length_toList, x.1.2.1]; exact info_ob47)
end Go.Proofs.Ytajkhbdniadkkaa.Ow
