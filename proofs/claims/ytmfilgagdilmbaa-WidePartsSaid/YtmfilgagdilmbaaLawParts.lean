/- Proved here: the law WideParts of layer 1 holds for every three numbers of 64 bits, rounded down and up: a product, divided, is exact, or it is told that it does not fit; by 0 it is refused. No conditions. -/
import Derived.Test.YtmfilgagdilmbaaRows
import Derived.Test.YtmfilgagdilmbaaRefE
import Derived.Test.YtmfilgagdilmbaaWideB
import Derived.Test.YtmfilgagdilmbaaPost
import Derived.ProofKit
import Derived.OpenShut
namespace Go.Proofs.Ytmfilgagdilmbaa.wideParts
open Go.ChangeShapes Go.WideShapes Go.ChangeAt Go.RowKit
set_option linter.unusedVariables false

theorem own : ownKnob Try.prog.godebug = none := by kernel_rfl

theorem zero_case (a b : Nat) (up : Bool) (w : World) (ha : a < 18446744073709551616) (hb : b < 18446744073709551616) :
    Calls Try.prog 5 #[.int .u64 (a : Int), .int .u64 (b : Int), .int .u64 0, .bool up] w fun e w' => e = .returned (.bool true) ∧ Below w.heap.size w w' := by
  have m := fun W : World => muldiv_any a b 0 up W ha hb (by decide)
  rw [show mdVal a b 0 up = 0 from if_pos rfl, show mdErr a b 0 up = 5 from if_pos rfl] at m
  have m' : ∀ W : World, Calls Try.prog 20 #[.int .u64 (a : Int), .int .u64 (b : Int), .int .u64 0, .bool up] W fun e w' => e = .returned (.tuple #[.int .u64 0, .int .i64 5]) ∧ Below W.heap.size W w' := m
  have M := Lib.hid m'
  clear m m'
  go_enter Try.func5, Try.ntmps5
  go_wp2_with fail
  refine (lives_any _).mono ?_
  rintro e w1 ⟨rfl, h1⟩
  go_wp2_with fail
  refine (M.out _).mono ?_
  rintro e w2 ⟨rfl, h2⟩
  go_wp2
  go_ret
  exact ⟨rfl, h1.trans (h2.mono h1.size)⟩

theorem down_fits (a b y : Nat) (w : World) (ha : a < 18446744073709551616) (hb : b < 18446744073709551616) (hy : y < 18446744073709551616) (hy0 : 0 < y) (hfit : a * b / y < 18446744073709551616) :
    Calls Try.prog 5 #[.int .u64 (a : Int), .int .u64 (b : Int), .int .u64 (y : Int), .bool false] w fun e w' => e = .returned (.bool true) ∧ Below w.heap.size w w' := by
  have t1 : ((y : Int) == 0) = false := by simp; omega
  obtain ⟨n, hn⟩ : ∃ n, n = a * b / y := ⟨_, rfl⟩
  have hw : mdWant a b y false = n := by unfold mdWant; rw [hn]; simp
  have m := fun W : World => muldiv_any a b y false W ha hb hy
  rw [← hn] at hfit
  obtain ⟨k1, k2⟩ := muldiv_ok (up := false) hy0 hw hfit
  rw [k1, k2] at m
  have M := Lib.hid m
  have HA := Lib.hid (show a < 2 ^ 64 from ha)
  have HB := Lib.hid (show b < 2 ^ 64 from hb)
  have hab : a * b < 2 ^ 128 := mul_lt_pow (k := 64) (m := 64) ha hb
  have hq : a * b / y < 2 ^ 128 := Nat.lt_of_le_of_lt (Nat.div_le_self _ _) hab
  have HAB := Lib.hid hab
  have HQ := Lib.hid hq
  have HY := Lib.hid (show y < 2 ^ 128 by omega)
  have HN := Lib.hid hn
  have hnb : n < 2 ^ 129 := by rw [hn]; omega
  have HNB := Lib.hid hnb
  have HF := Lib.hid (show decide (n < 18446744073709551616) = true by rw [decide_eq_true_iff]; exact hfit)
  have HL := Lib.hid (show low n = n by exact low_of hfit)
  have HR := Lib.hid (trivial)
  have O1 := Lib.hid (fun W : World => of_any W a ha)
  have O2 := Lib.hid (fun W : World => of_any W b hb)
  have O3 := Lib.hid (fun W : World => of_any W y hy)
  clear hab hq hn hnb hw m k1 k2 hfit
  go_enter Try.func5, Try.ntmps5
  go_wp2_with fail
  refine (lives_any _).mono ?_
  rintro e w1 ⟨rfl, h1⟩
  go_wp2_with fail
  refine (M.out _).mono ?_
  rintro e w2 ⟨rfl, h2⟩
  go_wp2_with fail
  refine (O1.out _).mono ?_
  rintro e w3 ⟨v3, rfl, n3, h3⟩
  go_wp2_with fail
  refine (O2.out _).mono ?_
  rintro e w4 ⟨v4, rfl, n4, h4⟩
  go_wp2_with fail
  refine (mul_any 64 64 (n3.below h4) n4 HA.out HB.out (by decide)).mono ?_
  rintro e w5 ⟨v5, rfl, n5, h5⟩
  go_wp2_with fail
  refine (O3.out _).mono ?_
  rintro e w6 ⟨v6, rfl, n6, h6⟩
  go_wp2_with fail
  refine (div_any 128 (n5.below h6) n6 HAB.out HY.out hy0 (by decide)).mono ?_
  rintro e w7 ⟨v7, u7, rfl, n7, m7, h7⟩
  rw [← HN.out] at n7
  have s1 := h1.size
  have s2 := h2.size
  have s3 := h3.size
  have s4 := h4.size
  have s5 := h5.size
  have s6 := h6.size

  go_wp2_with fail
  refine (number_num n7 129 HNB.out (by decide)).mono ?_
  rintro e w' ⟨rfl, rfl⟩
  rw [HF.out, HL.out]
  go_wp2
  go_ret
  exact ⟨rfl, ((((((h1.trans (h2.mono s1)).trans (h3.mono (by omega))).trans (h4.mono (by omega))).trans (h5.mono (by omega))).trans (h6.mono (by omega))).trans (h7.mono (by omega)))⟩

theorem down_over (a b y : Nat) (w : World) (ha : a < 18446744073709551616) (hb : b < 18446744073709551616) (hy : y < 18446744073709551616) (hy0 : 0 < y) (hfit : 18446744073709551616 ≤ a * b / y) :
    Calls Try.prog 5 #[.int .u64 (a : Int), .int .u64 (b : Int), .int .u64 (y : Int), .bool false] w fun e w' => e = .returned (.bool true) ∧ Below w.heap.size w w' := by
  have t1 : ((y : Int) == 0) = false := by simp; omega
  obtain ⟨n, hn⟩ : ∃ n, n = a * b / y := ⟨_, rfl⟩
  have hw : mdWant a b y false = n := by unfold mdWant; rw [hn]; simp
  have m := fun W : World => muldiv_any a b y false W ha hb hy
  rw [← hn] at hfit
  obtain ⟨k1, k2⟩ := muldiv_over (a := a) (b := b) (up := false) hy0 (by rw [hw]; exact hfit)
  rw [k1, k2] at m
  have M := Lib.hid m
  have HA := Lib.hid (show a < 2 ^ 64 from ha)
  have HB := Lib.hid (show b < 2 ^ 64 from hb)
  have hab : a * b < 2 ^ 128 := mul_lt_pow (k := 64) (m := 64) ha hb
  have hq : a * b / y < 2 ^ 128 := Nat.lt_of_le_of_lt (Nat.div_le_self _ _) hab
  have HAB := Lib.hid hab
  have HQ := Lib.hid hq
  have HY := Lib.hid (show y < 2 ^ 128 by omega)
  have HN := Lib.hid hn
  have hnb : n < 2 ^ 129 := by rw [hn]; omega
  have HNB := Lib.hid hnb
  have HF := Lib.hid (show decide (n < 18446744073709551616) = false by rw [decide_eq_false_iff_not]; omega)
  have HL := Lib.hid (show True by trivial)
  have HR := Lib.hid (trivial)
  have O1 := Lib.hid (fun W : World => of_any W a ha)
  have O2 := Lib.hid (fun W : World => of_any W b hb)
  have O3 := Lib.hid (fun W : World => of_any W y hy)
  clear hab hq hn hnb hw m k1 k2 hfit
  go_enter Try.func5, Try.ntmps5
  go_wp2_with fail
  refine (lives_any _).mono ?_
  rintro e w1 ⟨rfl, h1⟩
  go_wp2_with fail
  refine (M.out _).mono ?_
  rintro e w2 ⟨rfl, h2⟩
  go_wp2_with fail
  refine (O1.out _).mono ?_
  rintro e w3 ⟨v3, rfl, n3, h3⟩
  go_wp2_with fail
  refine (O2.out _).mono ?_
  rintro e w4 ⟨v4, rfl, n4, h4⟩
  go_wp2_with fail
  refine (mul_any 64 64 (n3.below h4) n4 HA.out HB.out (by decide)).mono ?_
  rintro e w5 ⟨v5, rfl, n5, h5⟩
  go_wp2_with fail
  refine (O3.out _).mono ?_
  rintro e w6 ⟨v6, rfl, n6, h6⟩
  go_wp2_with fail
  refine (div_any 128 (n5.below h6) n6 HAB.out HY.out hy0 (by decide)).mono ?_
  rintro e w7 ⟨v7, u7, rfl, n7, m7, h7⟩
  rw [← HN.out] at n7
  have s1 := h1.size
  have s2 := h2.size
  have s3 := h3.size
  have s4 := h4.size
  have s5 := h5.size
  have s6 := h6.size

  go_wp2_with fail
  refine (number_num n7 129 HNB.out (by decide)).mono ?_
  rintro e w' ⟨rfl, rfl⟩
  rw [HF.out]
  go_wp2
  go_ret
  exact ⟨rfl, ((((((h1.trans (h2.mono s1)).trans (h3.mono (by omega))).trans (h4.mono (by omega))).trans (h5.mono (by omega))).trans (h6.mono (by omega))).trans (h7.mono (by omega)))⟩

theorem even_fits (a b y : Nat) (w : World) (ha : a < 18446744073709551616) (hb : b < 18446744073709551616) (hy : y < 18446744073709551616) (hy0 : 0 < y) (hr : a * b % y = 0) (hfit : a * b / y < 18446744073709551616) :
    Calls Try.prog 5 #[.int .u64 (a : Int), .int .u64 (b : Int), .int .u64 (y : Int), .bool true] w fun e w' => e = .returned (.bool true) ∧ Below w.heap.size w w' := by
  have t1 : ((y : Int) == 0) = false := by simp; omega
  obtain ⟨n, hn⟩ : ∃ n, n = a * b / y := ⟨_, rfl⟩
  have hw : mdWant a b y true = n := by unfold mdWant; rw [hn]; simp [hr]
  have m := fun W : World => muldiv_any a b y true W ha hb hy
  rw [← hn] at hfit
  obtain ⟨k1, k2⟩ := muldiv_ok (up := true) hy0 hw hfit
  rw [k1, k2] at m
  have M := Lib.hid m
  have HA := Lib.hid (show a < 2 ^ 64 from ha)
  have HB := Lib.hid (show b < 2 ^ 64 from hb)
  have hab : a * b < 2 ^ 128 := mul_lt_pow (k := 64) (m := 64) ha hb
  have hq : a * b / y < 2 ^ 128 := Nat.lt_of_le_of_lt (Nat.div_le_self _ _) hab
  have HAB := Lib.hid hab
  have HQ := Lib.hid hq
  have HY := Lib.hid (show y < 2 ^ 128 by omega)
  have HN := Lib.hid hn
  have hnb : n < 2 ^ 129 := by rw [hn]; omega
  have HNB := Lib.hid hnb
  have HF := Lib.hid (show decide (n < 18446744073709551616) = true by rw [decide_eq_true_iff]; exact hfit)
  have HL := Lib.hid (show low n = n by exact low_of hfit)
  have HR := Lib.hid (hr)
  have O1 := Lib.hid (fun W : World => of_any W a ha)
  have O2 := Lib.hid (fun W : World => of_any W b hb)
  have O3 := Lib.hid (fun W : World => of_any W y hy)
  clear hab hq hn hnb hw m k1 k2 hfit hr
  go_enter Try.func5, Try.ntmps5
  go_wp2_with fail
  refine (lives_any _).mono ?_
  rintro e w1 ⟨rfl, h1⟩
  go_wp2_with fail
  refine (M.out _).mono ?_
  rintro e w2 ⟨rfl, h2⟩
  go_wp2_with fail
  refine (O1.out _).mono ?_
  rintro e w3 ⟨v3, rfl, n3, h3⟩
  go_wp2_with fail
  refine (O2.out _).mono ?_
  rintro e w4 ⟨v4, rfl, n4, h4⟩
  go_wp2_with fail
  refine (mul_any 64 64 (n3.below h4) n4 HA.out HB.out (by decide)).mono ?_
  rintro e w5 ⟨v5, rfl, n5, h5⟩
  go_wp2_with fail
  refine (O3.out _).mono ?_
  rintro e w6 ⟨v6, rfl, n6, h6⟩
  go_wp2_with fail
  refine (div_any 128 (n5.below h6) n6 HAB.out HY.out hy0 (by decide)).mono ?_
  rintro e w7 ⟨v7, u7, rfl, n7, m7, h7⟩
  rw [← HN.out] at n7
  obtain ⟨l7, r7, bin7, t7, e7⟩ := id m7
  obtain ⟨ad7, c7, rfl, _⟩ := r7
  have hlen : Hid (l7.length = 0) := (t7.zero_iff bin7).2 (e7.trans HR.out)
  rw [hlen.out]
  clear e7
  have s1 := h1.size
  have s2 := h2.size
  have s3 := h3.size
  have s4 := h4.size
  have s5 := h5.size
  have s6 := h6.size

  go_wp2_with fail
  refine (number_num n7 129 HNB.out (by decide)).mono ?_
  rintro e w' ⟨rfl, rfl⟩
  rw [HF.out, HL.out]
  go_wp2
  go_ret
  exact ⟨rfl, ((((((h1.trans (h2.mono s1)).trans (h3.mono (by omega))).trans (h4.mono (by omega))).trans (h5.mono (by omega))).trans (h6.mono (by omega))).trans (h7.mono (by omega)))⟩

theorem even_over (a b y : Nat) (w : World) (ha : a < 18446744073709551616) (hb : b < 18446744073709551616) (hy : y < 18446744073709551616) (hy0 : 0 < y) (hr : a * b % y = 0) (hfit : 18446744073709551616 ≤ a * b / y) :
    Calls Try.prog 5 #[.int .u64 (a : Int), .int .u64 (b : Int), .int .u64 (y : Int), .bool true] w fun e w' => e = .returned (.bool true) ∧ Below w.heap.size w w' := by
  have t1 : ((y : Int) == 0) = false := by simp; omega
  obtain ⟨n, hn⟩ : ∃ n, n = a * b / y := ⟨_, rfl⟩
  have hw : mdWant a b y true = n := by unfold mdWant; rw [hn]; simp [hr]
  have m := fun W : World => muldiv_any a b y true W ha hb hy
  rw [← hn] at hfit
  obtain ⟨k1, k2⟩ := muldiv_over (a := a) (b := b) (up := true) hy0 (by rw [hw]; exact hfit)
  rw [k1, k2] at m
  have M := Lib.hid m
  have HA := Lib.hid (show a < 2 ^ 64 from ha)
  have HB := Lib.hid (show b < 2 ^ 64 from hb)
  have hab : a * b < 2 ^ 128 := mul_lt_pow (k := 64) (m := 64) ha hb
  have hq : a * b / y < 2 ^ 128 := Nat.lt_of_le_of_lt (Nat.div_le_self _ _) hab
  have HAB := Lib.hid hab
  have HQ := Lib.hid hq
  have HY := Lib.hid (show y < 2 ^ 128 by omega)
  have HN := Lib.hid hn
  have hnb : n < 2 ^ 129 := by rw [hn]; omega
  have HNB := Lib.hid hnb
  have HF := Lib.hid (show decide (n < 18446744073709551616) = false by rw [decide_eq_false_iff_not]; omega)
  have HL := Lib.hid (show True by trivial)
  have HR := Lib.hid (hr)
  have O1 := Lib.hid (fun W : World => of_any W a ha)
  have O2 := Lib.hid (fun W : World => of_any W b hb)
  have O3 := Lib.hid (fun W : World => of_any W y hy)
  clear hab hq hn hnb hw m k1 k2 hfit hr
  go_enter Try.func5, Try.ntmps5
  go_wp2_with fail
  refine (lives_any _).mono ?_
  rintro e w1 ⟨rfl, h1⟩
  go_wp2_with fail
  refine (M.out _).mono ?_
  rintro e w2 ⟨rfl, h2⟩
  go_wp2_with fail
  refine (O1.out _).mono ?_
  rintro e w3 ⟨v3, rfl, n3, h3⟩
  go_wp2_with fail
  refine (O2.out _).mono ?_
  rintro e w4 ⟨v4, rfl, n4, h4⟩
  go_wp2_with fail
  refine (mul_any 64 64 (n3.below h4) n4 HA.out HB.out (by decide)).mono ?_
  rintro e w5 ⟨v5, rfl, n5, h5⟩
  go_wp2_with fail
  refine (O3.out _).mono ?_
  rintro e w6 ⟨v6, rfl, n6, h6⟩
  go_wp2_with fail
  refine (div_any 128 (n5.below h6) n6 HAB.out HY.out hy0 (by decide)).mono ?_
  rintro e w7 ⟨v7, u7, rfl, n7, m7, h7⟩
  rw [← HN.out] at n7
  obtain ⟨l7, r7, bin7, t7, e7⟩ := id m7
  obtain ⟨ad7, c7, rfl, _⟩ := r7
  have hlen : Hid (l7.length = 0) := (t7.zero_iff bin7).2 (e7.trans HR.out)
  rw [hlen.out]
  clear e7
  have s1 := h1.size
  have s2 := h2.size
  have s3 := h3.size
  have s4 := h4.size
  have s5 := h5.size
  have s6 := h6.size

  go_wp2_with fail
  refine (number_num n7 129 HNB.out (by decide)).mono ?_
  rintro e w' ⟨rfl, rfl⟩
  rw [HF.out]
  go_wp2
  go_ret
  exact ⟨rfl, ((((((h1.trans (h2.mono s1)).trans (h3.mono (by omega))).trans (h4.mono (by omega))).trans (h5.mono (by omega))).trans (h6.mono (by omega))).trans (h7.mono (by omega)))⟩

theorem more_fits (a b y : Nat) (w : World) (ha : a < 18446744073709551616) (hb : b < 18446744073709551616) (hy : y < 18446744073709551616) (hy0 : 0 < y) (hr : 0 < a * b % y) (hfit : a * b / y + 1 < 18446744073709551616) :
    Calls Try.prog 5 #[.int .u64 (a : Int), .int .u64 (b : Int), .int .u64 (y : Int), .bool true] w fun e w' => e = .returned (.bool true) ∧ Below w.heap.size w w' := by
  have t1 : ((y : Int) == 0) = false := by simp; omega
  obtain ⟨n, hn⟩ : ∃ n, n = a * b / y + 1 := ⟨_, rfl⟩
  have hw : mdWant a b y true = n := by unfold mdWant; rw [hn]; simp; omega
  have m := fun W : World => muldiv_any a b y true W ha hb hy
  rw [← hn] at hfit
  obtain ⟨k1, k2⟩ := muldiv_ok (up := true) hy0 hw hfit
  rw [k1, k2] at m
  have M := Lib.hid m
  have HA := Lib.hid (show a < 2 ^ 64 from ha)
  have HB := Lib.hid (show b < 2 ^ 64 from hb)
  have hab : a * b < 2 ^ 128 := mul_lt_pow (k := 64) (m := 64) ha hb
  have hq : a * b / y < 2 ^ 128 := Nat.lt_of_le_of_lt (Nat.div_le_self _ _) hab
  have HAB := Lib.hid hab
  have HQ := Lib.hid hq
  have HY := Lib.hid (show y < 2 ^ 128 by omega)
  have HN := Lib.hid hn
  have hnb : n < 2 ^ 129 := by rw [hn]; omega
  have HNB := Lib.hid hnb
  have HF := Lib.hid (show decide (n < 18446744073709551616) = true by rw [decide_eq_true_iff]; exact hfit)
  have HL := Lib.hid (show low n = n by exact low_of hfit)
  have HR := Lib.hid (hr)
  have O1 := Lib.hid (fun W : World => of_any W a ha)
  have O2 := Lib.hid (fun W : World => of_any W b hb)
  have O3 := Lib.hid (fun W : World => of_any W y hy)
  clear hab hq hn hnb hw m k1 k2 hfit hr
  go_enter Try.func5, Try.ntmps5
  go_wp2_with fail
  refine (lives_any _).mono ?_
  rintro e w1 ⟨rfl, h1⟩
  go_wp2_with fail
  refine (M.out _).mono ?_
  rintro e w2 ⟨rfl, h2⟩
  go_wp2_with fail
  refine (O1.out _).mono ?_
  rintro e w3 ⟨v3, rfl, n3, h3⟩
  go_wp2_with fail
  refine (O2.out _).mono ?_
  rintro e w4 ⟨v4, rfl, n4, h4⟩
  go_wp2_with fail
  refine (mul_any 64 64 (n3.below h4) n4 HA.out HB.out (by decide)).mono ?_
  rintro e w5 ⟨v5, rfl, n5, h5⟩
  go_wp2_with fail
  refine (O3.out _).mono ?_
  rintro e w6 ⟨v6, rfl, n6, h6⟩
  go_wp2_with fail
  refine (div_any 128 (n5.below h6) n6 HAB.out HY.out hy0 (by decide)).mono ?_
  rintro e w7 ⟨v7, u7, rfl, n7, m7, h7⟩
  obtain ⟨l7, r7, bin7, t7, e7⟩ := id m7
  obtain ⟨ad7, c7, rfl, _⟩ := r7
  have hlen : 0 < l7.length := by
    have h0 := t7.zero_iff bin7
    have h1 := HR.out
    omega
  clear e7
  go_wp2_with fail
  refine (of_any _ 1 (by decide)).mono ?_
  rintro e w8 ⟨v8, rfl, n8, h8⟩
  go_wp2_with fail
  refine (add_any 128 (n7.below h8) n8 HQ.out (by decide) (by decide)).mono ?_
  rintro e w9 ⟨v9, rfl, n9, h9⟩
  rw [← HN.out] at n9
  have s1 := h1.size
  have s2 := h2.size
  have s3 := h3.size
  have s4 := h4.size
  have s5 := h5.size
  have s6 := h6.size
  have s7 := h7.size
  have s8 := h8.size
  go_wp2_with fail
  refine (number_num n9 129 HNB.out (by decide)).mono ?_
  rintro e w' ⟨rfl, rfl⟩
  rw [HF.out, HL.out]
  go_wp2
  go_ret
  exact ⟨rfl, (((((((h1.trans (h2.mono s1)).trans (h3.mono (by omega))).trans (h4.mono (by omega))).trans (h5.mono (by omega))).trans (h6.mono (by omega))).trans (h7.mono (by omega))).trans (h8.mono (by omega))).trans (h9.mono (by omega))⟩

theorem more_over (a b y : Nat) (w : World) (ha : a < 18446744073709551616) (hb : b < 18446744073709551616) (hy : y < 18446744073709551616) (hy0 : 0 < y) (hr : 0 < a * b % y) (hfit : 18446744073709551616 ≤ a * b / y + 1) :
    Calls Try.prog 5 #[.int .u64 (a : Int), .int .u64 (b : Int), .int .u64 (y : Int), .bool true] w fun e w' => e = .returned (.bool true) ∧ Below w.heap.size w w' := by
  have t1 : ((y : Int) == 0) = false := by simp; omega
  obtain ⟨n, hn⟩ : ∃ n, n = a * b / y + 1 := ⟨_, rfl⟩
  have hw : mdWant a b y true = n := by unfold mdWant; rw [hn]; simp; omega
  have m := fun W : World => muldiv_any a b y true W ha hb hy
  rw [← hn] at hfit
  obtain ⟨k1, k2⟩ := muldiv_over (a := a) (b := b) (up := true) hy0 (by rw [hw]; exact hfit)
  rw [k1, k2] at m
  have M := Lib.hid m
  have HA := Lib.hid (show a < 2 ^ 64 from ha)
  have HB := Lib.hid (show b < 2 ^ 64 from hb)
  have hab : a * b < 2 ^ 128 := mul_lt_pow (k := 64) (m := 64) ha hb
  have hq : a * b / y < 2 ^ 128 := Nat.lt_of_le_of_lt (Nat.div_le_self _ _) hab
  have HAB := Lib.hid hab
  have HQ := Lib.hid hq
  have HY := Lib.hid (show y < 2 ^ 128 by omega)
  have HN := Lib.hid hn
  have hnb : n < 2 ^ 129 := by rw [hn]; omega
  have HNB := Lib.hid hnb
  have HF := Lib.hid (show decide (n < 18446744073709551616) = false by rw [decide_eq_false_iff_not]; omega)
  have HL := Lib.hid (show True by trivial)
  have HR := Lib.hid (hr)
  have O1 := Lib.hid (fun W : World => of_any W a ha)
  have O2 := Lib.hid (fun W : World => of_any W b hb)
  have O3 := Lib.hid (fun W : World => of_any W y hy)
  clear hab hq hn hnb hw m k1 k2 hfit hr
  go_enter Try.func5, Try.ntmps5
  go_wp2_with fail
  refine (lives_any _).mono ?_
  rintro e w1 ⟨rfl, h1⟩
  go_wp2_with fail
  refine (M.out _).mono ?_
  rintro e w2 ⟨rfl, h2⟩
  go_wp2_with fail
  refine (O1.out _).mono ?_
  rintro e w3 ⟨v3, rfl, n3, h3⟩
  go_wp2_with fail
  refine (O2.out _).mono ?_
  rintro e w4 ⟨v4, rfl, n4, h4⟩
  go_wp2_with fail
  refine (mul_any 64 64 (n3.below h4) n4 HA.out HB.out (by decide)).mono ?_
  rintro e w5 ⟨v5, rfl, n5, h5⟩
  go_wp2_with fail
  refine (O3.out _).mono ?_
  rintro e w6 ⟨v6, rfl, n6, h6⟩
  go_wp2_with fail
  refine (div_any 128 (n5.below h6) n6 HAB.out HY.out hy0 (by decide)).mono ?_
  rintro e w7 ⟨v7, u7, rfl, n7, m7, h7⟩
  obtain ⟨l7, r7, bin7, t7, e7⟩ := id m7
  obtain ⟨ad7, c7, rfl, _⟩ := r7
  have hlen : 0 < l7.length := by
    have h0 := t7.zero_iff bin7
    have h1 := HR.out
    omega
  clear e7
  go_wp2_with fail
  refine (of_any _ 1 (by decide)).mono ?_
  rintro e w8 ⟨v8, rfl, n8, h8⟩
  go_wp2_with fail
  refine (add_any 128 (n7.below h8) n8 HQ.out (by decide) (by decide)).mono ?_
  rintro e w9 ⟨v9, rfl, n9, h9⟩
  rw [← HN.out] at n9
  have s1 := h1.size
  have s2 := h2.size
  have s3 := h3.size
  have s4 := h4.size
  have s5 := h5.size
  have s6 := h6.size
  have s7 := h7.size
  have s8 := h8.size
  go_wp2_with fail
  refine (number_num n9 129 HNB.out (by decide)).mono ?_
  rintro e w' ⟨rfl, rfl⟩
  rw [HF.out]
  go_wp2
  go_ret
  exact ⟨rfl, (((((((h1.trans (h2.mono s1)).trans (h3.mono (by omega))).trans (h4.mono (by omega))).trans (h5.mono (by omega))).trans (h6.mono (by omega))).trans (h7.mono (by omega))).trans (h8.mono (by omega))).trans (h9.mono (by omega))⟩

theorem walk (a0 : Int) (a1 : Int) (a2 : Int) (a3 : Bool) (w0 : (Lit.int .u64 a0).wf = true) (w1 : (Lit.int .u64 a1).wf = true) (w2 : (Lit.int .u64 a2).wf = true) (w : World) :
    Calls Try.prog 5 #[.int .u64 a0, .int .u64 a1, .int .u64 a2, .bool a3] w fun e w' => e = .returned (.bool true) ∧ Below w.heap.size w w' := by
  obtain ⟨a, rfl, ha⟩ := nat_of_wf w0
  obtain ⟨b, rfl, hb⟩ := nat_of_wf w1
  obtain ⟨y, rfl, hy⟩ := nat_of_wf w2
  rcases Nat.eq_zero_or_pos y with rfl | hy0
  · exact zero_case a b a3 w ha hb
  · cases a3
    · rcases Nat.lt_or_ge (a * b / y) 18446744073709551616 with h | h
      · exact down_fits a b y w ha hb hy hy0 h
      · exact down_over a b y w ha hb hy hy0 h
    · rcases Nat.eq_zero_or_pos (a * b % y) with hr | hr
      · rcases Nat.lt_or_ge (a * b / y) 18446744073709551616 with h | h
        · exact even_fits a b y w ha hb hy hy0 hr h
        · exact even_over a b y w ha hb hy hy0 hr h
      · rcases Nat.lt_or_ge (a * b / y + 1) 18446744073709551616 with h | h
        · exact more_fits a b y w ha hb hy hy0 hr h
        · exact more_over a b y w ha hb hy hy0 hr h

/-! ### the row, from the walk -/
set_option maxRecDepth 100000 in
theorem lifted (os : Os) (started : os.Started) (H : Type) (enc : TypeId × Value → H) :
    ReturnsInHanded {} Try.checked os 5 .any (Rows.widePartsSpec.pre6 enc Try.prog Try.f5 Rows.widePartsRow.domain false) (Rows.widePartsSpec.post enc Try.prog Try.f5 false true false false) := by
  refine returnsInHanded_of_change (C := Try.checked) own started (by kernel_rfl) Try.func5
    (ChangeSpec.witness6 (enc := enc) (C := Try.checked) false ⟨#[], #[.int .u64 0, .int .u64 0, .int .u64 0, .bool false], []⟩ 8 (by kernel_rfl) (by kernel_rfl) (by kernel_rfl) (by kernel_rfl)) ?_
  intro W base args ds gs before hval0 hW hcnd _
  have hval : ∀ (j : Nat) t v, Try.f5.params[j]? = some t → args[j]? = some v → Value.okWide Try.prog W .any base t v := hval0
  have hW' := hW
  obtain ⟨p, q, hA0, hV, rfl, hfz, hnd⟩ := hW
  have hA : DataW.TrodAll enc Try.prog W 0 (fun _ => true) true Try.f5.params.toList args.toList ds p := hA0
  rw [Try.params5] at hA hval
  obtain ⟨v0, vs0, d0, ds0, p0, q0, hargs, rfl, rfl, h0, r0⟩ := trodAll_cons hA
  obtain ⟨v1, vs1, d1, ds1, p1, q1, rfl, rfl, rfl, h1, r1⟩ := trodAll_cons r0
  obtain ⟨v2, vs2, d2, ds2, p2, q2, rfl, rfl, rfl, h2, r2⟩ := trodAll_cons r1
  obtain ⟨v3, vs3, d3, ds3, p3, q3, rfl, rfl, rfl, h3, r3⟩ := trodAll_cons r2
  obtain ⟨rfl, rfl, rfl⟩ := trodAll_nil r3
  obtain rfl : args = #[v0, v1, v2, v3] := by cases args; simp_all
  obtain ⟨rfl, rfl⟩ := trodVars_none hV
  obtain ⟨a0, rfl, rfl, rfl, w0⟩ := open_int Try.underlying22 (hval 0 22 v0 rfl rfl) h0
  obtain ⟨a1, rfl, rfl, rfl, w1⟩ := open_int Try.underlying22 (hval 1 22 v1 rfl rfl) h1
  obtain ⟨a2, rfl, rfl, rfl, w2⟩ := open_int Try.underlying22 (hval 2 22 v2 rfl rfl) h2
  obtain ⟨a3, rfl, rfl, rfl⟩ := open_bool Try.underlying4 (hval 3 4 v3 rfl rfl) h3
  clear hA0 hval0
  simp only [List.append_nil] at hW'
  refine (walk a0 a1 a2 a3 w0 w1 w2 W).mono fun e W' ⟨he, hg⟩ => ?_
  subst he
  exact ⟨_, rfl, post_below hW' hg (fun _ _ _ => (trodAll_cons_mk (shut_bool Try.underlying4 _) trodAll_mk0)) (fun sp _ => (trodAll_cons_mk (shut_int Try.underlying22 w0) (trodAll_cons_mk (shut_int Try.underlying22 w1) (trodAll_cons_mk (shut_int Try.underlying22 w2) (trodAll_cons_mk (shut_bool Try.underlying4 _) trodAll_mk0))))) (fun _ => rfl) (ok_one (by kernel_rfl) rfl (okWide_bool_mk Try.underlying4 _))⟩

theorem over : Rows.widePartsRow.holds Try.pinned (OpenSpec.ofChange Rows.widePartsSpec) :=
  OpenClaim.holds_of_wide 5 Try.f5 rfl rfl rfl rfl rfl rfl rfl ⟨rfl, rfl, rfl, rfl, rfl⟩ rfl rfl rfl rfl rfl (by kernel_rfl) Try.func5 (by kernel_rfl)
    (of_decide_eq_true (by kernel_rfl)) (by unfold Func.isWrapper; first | (rw [if_pos (by decide +kernel)]; kernel_rfl) | (rw [if_neg (by decide +kernel)]; exact ⟨rfl, rfl⟩))
    (fun os started H enc _ => lifted os started H enc)

/-- The statement. -/
theorem proved : Rows.WidePartsSaid :=
  over
#print axioms proved
end Go.Proofs.Ytmfilgagdilmbaa.wideParts

