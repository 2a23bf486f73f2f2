/- What the functions of package math that gauge calls answer: the bits of a float, whether it is a number, its parts. -/
import Derived.Test.YtajkhbdniadkkaaMem
import Derived.Test.YtajkhbdniadkkaaFlt
import Derived.WalkLawsBesides
import Derived.Deep.QuietTactic
import Derived.Deep.RegionWith
import Derived.BigQuiet
namespace Go.Proofs.Ytajkhbdniadkkaa
open Go.RowKit
set_option linter.unusedVariables false

theorem run_bits (b : Nat) (w : World) : (callFunc 104 #[.float .f64 b]).run Try.prog w = .ok (.value (.int .u64 (b : Int))) w := by
  rw [run_callFunc_extern Try.func104 (by kernel_rfl) (by kernel_rfl) (by kernel_rfl) (e := Extern.MathFloatBits.float64bits) (by kernel_rfl)]
  rfl
theorem run_from (n : Nat) (w : World) : (callFunc 74 #[.int .u64 (n : Int)]).run Try.prog w = .ok (.value (.float .f64 n)) w := by
  rw [run_callFunc_extern Try.func74 (by kernel_rfl) (by kernel_rfl) (by kernel_rfl) (e := Extern.MathFloatBits.float64frombits) (by kernel_rfl)]
  rfl

theorem dbl_format : FloatKind.f64.format = Ieee.double := rfl

/-- 'IsNaN'. -/
theorem is_nan_any (x : Nat) (w : World) : Calls Try.prog 75 #[.float .f64 x] w fun e w' => e = .returned (.bool (Ieee.double.order x x != some .eq)) ∧ w = w' := by
  go_enter Try.func75, Try.ntmps75
  go_wp2
  go_ret
  exact ⟨rfl, rfl⟩

theorem fmt_self {x : Nat} (hx : x < 18446744073709551616) (h : x % 9223372036854775808 ≤ 9218868437227405312) : (FloatKind.f64.format.order x x != some .eq) = false := by
  rw [dbl_format, order_self hx h]; rfl
theorem fmt_nan {x : Nat} (h : 9218868437227405312 < x % 9223372036854775808) : (FloatKind.f64.format.order x x != some .eq) = true := by
  rw [dbl_format, order_nan h]; rfl
theorem is_nan_no (x : Nat) (w : World) (hx : x < 18446744073709551616) (h : x % 9223372036854775808 ≤ 9218868437227405312) : Calls Try.prog 75 #[.float .f64 x] w fun e w' => e = .returned (.bool false) ∧ w = w' := by
  have := is_nan_any x w
  rwa [order_self hx h] at this
theorem is_nan_yes (x : Nat) (w : World) (h : 9218868437227405312 < x % 9223372036854775808) : Calls Try.prog 75 #[.float .f64 x] w fun e w' => e = .returned (.bool true) ∧ w = w' := by
  have := is_nan_any x w
  rwa [order_nan h] at this

/-- 'Abs': a word without its sign. -/
theorem abs_any (x : Nat) (w : World) (hx : x < 18446744073709551616) : Calls Try.prog 105 #[.float .f64 x] w fun e w' => e = .returned (.float .f64 (x % 9223372036854775808)) ∧ w = w' := by
  have h1 := run_bits x
  have h3 := and_not_sign hx
  obtain ⟨y, hy⟩ : ∃ y, y = x % 9223372036854775808 := ⟨_, rfl⟩
  have h2 := run_from y
  rw [← hy] at h3 ⊢
  clear hy
  go_enter Try.func105, Try.ntmps105
  go_wp2
  go_ret
  exact ⟨rfl, rfl⟩

/-- 'IsInf(f, 0)' of a word that is no endless one. -/
theorem is_inf_no (r : Nat) (w : World) (hr : r % 9223372036854775808 < 9218868437227405312) (hx : r < 18446744073709551616) : Calls Try.prog 102 #[.float .f64 r, .int .i64 0] w fun e w' => e = .returned (.bool false) ∧ w = w' := by
  have hc : (FloatKind.f64.format.order (r % 9223372036854775808) 9218868437227405311 == some .gt) = false := by
    rw [dbl_format, order_pos hr (by decide)]
    rcases Nat.lt_trichotomy (r % 9223372036854775808) 9218868437227405311 with h | h | h
    · rw [Nat.compare_eq_lt.2 h]; rfl
    · rw [Nat.compare_eq_eq.2 h]; rfl
    · omega
  go_enter Try.func102, Try.ntmps102
  go_wp2_with fail
  refine (abs_any r _ hx).mono ?_
  rintro e w1 ⟨rfl, rfl⟩
  go_wp2
  go_ret
  exact ⟨rfl, rfl⟩
theorem norm_high (r : Nat) (w : World) (h1 : 4503599627370496 ≤ r) (h2 : r < 9218868437227405312) : Calls Try.prog 103 #[.float .f64 r] w fun e w' => e = .returned (.tuple #[.float .f64 r, .int .i64 0]) ∧ w = w' := by
  have hr : r % 9223372036854775808 = r := Nat.mod_eq_of_lt (by omega)
  have hc : (FloatKind.f64.format.order r 4503599627370496 == some .lt) = false := by
    rw [dbl_format, order_pos h2 (by decide)]
    rcases Nat.lt_trichotomy r 4503599627370496 with h | h | h
    · omega
    · rw [Nat.compare_eq_eq.2 h]; rfl
    · rw [Nat.compare_eq_gt.2 h]; rfl
  have ha := abs_any r w (by omega)
  rw [hr] at ha
  go_enter Try.func103, Try.ntmps103
  go_wp2_with fail
  refine ha.mono ?_
  rintro e w1 ⟨rfl, rfl⟩
  go_wp2
  go_ret2
  exact ⟨rfl, rfl⟩
theorem norm_low (r L : Nat) (w : World) (h0 : r ≠ 0) (h2 : r < 4503599627370496) (hL : r.log2 = L) : Calls Try.prog 103 #[.float .f64 r] w fun e w' => e = .returned (.tuple #[.float .f64 (L * 4503599627370496 + r * 2 ^ (52 - L)), .int .i64 (-52)]) ∧ w = w' := by
  have hr : r % 9223372036854775808 = r := Nat.mod_eq_of_lt (by omega)
  have hc : (FloatKind.f64.format.order r 4503599627370496 == some .lt) = true := by
    rw [dbl_format, order_pos (by omega) (by decide), Nat.compare_eq_lt.2 h2]; rfl
  have ha := abs_any r w (by omega)
  rw [hr] at ha
  obtain ⟨n, hn⟩ : ∃ n, n = L * 4503599627370496 + r * 2 ^ (52 - L) := ⟨_, rfl⟩
  have hm : ∀ (t : TypeId) (w : World), (binOp .mul t (.float .f64 r) (.float .f64 4841369599423283200)).run Try.prog w = .ok (.float .f64 n) w :=
    fun t w => run_float_arith w .mul t .f64 _ _ _ (by rw [hn]; exact mul_52 h0 h2 hL)
  rw [← hn]
  clear hn
  go_enter Try.func103, Try.ntmps103
  go_wp2_with fail
  refine ha.mono ?_
  rintro e w1 ⟨rfl, rfl⟩
  go_wp2
  go_ret2
  exact ⟨rfl, rfl⟩

/-- 'frexp'. -/
theorem frexp_zero (x : Nat) (w : World) (hx : x = 0 ∨ x = 9223372036854775808) : Calls Try.prog 99 #[.float .f64 x] w fun e w' => e = .returned (.tuple #[.float .f64 x, .int .i64 0]) ∧ w = w' := by
  have hc : (FloatKind.f64.format.order x 0 == some .eq) = true := by
    rcases hx with rfl | rfl <;> decide +kernel
  go_enter Try.func99, Try.ntmps99
  go_wp2
  go_ret2
  exact ⟨rfl, rfl⟩
/-- The last steps of 'frexp', from a word that is normal: its significand's fraction, its exponent. -/
theorem frexp_rest (r s : Nat) (k : Int) (w : World) (h1 : 0 < r) (h2 : r < 9218868437227405312) (hs1 : 4503599627370496 ≤ s) (hs : s < 9218868437227405312)
    (hn : ∀ w, Calls Try.prog 103 #[.float .f64 r] w fun e w' => e = .returned (.tuple #[.float .f64 s, .int .i64 k]) ∧ w = w') (hk : -52 ≤ k) (hk2 : k ≤ 0) :
    Calls Try.prog 99 #[.float .f64 r] w fun e w' => e = .returned (.tuple #[.float .f64 (4602678819172646912 + s % 4503599627370496), .int .i64 (k + (((s / 4503599627370496 : Nat) : Int) - 1023 + 1))]) ∧ w = w' := by
  have hc : (FloatKind.f64.format.order r 0 == some .eq) = false := by
    rw [dbl_format, order_pos h2 (by decide), Nat.compare_eq_gt.2 h1]; rfl
  have i1 := Lib.hid (fun W : World => is_inf_no r W (by omega) (by omega))
  have i2 := Lib.hid (fun W : World => is_nan_no r W (by omega) (by omega))
  have i3 := Lib.hid hn
  have b1 := run_bits s
  obtain ⟨E, hE⟩ : ∃ E, E = s / 4503599627370496 := ⟨_, rfl⟩
  obtain ⟨m, hm⟩ : ∃ m, m = s % 4503599627370496 := ⟨_, rfl⟩
  have hE1 : E < 2047 := by omega
  have hm1 : m < 4503599627370496 := by omega
  have a1 : bits .and .u64 (E : Int) 2047 = (E : Int) := by rw [and_2047 (by omega), Nat.mod_eq_of_lt (by omega)]
  have a2 : bits .andNot .u64 (s : Int) 9218868437227405312 = (m : Int) := by rw [hm]; exact and_not_exp (by omega)
  have a3 : bits .or .u64 (m : Int) 4602678819172646912 = ((4602678819172646912 + m : Nat) : Int) := or_exp hm1
  obtain ⟨y, hy⟩ : ∃ y, y = 4602678819172646912 + m := ⟨_, rfl⟩
  have a4 : (s : Int) / 4503599627370496 = (E : Int) := by rw [hE]; rfl
  rw [← hy] at a3
  rw [← hE, ← hm, ← hy]
  have b2 := run_from y
  clear hE hm hy hn
  go_enter Try.func99, Try.ntmps99
  go_wp2_with fail
  refine (i1.out _).mono ?_
  rintro e w1 ⟨rfl, rfl⟩
  go_wp2_with fail
  refine (i2.out _).mono ?_
  rintro e w1 ⟨rfl, rfl⟩
  go_wp2_with fail
  refine (i3.out _).mono ?_
  rintro e w1 ⟨rfl, rfl⟩
  go_wp2
  go_ret2
  exact ⟨rfl, rfl⟩

/-- 'Frexp' is 'frexp' here. -/
theorem frexp_outer (x y : Nat) (k : Int) (w : World) (h : ∀ w, Calls Try.prog 99 #[.float .f64 x] w fun e w' => e = .returned (.tuple #[.float .f64 y, .int .i64 k]) ∧ w = w') :
    Calls Try.prog 89 #[.float .f64 x] w fun e w' => e = .returned (.tuple #[.float .f64 y, .int .i64 k]) ∧ w = w' := by
  have i1 := Lib.hid h
  clear h
  go_enter Try.func89, Try.ntmps89
  go_wp2_with fail
  refine (i1.out _).mono ?_
  rintro e w1 ⟨rfl, rfl⟩
  go_wp2
  go_ret2
  exact ⟨rfl, rfl⟩

/-- 'halved': to the nearest, of two that are as near the even one. -/
theorem halved_far (n : Nat) (t : Int) (w : World) (hn : n < 9223372036854775808) (ht : 63 < t) : Calls Try.prog 90 #[.int .u64 (n : Int), .int .i64 t] w fun e w' => e = .returned (.int .u64 0) ∧ w = w' := by
  have t1 : decide (63 < t) = true := by simpa using ht
  go_enter Try.func90, Try.ntmps90
  go_wp2
  go_ret
  exact ⟨rfl, rfl⟩
theorem wrapN (n : Nat) (h : n < 18446744073709551616) : IntKind.u64.wrap (n : Int) = (n : Int) := by rw [IntKind.wrap_u64]; omega
theorem ret_u64n {a b : Nat} (h : a = b) : Ending.returned (.int .u64 (a : Int)) = .returned (.int .u64 (b : Int)) := by rw [h]
theorem halved_near (n t : Nat) (w : World) (hn : n < 9223372036854775808) (ht : t ≤ 63) (ht1 : 1 ≤ t) : Calls Try.prog 90 #[.int .u64 (n : Int), .int .i64 (t : Int)] w fun e w' => e = .returned (.int .u64 ((rne n (2 ^ t) : Nat) : Int)) ∧ ∃ k, w' = w.drewN k := by
  have t1 : decide (63 < (t : Int)) = false := by simp; omega
  obtain ⟨q, hq⟩ : ∃ q, q = n / 2 ^ t := ⟨_, rfl⟩
  obtain ⟨z, hz⟩ : ∃ z, z = q * 2 ^ t := ⟨_, rfl⟩
  obtain ⟨r, hr⟩ : ∃ r, r = n % 2 ^ t := ⟨_, rfl⟩
  obtain ⟨h, hh⟩ : ∃ h, h = 2 ^ (t - 1) := ⟨_, rfl⟩
  have hd : 2 ^ t = 2 * h := by rw [hh, ← Nat.pow_succ']; congr 1; omega
  have hzr : n = z + r := by rw [hz, hr, hq, Nat.mul_comm]; exact (Nat.div_add_mod n (2 ^ t)).symm
  have hh63 : h < 18446744073709551616 := by
    have : h ≤ 2 ^ 62 := by rw [hh]; exact Nat.pow_le_pow_right (by decide) (by omega)
    omega
  have hqn : q ≤ n := by rw [hq]; exact Nat.div_le_self _ _
  have e1 : (n : Int) / 2 ^ t = (q : Int) := by rw [hq]; simp
  have e2 : IntKind.u64.wrap ((q : Int) * 2 ^ t) = (z : Int) := by
    have : (q : Int) * 2 ^ t = (z : Int) := by rw [hz]; simp
    rw [this]; exact wrapN z (by omega)
  have e3 : IntKind.u64.wrap ((n : Int) - (z : Int)) = (r : Int) := by
    have : (n : Int) - (z : Int) = (r : Int) := by omega
    rw [this]; exact wrapN r (by omega)
  have e4 : IntKind.u64.wrap ((2 : Int) ^ (t - 1)) = (h : Int) := by
    have : (2 : Int) ^ (t - 1) = (h : Int) := by rw [hh]; simp
    rw [this]; exact wrapN h hh63
  have e5 : IntKind.u64.wrap ((q : Int) + 1) = ((q + 1 : Nat) : Int) := by
    have : (q : Int) + 1 = ((q + 1 : Nat) : Int) := rfl
    rw [this]; exact wrapN (q + 1) (by omega)
  have R := Lib.hid (rne_cases hq hr hd)
  clear hq hz hr hh hd hzr
  have hcase : h < r ∨ (h = r ∧ q % 2 = 1) ∨ (h = r ∧ q % 2 = 0) ∨ r < h := by omega
  have fin : ∀ (w : World), ∃ k, w.drewN 0 = w.drewN k := fun w => ⟨0, rfl⟩
  rcases hcase with g | ⟨rfl, g⟩ | ⟨rfl, g⟩ | g
  · have R2 := Lib.hid (R.out.trans (if_pos g))
    rw [R2.out]
    clear R R2
    go_enter Try.func90, Try.ntmps90
    go_wp2
    go_quiet (fail)
    go_wp2
    go_ret
    exact ⟨rfl, _, rfl⟩
  · have R2 := Lib.hid (R.out.trans ((if_neg (by omega)).trans ((if_pos rfl).trans (if_pos g))))
    rw [R2.out]
    have f1 : ((q : Int) % 2 == 1) = true := by simp; omega
    clear R R2
    go_enter Try.func90, Try.ntmps90
    go_wp2
    go_quiet (fail)
    go_wp2
    go_ret
    exact ⟨rfl, _, rfl⟩
  · have R2 := Lib.hid (R.out.trans ((if_neg (by omega)).trans ((if_pos rfl).trans (if_neg (by omega)))))
    rw [R2.out]
    have f1 : ((q : Int) % 2 == 1) = false := by simp; omega
    clear R R2
    go_enter Try.func90, Try.ntmps90
    go_wp2
    go_quiet (fail)
    go_wp2
    go_ret
    exact ⟨rfl, _, rfl⟩
  · have R2 := Lib.hid (R.out.trans ((if_neg (by omega)).trans (if_neg (by omega))))
    rw [R2.out]
    clear R R2
    go_enter Try.func90, Try.ntmps90
    go_wp2
    go_quiet (fail)
    go_wp2
    go_ret
    exact ⟨rfl, _, rfl⟩

end Go.Proofs.Ytajkhbdniadkkaa
