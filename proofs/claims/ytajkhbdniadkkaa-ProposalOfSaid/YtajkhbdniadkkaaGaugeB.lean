/- What 'Read' of package gauge answers. -/
import Derived.Test.YtajkhbdniadkkaaGaugeA
import Derived.Test.YtajkhbdniadkkaaQRight
namespace Go.Proofs.Ytajkhbdniadkkaa
open Go.RowKit
set_option linter.unusedVariables false

/-- A thousand times a word's number, to the nearest. -/
def mil (r : Nat) : Nat := rne (sig r * 1000) (2 ^ (1074 - upw r))
/-- What is wrong with a sample: 0: nothing. -/
def rdE (x : Nat) : Nat := if 9218868437227405312 < x % 9223372036854775808 then 2 else if x = 9223372036854775808 then 0 else if 4805340802404319232 ≤ x then 3 else if 9007199254740992 < mil x then 3 else 0
def rdV (x : Nat) : Nat := if rdE x = 0 then mil (x % 9223372036854775808) else 0

theorem halved_any (n : Nat) (t : Int) (w : World) (hn : n < 9223372036854775808) (ht1 : 1 ≤ t) : Calls Try.prog 90 #[.int .u64 (n : Int), .int .i64 t] w fun e w' => e = .returned (.int .u64 ((rne n (2 ^ t.toNat) : Nat) : Int)) ∧ ∃ k, w' = w.drewN k := by
  obtain ⟨s, rfl⟩ : ∃ s : Nat, t = (s : Int) := ⟨t.toNat, by omega⟩
  rw [Int.toNat_natCast]
  rcases Nat.lt_or_ge 63 s with h | h
  · have h2 : 2 ^ 64 ≤ 2 ^ s := Nat.pow_le_pow_right (by decide) h
    rw [rne_low (by omega)]
    refine (halved_far n s w hn (by omega)).mono ?_
    rintro e w' ⟨rfl, rfl⟩
    exact ⟨rfl, 0, rfl⟩
  · exact halved_near n s w hn h (by omega)

theorem run_whole (m : Nat) (hm : m < 4503599627370496) (w : World) : (convert 152 61 (.float .f64 (4841369599423283200 + m))).run Try.prog w = .ok (.int .u64 ((4503599627370496 + m : Nat) : Int)) w :=
  run_convert_float_int w 152 61 .f64 .u64 _ _ (by rw [Try.underlying152]; rfl) Try.underlying61 (to_whole hm)
theorem run_wholez (x : Nat) (hx : x = 0 ∨ x = 9223372036854775808) (w : World) : (convert 152 61 (.float .f64 x)).run Try.prog w = .ok (.int .u64 0) w :=
  run_convert_float_int w 152 61 .f64 .u64 _ _ (by rw [Try.underlying152]; rfl) Try.underlying61 (by rcases hx with rfl | rfl; exact to_wholez; exact to_wholem)

theorem thou_zero (x : Nat) (w : World) (hx : x = 0 ∨ x = 9223372036854775808) : Calls Try.prog 76 #[.float .f64 x] w fun e w' => e = .returned (.int .u64 0) ∧ ∃ k, w' = w.drewN k := by
  have i1 := Lib.hid (fun W : World => frexp_outer x x 0 W fun w => frexp_zero x w hx)
  have hm : ∀ (t : TypeId) (w : World), (binOp .mul t (.float .f64 x) (.float .f64 4845873199050653696)).run Try.prog w = .ok (.float .f64 x) w :=
    fun t w => run_float_arith w .mul t .f64 _ _ _ (by rcases hx with rfl | rfl; exact mul_53z; exact mul_53m)
  have hc := run_wholez x hx
  have i2 := Lib.hid (fun W : World => halved_near 0 53 W (by decide) (by decide) (by decide))
  rw [show rne 0 (2 ^ 53) = 0 by decide] at i2
  clear hx
  go_enter Try.func76, Try.ntmps76
  go_wp2_with fail
  refine (i1.out _).mono ?_
  rintro e w1 ⟨rfl, rfl⟩
  go_wp2_with fail
  refine (i2.out _).mono ?_
  rintro e w1 ⟨rfl, k, rfl⟩
  go_wp2
  go_ret
  exact ⟨rfl, _, rfl⟩

theorem thou_rest (x m : Nat) (k : Int) (w : World) (hm : m < 4503599627370496) (hk1 : -1100 ≤ k) (hk : k ≤ 52)
    (hF : ∀ w, Calls Try.prog 99 #[.float .f64 x] w fun e w' => e = .returned (.tuple #[.float .f64 (4602678819172646912 + m), .int .i64 k]) ∧ w = w') :
    Calls Try.prog 76 #[.float .f64 x] w fun e w' => e = .returned (.int .u64 ((rne ((4503599627370496 + m) * 1000) (2 ^ (53 - k).toNat) : Nat) : Int)) ∧ ∃ k, w' = w.drewN k := by
  obtain ⟨y, hy⟩ : ∃ y, y = 4602678819172646912 + m := ⟨_, rfl⟩
  obtain ⟨z, hz⟩ : ∃ z, z = 4841369599423283200 + m := ⟨_, rfl⟩
  obtain ⟨s, hs⟩ : ∃ s, s = 4503599627370496 + m := ⟨_, rfl⟩
  obtain ⟨p, hp⟩ : ∃ p, p = s * 1000 := ⟨_, rfl⟩
  rw [← hy] at hF
  have i1 := Lib.hid (fun W : World => frexp_outer x y k W hF)
  have hmul : ∀ (t : TypeId) (w : World), (binOp .mul t (.float .f64 y) (.float .f64 4845873199050653696)).run Try.prog w = .ok (.float .f64 z) w :=
    fun t w => run_float_arith w .mul t .f64 _ _ _ (by rw [hy, hz]; exact mul_53 hm)
  have hc := run_whole m hm
  rw [← hz, ← hs] at hc
  rw [← hs, ← hp]
  have hp2 : IntKind.u64.wrap ((s : Int) * 1000) = (p : Int) := by
    have : (s : Int) * 1000 = (p : Int) := by omega
    rw [this]; exact wrapN p (by omega)
  have i2 := Lib.hid (fun W : World => halved_any p (53 - k) W (by omega) (by omega))
  clear hy hz hs hp hF
  go_enter Try.func76, Try.ntmps76
  go_wp2_with fail
  refine (i1.out _).mono ?_
  rintro e w1 ⟨rfl, rfl⟩
  go_wp2_with fail
  refine (i2.out _).mono ?_
  rintro e w1 ⟨rfl, k, rfl⟩
  go_wp2
  go_ret
  exact ⟨rfl, _, rfl⟩
theorem ret_u64_of {a b : Nat} (h : a = b) {e : Ending} (he : e = .returned (.int .u64 (a : Int))) : e = .returned (.int .u64 (b : Int)) := by rw [he, h]
theorem thou_any (r : Nat) (w : World) (h2 : r < 4805340802404319232) : Calls Try.prog 76 #[.float .f64 r] w fun e w' => e = .returned (.int .u64 ((mil r : Nat) : Int)) ∧ ∃ k, w' = w.drewN k := by
  rcases Nat.eq_zero_or_pos r with rfl | h0
  · have e : mil 0 = 0 := rne_low (by show 0 < _; exact Nat.two_pow_pos _)
    rw [e]
    exact thou_zero 0 w (.inl rfl)
  rcases Nat.lt_or_ge r 4503599627370496 with h | h
  · obtain ⟨L, hL⟩ : ∃ L, r.log2 = L := ⟨_, rfl⟩
    obtain ⟨a, b, c⟩ := norm_52 (by omega) h hL
    obtain ⟨z, hz⟩ : ∃ z, z = r * 2 ^ (52 - L) := ⟨_, rfl⟩
    have hn := fun w : World => norm_low r L w (by omega) h hL
    have hf := fun w : World => frexp_rest r (L * 4503599627370496 + r * 2 ^ (52 - L)) (-52) w h0 (by omega) (by rw [← hz] at b ⊢; omega) (by rw [← hz] at c ⊢; omega) hn (by decide) (by decide)
    rw [← hz] at hf b c
    refine (thou_rest r ((L * 4503599627370496 + z) % 4503599627370496) _ w (by omega) ?_ ?_ hf).mono ?_
    · omega
    · omega
    · rintro e w' ⟨he, hw⟩
      refine ⟨ret_u64_of ?_ he, hw⟩
      have e1 : (53 - (-52 + (((((L * 4503599627370496 + z) / 4503599627370496 : Nat) : Int)) - 1023 + 1))).toNat = 1126 - L := by omega
      have e2 : sig r = r := by unfold sig; rw [if_pos h]
      obtain ⟨T, hT⟩ : ∃ T, T = 1074 - upw r := ⟨_, rfl⟩
      have hT2 : 64 ≤ T := by rw [hT]; unfold upw; omega
      unfold mil
      rw [e1, e2, ← hT]
      have p1 : 2 ^ 64 ≤ 2 ^ (1126 - L) := Nat.pow_le_pow_right (by decide) (by omega)
      have p4 : 2 ^ 64 ≤ 2 ^ T := Nat.pow_le_pow_right (by decide) hT2
      generalize 2 ^ (1126 - L) = A at *
      generalize 2 ^ T = B at *
      rw [rne_low (by omega), rne_low (by omega)]
  · have hn := fun w : World => norm_high r w h (by omega)
    have hf := fun w : World => frexp_rest r r 0 w h0 (by omega) h (by omega) hn (by decide) (by decide)
    refine (thou_rest r (r % 4503599627370496) _ w (by omega) ?_ ?_ hf).mono ?_
    · omega
    · omega
    · rintro e w' ⟨he, hw⟩
      refine ⟨ret_u64_of ?_ he, hw⟩
      have e1 : (53 - (0 + (((r / 4503599627370496 : Nat) : Int) - 1023 + 1))).toNat = 1074 - upw r := by unfold upw; omega
      have e2 : sig r = 4503599627370496 + r % 4503599627370496 := by unfold sig; rw [if_neg (by omega)]
      unfold mil
      rw [e1, e2]

/- how a word stands to nought and to what is beyond -/
theorem below_yes {r : Nat} (h0 : 0 < r) (h : r ≤ 9218868437227405312) : (FloatKind.f64.format.order (9223372036854775808 + r) 0 == some .lt) = true := by
  rw [dbl_format, order_neg h0 h]; rfl
theorem below_no {x : Nat} (h : x ≤ 9223372036854775808) (hn : ¬ 9218868437227405312 < x % 9223372036854775808) : (FloatKind.f64.format.order x 0 == some .lt) = false := by
  rw [dbl_format]
  rcases Nat.lt_or_ge x 9218868437227405312 with h1 | h1
  · rw [order_pos h1 (by decide)]
    rcases Nat.eq_zero_or_pos x with rfl | h2
    · decide
    · rw [Nat.compare_eq_gt.2 h2]; rfl
  · have : x = 9218868437227405312 ∨ x = 9223372036854775808 := by omega
    rcases this with rfl | rfl <;> decide +kernel
theorem beyond_no {x : Nat} (h : x < 4805340802404319232 ∨ x = 9223372036854775808) : (FloatKind.f64.format.order x 4805340802404319232 == some .gt) = false ∧ (FloatKind.f64.format.order x 4805340802404319232 == some .eq) = false := by
  rw [dbl_format]
  rcases h with h | rfl
  · rw [order_pos (by omega) (by decide), Nat.compare_eq_lt.2 h]
    exact ⟨rfl, rfl⟩
  · exact ⟨by decide +kernel, by decide +kernel⟩
theorem beyond_yes {x : Nat} (h : 4805340802404319232 ≤ x) (h2 : x ≤ 9218868437227405312) : (FloatKind.f64.format.order x 4805340802404319232 == some .gt || FloatKind.f64.format.order x 4805340802404319232 == some .eq) = true := by
  rw [dbl_format]
  rcases Nat.lt_or_ge x 9218868437227405312 with h1 | h1
  · rw [order_pos h1 (by decide)]
    rcases Nat.lt_or_ge 4805340802404319232 x with h3 | h3
    · rw [Nat.compare_eq_gt.2 h3]; rfl
    · have : x = 4805340802404319232 := by omega
      subst this
      decide
  · have : x = 9218868437227405312 := by omega
    subst this
    decide +kernel

theorem mil_lt {r : Nat} (h : r < 4805340802404319232) : mil r < 9223372036854775808 := by
  obtain ⟨a, b, _⟩ := rne_spec (n := sig r * 1000) (Nat.two_pow_pos (1074 - upw r))
  have h1 := sig_lt r
  have p : 2 ^ 8 ≤ 2 ^ (1074 - upw r) := Nat.pow_le_pow_right (by decide) (by unfold upw; omega)
  unfold mil
  generalize rne (sig r * 1000) (2 ^ (1074 - upw r)) = q at *
  generalize 2 ^ (1074 - upw r) = d at *
  have h2 : q * 256 ≤ q * d := Nat.mul_le_mul_left _ p
  rcases Nat.lt_or_ge q 2 with h3 | h3
  · omega
  · have h4 : 2 * d ≤ q * d := Nat.mul_le_mul_right _ h3
    omega

theorem ret_rd {a b : Nat} {c d : Nat} (h : a = c) (g : b = d) : Ending.returned (.tuple #[.int .i64 (a : Int), .int .i64 (b : Int)]) = .returned (.tuple #[.int .i64 (c : Int), .int .i64 (d : Int)]) := by rw [h, g]
theorem read_any (x : Nat) (w : World) (hx : x < 18446744073709551616) :
    Calls Try.prog 56 #[.int .u64 (x : Int)] w fun e w' => e = .returned (.tuple #[.int .i64 (rdV x : Int), .int .i64 (rdE x : Int)]) ∧ ∃ k, w' = w.drewN k := by
  have b1 := run_from x
  by_cases hn : 9218868437227405312 < x % 9223372036854775808
  · have v1 : rdE x = 2 := by unfold rdE; rw [if_pos hn]
    have v2 : rdV x = 0 := by unfold rdV; rw [v1]; rfl
    rw [v1, v2]
    have i1 := Lib.hid (fun W : World => is_nan_yes x W hn)
    clear v1 v2 hn
    go_enter Try.func56, Try.ntmps56
    go_wp2_with fail
    refine (i1.out _).mono ?_
    rintro e w1 ⟨rfl, rfl⟩
    go_wp2
    go_ret2
    exact ⟨rfl, 0, rfl⟩
  have i1 := Lib.hid (fun W : World => is_nan_no x W hx (by omega))
  have hcase : x = 9223372036854775808 ∨ 9223372036854775808 < x ∨ (4805340802404319232 ≤ x ∧ x ≤ 9218868437227405312) ∨ x < 4805340802404319232 := by omega
  rcases hcase with h | h | ⟨h, h2⟩ | h
  · have v1 : rdE x = 0 := by unfold rdE; rw [if_neg hn, if_pos h]
    have v2 : rdV x = 0 := by
      unfold rdV; rw [if_pos v1, h]
      exact rne_low (by show 0 < _; exact Nat.two_pow_pos _)
    rw [v1, v2]
    have c1 := below_no (by omega) hn
    obtain ⟨c2, c3⟩ := beyond_no (x := x) (.inr h)
    have i2 := Lib.hid (fun W : World => thou_zero x W (.inr h))
    have i3 := Lib.hid (fun W : World => right_yes 0 W (by decide) (by decide))
    clear v1 v2 hn h
    go_enter Try.func56, Try.ntmps56
    go_wp2_with fail
    refine (i1.out _).mono ?_
    rintro e w1 ⟨rfl, rfl⟩
    go_wp2_with fail
    refine (i2.out _).mono ?_
    rintro e w1 ⟨rfl, k, rfl⟩
    go_wp2_with fail
    refine (i3.out _).mono ?_
    rintro e w1 ⟨rfl, rfl⟩
    go_wp2
    go_ret2
    exact ⟨rfl, _, rfl⟩
  · have v1 : rdE x = 3 := by unfold rdE; rw [if_neg hn, if_neg (by omega), if_pos (by omega)]
    have v2 : rdV x = 0 := by unfold rdV; rw [v1]; rfl
    rw [v1, v2]
    have c1 : (FloatKind.f64.format.order x 0 == some .lt) = true := by
      have := below_yes (r := x - 9223372036854775808) (by omega) (by omega)
      rwa [show 9223372036854775808 + (x - 9223372036854775808) = x by omega] at this
    clear v1 v2 hn h
    go_enter Try.func56, Try.ntmps56
    go_wp2_with fail
    refine (i1.out _).mono ?_
    rintro e w1 ⟨rfl, rfl⟩
    go_wp2
    go_ret2
    exact ⟨rfl, 0, rfl⟩
  · have v1 : rdE x = 3 := by unfold rdE; rw [if_neg hn, if_neg (by omega), if_pos h]
    have v2 : rdV x = 0 := by unfold rdV; rw [v1]; rfl
    rw [v1, v2]
    have c1 := below_no (by omega) hn
    have c2 := beyond_yes h h2
    clear v1 v2 hn h h2
    go_enter Try.func56, Try.ntmps56
    go_wp2_with fail
    refine (i1.out _).mono ?_
    rintro e w1 ⟨rfl, rfl⟩
    go_wp2
    go_ret2
    exact ⟨rfl, 0, rfl⟩
  · have v0 : rdE x = if 9007199254740992 < mil x then 3 else 0 := by unfold rdE; rw [if_neg hn, if_neg (by omega), if_neg (by omega)]
    have hmod : x % 9223372036854775808 = x := Nat.mod_eq_of_lt (by omega)
    have c1 := below_no (by omega) hn
    obtain ⟨c2, c3⟩ := beyond_no (x := x) (.inl h)
    have hlt := mil_lt h
    have i2 := Lib.hid (fun W : World => thou_any x W h)
    by_cases hm : 9007199254740992 < mil x
    · rw [if_pos hm] at v0
      have v2 : rdV x = 0 := by unfold rdV; rw [v0]; rfl
      rw [v0, v2]
      obtain ⟨q, hq⟩ : ∃ q, q = mil x := ⟨_, rfl⟩
      rw [← hq] at i2 hlt hm
      have i3 := Lib.hid (fun W : World => right_no (q : Int) W (by omega))
      have cv : ((IntKind.i64.wrap (q : Int)) = (q : Int)) := by rw [IntKind.wrap_i64]; omega
      clear v0 v2 hn h hm hmod hq hlt
      go_enter Try.func56, Try.ntmps56
      go_wp2_with fail
      refine (i1.out _).mono ?_
      rintro e w1 ⟨rfl, rfl⟩
      go_wp2_with fail
      refine (i2.out _).mono ?_
      rintro e w1 ⟨rfl, k, rfl⟩
      go_wp2_with fail
      refine (i3.out _).mono ?_
      rintro e w1 ⟨rfl, rfl⟩
      go_wp2
      go_ret2
      exact ⟨rfl, _, rfl⟩
    · rw [if_neg hm] at v0
      have v2 : rdV x = mil x := by unfold rdV; rw [if_pos v0, hmod]
      rw [v0, v2]
      obtain ⟨q, hq⟩ : ∃ q, q = mil x := ⟨_, rfl⟩
      rw [← hq] at i2 hlt hm ⊢
      have i3 := Lib.hid (fun W : World => right_yes (q : Int) W (by omega) (by omega))
      have cv : ((IntKind.i64.wrap (q : Int)) = (q : Int)) := by rw [IntKind.wrap_i64]; omega
      clear v0 v2 hn h hm hmod hq hlt
      go_enter Try.func56, Try.ntmps56
      go_wp2_with fail
      refine (i1.out _).mono ?_
      rintro e w1 ⟨rfl, rfl⟩
      go_wp2_with fail
      refine (i2.out _).mono ?_
      rintro e w1 ⟨rfl, k, rfl⟩
      go_wp2_with fail
      refine (i3.out _).mono ?_
      rintro e w1 ⟨rfl, rfl⟩
      go_wp2
      go_ret2
      exact ⟨rfl, _, rfl⟩

end Go.Proofs.Ytajkhbdniadkkaa
