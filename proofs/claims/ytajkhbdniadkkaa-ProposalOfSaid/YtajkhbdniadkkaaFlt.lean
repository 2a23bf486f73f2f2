/- Floats of 64 bits, as whole numbers: what a word stands for, how two stand, rounding to the nearest even, products by powers of two, the quotient by a thousand. -/
import Derived.Laws.FloatArith
import Derived.Laws.BitsAll
namespace Go.Proofs.Ytajkhbdniadkkaa
open Ieee
set_option linter.unusedVariables false

/-- A word's significand, and how often it is doubled, in units of the least number above 0. -/
def sig (r : Nat) : Nat := if r < 4503599627370496 then r else 4503599627370496 + r % 4503599627370496
def upw (r : Nat) : Nat := r / 4503599627370496 - 1
def fval (r : Nat) : Nat := sig r * 2 ^ upw r

theorem dbl_sign : Ieee.double.signWeight = 9223372036854775808 := by decide
theorem dbl_binade : Ieee.double.binade = 4503599627370496 := by decide
theorem dbl_inf : Ieee.double.infRung = 9218868437227405312 := by decide
theorem dbl_least : Ieee.double.leastPlace = -1074 := by decide
theorem dbl_frac : Ieee.double.fractionBits = 52 := rfl

theorem read_pos {r : Nat} (h : r < 9218868437227405312) : Ieee.double.read r = .number false (sig r) (-1074 + (upw r : Nat)) := by
  unfold Format.read
  simp only [dbl_sign, dbl_binade, dbl_inf, dbl_least]
  have h1 : r / 9223372036854775808 = 0 := by omega
  have h2 : r % 9223372036854775808 = r := by omega
  rw [h1, h2]
  unfold sig upw
  by_cases hr : r < 4503599627370496
  · have : r / 4503599627370496 = 0 := by omega
    simp [hr, this]
  · simp [hr, h]
theorem read_neg {r : Nat} (h : r < 9218868437227405312) : Ieee.double.read (9223372036854775808 + r) = .number true (sig r) (-1074 + (upw r : Nat)) := by
  unfold Format.read
  simp only [dbl_sign, dbl_binade, dbl_inf, dbl_least]
  have h1 : (9223372036854775808 + r) / 9223372036854775808 = 1 := by omega
  have h2 : (9223372036854775808 + r) % 9223372036854775808 = r := by omega
  rw [h1, h2]
  unfold sig upw
  by_cases hr : r < 4503599627370496
  · have : r / 4503599627370496 = 0 := by omega
    simp [hr, this]
  · simp [hr, h]
theorem read_inf : Ieee.double.read 9218868437227405312 = .infinity false := by decide +kernel
theorem read_minf : Ieee.double.read 18442240474082181120 = .infinity true := by decide +kernel
theorem read_nan {x : Nat} (h : 9218868437227405312 < x % 9223372036854775808) : ∃ s t, Ieee.double.read x = .nan s t := by
  unfold Format.read
  simp only [dbl_sign, dbl_binade, dbl_inf, dbl_least]
  rw [if_neg (by omega), if_neg (by omega), if_neg (by omega)]
  exact ⟨_, _, rfl⟩

/- how two stand -/
theorem sig_lt (r : Nat) : sig r < 9007199254740992 := by unfold sig; split <;> omega
theorem fval_succ (r : Nat) : fval (r + 1) = fval r + 2 ^ upw r := by
  unfold fval
  by_cases h : (r + 1) % 4503599627370496 = 0
  · by_cases h0 : r < 4503599627370496
    · have hr : r = 4503599627370495 := by omega
      subst hr
      decide
    · have hu : upw (r + 1) = upw r + 1 := by unfold upw; omega
      have hs : sig r = 9007199254740991 := by unfold sig; rw [if_neg h0]; omega
      have hs2 : sig (r + 1) = 4503599627370496 := by unfold sig; rw [if_neg (by omega)]; omega
      rw [hu, hs, hs2, Nat.pow_succ]
      omega
  · have hu : upw (r + 1) = upw r := by unfold upw; omega
    have hs : sig (r + 1) = sig r + 1 := by
      unfold sig
      split
      · rw [if_pos (by omega)]
      · rw [if_neg (by omega)]
        omega
    rw [hu, hs, Nat.add_mul, Nat.one_mul]
theorem fval_lt {r s : Nat} (h : r < s) : fval r < fval s := by
  induction s with
  | zero => omega
  | succ s ih =>
    have hp : 0 < 2 ^ upw s := Nat.two_pow_pos _
    rw [fval_succ]
    rcases Nat.lt_or_ge r s with h1 | h1
    · have := ih h1
      omega
    · have : r = s := by omega
      subst this
      omega
theorem fval_cmp (r s : Nat) : compare (fval r) (fval s) = compare r s := by
  rcases Nat.lt_trichotomy r s with h | h | h
  · rw [Nat.compare_eq_lt.2 h, Nat.compare_eq_lt.2 (fval_lt h)]
  · subst h
    rw [Nat.compare_eq_eq.2 rfl, Nat.compare_eq_eq.2 rfl]
  · rw [Nat.compare_eq_gt.2 h, Nat.compare_eq_gt.2 (fval_lt h)]

theorem int_cmp (a b : Nat) : compare (a : Int) (b : Int) = compare a b := by
  simp only [compare, compareOfLessAndEq]
  simp [Int.ofNat_lt, Int.ofNat_inj]
theorem mul_cmp (a b : Nat) {c : Nat} (hc : 0 < c) : compare (a * c) (b * c) = compare a b := by
  rcases Nat.lt_trichotomy a b with h | h | h
  · rw [Nat.compare_eq_lt.2 h, Nat.compare_eq_lt.2 (Nat.mul_lt_mul_of_pos_right h hc)]
  · subst h
    rw [Nat.compare_eq_eq.2 rfl, Nat.compare_eq_eq.2 rfl]
  · rw [Nat.compare_eq_gt.2 h, Nat.compare_eq_gt.2 (Nat.mul_lt_mul_of_pos_right h hc)]

theorem order_pos {r s : Nat} (hr : r < 9218868437227405312) (hs : s < 9218868437227405312) : Ieee.double.order r s = some (compare r s) := by
  unfold Format.order
  rw [read_pos hr, read_pos hs]
  simp only [Datum.order, signed]
  congr 1
  obtain ⟨a, ha⟩ : ∃ a, a = upw r := ⟨_, rfl⟩
  obtain ⟨b, hb⟩ : ∃ b, b = upw s := ⟨_, rfl⟩
  have e1 : (-1074 + (a : Int) - min (-1074 + (a : Int)) (-1074 + b)).toNat = a - min a b := by omega
  have e2 : (-1074 + (b : Int) - min (-1074 + (a : Int)) (-1074 + b)).toNat = b - min a b := by omega
  rw [← ha, ← hb, e1, e2]
  simp only [Nat.shiftLeft_eq, Bool.false_eq_true, if_false]
  rw [int_cmp, ← mul_cmp _ _ (Nat.two_pow_pos (min a b)), Nat.mul_assoc, Nat.mul_assoc, ← Nat.pow_add, ← Nat.pow_add, Nat.sub_add_cancel (Nat.min_le_left _ _), Nat.sub_add_cancel (Nat.min_le_right _ _), ha, hb]
  exact fval_cmp r s

theorem order_nan {x : Nat} (h : 9218868437227405312 < x % 9223372036854775808) : Ieee.double.order x x = none := by
  obtain ⟨s, t, e⟩ := read_nan h
  unfold Format.order
  rw [e]
  rfl
theorem order_self {x : Nat} (hx : x < 18446744073709551616) (h : x % 9223372036854775808 ≤ 9218868437227405312) : Ieee.double.order x x = some .eq := by
  rcases Nat.lt_or_ge x 9223372036854775808 with h1 | h1
  · rcases Nat.lt_or_ge x 9218868437227405312 with h2 | h2
    · rw [order_pos h2 h2, Nat.compare_eq_eq.2 rfl]
    · have : x = 9218868437227405312 := by omega
      subst this
      decide +kernel
  · obtain ⟨r, rfl⟩ : ∃ r, x = 9223372036854775808 + r := ⟨x - 9223372036854775808, by omega⟩
    rcases Nat.lt_or_ge r 9218868437227405312 with h2 | h2
    · unfold Format.order
      rw [read_neg h2]
      simp [Datum.order]
    · have : r = 9218868437227405312 := by omega
      subst this
      decide +kernel
theorem read_0 : Ieee.double.read 0 = .number false 0 (-1074) := by decide +kernel
/-- Below 0: a sign, and not nought. -/
theorem order_neg {r : Nat} (hr : 0 < r) (h : r ≤ 9218868437227405312) : Ieee.double.order (9223372036854775808 + r) 0 = some .lt := by
  rcases Nat.lt_or_ge r 9218868437227405312 with h2 | h2
  · unfold Format.order
    rw [read_neg h2, read_0]
    have hs : 0 < sig r := by unfold sig; split <;> omega
    have hm : (-1074 + (upw r : Int) - min (-1074 + (upw r : Int)) (-1074)).toNat = upw r := by omega
    simp only [Datum.order, signed, hm, Nat.shiftLeft_eq, Nat.zero_mul, if_true, Bool.false_eq_true, if_false]
    have hp : 0 < sig r * 2 ^ upw r := Nat.mul_pos hs (Nat.two_pow_pos _)
    congr 1
    simp only [compare, compareOfLessAndEq]
    rw [if_pos (by omega)]
  · have : r = 9218868437227405312 := by omega
    subst this
    decide +kernel
theorem order_inf {s : Nat} (hs : s < 9218868437227405312) : Ieee.double.order 9218868437227405312 s = some .gt := by
  unfold Format.order
  rw [read_inf, read_pos hs]
  rfl

/- to the nearest, of two that are as near the even one -/
def rne (n d : Nat) : Nat := n / d + (decide (d < 2 * (n % d)) || (d == 2 * (n % d) && n / d % 2 == 1)).toNat

theorem rne_low {n d : Nat} (h : 2 * n < d) : rne n d = 0 := by
  have h1 : n / d = 0 := Nat.div_eq_of_lt (by omega)
  have h2 : n % d = n := Nat.mod_eq_of_lt (by omega)
  unfold rne
  rw [h1, h2, decide_eq_false (by omega : ¬ d < 2 * n)]
  have : (d == 2 * n) = false := by simp; omega
  rw [this]
  rfl
theorem rne_whole {n d q : Nat} (hd : 0 < d) (h : n = q * d) : rne n d = q := by
  subst h
  unfold rne
  rw [Nat.mul_div_cancel _ hd, Nat.mul_mod_left]
  have : (d == 2 * 0) = false := by simp; omega
  rw [this, decide_eq_false (by omega)]
  rfl
/-- What 'rne' keeps to. -/
theorem rne_spec {n d : Nat} (hd : 0 < d) : 2 * (rne n d * d) ≤ 2 * n + d ∧ 2 * n ≤ 2 * (rne n d * d) + d ∧ ((2 * (rne n d * d) = 2 * n + d ∨ 2 * n = 2 * (rne n d * d) + d) → rne n d % 2 = 0) := by
  have hm := Nat.div_add_mod n d
  have hl := Nat.mod_lt n hd
  unfold rne
  generalize n / d = q at *
  generalize n % d = r at *
  rw [Nat.mul_comm] at hm
  subst hm
  by_cases h1 : d < 2 * r
  · rw [decide_eq_true h1]
    simp only [Bool.true_or, Bool.toNat_true, Nat.add_mul, Nat.one_mul]
    omega
  · rw [decide_eq_false h1]
    by_cases h2 : d = 2 * r
    · have e : (d == 2 * r) = true := by simpa using h2
      rw [e]
      by_cases h3 : q % 2 = 1
      · have e3 : (q % 2 == 1) = true := by simpa using h3
        rw [e3]
        simp only [Bool.true_and, Bool.or_true, Bool.toNat_true, Nat.add_mul, Nat.one_mul]
        omega
      · have e3 : (q % 2 == 1) = false := by simpa using h3
        rw [e3]
        simp only [Bool.true_and, Bool.or_false, Bool.toNat_false, Nat.add_zero]
        omega
    · have e : (d == 2 * r) = false := by simpa using h2
      rw [e]
      simp only [Bool.false_and, Bool.or_false, Bool.toNat_false, Nat.add_zero]
      omega
theorem rne_eq {n d q : Nat} (hd : 0 < d) (h1 : 2 * (q * d) < 2 * n + d) (h2 : 2 * n < 2 * (q * d) + d) : rne n d = q := by
  obtain ⟨a, b, _⟩ := rne_spec (n := n) hd
  generalize rne n d = p at *
  rcases Nat.lt_trichotomy p q with h | h | h
  · have : (p + 1) * d ≤ q * d := Nat.mul_le_mul_right d h
    rw [Nat.add_mul] at this
    omega
  · exact h
  · have : (q + 1) * d ≤ p * d := Nat.mul_le_mul_right d h
    rw [Nat.add_mul] at this
    omega

theorem cut_even (neg : Bool) (n drop : Nat) : Toward.even.cut neg n drop = rne n (2 ^ drop) := by
  unfold Toward.cut
  simp only [Nat.one_shiftLeft]
  rcases Nat.le_total drop (n.log2 + 2) with h | h
  · rw [Nat.min_eq_left h]
    rfl
  · rw [Nat.min_eq_right h]
    have h1 : n < 2 ^ (n.log2 + 1) := Nat.lt_log2_self
    have h2 : 2 ^ (n.log2 + 2) = 2 * 2 ^ (n.log2 + 1) := by rw [Nat.pow_succ]; omega
    have h3 : 2 ^ (n.log2 + 2) ≤ 2 ^ drop := Nat.pow_le_pow_right (by decide) h
    rw [rne_low (d := 2 ^ drop) (by omega)]
    exact rne_low (n := n) (d := 2 ^ (n.log2 + 2)) (by omega)

/- the nearest word -/
theorem nearest_big {mag K E : Nat} {place : Int} (h0 : mag ≠ 0) (hK : mag.log2 = K) (h52 : 52 ≤ K) (hE : (E : Int) = place + K - 52 + 1074) :
    Ieee.double.nearest false mag place = min (E * 4503599627370496 + rne mag (2 ^ (K - 52))) 9218868437227405312 := by
  unfold Format.nearest
  rw [if_neg h0]
  simp only [dbl_binade, dbl_inf, dbl_least, dbl_frac, hK, cut_even, Format.word, Bool.false_eq_true, if_false]
  have e1 : max (place + (K : Int) - (52 : Nat)) (-1074) = (E : Int) - 1074 := by omega
  rw [e1]
  have e2 : (place - ((E : Int) - 1074)).toNat = 0 := by omega
  have e3 : ((E : Int) - 1074 - place).toNat = K - 52 := by omega
  have e4 : ((E : Int) - 1074 - -1074).toNat = E := by omega
  rw [e2, e3, e4, Nat.shiftLeft_zero]
theorem nearest_small {mag K E : Nat} {place : Int} (h0 : mag ≠ 0) (hK : mag.log2 = K) (h52 : K ≤ 52) (hE : (E : Int) = place + K - 52 + 1074) :
    Ieee.double.nearest false mag place = min (E * 4503599627370496 + mag * 2 ^ (52 - K)) 9218868437227405312 := by
  unfold Format.nearest
  rw [if_neg h0]
  simp only [dbl_binade, dbl_inf, dbl_least, dbl_frac, hK, cut_even, Format.word, Bool.false_eq_true, if_false]
  have e1 : max (place + (K : Int) - (52 : Nat)) (-1074) = (E : Int) - 1074 := by omega
  rw [e1]
  have e2 : (place - ((E : Int) - 1074)).toNat = 52 - K := by omega
  have e3 : ((E : Int) - 1074 - place).toNat = 0 := by omega
  have e4 : ((E : Int) - 1074 - -1074).toNat = E := by omega
  rw [e2, e3, e4, Nat.shiftLeft_eq, rne_whole (q := mag * 2 ^ (52 - K)) (by decide) (by rw [Nat.pow_zero, Nat.mul_one])]

theorem log2_of {n k : Nat} (h1 : 2 ^ k ≤ n) (h2 : n < 2 ^ (k + 1)) : n.log2 = k :=
  (Nat.log2_eq_iff (by have := Nat.two_pow_pos k; omega)).2 ⟨h1, h2⟩

/-- The mantissa's whole number, by a product with 2 to the power of 53. -/
theorem mul_53 {m : Nat} (hm : m < 4503599627370496) : Ieee.double.mul (4602678819172646912 + m) 4845873199050653696 = some (4841369599423283200 + m) := by
  unfold Format.mul
  have r1 : Ieee.double.read (4602678819172646912 + m) = .number false (4503599627370496 + m) (-53) := by
    rw [read_pos (by omega)]
    have h1 : sig (4602678819172646912 + m) = 4503599627370496 + m := by unfold sig; rw [if_neg (by omega)]; omega
    have h2 : upw (4602678819172646912 + m) = 1021 := by unfold upw; omega
    rw [h1, h2]
    rfl
  have r2 : Ieee.double.read 4845873199050653696 = .number false 4503599627370496 1 := by decide +kernel
  rw [r1, r2]
  simp only [Datum.product, Option.map_some, Format.write, Bool.xor_self]
  congr 1
  rw [nearest_big (K := 104) (E := 1074) (by omega) (log2_of (by omega) (by omega)) (by decide) (by decide), rne_whole (q := 4503599627370496 + m) (by decide) rfl]
  omega
theorem mul_53z : Ieee.double.mul 0 4845873199050653696 = some 0 := by decide +kernel
theorem mul_53m : Ieee.double.mul 9223372036854775808 4845873199050653696 = some 9223372036854775808 := by decide +kernel
theorem to_whole {m : Nat} (hm : m < 4503599627370496) : floatToIntVal .f64 (4841369599423283200 + m) .u64 = some ((4503599627370496 + m : Nat) : Int) := by
  have r1 : FloatKind.f64.decode (4841369599423283200 + m) = .number false (4503599627370496 + m) 0 := by
    unfold FloatKind.decode
    show Ieee.double.read _ = _
    rw [read_pos (by omega)]
    have h1 : sig (4841369599423283200 + m) = 4503599627370496 + m := by unfold sig; rw [if_neg (by omega)]; omega
    have h2 : upw (4841369599423283200 + m) = 1074 := by unfold upw; omega
    rw [h1, h2]
    rfl
  unfold floatToIntVal
  rw [r1]
  have e : (Datum.number false (4503599627370496 + m) 0).toInt .zero = some ((4503599627370496 + m : Nat) : Int) := by
    simp [Datum.toInt, Datum.integral, Toward.cut, signed]
  rw [e]
  have hmin : IntKind.u64.min = 0 := by decide
  have hmax : IntKind.u64.max = 18446744073709551615 := by decide
  simp only [hmin, hmax]
  rw [if_pos (by omega)]
theorem to_wholez : floatToIntVal .f64 0 .u64 = some 0 := by decide +kernel
theorem to_wholem : floatToIntVal .f64 9223372036854775808 .u64 = some 0 := by decide +kernel

/-- A subnormal one, made normal. -/
theorem mul_52 {r L : Nat} (h0 : r ≠ 0) (hr : r < 4503599627370496) (hL : r.log2 = L) : Ieee.double.mul r 4841369599423283200 = some (L * 4503599627370496 + r * 2 ^ (52 - L)) := by
  obtain ⟨l1, l2⟩ := (Nat.log2_eq_iff h0).1 hL
  have hL52 : L < 52 := by
    rcases Nat.lt_or_ge L 52 with h | h
    · exact h
    · have : 2 ^ 52 ≤ 2 ^ L := Nat.pow_le_pow_right (by decide) h
      omega
  unfold Format.mul
  have r1 : Ieee.double.read r = .number false r (-1074) := by
    rw [read_pos (by omega)]
    have h1 : sig r = r := by unfold sig; rw [if_pos hr]
    have h2 : upw r = 0 := by unfold upw; omega
    rw [h1, h2]
    rfl
  have r2 : Ieee.double.read 4841369599423283200 = .number false 4503599627370496 0 := by decide +kernel
  rw [r1, r2]
  simp only [Datum.product, Option.map_some, Format.write, Bool.xor_self]
  congr 1
  have e1 : (4503599627370496 : Nat) = 2 ^ (52 - L) * 2 ^ L := by
    rw [← Nat.pow_add, Nat.sub_add_cancel (by omega)]
  have b1 : r * 4503599627370496 < 2 ^ (L + 52 + 1) := by
    have : 2 ^ (L + 52 + 1) = 2 ^ (L + 1) * 4503599627370496 := by
      rw [show L + 52 + 1 = L + 1 + 52 by omega, Nat.pow_add]
    rw [this]
    exact Nat.mul_lt_mul_of_pos_right l2 (by decide)
  have b2 : 2 ^ (L + 52) ≤ r * 4503599627370496 := by
    rw [Nat.pow_add]
    exact Nat.mul_le_mul_right _ l1
  have b3 : r * 2 ^ (52 - L) < 9007199254740992 := by
    have h : r * 2 ^ (52 - L) < 2 ^ (L + 1) * 2 ^ (52 - L) := Nat.mul_lt_mul_of_pos_right l2 (Nat.two_pow_pos _)
    rw [← Nat.pow_add, show L + 1 + (52 - L) = 53 by omega] at h
    exact h
  rw [nearest_big (K := L + 52) (E := L) (by omega) (log2_of b2 b1) (by omega) (by omega), rne_whole (q := r * 2 ^ (52 - L)) (Nat.two_pow_pos _)]
  · rw [Nat.min_eq_left]
    omega
  · rw [Nat.mul_assoc, Nat.add_sub_cancel, ← e1]
theorem norm_52 {r L : Nat} (h0 : r ≠ 0) (hr : r < 4503599627370496) (hL : r.log2 = L) : L < 52 ∧ 4503599627370496 ≤ r * 2 ^ (52 - L) ∧ r * 2 ^ (52 - L) < 9007199254740992 := by
  obtain ⟨l1, l2⟩ := (Nat.log2_eq_iff h0).1 hL
  have hL52 : L < 52 := by
    rcases Nat.lt_or_ge L 52 with h | h
    · exact h
    · have : 2 ^ 52 ≤ 2 ^ L := Nat.pow_le_pow_right (by decide) h
      omega
  have b3 : r * 2 ^ (52 - L) < 2 ^ (L + 1) * 2 ^ (52 - L) := Nat.mul_lt_mul_of_pos_right l2 (Nat.two_pow_pos _)
  rw [← Nat.pow_add, show L + 1 + (52 - L) = 53 by omega] at b3
  have b4 : 2 ^ L * 2 ^ (52 - L) ≤ r * 2 ^ (52 - L) := Nat.mul_le_mul_right _ l1
  rw [← Nat.pow_add, show L + (52 - L) = 52 by omega] at b4
  exact ⟨hL52, b4, b3⟩

/- words of bits -/
theorem and_not_sign {x : Nat} (hx : x < 18446744073709551616) : bits .andNot .u64 (x : Int) 9223372036854775808 = ((x % 9223372036854775808 : Nat) : Int) := by
  rw [u64_andNot _ _ (by omega) (by omega) (by decide) (by decide)]
  have : (x : Int).toNat &&& (18446744073709551615 - (9223372036854775808 : Int).toNat) = x % 9223372036854775808 := Nat.and_two_pow_sub_one_eq_mod x 63
  rw [this]
theorem and_2047 {x : Nat} (hx : x < 18446744073709551616) : bits .and .u64 (x : Int) 2047 = ((x % 2048 : Nat) : Int) := by
  rw [u64_and _ _ (by omega) (by omega) (by decide) (by decide)]
  have : (x : Int).toNat &&& (2047 : Int).toNat = x % 2048 := Nat.and_two_pow_sub_one_eq_mod x 11
  rw [this]
theorem and_not_exp {x : Nat} (hx : x < 9223372036854775808) : bits .andNot .u64 (x : Int) 9218868437227405312 = ((x % 4503599627370496 : Nat) : Int) := by
  rw [u64_andNot _ _ (by omega) (by omega) (by decide) (by decide)]
  have : (x : Int).toNat &&& (18446744073709551615 - (9218868437227405312 : Int).toNat) = x % 4503599627370496 := by
    show x &&& 9227875636482146303 = x % 4503599627370496
    have e : x &&& 9227875636482146303 = x &&& (2 ^ 52 - 1) := by
      apply Nat.eq_of_testBit_eq
      intro i
      rw [Nat.testBit_and, Nat.testBit_and, show (9227875636482146303 : Nat) = 2 ^ 63 + (2 ^ 52 - 1) by decide]
      rcases Nat.lt_or_ge i 63 with hi | hi
      · congr 1
        rw [Nat.testBit_two_pow_add_gt hi]
      · have hz : x.testBit i = false := Nat.testBit_lt_two_pow (Nat.lt_of_lt_of_le hx (Nat.pow_le_pow_right (n := 2) (by decide) hi))
        rw [hz, Bool.false_and, Bool.false_and]
    rw [e]
    exact Nat.and_two_pow_sub_one_eq_mod x 52
  rw [this]
theorem or_exp {x : Nat} (hx : x < 4503599627370496) : bits .or .u64 (x : Int) 4602678819172646912 = ((4602678819172646912 + x : Nat) : Int) := by
  rw [u64_or _ _ (by omega) (by omega) (by decide) (by decide)]
  have : (x : Int).toNat ||| (4602678819172646912 : Int).toNat = 4602678819172646912 + x := by
    show x ||| 4602678819172646912 = _
    rw [Nat.or_comm]
    exact (Nat.shiftLeft_add_eq_or_of_lt (a := 1022) (i := 52) hx).symm
  rw [this]

theorem rne_cases {n d q r h : Nat} (hq : q = n / d) (hr : r = n % d) (hd : d = 2 * h) :
    rne n d = if h < r then q + 1 else if h = r then (if q % 2 = 1 then q + 1 else q) else q := by
  subst hq hr hd
  unfold rne
  by_cases h1 : h < n % (2 * h)
  · rw [if_pos h1, decide_eq_true (by omega)]
    simp
  · rw [if_neg h1, decide_eq_false (by omega)]
    by_cases h2 : h = n % (2 * h)
    · rw [if_pos h2]
      have e : (2 * h == 2 * (n % (2 * h))) = true := by rw [beq_iff_eq, ← h2]
      rw [e]
      by_cases h3 : n / (2 * h) % 2 = 1
      · rw [if_pos h3, h3]; rfl
      · rw [if_neg h3]
        have e3 : (n / (2 * h) % 2 == 1) = false := by simpa using h3
        rw [e3]; rfl
    · rw [if_neg h2]
      have e : (2 * h == 2 * (n % (2 * h))) = false := by rw [beq_eq_false_iff_ne]; omega
      rw [e]; rfl

theorem rne_le (n d : Nat) : rne n d ≤ n / d + 1 := by
  unfold rne
  generalize (decide (d < 2 * (n % d)) || (d == 2 * (n % d) && n / d % 2 == 1)) = b
  cases b <;> simp
theorem rne_at {n d q r : Nat} (hq : q = n / d) (hr : r = n % d) :
    (2 * r < d → rne n d = q) ∧ (d < 2 * r → rne n d = q + 1) ∧ (2 * r = d → q % 2 = 1 → rne n d = q + 1) ∧ (2 * r = d → q % 2 = 0 → rne n d = q) := by
  subst hq hr
  unfold rne
  refine ⟨fun h => ?_, fun h => ?_, fun h g => ?_, fun h g => ?_⟩
  · have e : (d == 2 * (n % d)) = false := by rw [beq_eq_false_iff_ne]; omega
    rw [decide_eq_false (by omega), e]
    rfl
  · rw [decide_eq_true h]
    rfl
  · have e : (d == 2 * (n % d)) = true := by rw [beq_iff_eq]; omega
    rw [e, g]
    simp
  · have e : (n / d % 2 == 1) = false := by rw [g]; rfl
    rw [decide_eq_false (by omega), e]
    simp

end Go.Proofs.Ytajkhbdniadkkaa
