/- The quotient of a whole number by a thousand, as a float: how near it is. -/
import Derived.Test.YtalhajnekpbkoaaFlt
namespace Go.Proofs.Ytalhajnekpbkoaa
open Ieee
set_option linter.unusedVariables false

/-- A whole number up to 2^53, as a float. -/
theorem whole_read {m : Nat} (h0 : 1 ≤ m) (h1 : m ≤ 9007199254740992) : ∃ L s : Nat, L ≤ 53 ∧ s * 2 ^ L = m * 4503599627370496 ∧ 4503599627370496 ≤ s ∧ s < 9007199254740992 ∧
    Ieee.double.read (Ieee.double.nearest false m 0) = .number false s ((L : Int) - 52) := by
  obtain ⟨L, hL⟩ : ∃ L, m.log2 = L := ⟨_, rfl⟩
  obtain ⟨l1, l2⟩ := (Nat.log2_eq_iff (by omega)).1 hL
  have fin : ∀ s, L ≤ 53 → 4503599627370496 ≤ s → s < 9007199254740992 → Ieee.double.nearest false m 0 = (L + 1022) * 4503599627370496 + s → Ieee.double.read (Ieee.double.nearest false m 0) = .number false s ((L : Int) - 52) := by
    intro s hL3 hs1 hs2 hn
    rw [hn, read_pos (by omega)]
    have e1 : sig ((L + 1022) * 4503599627370496 + s) = s := by unfold sig; rw [if_neg (by omega)]; omega
    have e2 : upw ((L + 1022) * 4503599627370496 + s) = L + 1022 := by unfold upw; omega
    have e3 : (-1074 : Int) + ((L + 1022 : Nat) : Int) = (L : Int) - 52 := by omega
    rw [e1, e2, e3]
  rcases Nat.lt_or_ge L 53 with h | h
  · have b1 : 4503599627370496 ≤ m * 2 ^ (52 - L) := by
      have := Nat.mul_le_mul_right (2 ^ (52 - L)) l1
      rw [← Nat.pow_add, show L + (52 - L) = 52 by omega] at this
      exact this
    have b2 : m * 2 ^ (52 - L) < 9007199254740992 := by
      have := Nat.mul_lt_mul_of_pos_right l2 (Nat.two_pow_pos (52 - L))
      rw [← Nat.pow_add, show L + 1 + (52 - L) = 53 by omega] at this
      exact this
    refine ⟨L, m * 2 ^ (52 - L), by omega, ?_, b1, b2, fin _ (by omega) b1 b2 ?_⟩
    · rw [Nat.mul_assoc, ← Nat.pow_add, show 52 - L + L = 52 by omega]
    · rw [nearest_small (K := L) (E := L + 1022) (by omega) hL (by omega) (by omega), Nat.min_eq_left (by omega)]
  · have e53 : 2 ^ 53 ≤ 2 ^ L := Nat.pow_le_pow_right (by decide) h
    have hm : m = 9007199254740992 := by omega
    subst hm
    have hL3 : L = 53 := by rw [← hL]; decide +kernel
    subst hL3
    refine ⟨53, 4503599627370496, by decide, by decide, by decide, by decide, fin _ (by decide) (by decide) (by decide) ?_⟩
    rw [nearest_big (K := 53) (E := 1075) (by decide) hL (by decide) (by decide), rne_whole (q := 4503599627370496) (by decide) (by decide)]
    decide

theorem thousand_read : Ieee.double.read 4652007308841189376 = .number false 8796093022208000 (-43) := by decide +kernel

/-- What is kept of twice a quotient and what is left over, by fours or by eights. -/
theorem keep_near {a q r k D : Nat} {z : Nat} (hD : D = 2 ∨ D = 4) (ha : a = 1000 * q + r) (hr : r < 1000) (hz : z = 2 * q + (r != 0).toNat) (hk : k = rne z (2 * D)) :
    2 * (k * (1000 * D)) ≤ 2 * a + 1000 * D ∧ 2 * a ≤ 2 * (k * (1000 * D)) + 1000 * D ∧ ((2 * (k * (1000 * D)) = 2 * a + 1000 * D ∨ 2 * a = 2 * (k * (1000 * D)) + 1000 * D) → k % 2 = 0) := by
  obtain ⟨s1, s2, s3⟩ := rne_spec (n := z) (d := 2 * D) (by omega)
  rw [← hk] at s1 s2 s3
  by_cases h0 : r = 0
  · have e : (r != 0).toNat = 0 := by rw [h0]; rfl
    rw [e] at hz
    rcases hD with rfl | rfl <;> omega
  · have e : (r != 0).toNat = 1 := by
      have : (r != 0) = true := by simpa using h0
      rw [this]; rfl
    rw [e] at hz
    rcases hD with rfl | rfl <;> omega

/-- The nearest word to a thousandth of a whole number. -/
theorem thousandth {m : Nat} (h0 : 1 ≤ m) (h1 : m ≤ 9007199254740992) : ∃ F k : Nat, Ieee.double.div (Ieee.double.nearest false m 0) 4652007308841189376 = some ((1074 - F) * 4503599627370496 + k) ∧
    8 ≤ F ∧ F ≤ 62 ∧ 4503599627370496 ≤ k ∧ k ≤ 9007199254740992 ∧ 4503599627370496000 ≤ m * 2 ^ F ∧ m * 2 ^ F ≤ 9007199254740992000 ∧
    2 * (k * 1000) ≤ 2 * (m * 2 ^ F) + 1000 ∧ 2 * (m * 2 ^ F) ≤ 2 * (k * 1000) + 1000 ∧ ((2 * (k * 1000) = 2 * (m * 2 ^ F) + 1000 ∨ 2 * (m * 2 ^ F) = 2 * (k * 1000) + 1000) → k % 2 = 0) := by
  obtain ⟨L, s, hL, hs, s1, s2, hread⟩ := whole_read h0 h1
  have hslog : s.log2 = 52 := log2_of s1 s2
  have hnlog : (8796093022208000 : Nat).log2 = 52 := log2_of (by decide) (by decide)
  obtain ⟨a, ha⟩ : ∃ a, a = s * 2048 := ⟨_, rfl⟩
  obtain ⟨q, hq⟩ : ∃ q, q = a / 1000 := ⟨_, rfl⟩
  obtain ⟨r, hr⟩ : ∃ r, r = a % 1000 := ⟨_, rfl⟩
  obtain ⟨z, hz⟩ : ∃ z, z = 2 * q + (r != 0).toNat := ⟨_, rfl⟩
  have hdiv : s <<< 54 / 8796093022208000 = q := by
    rw [Nat.shiftLeft_eq, show s * 2 ^ 54 = a * 8796093022208 by omega, show (8796093022208000 : Nat) = 1000 * 8796093022208 by decide, Nat.mul_div_mul_right _ _ (by decide), hq]
  have hmod : ((s <<< 54 % 8796093022208000 != 0)).toNat = (r != 0).toNat := by
    rw [Nat.shiftLeft_eq, show s * 2 ^ 54 = a * 8796093022208 by omega, show (8796093022208000 : Nat) = 1000 * 8796093022208 by decide, Nat.mul_mod_mul_right, ← hr]
    by_cases h : r = 0
    · rw [h]
    · have e1 : (r != 0) = true := by simpa using h
      have e2 : (r * 8796093022208 != 0) = true := by
        rw [bne_iff_ne]
        omega
      rw [e1, e2]
  have hz1 : (r != 0).toNat ≤ 1 := by cases (r != 0) <;> decide
  have hquo : Ieee.double.div (Ieee.double.nearest false m 0) 4652007308841189376 = some (Ieee.double.nearest false z ((L : Int) - 64)) := by
    unfold Format.div
    rw [hread, thousand_read]
    simp only [Datum.quotient, dbl_frac, hslog, hnlog]
    rw [if_neg (by decide)]
    have e : 52 + 2 + 52 - 52 = 54 := by decide
    rw [e]
    simp only [Option.map_some, Format.write, Bool.xor_self]
    rw [hdiv, hmod, ← hz]
    have e3 : (L : Int) - 52 - -43 - ((54 : Nat) : Int) - 1 = (L : Int) - 64 := by omega
    rw [e3]
  have fin : ∀ K D, (K = 54 ∧ D = 2) ∨ (K = 55 ∧ D = 4) → 2 ^ K ≤ z → z < 2 ^ (K + 1) → ∃ F k : Nat, Ieee.double.div (Ieee.double.nearest false m 0) 4652007308841189376 = some ((1074 - F) * 4503599627370496 + k) ∧
      8 ≤ F ∧ F ≤ 62 ∧ 4503599627370496 ≤ k ∧ k ≤ 9007199254740992 ∧ 4503599627370496000 ≤ m * 2 ^ F ∧ m * 2 ^ F ≤ 9007199254740992000 ∧
      2 * (k * 1000) ≤ 2 * (m * 2 ^ F) + 1000 ∧ 2 * (m * 2 ^ F) ≤ 2 * (k * 1000) + 1000 ∧ ((2 * (k * 1000) = 2 * (m * 2 ^ F) + 1000 ∨ 2 * (m * 2 ^ F) = 2 * (k * 1000) + 1000) → k % 2 = 0) := by
    intro K D hKD k1 k2
    obtain ⟨k, hk⟩ : ∃ k, k = rne z (2 * D) := ⟨_, rfl⟩
    have hP : a = m * 2 ^ (116 - L - K) * D := by
      have e : m * 2 ^ (116 - L - K) * D * 2 ^ L = a * 2 ^ L := by
        have e1 : D = 2 ^ (K - 53) := by rcases hKD with ⟨rfl, rfl⟩ | ⟨rfl, rfl⟩ <;> rfl
        have e2 : m * 2 ^ (116 - L - K) * D * 2 ^ L = m * (2 ^ (116 - L - K) * 2 ^ (K - 53) * 2 ^ L) := by rw [e1, Nat.mul_assoc, Nat.mul_assoc, Nat.mul_assoc]
        rw [e2, ← Nat.pow_add, ← Nat.pow_add, show 116 - L - K + (K - 53) + L = 63 by omega, ha, Nat.mul_assoc, Nat.mul_comm 2048, ← Nat.mul_assoc, hs, Nat.mul_assoc]
      exact (Nat.eq_of_mul_eq_mul_right (Nat.two_pow_pos L) e).symm
    obtain ⟨n1, n2, n3⟩ := keep_near (D := D) (k := k) (by omega) (a := a) (q := q) (r := r) (by omega) (by omega) hz hk
    obtain ⟨s1', s2', _⟩ := rne_spec (n := z) (d := 2 * D) (by omega)
    rw [← hk] at s1' s2'
    have hword : Ieee.double.nearest false z ((L : Int) - 64) = (1074 - (116 - L - K)) * 4503599627370496 + k := by
      rw [nearest_big (K := K) (E := L + K + 958) (by have := Nat.two_pow_pos K; omega) (log2_of k1 k2) (by omega) (by omega)]
      have e : 2 ^ (K - 52) = 2 * D := by rcases hKD with ⟨rfl, rfl⟩ | ⟨rfl, rfl⟩ <;> rfl
      have e2 : 1074 - (116 - L - K) = L + K + 958 := by omega
      rw [e, ← hk, e2, Nat.min_eq_left]
      rcases hKD with ⟨rfl, rfl⟩ | ⟨rfl, rfl⟩ <;> omega
    refine ⟨116 - L - K, k, by rw [hquo, hword], by omega, by omega, ?_⟩
    generalize m * 2 ^ (116 - L - K) = P at *
    rcases hKD with ⟨rfl, rfl⟩ | ⟨rfl, rfl⟩ <;> omega
  rcases Nat.lt_or_ge z 36028797018963968 with h | h
  · exact fin 54 2 (.inl ⟨rfl, rfl⟩) (by omega) h
  · exact fin 55 4 (.inr ⟨rfl, rfl⟩) h (by omega)

end Go.Proofs.Ytalhajnekpbkoaa
