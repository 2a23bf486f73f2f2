/- What math/bits.Div64 answers. -/
import Derived.Test.YtfmllfolpcimpaaMem
import Derived.Test.YtfmllfolpcimpaaKnuth
import Derived.Test.YtfmllfolpcimpaaShelfD
import Derived.Deep.QuietTactic
import Derived.BigQuiet
namespace Go.Proofs.Ytfmllfolpcimpaa
open Go.RowKit
set_option linter.unusedVariables false

theorem bitLen_bounds : ∀ (k y : Nat), 0 < y → y < 2 ^ k → k ≤ 64 → 0 < Lib.bitLen y ∧ Lib.bitLen y ≤ k ∧ 2 ^ (Lib.bitLen y - 1) ≤ y ∧ y < 2 ^ Lib.bitLen y := by
  intro k
  induction k with
  | zero => intro y h0 h1; omega
  | succ k ih =>
    intro y h0 h1 hk
    have h64 : y < 2 ^ 64 := Nat.lt_of_lt_of_le h1 (Nat.pow_le_pow_right (by decide) hk)
    have e := Lib.bitLen_half y (by omega) h64
    rw [Nat.pow_succ] at h1
    rcases Nat.lt_or_ge y 2 with g | g
    · obtain rfl : y = 1 := by omega
      have e1 : Lib.bitLen 1 = 1 := by decide
      rw [e1]
      exact ⟨by decide, by omega, by decide, by decide⟩
    · obtain ⟨a, b, c, d⟩ := ih (y / 2) (by omega) (by omega) (by omega)
      rw [e]
      generalize Lib.bitLen (y / 2) = n at *
      obtain ⟨m, rfl⟩ : ∃ m, n = m + 1 := ⟨n - 1, by omega⟩
      rw [Nat.add_sub_cancel] at c
      refine ⟨by omega, by omega, ?_, ?_⟩
      · rw [show 1 + (m + 1) - 1 = m + 1 by omega, Nat.pow_succ]; omega
      · rw [show 1 + (m + 1) = (m + 1) + 1 by omega, Nat.pow_succ]; omega
def Norm (y s : Nat) : Prop := s ≤ 63 ∧ 9223372036854775808 ≤ y * 2 ^ s ∧ y * 2 ^ s < 18446744073709551616
theorem lz_norm (y : Nat) (w : World) (h0 : 0 < y) (h1 : y < 18446744073709551616) :
    Calls Try.prog 24 #[.int .u64 (y : Int)] w fun e w' => (∃ s : Nat, Norm y s ∧ e = .returned (.int .i64 (s : Int))) ∧ w = w' := by
  refine (lz_any y w h1).mono ?_
  rintro e w' ⟨rfl, rfl⟩
  obtain ⟨a, b, c, d⟩ := bitLen_bounds 64 y h0 h1 (Nat.le_refl _)
  generalize Lib.bitLen y = n at *
  refine ⟨⟨64 - n, ⟨by omega, ?_, ?_⟩, ?_⟩, rfl⟩
  · have h := Nat.mul_le_mul_right (2 ^ (64 - n)) c
    rw [← Nat.pow_add, show n - 1 + (64 - n) = 63 by omega] at h
    exact h
  · have h := Nat.mul_lt_mul_of_pos_right d (Nat.pow_pos (n := 64 - n) (show 0 < 2 by decide))
    rw [← Nat.pow_add, show n + (64 - n) = 64 by omega] at h
    exact h
  · rw [show (64 : Int) - (n : Int) = ((64 - n : Nat) : Int) by omega]

theorem ret_qr {a b c d : Int} (h : a = b) (g : c = d) : Ending.returned (.tuple #[.int .u64 a, .int .u64 c]) = .returned (.tuple #[.int .u64 b, .int .u64 d]) := by rw [h, g]
theorem wrap_nat (n : Nat) (h : n < 18446744073709551616) : IntKind.u64.wrap (n : Int) = (n : Int) := by rw [IntKind.wrap_u64]; omega
theorem wrap_mod (n : Nat) : IntKind.u64.wrap (n : Int) = ((n % 18446744073709551616 : Nat) : Int) := by rw [IntKind.wrap_u64]; omega
theorem pow_cast (s : Nat) : ((2 : Int) ^ s) = ((2 ^ s : Nat) : Int) := by rw [Int.natCast_pow]; rfl
theorem shl_nat (x s : Nat) : (x : Int) * 2 ^ s = ((x * 2 ^ s : Nat) : Int) := by rw [pow_cast, Int.natCast_mul]
theorem mask_low (n : Nat) (h : n < 18446744073709551616) : bits .and .u64 (n : Int) 4294967295 = ((n % 4294967296 : Nat) : Int) := by
  have h1 := bits_and_u64_nat n 4294967295 h (by decide)
  rw [show n &&& 4294967295 = n % 4294967296 from Nat.and_two_pow_sub_one_eq_mod n 32] at h1
  exact h1
/-- The number moved up by s digits: its high and its low half. -/
theorem shift_halves (hi lo y s : Nat) (hs : s ≤ 63) (hlt : hi < y) (hlo : lo < 18446744073709551616) (hY : y * 2 ^ s < 18446744073709551616) :
    bits .or .u64 (IntKind.u64.wrap ((hi : Int) * 2 ^ s)) ((lo : Int) / 2 ^ (64 - s)) = ((hi * 2 ^ s + lo / 2 ^ (64 - s) : Nat) : Int) ∧
    IntKind.u64.wrap ((lo : Int) * 2 ^ s) = ((lo * 2 ^ s % 18446744073709551616 : Nat) : Int) ∧
    (hi * 18446744073709551616 + lo) * 2 ^ s = (hi * 2 ^ s + lo / 2 ^ (64 - s)) * 18446744073709551616 + lo * 2 ^ s % 18446744073709551616 ∧
    hi * 2 ^ s + lo / 2 ^ (64 - s) < y * 2 ^ s := by
  have hp : 0 < 2 ^ s := Nat.pow_pos (by decide)
  have e64 : 2 ^ (64 - s) * 2 ^ s = 18446744073709551616 := by rw [← Nat.pow_add, show 64 - s + s = 64 by omega]
  have hdiv : lo * 2 ^ s / 18446744073709551616 = lo / 2 ^ (64 - s) := by rw [← e64, Nat.mul_div_mul_right _ _ hp]
  have hc : lo / 2 ^ (64 - s) < 2 ^ s := by
    rw [Nat.div_lt_iff_lt_mul (Nat.pow_pos (by decide)), Nat.mul_comm, e64]; exact hlo
  have h1 : (hi + 1) * 2 ^ s ≤ y * 2 ^ s := Nat.mul_le_mul_right _ hlt
  rw [Nat.add_mul, Nat.one_mul] at h1
  have h2 := Nat.div_add_mod (lo * 2 ^ s) 18446744073709551616
  refine ⟨?_, ?_, ?_, by omega⟩
  · rw [shl_nat, wrap_nat _ (by omega), pow_cast, ← Int.natCast_ediv]
    rw [bits_or_u64_nat _ _ (by omega) (by omega)]
    rw [← Nat.shiftLeft_eq, Nat.shiftLeft_add_eq_or_of_lt hc]
  · rw [shl_nat, wrap_mod]
  · rw [Nat.add_mul, hdiv] at *
    have e3 : hi * 18446744073709551616 * 2 ^ s = hi * 2 ^ s * 18446744073709551616 := Nat.mul_right_comm _ _ _
    omega

/-- The high half is 0. -/
theorem div64_low (lo y : Nat) (w : World) (hy : 0 < y) (hlo : lo < 18446744073709551616) (hy2 : y < 18446744073709551616) :
    Calls Try.prog 23 #[.int .u64 0, .int .u64 (lo : Int), .int .u64 (y : Int)] w fun e w' => e = .returned (.tuple #[.int .u64 ((lo / y : Nat) : Int), .int .u64 ((lo % y : Nat) : Int)]) ∧ ∃ n, w' = w.drewN n := by
  have h0 : ((y : Int) == 0) = false := by simp; omega
  go_enter Try.func23, Try.ntmps23
  go_wp2
  go_quiet (fail)
  go_wp2
  go_ret2
  exact ⟨ret_qr (by rw [← Int.natCast_ediv, wrap_nat _ (Nat.lt_of_le_of_lt (Nat.div_le_self _ _) hlo)]) rfl, _, rfl⟩

/-- What a loop of the division finds. -/
theorem rest_wrap {u d Y Q v : Nat} (h : KIn u d Y) (hQ : Q = (u * 4294967296 + d) / Y) (hv : v = (u * 4294967296 + d) % Y) :
    IntKind.u64.wrap (IntKind.u64.wrap (IntKind.u64.wrap ((u : Int) * 4294967296) + (d : Int)) - IntKind.u64.wrap ((Q : Int) * (Y : Int))) = (v : Int) := by
  obtain ⟨i1, i2, i3, i4⟩ := h
  have hm := Nat.div_add_mod (u * 4294967296 + d) Y
  have hlt := Nat.mod_lt (u * 4294967296 + d) (show 0 < Y by omega)
  rw [← hQ, ← hv] at hm
  rw [← hv] at hlt
  rw [← Int.natCast_mul, Nat.mul_comm Q Y]
  simp only [IntKind.wrap_u64]
  generalize Y * Q = p at *
  omega

theorem tail_ret {N y u l Y s Q1 Q2 v z l1 l0 : Nat}
    (h : (u * 4294967296 + l / 4294967296) / Y * 4294967296 + ((u * 4294967296 + l / 4294967296) % Y * 4294967296 + l % 4294967296) / Y = N / y ∧
      ((u * 4294967296 + l / 4294967296) % Y * 4294967296 + l % 4294967296) % Y / 2 ^ s = N % y)
    (h1 : Q1 = (u * 4294967296 + l1) / Y) (hv : v = (u * 4294967296 + l1) % Y) (h2 : Q2 = (v * 4294967296 + l0) / Y) (hz : z = (v * 4294967296 + l0) % Y) (hl1 : l1 = l / 4294967296) (hl0 : l0 = l % 4294967296) :
    Ending.returned (.tuple #[.int .u64 ((Q1 : Int) * 4294967296 + (Q2 : Int)), .int .u64 ((z : Int) / 2 ^ s)]) = .returned (.tuple #[.int .u64 ((N / y : Nat) : Int), .int .u64 ((N % y : Nat) : Int)]) := by
  rw [← hl1, ← hl0, ← hv, ← hz, ← h1, ← h2] at h
  rw [← h.1, ← h.2, pow_cast]
  refine ret_qr ?_ ?_
  · omega
  · rw [← Int.natCast_ediv]

set_option maxHeartbeats 40000000 in
set_option maxRecDepth 100000 in
theorem div64_high (hi lo y : Nat) (w : World) (hhi : 0 < hi) (hlt : hi < y) (hlo : lo < 18446744073709551616) (hy2 : y < 18446744073709551616) :
    Calls Try.prog 23 #[.int .u64 (hi : Int), .int .u64 (lo : Int), .int .u64 (y : Int)] w fun e w' =>
      e = .returned (.tuple #[.int .u64 (((hi * 18446744073709551616 + lo) / y : Nat) : Int), .int .u64 (((hi * 18446744073709551616 + lo) % y : Nat) : Int)]) ∧ w' = w := by
  have h0 : ((y : Int) == 0) = false := by simp; omega
  have h1 : ((hi : Int) == 0) = false := by simp; omega
  go_enter Try.func23, Try.ntmps23
  go_wp2_with fail
  refine (lz_norm y w (by omega) hy2).mono ?_
  rintro e w' ⟨⟨s, ⟨hs, hn1, hn2⟩, rfl⟩, rfl⟩
  obtain ⟨c1, c2, c3, c4⟩ := shift_halves hi lo y s hs hlt hlo hn2
  have c5 : IntKind.u64.wrap ((y : Int) * 2 ^ s) = ((y * 2 ^ s : Nat) : Int) := by rw [shl_nat, wrap_nat _ hn2]
  have hlm : lo * 2 ^ s % 18446744073709551616 < 18446744073709551616 := Nat.mod_lt _ (by decide)
  obtain ⟨Y, hY⟩ : ∃ Y, Y = y * 2 ^ s := ⟨_, rfl⟩
  obtain ⟨u, hu⟩ : ∃ u, u = hi * 2 ^ s + lo / 2 ^ (64 - s) := ⟨_, rfl⟩
  obtain ⟨l, hl⟩ : ∃ l, l = lo * 2 ^ s % 18446744073709551616 := ⟨_, rfl⟩
  have HEND := Lib.hid (two_halves_at (K := 4294967296) hY (by omega : 0 < y) (by rw [c3, ← hu, ← hl] : (hi * 18446744073709551616 + lo) * 2 ^ s = u * (4294967296 * 4294967296) + l))
  rw [← hY] at hn1 hn2 c4 c5
  rw [← hu] at c1 c4
  rw [← hl] at c2 hlm
  clear hY hu hl c3
  have hin : KIn u (l / 4294967296) Y := ⟨hn1, hn2, c4, by omega⟩
  obtain ⟨hst, hle⟩ := k_start hin
  obtain ⟨y1, hy1⟩ : ∃ n, n = Y / 4294967296 := ⟨_, rfl⟩
  obtain ⟨l1, hl1⟩ : ∃ n, n = l / 4294967296 := ⟨_, rfl⟩
  obtain ⟨l0, hl0⟩ : ∃ n, n = l % 4294967296 := ⟨_, rfl⟩
  obtain ⟨y0, hy0⟩ : ∃ n, n = Y % 4294967296 := ⟨_, rfl⟩
  have c6 : bits .and .u64 (Y : Int) 4294967295 = (y0 : Int) := by rw [mask_low Y hn2, hy0]
  have c7 : bits .and .u64 (l : Int) 4294967295 = (l0 : Int) := by rw [mask_low l hlm, hl0]
  have c8 : (Y : Int) / 4294967296 = (y1 : Int) := by omega
  have c9 : (l : Int) / 4294967296 = (l1 : Int) := by omega
  rw [← hy1] at hst hle
  rw [← hl1] at hin hst
  obtain ⟨g, hg⟩ : ∃ n, n = u / y1 := ⟨_, rfl⟩
  rw [← hg] at hst hle
  obtain ⟨p, hp⟩ : ∃ n, n = g * y1 := ⟨_, rfl⟩
  rw [← hp] at hst hle
  have c10 : (u : Int) / (y1 : Int) = (g : Int) := by rw [hg]; rfl
  have hgb := hst.2.2.1
  have c11 : IntKind.u64.wrap (g : Int) = (g : Int) := wrap_nat g (by omega)
  have c12 : IntKind.u64.wrap ((g : Int) * (y1 : Int)) = (p : Int) := by rw [← Int.natCast_mul, ← hp, wrap_nat _ (by omega)]
  have b1 : 2147483648 ≤ y1 := by omega
  have b2 : y1 ≤ 4294967295 := by omega
  have b3 : y0 ≤ 4294967295 := by omega
  have b4 : l1 ≤ 4294967295 := by omega
  have b5 : l0 ≤ 4294967295 := by omega
  have HY1 := Lib.hid hy1
  have HY0 := Lib.hid hy0
  have HL1 := Lib.hid hl1
  have HL0 := Lib.hid hl0
  clear hy1 hy0 hl1 hl0 hg hp
  go_wp2_with fail
  have HST := Lib.hid hst
  have HLE := Lib.hid hle
  have HIN := Lib.hid hin
  clear hst hle hin hgb c1 c2 c4 c5 c6 c7 c8 c9 c10 c11 c12 hn1 hlm h0 h1 hlo
  go_loop [15, 16] (fun q r => ∃ Q R : Nat, q = .int .u64 (Q : Int) ∧ r = .int .u64 (R : Int) ∧ KRel u l1 Y Q R) (fun q _ => (intOf q).toNat)
  case atStart => exact ⟨g, u - p, rfl, by rw [show ((u - p : Nat) : Int) = (u : Int) - (p : Int) by have := HLE.out; omega], HST.out⟩
  case round =>
    obtain ⟨Q, R, rfl, rfl, hrel⟩ := hrel
    obtain ⟨t, ht⟩ : ∃ n, n = Q * y0 := ⟨_, rfl⟩
    have hR := hrel.2.1
    have hQ := hrel.2.2.1
    have htb : t < 18446744073709551616 := by rw [ht, HY0.out]; exact k_prod hrel
    have d1 : IntKind.u64.wrap ((Q : Int) * (y0 : Int)) = (t : Int) := by rw [← Int.natCast_mul, ← ht, wrap_nat _ htb]
    have hstep := k_step HIN.out hrel
    have hdone := k_done HIN.out hrel
    rw [← HY0.out, ← HY1.out, ← ht] at hstep
    rw [← HY0.out, ← ht] at hdone
    have HS := Lib.hid hstep
    have HDn := Lib.hid hdone
    clear ht hstep hdone
    have hcase : (4294967296 ≤ Q ∧ R + y1 < 4294967296) ∨ (Q < 4294967296 ∧ 4294967296 * R + l1 < t ∧ R + y1 < 4294967296) ∨
        (4294967296 ≤ Q ∧ 4294967296 ≤ R + y1) ∨ (Q < 4294967296 ∧ 4294967296 * R + l1 < t ∧ 4294967296 ≤ R + y1) ∨ (Q < 4294967296 ∧ t ≤ 4294967296 * R + l1) := by omega
    rcases hcase with ⟨k1, k2⟩ | ⟨k1, k3, k2⟩ | ⟨k1, k2⟩ | ⟨k1, k3, k2⟩ | ⟨k1, k3⟩
    · obtain ⟨s1, s2, _⟩ := HS.out (.inl k1)
      have hnew := Lib.hid (s2 k2)
      have t1 : decide ((4294967296 : Int) ≤ (Q : Int)) = true := by rw [decide_eq_true_iff]; omega
      have t2 : decide ((4294967296 : Int) ≤ (R : Int) + (y1 : Int)) = false := by rw [decide_eq_false_iff_not]; omega
      clear s2 k1 k2
      go_wp2_with fail
      go_round
      case rel => exact ⟨Q - 1, R + y1, by go_num, by go_num, hnew.out⟩
      case measure => simp [intOf]; omega
    · obtain ⟨s1, s2, _⟩ := HS.out (.inr k3)
      have hnew := Lib.hid (s2 k2)
      have t1 : decide ((4294967296 : Int) ≤ (Q : Int)) = false := by rw [decide_eq_false_iff_not]; omega
      have t2 : decide ((4294967296 : Int) ≤ (R : Int) + (y1 : Int)) = false := by rw [decide_eq_false_iff_not]; omega
      have t3 : decide ((4294967296 : Int) * (R : Int) + (l1 : Int) < (t : Int)) = true := by rw [decide_eq_true_iff]; omega
      clear s2 k1 k2 k3
      go_wp2_with fail
      go_round
      case rel => exact ⟨Q - 1, R + y1, by go_num, by go_num, hnew.out⟩
      case measure => simp [intOf]; omega
    · obtain ⟨s1, _, s3⟩ := HS.out (.inl k1)
      obtain ⟨N, hN⟩ : ∃ n, n = Q - 1 := ⟨_, rfl⟩
      have HN : Hid (N = _) := hN.trans (s3 k2)
      have e1 : (Q : Int) - 1 = (N : Int) := by omega
      have t1 : decide ((4294967296 : Int) ≤ (Q : Int)) = true := by rw [decide_eq_true_iff]; omega
      have t2 : decide ((4294967296 : Int) ≤ (R : Int) + (y1 : Int)) = true := by rw [decide_eq_true_iff]; omega
      clear s3 k1 k2 hN HS HDn
      obtain ⟨v, hv⟩ : ∃ n, n = (u * 4294967296 + l1) % Y := ⟨_, rfl⟩
      have r1 := rest_wrap HIN.out HN.out hv
      have hNb : N < 4294967296 := by have := HN.out; rw [this]; exact HIN.out.lt
      have hvY : v < Y := by rw [hv]; exact Nat.mod_lt _ (Nat.lt_of_lt_of_le (by decide) HIN.out.1)
      have hin2 : KIn v l0 Y := ⟨HIN.out.1, HIN.out.2.1, hvY, by omega⟩
      obtain ⟨hst, hle⟩ := k_start hin2
      rw [← HY1.out] at hst hle
      obtain ⟨g, hg⟩ : ∃ n, n = v / y1 := ⟨_, rfl⟩
      rw [← hg] at hst hle
      obtain ⟨p, hp⟩ : ∃ n, n = g * y1 := ⟨_, rfl⟩
      rw [← hp] at hst hle
      have c10 : (v : Int) / (y1 : Int) = (g : Int) := by rw [hg]; rfl
      have hgb := hst.2.2.1
      have c11 : IntKind.u64.wrap (g : Int) = (g : Int) := wrap_nat g (by omega)
      have c12 : IntKind.u64.wrap ((g : Int) * (y1 : Int)) = (p : Int) := by rw [← Int.natCast_mul, ← hp, wrap_nat _ (by omega)]
      have HV := Lib.hid hv
      have HN1 := HN
      clear hv hg hp HN
      go_wp2_with fail
      have HST := Lib.hid hst
      have HLE := Lib.hid hle
      have HIN2 := Lib.hid hin2
      clear hst hle hin2 hgb c10 c11 c12 r1 d1 t1 htb hR hQ hrel
      try clear t2
      try clear t3
      try clear e1
      obtain ⟨N1, rfl⟩ : ∃ n, n = N := ⟨_, rfl⟩
      go_loop [18, 16] (fun q r => ∃ Q R : Nat, q = .int .u64 (Q : Int) ∧ r = .int .u64 (R : Int) ∧ KRel v l0 Y Q R) (fun q _ => (intOf q).toNat)
      case atStart => exact ⟨g, v - p, rfl, by rw [show ((v - p : Nat) : Int) = (v : Int) - (p : Int) by have := HLE.out; omega], HST.out⟩
      case round =>
        obtain ⟨P, S, rfl, rfl, hrel⟩ := hrel
        obtain ⟨t, ht⟩ : ∃ n, n = P * y0 := ⟨_, rfl⟩
        have hR := hrel.2.1
        have hQ := hrel.2.2.1
        have htb : t < 18446744073709551616 := by rw [ht, HY0.out]; exact k_prod hrel
        have d1 : IntKind.u64.wrap ((P : Int) * (y0 : Int)) = (t : Int) := by rw [← Int.natCast_mul, ← ht, wrap_nat _ htb]
        have hstep := k_step HIN2.out hrel
        have hdone := k_done HIN2.out hrel
        rw [← HY0.out, ← HY1.out, ← ht] at hstep
        rw [← HY0.out, ← ht] at hdone
        have HS := Lib.hid hstep
        have HDn := Lib.hid hdone
        clear ht hstep hdone
        have hcase : (4294967296 ≤ P ∧ S + y1 < 4294967296) ∨ (P < 4294967296 ∧ 4294967296 * S + l0 < t ∧ S + y1 < 4294967296) ∨
            (4294967296 ≤ P ∧ 4294967296 ≤ S + y1) ∨ (P < 4294967296 ∧ 4294967296 * S + l0 < t ∧ 4294967296 ≤ S + y1) ∨ (P < 4294967296 ∧ t ≤ 4294967296 * S + l0) := by omega
        rcases hcase with ⟨k1, k2⟩ | ⟨k1, k3, k2⟩ | ⟨k1, k2⟩ | ⟨k1, k3, k2⟩ | ⟨k1, k3⟩
        · obtain ⟨s1, s2, _⟩ := HS.out (.inl k1)
          have hnew := Lib.hid (s2 k2)
          have t1 : decide ((4294967296 : Int) ≤ (P : Int)) = true := by rw [decide_eq_true_iff]; omega
          have t2 : decide ((4294967296 : Int) ≤ (S : Int) + (y1 : Int)) = false := by rw [decide_eq_false_iff_not]; omega
          clear s2 k1 k2
          go_wp2_with fail
          go_round
          case rel => exact ⟨P - 1, S + y1, by go_num, by go_num, hnew.out⟩
          case measure => simp [intOf]; omega
        · obtain ⟨s1, s2, _⟩ := HS.out (.inr k3)
          have hnew := Lib.hid (s2 k2)
          have t1 : decide ((4294967296 : Int) ≤ (P : Int)) = false := by rw [decide_eq_false_iff_not]; omega
          have t2 : decide ((4294967296 : Int) ≤ (S : Int) + (y1 : Int)) = false := by rw [decide_eq_false_iff_not]; omega
          have t3 : decide ((4294967296 : Int) * (S : Int) + (l0 : Int) < (t : Int)) = true := by rw [decide_eq_true_iff]; omega
          clear s2 k1 k2 k3
          go_wp2_with fail
          go_round
          case rel => exact ⟨P - 1, S + y1, by go_num, by go_num, hnew.out⟩
          case measure => simp [intOf]; omega
        · obtain ⟨s1, _, s3⟩ := HS.out (.inl k1)
          obtain ⟨N, hN⟩ : ∃ n, n = P - 1 := ⟨_, rfl⟩
          have HN : Hid (N = _) := hN.trans (s3 k2)
          have e1 : (P : Int) - 1 = (N : Int) := by omega
          have t1 : decide ((4294967296 : Int) ≤ (P : Int)) = true := by rw [decide_eq_true_iff]; omega
          have t2 : decide ((4294967296 : Int) ≤ (S : Int) + (y1 : Int)) = true := by rw [decide_eq_true_iff]; omega
          clear s3 k1 k2 hN HS HDn
          obtain ⟨z, hz⟩ : ∃ n, n = (v * 4294967296 + l0) % Y := ⟨_, rfl⟩
          have r2 := rest_wrap HIN2.out HN.out hz
          have hNb : N < 4294967296 := by have := HN.out; rw [this]; exact HIN2.out.lt
          have HZ := Lib.hid hz
          clear hz
          go_wp2
          go_ret2
          exact ⟨tail_ret HEND.out HN1.out HV.out HN.out HZ.out HL1.out HL0.out, rfl⟩
        · obtain ⟨s1, _, s3⟩ := HS.out (.inr k3)
          obtain ⟨N, hN⟩ : ∃ n, n = P - 1 := ⟨_, rfl⟩
          have HN : Hid (N = _) := hN.trans (s3 k2)
          have e1 : (P : Int) - 1 = (N : Int) := by omega
          have t1 : decide ((4294967296 : Int) ≤ (P : Int)) = false := by rw [decide_eq_false_iff_not]; omega
          have t2 : decide ((4294967296 : Int) ≤ (S : Int) + (y1 : Int)) = true := by rw [decide_eq_true_iff]; omega
          have t3 : decide ((4294967296 : Int) * (S : Int) + (l0 : Int) < (t : Int)) = true := by rw [decide_eq_true_iff]; omega
          clear s3 k1 k2 k3 hN HS HDn
          obtain ⟨z, hz⟩ : ∃ n, n = (v * 4294967296 + l0) % Y := ⟨_, rfl⟩
          have r2 := rest_wrap HIN2.out HN.out hz
          have hNb : N < 4294967296 := by have := HN.out; rw [this]; exact HIN2.out.lt
          have HZ := Lib.hid hz
          clear hz
          go_wp2
          go_ret2
          exact ⟨tail_ret HEND.out HN1.out HV.out HN.out HZ.out HL1.out HL0.out, rfl⟩
        · have HN := Lib.hid (HDn.out k1 k3)
          obtain ⟨N, rfl⟩ : ∃ n, n = P := ⟨_, rfl⟩
          have t1 : decide ((4294967296 : Int) ≤ (N : Int)) = false := by rw [decide_eq_false_iff_not]; omega
          have t3 : decide ((4294967296 : Int) * (S : Int) + (l0 : Int) < (t : Int)) = false := by rw [decide_eq_false_iff_not]; omega
          clear k1 k3 HS HDn
          obtain ⟨z, hz⟩ : ∃ n, n = (v * 4294967296 + l0) % Y := ⟨_, rfl⟩
          have r2 := rest_wrap HIN2.out HN.out hz
          have hNb : N < 4294967296 := by have := HN.out; rw [this]; exact HIN2.out.lt
          have HZ := Lib.hid hz
          clear hz
          go_wp2
          go_ret2
          exact ⟨tail_ret HEND.out HN1.out HV.out HN.out HZ.out HL1.out HL0.out, rfl⟩
    · obtain ⟨s1, _, s3⟩ := HS.out (.inr k3)
      obtain ⟨N, hN⟩ : ∃ n, n = Q - 1 := ⟨_, rfl⟩
      have HN : Hid (N = _) := hN.trans (s3 k2)
      have e1 : (Q : Int) - 1 = (N : Int) := by omega
      have t1 : decide ((4294967296 : Int) ≤ (Q : Int)) = false := by rw [decide_eq_false_iff_not]; omega
      have t2 : decide ((4294967296 : Int) ≤ (R : Int) + (y1 : Int)) = true := by rw [decide_eq_true_iff]; omega
      have t3 : decide ((4294967296 : Int) * (R : Int) + (l1 : Int) < (t : Int)) = true := by rw [decide_eq_true_iff]; omega
      clear s3 k1 k2 k3 hN HS HDn
      obtain ⟨v, hv⟩ : ∃ n, n = (u * 4294967296 + l1) % Y := ⟨_, rfl⟩
      have r1 := rest_wrap HIN.out HN.out hv
      have hNb : N < 4294967296 := by have := HN.out; rw [this]; exact HIN.out.lt
      have hvY : v < Y := by rw [hv]; exact Nat.mod_lt _ (Nat.lt_of_lt_of_le (by decide) HIN.out.1)
      have hin2 : KIn v l0 Y := ⟨HIN.out.1, HIN.out.2.1, hvY, by omega⟩
      obtain ⟨hst, hle⟩ := k_start hin2
      rw [← HY1.out] at hst hle
      obtain ⟨g, hg⟩ : ∃ n, n = v / y1 := ⟨_, rfl⟩
      rw [← hg] at hst hle
      obtain ⟨p, hp⟩ : ∃ n, n = g * y1 := ⟨_, rfl⟩
      rw [← hp] at hst hle
      have c10 : (v : Int) / (y1 : Int) = (g : Int) := by rw [hg]; rfl
      have hgb := hst.2.2.1
      have c11 : IntKind.u64.wrap (g : Int) = (g : Int) := wrap_nat g (by omega)
      have c12 : IntKind.u64.wrap ((g : Int) * (y1 : Int)) = (p : Int) := by rw [← Int.natCast_mul, ← hp, wrap_nat _ (by omega)]
      have HV := Lib.hid hv
      have HN1 := HN
      clear hv hg hp HN
      go_wp2_with fail
      have HST := Lib.hid hst
      have HLE := Lib.hid hle
      have HIN2 := Lib.hid hin2
      clear hst hle hin2 hgb c10 c11 c12 r1 d1 t1 htb hR hQ hrel
      try clear t2
      try clear t3
      try clear e1
      obtain ⟨N1, rfl⟩ : ∃ n, n = N := ⟨_, rfl⟩
      go_loop [18, 16] (fun q r => ∃ Q R : Nat, q = .int .u64 (Q : Int) ∧ r = .int .u64 (R : Int) ∧ KRel v l0 Y Q R) (fun q _ => (intOf q).toNat)
      case atStart => exact ⟨g, v - p, rfl, by rw [show ((v - p : Nat) : Int) = (v : Int) - (p : Int) by have := HLE.out; omega], HST.out⟩
      case round =>
        obtain ⟨P, S, rfl, rfl, hrel⟩ := hrel
        obtain ⟨t, ht⟩ : ∃ n, n = P * y0 := ⟨_, rfl⟩
        have hR := hrel.2.1
        have hQ := hrel.2.2.1
        have htb : t < 18446744073709551616 := by rw [ht, HY0.out]; exact k_prod hrel
        have d1 : IntKind.u64.wrap ((P : Int) * (y0 : Int)) = (t : Int) := by rw [← Int.natCast_mul, ← ht, wrap_nat _ htb]
        have hstep := k_step HIN2.out hrel
        have hdone := k_done HIN2.out hrel
        rw [← HY0.out, ← HY1.out, ← ht] at hstep
        rw [← HY0.out, ← ht] at hdone
        have HS := Lib.hid hstep
        have HDn := Lib.hid hdone
        clear ht hstep hdone
        have hcase : (4294967296 ≤ P ∧ S + y1 < 4294967296) ∨ (P < 4294967296 ∧ 4294967296 * S + l0 < t ∧ S + y1 < 4294967296) ∨
            (4294967296 ≤ P ∧ 4294967296 ≤ S + y1) ∨ (P < 4294967296 ∧ 4294967296 * S + l0 < t ∧ 4294967296 ≤ S + y1) ∨ (P < 4294967296 ∧ t ≤ 4294967296 * S + l0) := by omega
        rcases hcase with ⟨k1, k2⟩ | ⟨k1, k3, k2⟩ | ⟨k1, k2⟩ | ⟨k1, k3, k2⟩ | ⟨k1, k3⟩
        · obtain ⟨s1, s2, _⟩ := HS.out (.inl k1)
          have hnew := Lib.hid (s2 k2)
          have t1 : decide ((4294967296 : Int) ≤ (P : Int)) = true := by rw [decide_eq_true_iff]; omega
          have t2 : decide ((4294967296 : Int) ≤ (S : Int) + (y1 : Int)) = false := by rw [decide_eq_false_iff_not]; omega
          clear s2 k1 k2
          go_wp2_with fail
          go_round
          case rel => exact ⟨P - 1, S + y1, by go_num, by go_num, hnew.out⟩
          case measure => simp [intOf]; omega
        · obtain ⟨s1, s2, _⟩ := HS.out (.inr k3)
          have hnew := Lib.hid (s2 k2)
          have t1 : decide ((4294967296 : Int) ≤ (P : Int)) = false := by rw [decide_eq_false_iff_not]; omega
          have t2 : decide ((4294967296 : Int) ≤ (S : Int) + (y1 : Int)) = false := by rw [decide_eq_false_iff_not]; omega
          have t3 : decide ((4294967296 : Int) * (S : Int) + (l0 : Int) < (t : Int)) = true := by rw [decide_eq_true_iff]; omega
          clear s2 k1 k2 k3
          go_wp2_with fail
          go_round
          case rel => exact ⟨P - 1, S + y1, by go_num, by go_num, hnew.out⟩
          case measure => simp [intOf]; omega
        · obtain ⟨s1, _, s3⟩ := HS.out (.inl k1)
          obtain ⟨N, hN⟩ : ∃ n, n = P - 1 := ⟨_, rfl⟩
          have HN : Hid (N = _) := hN.trans (s3 k2)
          have e1 : (P : Int) - 1 = (N : Int) := by omega
          have t1 : decide ((4294967296 : Int) ≤ (P : Int)) = true := by rw [decide_eq_true_iff]; omega
          have t2 : decide ((4294967296 : Int) ≤ (S : Int) + (y1 : Int)) = true := by rw [decide_eq_true_iff]; omega
          clear s3 k1 k2 hN HS HDn
          obtain ⟨z, hz⟩ : ∃ n, n = (v * 4294967296 + l0) % Y := ⟨_, rfl⟩
          have r2 := rest_wrap HIN2.out HN.out hz
          have hNb : N < 4294967296 := by have := HN.out; rw [this]; exact HIN2.out.lt
          have HZ := Lib.hid hz
          clear hz
          go_wp2
          go_ret2
          exact ⟨tail_ret HEND.out HN1.out HV.out HN.out HZ.out HL1.out HL0.out, rfl⟩
        · obtain ⟨s1, _, s3⟩ := HS.out (.inr k3)
          obtain ⟨N, hN⟩ : ∃ n, n = P - 1 := ⟨_, rfl⟩
          have HN : Hid (N = _) := hN.trans (s3 k2)
          have e1 : (P : Int) - 1 = (N : Int) := by omega
          have t1 : decide ((4294967296 : Int) ≤ (P : Int)) = false := by rw [decide_eq_false_iff_not]; omega
          have t2 : decide ((4294967296 : Int) ≤ (S : Int) + (y1 : Int)) = true := by rw [decide_eq_true_iff]; omega
          have t3 : decide ((4294967296 : Int) * (S : Int) + (l0 : Int) < (t : Int)) = true := by rw [decide_eq_true_iff]; omega
          clear s3 k1 k2 k3 hN HS HDn
          obtain ⟨z, hz⟩ : ∃ n, n = (v * 4294967296 + l0) % Y := ⟨_, rfl⟩
          have r2 := rest_wrap HIN2.out HN.out hz
          have hNb : N < 4294967296 := by have := HN.out; rw [this]; exact HIN2.out.lt
          have HZ := Lib.hid hz
          clear hz
          go_wp2
          go_ret2
          exact ⟨tail_ret HEND.out HN1.out HV.out HN.out HZ.out HL1.out HL0.out, rfl⟩
        · have HN := Lib.hid (HDn.out k1 k3)
          obtain ⟨N, rfl⟩ : ∃ n, n = P := ⟨_, rfl⟩
          have t1 : decide ((4294967296 : Int) ≤ (N : Int)) = false := by rw [decide_eq_false_iff_not]; omega
          have t3 : decide ((4294967296 : Int) * (S : Int) + (l0 : Int) < (t : Int)) = false := by rw [decide_eq_false_iff_not]; omega
          clear k1 k3 HS HDn
          obtain ⟨z, hz⟩ : ∃ n, n = (v * 4294967296 + l0) % Y := ⟨_, rfl⟩
          have r2 := rest_wrap HIN2.out HN.out hz
          have hNb : N < 4294967296 := by have := HN.out; rw [this]; exact HIN2.out.lt
          have HZ := Lib.hid hz
          clear hz
          go_wp2
          go_ret2
          exact ⟨tail_ret HEND.out HN1.out HV.out HN.out HZ.out HL1.out HL0.out, rfl⟩
    · have HN := Lib.hid (HDn.out k1 k3)
      obtain ⟨N, rfl⟩ : ∃ n, n = Q := ⟨_, rfl⟩
      have t1 : decide ((4294967296 : Int) ≤ (N : Int)) = false := by rw [decide_eq_false_iff_not]; omega
      have t3 : decide ((4294967296 : Int) * (R : Int) + (l1 : Int) < (t : Int)) = false := by rw [decide_eq_false_iff_not]; omega
      clear k1 k3 HS HDn
      obtain ⟨v, hv⟩ : ∃ n, n = (u * 4294967296 + l1) % Y := ⟨_, rfl⟩
      have r1 := rest_wrap HIN.out HN.out hv
      have hNb : N < 4294967296 := by have := HN.out; rw [this]; exact HIN.out.lt
      have hvY : v < Y := by rw [hv]; exact Nat.mod_lt _ (Nat.lt_of_lt_of_le (by decide) HIN.out.1)
      have hin2 : KIn v l0 Y := ⟨HIN.out.1, HIN.out.2.1, hvY, by omega⟩
      obtain ⟨hst, hle⟩ := k_start hin2
      rw [← HY1.out] at hst hle
      obtain ⟨g, hg⟩ : ∃ n, n = v / y1 := ⟨_, rfl⟩
      rw [← hg] at hst hle
      obtain ⟨p, hp⟩ : ∃ n, n = g * y1 := ⟨_, rfl⟩
      rw [← hp] at hst hle
      have c10 : (v : Int) / (y1 : Int) = (g : Int) := by rw [hg]; rfl
      have hgb := hst.2.2.1
      have c11 : IntKind.u64.wrap (g : Int) = (g : Int) := wrap_nat g (by omega)
      have c12 : IntKind.u64.wrap ((g : Int) * (y1 : Int)) = (p : Int) := by rw [← Int.natCast_mul, ← hp, wrap_nat _ (by omega)]
      have HV := Lib.hid hv
      have HN1 := HN
      clear hv hg hp HN
      go_wp2_with fail
      have HST := Lib.hid hst
      have HLE := Lib.hid hle
      have HIN2 := Lib.hid hin2
      clear hst hle hin2 hgb c10 c11 c12 r1 d1 t1 htb hR hQ hrel
      try clear t2
      try clear t3
      try clear e1
      obtain ⟨N1, rfl⟩ : ∃ n, n = N := ⟨_, rfl⟩
      go_loop [18, 16] (fun q r => ∃ Q R : Nat, q = .int .u64 (Q : Int) ∧ r = .int .u64 (R : Int) ∧ KRel v l0 Y Q R) (fun q _ => (intOf q).toNat)
      case atStart => exact ⟨g, v - p, rfl, by rw [show ((v - p : Nat) : Int) = (v : Int) - (p : Int) by have := HLE.out; omega], HST.out⟩
      case round =>
        obtain ⟨P, S, rfl, rfl, hrel⟩ := hrel
        obtain ⟨t, ht⟩ : ∃ n, n = P * y0 := ⟨_, rfl⟩
        have hR := hrel.2.1
        have hQ := hrel.2.2.1
        have htb : t < 18446744073709551616 := by rw [ht, HY0.out]; exact k_prod hrel
        have d1 : IntKind.u64.wrap ((P : Int) * (y0 : Int)) = (t : Int) := by rw [← Int.natCast_mul, ← ht, wrap_nat _ htb]
        have hstep := k_step HIN2.out hrel
        have hdone := k_done HIN2.out hrel
        rw [← HY0.out, ← HY1.out, ← ht] at hstep
        rw [← HY0.out, ← ht] at hdone
        have HS := Lib.hid hstep
        have HDn := Lib.hid hdone
        clear ht hstep hdone
        have hcase : (4294967296 ≤ P ∧ S + y1 < 4294967296) ∨ (P < 4294967296 ∧ 4294967296 * S + l0 < t ∧ S + y1 < 4294967296) ∨
            (4294967296 ≤ P ∧ 4294967296 ≤ S + y1) ∨ (P < 4294967296 ∧ 4294967296 * S + l0 < t ∧ 4294967296 ≤ S + y1) ∨ (P < 4294967296 ∧ t ≤ 4294967296 * S + l0) := by omega
        rcases hcase with ⟨k1, k2⟩ | ⟨k1, k3, k2⟩ | ⟨k1, k2⟩ | ⟨k1, k3, k2⟩ | ⟨k1, k3⟩
        · obtain ⟨s1, s2, _⟩ := HS.out (.inl k1)
          have hnew := Lib.hid (s2 k2)
          have t1 : decide ((4294967296 : Int) ≤ (P : Int)) = true := by rw [decide_eq_true_iff]; omega
          have t2 : decide ((4294967296 : Int) ≤ (S : Int) + (y1 : Int)) = false := by rw [decide_eq_false_iff_not]; omega
          clear s2 k1 k2
          go_wp2_with fail
          go_round
          case rel => exact ⟨P - 1, S + y1, by go_num, by go_num, hnew.out⟩
          case measure => simp [intOf]; omega
        · obtain ⟨s1, s2, _⟩ := HS.out (.inr k3)
          have hnew := Lib.hid (s2 k2)
          have t1 : decide ((4294967296 : Int) ≤ (P : Int)) = false := by rw [decide_eq_false_iff_not]; omega
          have t2 : decide ((4294967296 : Int) ≤ (S : Int) + (y1 : Int)) = false := by rw [decide_eq_false_iff_not]; omega
          have t3 : decide ((4294967296 : Int) * (S : Int) + (l0 : Int) < (t : Int)) = true := by rw [decide_eq_true_iff]; omega
          clear s2 k1 k2 k3
          go_wp2_with fail
          go_round
          case rel => exact ⟨P - 1, S + y1, by go_num, by go_num, hnew.out⟩
          case measure => simp [intOf]; omega
        · obtain ⟨s1, _, s3⟩ := HS.out (.inl k1)
          obtain ⟨N, hN⟩ : ∃ n, n = P - 1 := ⟨_, rfl⟩
          have HN : Hid (N = _) := hN.trans (s3 k2)
          have e1 : (P : Int) - 1 = (N : Int) := by omega
          have t1 : decide ((4294967296 : Int) ≤ (P : Int)) = true := by rw [decide_eq_true_iff]; omega
          have t2 : decide ((4294967296 : Int) ≤ (S : Int) + (y1 : Int)) = true := by rw [decide_eq_true_iff]; omega
          clear s3 k1 k2 hN HS HDn
          obtain ⟨z, hz⟩ : ∃ n, n = (v * 4294967296 + l0) % Y := ⟨_, rfl⟩
          have r2 := rest_wrap HIN2.out HN.out hz
          have hNb : N < 4294967296 := by have := HN.out; rw [this]; exact HIN2.out.lt
          have HZ := Lib.hid hz
          clear hz
          go_wp2
          go_ret2
          exact ⟨tail_ret HEND.out HN1.out HV.out HN.out HZ.out HL1.out HL0.out, rfl⟩
        · obtain ⟨s1, _, s3⟩ := HS.out (.inr k3)
          obtain ⟨N, hN⟩ : ∃ n, n = P - 1 := ⟨_, rfl⟩
          have HN : Hid (N = _) := hN.trans (s3 k2)
          have e1 : (P : Int) - 1 = (N : Int) := by omega
          have t1 : decide ((4294967296 : Int) ≤ (P : Int)) = false := by rw [decide_eq_false_iff_not]; omega
          have t2 : decide ((4294967296 : Int) ≤ (S : Int) + (y1 : Int)) = true := by rw [decide_eq_true_iff]; omega
          have t3 : decide ((4294967296 : Int) * (S : Int) + (l0 : Int) < (t : Int)) = true := by rw [decide_eq_true_iff]; omega
          clear s3 k1 k2 k3 hN HS HDn
          obtain ⟨z, hz⟩ : ∃ n, n = (v * 4294967296 + l0) % Y := ⟨_, rfl⟩
          have r2 := rest_wrap HIN2.out HN.out hz
          have hNb : N < 4294967296 := by have := HN.out; rw [this]; exact HIN2.out.lt
          have HZ := Lib.hid hz
          clear hz
          go_wp2
          go_ret2
          exact ⟨tail_ret HEND.out HN1.out HV.out HN.out HZ.out HL1.out HL0.out, rfl⟩
        · have HN := Lib.hid (HDn.out k1 k3)
          obtain ⟨N, rfl⟩ : ∃ n, n = P := ⟨_, rfl⟩
          have t1 : decide ((4294967296 : Int) ≤ (N : Int)) = false := by rw [decide_eq_false_iff_not]; omega
          have t3 : decide ((4294967296 : Int) * (S : Int) + (l0 : Int) < (t : Int)) = false := by rw [decide_eq_false_iff_not]; omega
          clear k1 k3 HS HDn
          obtain ⟨z, hz⟩ : ∃ n, n = (v * 4294967296 + l0) % Y := ⟨_, rfl⟩
          have r2 := rest_wrap HIN2.out HN.out hz
          have hNb : N < 4294967296 := by have := HN.out; rw [this]; exact HIN2.out.lt
          have HZ := Lib.hid hz
          clear hz
          go_wp2
          go_ret2
          exact ⟨tail_ret HEND.out HN1.out HV.out HN.out HZ.out HL1.out HL0.out, rfl⟩

end Go.Proofs.Ytfmllfolpcimpaa
