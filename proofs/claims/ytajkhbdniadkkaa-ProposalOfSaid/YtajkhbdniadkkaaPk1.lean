/- Plain arithmetic of the long division of 128 bits by 64, on halves of 32 bits. No program is named here. -/
import Derived.Shelf.Small.Bits
import Derived.Test.YtajkhbdniadkkaaShelfM
import Derived.Test.YtajkhbdniadkkaaMem
import Derived.Deep.QuietTactic
import Derived.BigQuiet
namespace Go.Proofs.Ytajkhbdniadkkaa

/-- What is found digit by digit: 'q' is too great, asked on halves. -/
theorem half_test {u d y q r : Nat} (hy : 0 < y) (hd : d < 4294967296) (hu : u < y) (h : q * (y / 4294967296) + r = u) :
    (4294967296 ≤ q ∨ 4294967296 * r + d < q * (y % 4294967296)) ↔ (u * 4294967296 + d) / y < q := by
  have hsplit := Nat.div_add_mod y 4294967296
  have e : q * y = 4294967296 * (q * (y / 4294967296)) + q * (y % 4294967296) := by
    conv => lhs; rw [← hsplit, Nat.mul_add, Nat.mul_left_comm]
  have e2 : 4294967296 * (q * (y / 4294967296)) + 4294967296 * r = u * 4294967296 := by
    rw [← Nat.mul_add, h, Nat.mul_comm]
  rw [Nat.div_lt_iff_lt_mul hy]
  constructor
  · rintro (hq | hq)
    · have h1 : 4294967296 * y ≤ q * y := Nat.mul_le_mul_right y hq
      have h2 : (u + 1) * 4294967296 ≤ y * 4294967296 := Nat.mul_le_mul_right _ hu
      omega
    · omega
  · intro hq
    right
    omega
/-- The first guess is at most two too great. -/
theorem half_guess {u y : Nat} (hy : 9223372036854775808 ≤ y) (hu : u < y) : u / (y / 4294967296) ≤ 4294967297 := by
  have h1 : 2147483648 ≤ y / 4294967296 := by omega
  have hsplit := Nat.div_add_mod y 4294967296
  have hm := Nat.mod_lt y (show 0 < 4294967296 by decide)
  generalize y / 4294967296 = a at *
  have h2 : u < a * 4294967298 := by omega
  have := (Nat.div_lt_iff_lt_mul (by omega : 0 < a)).2 (by rw [Nat.mul_comm]; exact h2)
  omega
theorem half_start {u y : Nat} (hu : u < y) (hy : 9223372036854775808 ≤ y) (d : Nat) (hd : d < 4294967296) : (u * 4294967296 + d) / y ≤ u / (y / 4294967296) := by
  have h1 : 2147483648 ≤ y / 4294967296 := by omega
  have h := Nat.div_add_mod u (y / 4294967296)
  rcases Nat.lt_or_ge (u / (y / 4294967296)) ((u * 4294967296 + d) / y) with g | g
  · exfalso
    have hr := Nat.mod_lt u (show 0 < y / 4294967296 by omega)
    have hsplit := Nat.div_add_mod y 4294967296
    have h2 : (u / (y / 4294967296) + 1) * y ≤ u * 4294967296 + d := by
      have := Nat.div_mul_le_self (u * 4294967296 + d) y
      exact Nat.le_trans (Nat.mul_le_mul_right y g) this
    have h3 : (u / (y / 4294967296) + 1) * (4294967296 * (y / 4294967296)) ≤ (u / (y / 4294967296) + 1) * y := Nat.mul_le_mul_left _ (by omega)
    have h4 : (u / (y / 4294967296) + 1) * (4294967296 * (y / 4294967296)) = 4294967296 * (y / 4294967296 * (u / (y / 4294967296))) + 4294967296 * (y / 4294967296) := by
      rw [Nat.add_mul, Nat.one_mul, Nat.mul_left_comm, Nat.mul_comm (u / _)]
    omega
  · exact g
/-- Where the rest of the guess passes 32 bits the guess isn't too great. -/
theorem half_break {u d y q r : Nat} (hy : 0 < y) (h : q * (y / 4294967296) + r = u) (hq : q ≤ 4294967296) (hr : 4294967296 ≤ r) : q ≤ (u * 4294967296 + d) / y := by
  have hsplit := Nat.div_add_mod y 4294967296
  have hm := Nat.mod_lt y (show 0 < 4294967296 by decide)
  rw [Nat.le_div_iff_mul_le hy]
  have e : q * y = 4294967296 * (q * (y / 4294967296)) + q * (y % 4294967296) := by
    conv => lhs; rw [← hsplit, Nat.mul_add, Nat.mul_left_comm]
  have e2 : 4294967296 * (q * (y / 4294967296)) + 4294967296 * r = u * 4294967296 := by
    rw [← Nat.mul_add, h, Nat.mul_comm]
  have h3 : q * (y % 4294967296) ≤ 4294967296 * 4294967296 := Nat.mul_le_mul hq (by omega)
  omega
/-- The rest of two digits. -/
theorem half_rest {u d y : Nat} (hy : 0 < y) (hy2 : y < 18446744073709551616) :
    ((((u : Int) * 4294967296 % 18446744073709551616 + (d : Int)) % 18446744073709551616) - (((u * 4294967296 + d) / y : Nat) : Int) * (y : Int) % 18446744073709551616) % 18446744073709551616 = (((u * 4294967296 + d) % y : Nat) : Int) := by
  have h := Nat.div_add_mod (u * 4294967296 + d) y
  have hlt := Nat.mod_lt (u * 4294967296 + d) hy
  rw [← Int.natCast_mul, Nat.mul_comm ((u * 4294967296 + d) / y) y]
  generalize (u * 4294967296 + d) % y = m at *
  generalize y * ((u * 4294967296 + d) / y) = p at *
  omega

/-- The two steps of the division together, on halves of any size. -/
theorem two_halves_at {N y Y s u l K : Nat} (hY : Y = y * 2 ^ s) (hy : 0 < y) (hN : N * 2 ^ s = u * (K * K) + l) :
    (u * K + l / K) / Y * K + ((u * K + l / K) % Y * K + l % K) / Y = N / y ∧
    ((u * K + l / K) % Y * K + l % K) % Y / 2 ^ s = N % y := by
  have hp : 0 < 2 ^ s := Nat.pow_pos (by decide)
  have hY0 : 0 < Y := by rw [hY]; exact Nat.mul_pos hy hp
  have h1 := Nat.div_add_mod (u * K + l / K) Y
  have hl2 := Nat.div_add_mod l K
  generalize (u * K + l / K) / Y = q1 at *
  generalize (u * K + l / K) % Y = r1 at *
  have h2 := Nat.div_add_mod (r1 * K + l % K) Y
  have h3 := Nat.mod_lt (r1 * K + l % K) hY0
  generalize (r1 * K + l % K) / Y = q0 at *
  generalize (r1 * K + l % K) % Y = r0 at *
  have e : N * 2 ^ s = Y * (q1 * K + q0) + r0 := by
    have e1 : K * (u * K + l / K) = K * (Y * q1 + r1) := by rw [h1]
    rw [Nat.mul_add, Nat.mul_add, Nat.mul_left_comm K u K] at e1
    rw [hN, Nat.mul_add, Nat.mul_comm q1 K]
    rw [Nat.mul_left_comm K Y q1, Nat.mul_comm K r1] at e1
    omega
  have ed : N * 2 ^ s / (y * 2 ^ s) = N / y := Nat.mul_div_mul_right N y hp
  have em : N * 2 ^ s % (y * 2 ^ s) = N % y * 2 ^ s := Nat.mul_mod_mul_right (2 ^ s) N y
  rw [← hY] at ed em
  rw [e] at ed em
  rw [Nat.mul_add_div hY0, Nat.div_eq_of_lt h3, Nat.add_zero] at ed
  rw [Nat.mul_add_mod, Nat.mod_eq_of_lt h3] at em
  refine ⟨ed, ?_⟩
  rw [em, Nat.mul_div_cancel _ hp]

/-! ### the loop's relation -/
def KRel (u d Y q r : Nat) : Prop := q * (Y / 4294967296) + r = u ∧ r < 4294967296 ∧ q ≤ 4294967297 ∧ (u * 4294967296 + d) / Y ≤ q
def KIn (u d Y : Nat) : Prop := 9223372036854775808 ≤ Y ∧ Y < 18446744073709551616 ∧ u < Y ∧ d < 4294967296
theorem KIn.lt {u d Y : Nat} (h : KIn u d Y) : (u * 4294967296 + d) / Y < 4294967296 := by
  obtain ⟨h1, h2, h3, h4⟩ := h
  rw [Nat.div_lt_iff_lt_mul (by omega)]
  omega
theorem k_start {u d Y : Nat} (h : KIn u d Y) : KRel u d Y (u / (Y / 4294967296)) (u - u / (Y / 4294967296) * (Y / 4294967296)) ∧ u / (Y / 4294967296) * (Y / 4294967296) ≤ u := by
  obtain ⟨h1, h2, h3, h4⟩ := h
  have hle := Nat.div_mul_le_self u (Y / 4294967296)
  have hm := Nat.div_add_mod u (Y / 4294967296)
  have hlt := Nat.mod_lt u (show 0 < Y / 4294967296 by omega)
  rw [Nat.mul_comm (Y / 4294967296)] at hm
  exact ⟨⟨by omega, by omega, half_guess h1 h3, half_start h3 h1 d h4⟩, hle⟩
theorem k_done {u d Y q r : Nat} (h : KIn u d Y) (hr : KRel u d Y q r) (h1 : q < 4294967296) (h2 : q * (Y % 4294967296) ≤ 4294967296 * r + d) : q = (u * 4294967296 + d) / Y := by
  obtain ⟨i1, i2, i3, i4⟩ := h
  obtain ⟨r1, r2, r3, r4⟩ := hr
  have ht := half_test (by omega) i4 i3 r1
  rcases Nat.lt_or_ge ((u * 4294967296 + d) / Y) q with g | g
  · have := ht.2 g; omega
  · omega
theorem k_step {u d Y q r : Nat} (h : KIn u d Y) (hr : KRel u d Y q r) (ht : 4294967296 ≤ q ∨ 4294967296 * r + d < q * (Y % 4294967296)) :
    1 ≤ q ∧ (r + Y / 4294967296 < 4294967296 → KRel u d Y (q - 1) (r + Y / 4294967296)) ∧ (4294967296 ≤ r + Y / 4294967296 → q - 1 = (u * 4294967296 + d) / Y) := by
  obtain ⟨i1, i2, i3, i4⟩ := h
  obtain ⟨r1, r2, r3, r4⟩ := hr
  have hg := (half_test (by omega) i4 i3 r1).1 ht
  have e : (q - 1) * (Y / 4294967296) + (r + Y / 4294967296) = u := by
    rw [← r1, Nat.sub_mul, Nat.one_mul]
    have hq : 0 < q := Nat.lt_of_le_of_lt (Nat.zero_le _) hg
    have : Y / 4294967296 ≤ q * (Y / 4294967296) := Nat.le_mul_of_pos_left _ hq
    omega
  have hb : q - 1 ≤ 4294967296 → 4294967296 ≤ r + Y / 4294967296 → q - 1 ≤ (u * 4294967296 + d) / Y := fun hq hge => half_break (d := d) (by omega) e hq hge
  unfold KRel
  generalize (u * 4294967296 + d) / Y = Q at *
  refine ⟨by omega, fun hlt => ⟨e, hlt, by omega, by omega⟩, fun hge => ?_⟩
  have := hb (by omega) hge
  omega
theorem k_prod {u d Y q r : Nat} (hr : KRel u d Y q r) : q * (Y % 4294967296) < 18446744073709551616 := by
  have h1 := hr.2.2.1
  have h : q * (Y % 4294967296) ≤ 4294967297 * 4294967295 := Nat.mul_le_mul h1 (by omega)
  omega

end Go.Proofs.Ytajkhbdniadkkaa
/- The library's contract for math/bits.LeadingZeros64, at this program's numbers. -/
namespace Go.Proofs.Ytajkhbdniadkkaa
open Go.Shelf

def lz_ren : Go.Shelf.Ren := ⟨fun | 134 => 97 | 129 => 101 | n => n, fun | 53 => 61 | 3 => 3 | 4 => 4 | 46 => 50 | 5 => 5 | 9 => 9 | n => n, fun | n => n⟩
theorem lz_lays : Go.Proofs.Lays.n134 Try.prog lz_ren := {
  mixed := by kernel_rfl
  f129 := Try.func101.trans (congrArg some (by kernel_rfl))
  f134 := Try.func97.trans (congrArg some (by kernel_rfl))
  t3 := Try.underlying3
  a3 := Try.isAgg3
  z3 := Try.sizeOf3
  v3 := Try.zeroValue3
  t4 := Try.underlying4
  a4 := Try.isAgg4
  z4 := Try.sizeOf4
  v4 := Try.zeroValue4
  t5 := Try.underlying5
  a5 := Try.isAgg5
  z5 := Try.sizeOf5
  v5 := Try.zeroValue5
  t9 := Try.underlying9
  a9 := Try.isAgg9
  z9 := Try.sizeOf9
  v9 := Try.zeroValue9
  t46 := Try.underlying50
  a46 := Try.isAgg50
  z46 := Try.sizeOf50
  v46 := Try.zeroValue50
  t53 := Try.underlying61
  a53 := Try.isAgg61
  z53 := Try.sizeOf61
  v53 := Try.zeroValue61 }
theorem lz_any (x : Nat) (w : World) (h1 : x < 18446744073709551616) :
    Calls Try.prog 97 #[.int .u64 (x : Int)] w fun e w' => e = .returned (.int .i64 (64 - (Lib.bitLen x : Int))) ∧ w = w' :=
  (Any.bits_LeadingZeros64 lz_lays (x : Int) w (by omega) (by omega)).mono fun _ _ h => ⟨h.1, h.2.symm⟩

end Go.Proofs.Ytajkhbdniadkkaa
/- What math/bits.Div64 answers. -/
namespace Go.Proofs.Ytajkhbdniadkkaa
open Go.RowKit
set_option linter.unusedVariables false

theorem bitLen_bounds : ∀ (k y : Nat), 0 < y → y < 2 ^ k → k ≤ 64 → 0 < Lib.bitLen y ∧ Lib.bitLen y ≤ k ∧ 2 ^ (Lib.bitLen y - 1) ≤ y ∧ y < 2 ^ Lib.bitLen y := by
  intro k
  induction k with
  | zero => intro y h0 h1; omega
  | succ k ih =>
    intro y h0 h1 hk
    have h64 : y < 2 ^ 64 := Nat.lt_of_lt_of_le h1 (Nat.pow_le_pow_right (by decide) hk)
    have e := Lib.bitLen_half y (by omega) h64
    rw [Nat.pow_succ] at h1
    rcases Nat.lt_or_ge y 2 with g | g
    · obtain rfl : y = 1 := by omega
      have e1 : Lib.bitLen 1 = 1 := by decide
      rw [e1]
      exact ⟨by decide, by omega, by decide, by decide⟩
    · obtain ⟨a, b, c, d⟩ := ih (y / 2) (by omega) (by omega) (by omega)
      rw [e]
      generalize Lib.bitLen (y / 2) = n at *
      obtain ⟨m, rfl⟩ : ∃ m, n = m + 1 := ⟨n - 1, by omega⟩
      rw [Nat.add_sub_cancel] at c
      refine ⟨by omega, by omega, ?_, ?_⟩
      · rw [show 1 + (m + 1) - 1 = m + 1 by omega, Nat.pow_succ]; omega
      · rw [show 1 + (m + 1) = (m + 1) + 1 by omega, Nat.pow_succ]; omega
def Norm (y s : Nat) : Prop := s ≤ 63 ∧ 9223372036854775808 ≤ y * 2 ^ s ∧ y * 2 ^ s < 18446744073709551616
theorem lz_norm (y : Nat) (w : World) (h0 : 0 < y) (h1 : y < 18446744073709551616) :
    Calls Try.prog 97 #[.int .u64 (y : Int)] w fun e w' => (∃ s : Nat, Norm y s ∧ e = .returned (.int .i64 (s : Int))) ∧ w = w' := by
  refine (lz_any y w h1).mono ?_
  rintro e w' ⟨rfl, rfl⟩
  obtain ⟨a, b, c, d⟩ := bitLen_bounds 64 y h0 h1 (Nat.le_refl _)
  generalize Lib.bitLen y = n at *
  refine ⟨⟨64 - n, ⟨by omega, ?_, ?_⟩, ?_⟩, rfl⟩
  · have h := Nat.mul_le_mul_right (2 ^ (64 - n)) c
    rw [← Nat.pow_add, show n - 1 + (64 - n) = 63 by omega] at h
    exact h
  · have h := Nat.mul_lt_mul_of_pos_right d (Nat.pow_pos (n := 64 - n) (show 0 < 2 by decide))
    rw [← Nat.pow_add, show n + (64 - n) = 64 by omega] at h
    exact h
  · rw [show (64 : Int) - (n : Int) = ((64 - n : Nat) : Int) by omega]

theorem ret_qr {a b c d : Int} (h : a = b) (g : c = d) : Ending.returned (.tuple #[.int .u64 a, .int .u64 c]) = .returned (.tuple #[.int .u64 b, .int .u64 d]) := by rw [h, g]
theorem wrap_nat (n : Nat) (h : n < 18446744073709551616) : IntKind.u64.wrap (n : Int) = (n : Int) := by rw [IntKind.wrap_u64]; omega
theorem wrap_mod (n : Nat) : IntKind.u64.wrap (n : Int) = ((n % 18446744073709551616 : Nat) : Int) := by rw [IntKind.wrap_u64]; omega
theorem pow_cast (s : Nat) : ((2 : Int) ^ s) = ((2 ^ s : Nat) : Int) := by rw [Int.natCast_pow]; rfl
theorem shl_nat (x s : Nat) : (x : Int) * 2 ^ s = ((x * 2 ^ s : Nat) : Int) := by rw [pow_cast, Int.natCast_mul]
theorem mask_low (n : Nat) (h : n < 18446744073709551616) : bits .and .u64 (n : Int) 4294967295 = ((n % 4294967296 : Nat) : Int) := by
  have h1 := bits_and_u64_nat n 4294967295 h (by decide)
  rw [show n &&& 4294967295 = n % 4294967296 from Nat.and_two_pow_sub_one_eq_mod n 32] at h1
  exact h1
/-- The number moved up by s digits: its high and its low half. -/
theorem shift_halves (hi lo y s : Nat) (hs : s ≤ 63) (hlt : hi < y) (hlo : lo < 18446744073709551616) (hY : y * 2 ^ s < 18446744073709551616) :
    bits .or .u64 (IntKind.u64.wrap ((hi : Int) * 2 ^ s)) ((lo : Int) / 2 ^ (64 - s)) = ((hi * 2 ^ s + lo / 2 ^ (64 - s) : Nat) : Int) ∧
    IntKind.u64.wrap ((lo : Int) * 2 ^ s) = ((lo * 2 ^ s % 18446744073709551616 : Nat) : Int) ∧
    (hi * 18446744073709551616 + lo) * 2 ^ s = (hi * 2 ^ s + lo / 2 ^ (64 - s)) * 18446744073709551616 + lo * 2 ^ s % 18446744073709551616 ∧
    hi * 2 ^ s + lo / 2 ^ (64 - s) < y * 2 ^ s := by
  have hp : 0 < 2 ^ s := Nat.pow_pos (by decide)
  have e64 : 2 ^ (64 - s) * 2 ^ s = 18446744073709551616 := by rw [← Nat.pow_add, show 64 - s + s = 64 by omega]
  have hdiv : lo * 2 ^ s / 18446744073709551616 = lo / 2 ^ (64 - s) := by rw [← e64, Nat.mul_div_mul_right _ _ hp]
  have hc : lo / 2 ^ (64 - s) < 2 ^ s := by
    rw [Nat.div_lt_iff_lt_mul (Nat.pow_pos (by decide)), Nat.mul_comm, e64]; exact hlo
  have h1 : (hi + 1) * 2 ^ s ≤ y * 2 ^ s := Nat.mul_le_mul_right _ hlt
  rw [Nat.add_mul, Nat.one_mul] at h1
  have h2 := Nat.div_add_mod (lo * 2 ^ s) 18446744073709551616
  refine ⟨?_, ?_, ?_, by omega⟩
  · rw [shl_nat, wrap_nat _ (by omega), pow_cast, ← Int.natCast_ediv]
    rw [bits_or_u64_nat _ _ (by omega) (by omega)]
    rw [← Nat.shiftLeft_eq, Nat.shiftLeft_add_eq_or_of_lt hc]
  · rw [shl_nat, wrap_mod]
  · rw [Nat.add_mul, hdiv] at *
    have e3 : hi * 18446744073709551616 * 2 ^ s = hi * 2 ^ s * 18446744073709551616 := Nat.mul_right_comm _ _ _
    omega

/-- The high half is 0. -/
theorem div64_low (lo y : Nat) (w : World) (hy : 0 < y) (hlo : lo < 18446744073709551616) (hy2 : y < 18446744073709551616) :
    Calls Try.prog 88 #[.int .u64 0, .int .u64 (lo : Int), .int .u64 (y : Int)] w fun e w' => e = .returned (.tuple #[.int .u64 ((lo / y : Nat) : Int), .int .u64 ((lo % y : Nat) : Int)]) ∧ ∃ n, w' = w.drewN n := by
  have h0 : ((y : Int) == 0) = false := by simp; omega
  go_enter Try.func88, Try.ntmps88
  go_wp2
  go_quiet (fail)
  go_wp2
  go_ret2
  exact ⟨ret_qr (by rw [← Int.natCast_ediv, wrap_nat _ (Nat.lt_of_le_of_lt (Nat.div_le_self _ _) hlo)]) rfl, _, rfl⟩

/-- What a loop of the division finds. -/
theorem rest_wrap {u d Y Q v : Nat} (h : KIn u d Y) (hQ : Q = (u * 4294967296 + d) / Y) (hv : v = (u * 4294967296 + d) % Y) :
    IntKind.u64.wrap (IntKind.u64.wrap (IntKind.u64.wrap ((u : Int) * 4294967296) + (d : Int)) - IntKind.u64.wrap ((Q : Int) * (Y : Int))) = (v : Int) := by
  obtain ⟨i1, i2, i3, i4⟩ := h
  have hm := Nat.div_add_mod (u * 4294967296 + d) Y
  have hlt := Nat.mod_lt (u * 4294967296 + d) (show 0 < Y by omega)
  rw [← hQ, ← hv] at hm
  rw [← hv] at hlt
  rw [← Int.natCast_mul, Nat.mul_comm Q Y]
  simp only [IntKind.wrap_u64]
  generalize Y * Q = p at *
  omega

theorem tail_ret {N y u l Y s Q1 Q2 v z l1 l0 : Nat}
    (h : (u * 4294967296 + l / 4294967296) / Y * 4294967296 + ((u * 4294967296 + l / 4294967296) % Y * 4294967296 + l % 4294967296) / Y = N / y ∧
      ((u * 4294967296 + l / 4294967296) % Y * 4294967296 + l % 4294967296) % Y / 2 ^ s = N % y)
    (h1 : Q1 = (u * 4294967296 + l1) / Y) (hv : v = (u * 4294967296 + l1) % Y) (h2 : Q2 = (v * 4294967296 + l0) / Y) (hz : z = (v * 4294967296 + l0) % Y) (hl1 : l1 = l / 4294967296) (hl0 : l0 = l % 4294967296) :
    Ending.returned (.tuple #[.int .u64 ((Q1 : Int) * 4294967296 + (Q2 : Int)), .int .u64 ((z : Int) / 2 ^ s)]) = .returned (.tuple #[.int .u64 ((N / y : Nat) : Int), .int .u64 ((N % y : Nat) : Int)]) := by
  rw [← hl1, ← hl0, ← hv, ← hz, ← h1, ← h2] at h
  rw [← h.1, ← h.2, pow_cast]
  refine ret_qr ?_ ?_
  · omega
  · rw [← Int.natCast_ediv]

set_option maxHeartbeats 40000000 in
set_option maxRecDepth 100000 in
theorem div64_high (hi lo y : Nat) (w : World) (hhi : 0 < hi) (hlt : hi < y) (hlo : lo < 18446744073709551616) (hy2 : y < 18446744073709551616) :
    Calls Try.prog 88 #[.int .u64 (hi : Int), .int .u64 (lo : Int), .int .u64 (y : Int)] w fun e w' =>
      e = .returned (.tuple #[.int .u64 (((hi * 18446744073709551616 + lo) / y : Nat) : Int), .int .u64 (((hi * 18446744073709551616 + lo) % y : Nat) : Int)]) ∧ w' = w := by
  have h0 : ((y : Int) == 0) = false := by simp; omega
  have h1 : ((hi : Int) == 0) = false := by simp; omega
  go_enter Try.func88, Try.ntmps88
  go_wp2_with fail
  refine (lz_norm y w (by omega) hy2).mono ?_
  rintro e w' ⟨⟨s, ⟨hs, hn1, hn2⟩, rfl⟩, rfl⟩
  obtain ⟨c1, c2, c3, c4⟩ := shift_halves hi lo y s hs hlt hlo hn2
  have c5 : IntKind.u64.wrap ((y : Int) * 2 ^ s) = ((y * 2 ^ s : Nat) : Int) := by rw [shl_nat, wrap_nat _ hn2]
  have hlm : lo * 2 ^ s % 18446744073709551616 < 18446744073709551616 := Nat.mod_lt _ (by decide)
  obtain ⟨Y, hY⟩ : ∃ Y, Y = y * 2 ^ s := ⟨_, rfl⟩
  obtain ⟨u, hu⟩ : ∃ u, u = hi * 2 ^ s + lo / 2 ^ (64 - s) := ⟨_, rfl⟩
  obtain ⟨l, hl⟩ : ∃ l, l = lo * 2 ^ s % 18446744073709551616 := ⟨_, rfl⟩
  have HEND := Lib.hid (two_halves_at (K := 4294967296) hY (by omega : 0 < y) (by rw [c3, ← hu, ← hl] : (hi * 18446744073709551616 + lo) * 2 ^ s = u * (4294967296 * 4294967296) + l))
  rw [← hY] at hn1 hn2 c4 c5
  rw [← hu] at c1 c4
  rw [← hl] at c2 hlm
  clear hY hu hl c3
  have hin : KIn u (l / 4294967296) Y := ⟨hn1, hn2, c4, by omega⟩
  obtain ⟨hst, hle⟩ := k_start hin
  obtain ⟨y1, hy1⟩ : ∃ n, n = Y / 4294967296 := ⟨_, rfl⟩
  obtain ⟨l1, hl1⟩ : ∃ n, n = l / 4294967296 := ⟨_, rfl⟩
  obtain ⟨l0, hl0⟩ : ∃ n, n = l % 4294967296 := ⟨_, rfl⟩
  obtain ⟨y0, hy0⟩ : ∃ n, n = Y % 4294967296 := ⟨_, rfl⟩
  have c6 : bits .and .u64 (Y : Int) 4294967295 = (y0 : Int) := by rw [mask_low Y hn2, hy0]
  have c7 : bits .and .u64 (l : Int) 4294967295 = (l0 : Int) := by rw [mask_low l hlm, hl0]
  have c8 : (Y : Int) / 4294967296 = (y1 : Int) := by omega
  have c9 : (l : Int) / 4294967296 = (l1 : Int) := by omega
  rw [← hy1] at hst hle
  rw [← hl1] at hin hst
  obtain ⟨g, hg⟩ : ∃ n, n = u / y1 := ⟨_, rfl⟩
  rw [← hg] at hst hle
  obtain ⟨p, hp⟩ : ∃ n, n = g * y1 := ⟨_, rfl⟩
  rw [← hp] at hst hle
  have c10 : (u : Int) / (y1 : Int) = (g : Int) := by rw [hg]; rfl
  have hgb := hst.2.2.1
  have c11 : IntKind.u64.wrap (g : Int) = (g : Int) := wrap_nat g (by omega)
  have c12 : IntKind.u64.wrap ((g : Int) * (y1 : Int)) = (p : Int) := by rw [← Int.natCast_mul, ← hp, wrap_nat _ (by omega)]
  have b1 : 2147483648 ≤ y1 := by omega
  have b2 : y1 ≤ 4294967295 := by omega
  have b3 : y0 ≤ 4294967295 := by omega
  have b4 : l1 ≤ 4294967295 := by omega
  have b5 : l0 ≤ 4294967295 := by omega
  have HY1 := Lib.hid hy1
  have HY0 := Lib.hid hy0
  have HL1 := Lib.hid hl1
  have HL0 := Lib.hid hl0
  clear hy1 hy0 hl1 hl0 hg hp
  go_wp2_with fail
  have HST := Lib.hid hst
  have HLE := Lib.hid hle
  have HIN := Lib.hid hin
  clear hst hle hin hgb c1 c2 c4 c5 c6 c7 c8 c9 c10 c11 c12 hn1 hlm h0 h1 hlo
  go_loop [15, 16] (fun q r => ∃ Q R : Nat, q = .int .u64 (Q : Int) ∧ r = .int .u64 (R : Int) ∧ KRel u l1 Y Q R) (fun q _ => (intOf q).toNat)
  case atStart => exact ⟨g, u - p, rfl, by rw [show ((u - p : Nat) : Int) = (u : Int) - (p : Int) by have := HLE.out; omega], HST.out⟩
  case round =>
    obtain ⟨Q, R, rfl, rfl, hrel⟩ := hrel
    obtain ⟨t, ht⟩ : ∃ n, n = Q * y0 := ⟨_, rfl⟩
    have hR := hrel.2.1
    have hQ := hrel.2.2.1
    have htb : t < 18446744073709551616 := by rw [ht, HY0.out]; exact k_prod hrel
    have d1 : IntKind.u64.wrap ((Q : Int) * (y0 : Int)) = (t : Int) := by rw [← Int.natCast_mul, ← ht, wrap_nat _ htb]
    have hstep := k_step HIN.out hrel
    have hdone := k_done HIN.out hrel
    rw [← HY0.out, ← HY1.out, ← ht] at hstep
    rw [← HY0.out, ← ht] at hdone
    have HS := Lib.hid hstep
    have HDn := Lib.hid hdone
    clear ht hstep hdone
    have hcase : (4294967296 ≤ Q ∧ R + y1 < 4294967296) ∨ (Q < 4294967296 ∧ 4294967296 * R + l1 < t ∧ R + y1 < 4294967296) ∨
        (4294967296 ≤ Q ∧ 4294967296 ≤ R + y1) ∨ (Q < 4294967296 ∧ 4294967296 * R + l1 < t ∧ 4294967296 ≤ R + y1) ∨ (Q < 4294967296 ∧ t ≤ 4294967296 * R + l1) := by omega
    rcases hcase with ⟨k1, k2⟩ | ⟨k1, k3, k2⟩ | ⟨k1, k2⟩ | ⟨k1, k3, k2⟩ | ⟨k1, k3⟩
    · obtain ⟨s1, s2, _⟩ := HS.out (.inl k1)
      have hnew := Lib.hid (s2 k2)
      have t1 : decide ((4294967296 : Int) ≤ (Q : Int)) = true := by rw [decide_eq_true_iff]; omega
      have t2 : decide ((4294967296 : Int) ≤ (R : Int) + (y1 : Int)) = false := by rw [decide_eq_false_iff_not]; omega
      clear s2 k1 k2
      go_wp2_with fail
      go_round
      case rel => exact ⟨Q - 1, R + y1, by go_num, by go_num, hnew.out⟩
      case measure => simp [intOf]; omega
    · obtain ⟨s1, s2, _⟩ := HS.out (.inr k3)
      have hnew := Lib.hid (s2 k2)
      have t1 : decide ((4294967296 : Int) ≤ (Q : Int)) = false := by rw [decide_eq_false_iff_not]; omega
      have t2 : decide ((4294967296 : Int) ≤ (R : Int) + (y1 : Int)) = false := by rw [decide_eq_false_iff_not]; omega
      have t3 : decide ((4294967296 : Int) * (R : Int) + (l1 : Int) < (t : Int)) = true := by rw [decide_eq_true_iff]; omega
      clear s2 k1 k2 k3
      go_wp2_with fail
      go_round
      case rel => exact ⟨Q - 1, R + y1, by go_num, by go_num, hnew.out⟩
      case measure => simp [intOf]; omega
    · obtain ⟨s1, _, s3⟩ := HS.out (.inl k1)
      obtain ⟨N, hN⟩ : ∃ n, n = Q - 1 := ⟨_, rfl⟩
      have HN : Hid (N = _) := hN.trans (s3 k2)
      have e1 : (Q : Int) - 1 = (N : Int) := by omega
      have t1 : decide ((4294967296 : Int) ≤ (Q : Int)) = true := by rw [decide_eq_true_iff]; omega
      have t2 : decide ((4294967296 : Int) ≤ (R : Int) + (y1 : Int)) = true := by rw [decide_eq_true_iff]; omega
      clear s3 k1 k2 hN HS HDn
      obtain ⟨v, hv⟩ : ∃ n, n = (u * 4294967296 + l1) % Y := ⟨_, rfl⟩
      have r1 := rest_wrap HIN.out HN.out hv
      have hNb : N < 4294967296 := by have := HN.out; rw [this]; exact HIN.out.lt
      have hvY : v < Y := by rw [hv]; exact Nat.mod_lt _ (Nat.lt_of_lt_of_le (by decide) HIN.out.1)
      have hin2 : KIn v l0 Y := ⟨HIN.out.1, HIN.out.2.1, hvY, by omega⟩
      obtain ⟨hst, hle⟩ := k_start hin2
      rw [← HY1.out] at hst hle
      obtain ⟨g, hg⟩ : ∃ n, n = v / y1 := ⟨_, rfl⟩
      rw [← hg] at hst hle
      obtain ⟨p, hp⟩ : ∃ n, n = g * y1 := ⟨_, rfl⟩
      rw [← hp] at hst hle
      have c10 : (v : Int) / (y1 : Int) = (g : Int) := by rw [hg]; rfl
      have hgb := hst.2.2.1
      have c11 : IntKind.u64.wrap (g : Int) = (g : Int) := wrap_nat g (by omega)
      have c12 : IntKind.u64.wrap ((g : Int) * (y1 : Int)) = (p : Int) := by rw [← Int.natCast_mul, ← hp, wrap_nat _ (by omega)]
      have HV := Lib.hid hv
      have HN1 := HN
      clear hv hg hp HN
      go_wp2_with fail
      have HST := Lib.hid hst
      have HLE := Lib.hid hle
      have HIN2 := Lib.hid hin2
      clear hst hle hin2 hgb c10 c11 c12 r1 d1 t1 htb hR hQ hrel
      try clear t2
      try clear t3
      try clear e1
      obtain ⟨N1, rfl⟩ : ∃ n, n = N := ⟨_, rfl⟩
      go_loop [18, 16] (fun q r => ∃ Q R : Nat, q = .int .u64 (Q : Int) ∧ r = .int .u64 (R : Int) ∧ KRel v l0 Y Q R) (fun q _ => (intOf q).toNat)
      case atStart => exact ⟨g, v - p, rfl, by rw [show ((v - p : Nat) : Int) = (v : Int) - (p : Int) by have := HLE.out; omega], HST.out⟩
      case round =>
        obtain ⟨P, S, rfl, rfl, hrel⟩ := hrel
        obtain ⟨t, ht⟩ : ∃ n, n = P * y0 := ⟨_, rfl⟩
        have hR := hrel.2.1
        have hQ := hrel.2.2.1
        have htb : t < 18446744073709551616 := by rw [ht, HY0.out]; exact k_prod hrel
        have d1 : IntKind.u64.wrap ((P : Int) * (y0 : Int)) = (t : Int) := by rw [← Int.natCast_mul, ← ht, wrap_nat _ htb]
        have hstep := k_step HIN2.out hrel
        have hdone := k_done HIN2.out hrel
        rw [← HY0.out, ← HY1.out, ← ht] at hstep
        rw [← HY0.out, ← ht] at hdone
        have HS := Lib.hid hstep
        have HDn := Lib.hid hdone
        clear ht hstep hdone
        have hcase : (4294967296 ≤ P ∧ S + y1 < 4294967296) ∨ (P < 4294967296 ∧ 4294967296 * S + l0 < t ∧ S + y1 < 4294967296) ∨
            (4294967296 ≤ P ∧ 4294967296 ≤ S + y1) ∨ (P < 4294967296 ∧ 4294967296 * S + l0 < t ∧ 4294967296 ≤ S + y1) ∨ (P < 4294967296 ∧ t ≤ 4294967296 * S + l0) := by omega
        rcases hcase with ⟨k1, k2⟩ | ⟨k1, k3, k2⟩ | ⟨k1, k2⟩ | ⟨k1, k3, k2⟩ | ⟨k1, k3⟩
        · obtain ⟨s1, s2, _⟩ := HS.out (.inl k1)
          have hnew := Lib.hid (s2 k2)
          have t1 : decide ((4294967296 : Int) ≤ (P : Int)) = true := by rw [decide_eq_true_iff]; omega
          have t2 : decide ((4294967296 : Int) ≤ (S : Int) + (y1 : Int)) = false := by rw [decide_eq_false_iff_not]; omega
          clear s2 k1 k2
          go_wp2_with fail
          go_round
          case rel => exact ⟨P - 1, S + y1, by go_num, by go_num, hnew.out⟩
          case measure => simp [intOf]; omega
        · obtain ⟨s1, s2, _⟩ := HS.out (.inr k3)
          have hnew := Lib.hid (s2 k2)
          have t1 : decide ((4294967296 : Int) ≤ (P : Int)) = false := by rw [decide_eq_false_iff_not]; omega
          have t2 : decide ((4294967296 : Int) ≤ (S : Int) + (y1 : Int)) = false := by rw [decide_eq_false_iff_not]; omega
          have t3 : decide ((4294967296 : Int) * (S : Int) + (l0 : Int) < (t : Int)) = true := by rw [decide_eq_true_iff]; omega
          clear s2 k1 k2 k3
          go_wp2_with fail
          go_round
          case rel => exact ⟨P - 1, S + y1, by go_num, by go_num, hnew.out⟩
          case measure => simp [intOf]; omega
        · obtain ⟨s1, _, s3⟩ := HS.out (.inl k1)
          obtain ⟨N, hN⟩ : ∃ n, n = P - 1 := ⟨_, rfl⟩
          have HN : Hid (N = _) := hN.trans (s3 k2)
          have e1 : (P : Int) - 1 = (N : Int) := by omega
          have t1 : decide ((4294967296 : Int) ≤ (P : Int)) = true := by rw [decide_eq_true_iff]; omega
          have t2 : decide ((4294967296 : Int) ≤ (S : Int) + (y1 : Int)) = true := by rw [decide_eq_true_iff]; omega
          clear s3 k1 k2 hN HS HDn
          obtain ⟨z, hz⟩ : ∃ n, n = (v * 4294967296 + l0) % Y := ⟨_, rfl⟩
          have r2 := rest_wrap HIN2.out HN.out hz
          have hNb : N < 4294967296 := by have := HN.out; rw [this]; exact HIN2.out.lt
          have HZ := Lib.hid hz
          clear hz
          go_wp2
          go_ret2
          exact ⟨tail_ret HEND.out HN1.out HV.out HN.out HZ.out HL1.out HL0.out, rfl⟩
        · obtain ⟨s1, _, s3⟩ := HS.out (.inr k3)
          obtain ⟨N, hN⟩ : ∃ n, n = P - 1 := ⟨_, rfl⟩
          have HN : Hid (N = _) := hN.trans (s3 k2)
          have e1 : (P : Int) - 1 = (N : Int) := by omega
          have t1 : decide ((4294967296 : Int) ≤ (P : Int)) = false := by rw [decide_eq_false_iff_not]; omega
          have t2 : decide ((4294967296 : Int) ≤ (S : Int) + (y1 : Int)) = true := by rw [decide_eq_true_iff]; omega
          have t3 : decide ((4294967296 : Int) * (S : Int) + (l0 : Int) < (t : Int)) = true := by rw [decide_eq_true_iff]; omega
          clear s3 k1 k2 k3 hN HS HDn
          obtain ⟨z, hz⟩ : ∃ n, n = (v * 4294967296 + l0) % Y := ⟨_, rfl⟩
          have r2 := rest_wrap HIN2.out HN.out hz
          have hNb : N < 4294967296 := by have := HN.out; rw [this]; exact HIN2.out.lt
          have HZ := Lib.hid hz
          clear hz
          go_wp2
          go_ret2
          exact ⟨tail_ret HEND.out HN1.out HV.out HN.out HZ.out HL1.out HL0.out, rfl⟩
        · have HN := Lib.hid (HDn.out k1 k3)
          obtain ⟨N, rfl⟩ : ∃ n, n = P := ⟨_, rfl⟩
          have t1 : decide ((4294967296 : Int) ≤ (N : Int)) = false := by rw [decide_eq_false_iff_not]; omega
          have t3 : decide ((4294967296 : Int) * (S : Int) + (l0 : Int) < (t : Int)) = false := by rw [decide_eq_false_iff_not]; omega
          clear k1 k3 HS HDn
          obtain ⟨z, hz⟩ : ∃ n, n = (v * 4294967296 + l0) % Y := ⟨_, rfl⟩
          have r2 := rest_wrap HIN2.out HN.out hz
          have hNb : N < 4294967296 := by have := HN.out; rw [this]; exact HIN2.out.lt
          have HZ := Lib.hid hz
          clear hz
          go_wp2
          go_ret2
          exact ⟨tail_ret HEND.out HN1.out HV.out HN.out HZ.out HL1.out HL0.out, rfl⟩
    · obtain ⟨s1, _, s3⟩ := HS.out (.inr k3)
      obtain ⟨N, hN⟩ : ∃ n, n = Q - 1 := ⟨_, rfl⟩
      have HN : Hid (N = _) := hN.trans (s3 k2)
      have e1 : (Q : Int) - 1 = (N : Int) := by omega
      have t1 : decide ((4294967296 : Int) ≤ (Q : Int)) = false := by rw [decide_eq_false_iff_not]; omega
      have t2 : decide ((4294967296 : Int) ≤ (R : Int) + (y1 : Int)) = true := by rw [decide_eq_true_iff]; omega
      have t3 : decide ((4294967296 : Int) * (R : Int) + (l1 : Int) < (t : Int)) = true := by rw [decide_eq_true_iff]; omega
      clear s3 k1 k2 k3 hN HS HDn
      obtain ⟨v, hv⟩ : ∃ n, n = (u * 4294967296 + l1) % Y := ⟨_, rfl⟩
      have r1 := rest_wrap HIN.out HN.out hv
      have hNb : N < 4294967296 := by have := HN.out; rw [this]; exact HIN.out.lt
      have hvY : v < Y := by rw [hv]; exact Nat.mod_lt _ (Nat.lt_of_lt_of_le (by decide) HIN.out.1)
      have hin2 : KIn v l0 Y := ⟨HIN.out.1, HIN.out.2.1, hvY, by omega⟩
      obtain ⟨hst, hle⟩ := k_start hin2
      rw [← HY1.out] at hst hle
      obtain ⟨g, hg⟩ : ∃ n, n = v / y1 := ⟨_, rfl⟩
      rw [← hg] at hst hle
      obtain ⟨p, hp⟩ : ∃ n, n = g * y1 := ⟨_, rfl⟩
      rw [← hp] at hst hle
      have c10 : (v : Int) / (y1 : Int) = (g : Int) := by rw [hg]; rfl
      have hgb := hst.2.2.1
      have c11 : IntKind.u64.wrap (g : Int) = (g : Int) := wrap_nat g (by omega)
      have c12 : IntKind.u64.wrap ((g : Int) * (y1 : Int)) = (p : Int) := by rw [← Int.natCast_mul, ← hp, wrap_nat _ (by omega)]
      have HV := Lib.hid hv
      have HN1 := HN
      clear hv hg hp HN
      go_wp2_with fail
      have HST := Lib.hid hst
      have HLE := Lib.hid hle
      have HIN2 := Lib.hid hin2
      clear hst hle hin2 hgb c10 c11 c12 r1 d1 t1 htb hR hQ hrel
      try clear t2
      try clear t3
      try clear e1
      obtain ⟨N1, rfl⟩ : ∃ n, n = N := ⟨_, rfl⟩
      go_loop [18, 16] (fun q r => ∃ Q R : Nat, q = .int .u64 (Q : Int) ∧ r = .int .u64 (R : Int) ∧ KRel v l0 Y Q R) (fun q _ => (intOf q).toNat)
      case atStart => exact ⟨g, v - p, rfl, by rw [show ((v - p : Nat) : Int) = (v : Int) - (p : Int) by have := HLE.out; omega], HST.out⟩
      case round =>
        obtain ⟨P, S, rfl, rfl, hrel⟩ := hrel
        obtain ⟨t, ht⟩ : ∃ n, n = P * y0 := ⟨_, rfl⟩
        have hR := hrel.2.1
        have hQ := hrel.2.2.1
        have htb : t < 18446744073709551616 := by rw [ht, HY0.out]; exact k_prod hrel
        have d1 : IntKind.u64.wrap ((P : Int) * (y0 : Int)) = (t : Int) := by rw [← Int.natCast_mul, ← ht, wrap_nat _ htb]
        have hstep := k_step HIN2.out hrel
        have hdone := k_done HIN2.out hrel
        rw [← HY0.out, ← HY1.out, ← ht] at hstep
        rw [← HY0.out, ← ht] at hdone
        have HS := Lib.hid hstep
        have HDn := Lib.hid hdone
        clear ht hstep hdone
        have hcase : (4294967296 ≤ P ∧ S + y1 < 4294967296) ∨ (P < 4294967296 ∧ 4294967296 * S + l0 < t ∧ S + y1 < 4294967296) ∨
            (4294967296 ≤ P ∧ 4294967296 ≤ S + y1) ∨ (P < 4294967296 ∧ 4294967296 * S + l0 < t ∧ 4294967296 ≤ S + y1) ∨ (P < 4294967296 ∧ t ≤ 4294967296 * S + l0) := by omega
        rcases hcase with ⟨k1, k2⟩ | ⟨k1, k3, k2⟩ | ⟨k1, k2⟩ | ⟨k1, k3, k2⟩ | ⟨k1, k3⟩
        · obtain ⟨s1, s2, _⟩ := HS.out (.inl k1)
          have hnew := Lib.hid (s2 k2)
          have t1 : decide ((4294967296 : Int) ≤ (P : Int)) = true := by rw [decide_eq_true_iff]; omega
          have t2 : decide ((4294967296 : Int) ≤ (S : Int) + (y1 : Int)) = false := by rw [decide_eq_false_iff_not]; omega
          clear s2 k1 k2
          go_wp2_with fail
          go_round
          case rel => exact ⟨P - 1, S + y1, by go_num, by go_num, hnew.out⟩
          case measure => simp [intOf]; omega
        · obtain ⟨s1, s2, _⟩ := HS.out (.inr k3)
          have hnew := Lib.hid (s2 k2)
          have t1 : decide ((4294967296 : Int) ≤ (P : Int)) = false := by rw [decide_eq_false_iff_not]; omega
          have t2 : decide ((4294967296 : Int) ≤ (S : Int) + (y1 : Int)) = false := by rw [decide_eq_false_iff_not]; omega
          have t3 : decide ((4294967296 : Int) * (S : Int) + (l0 : Int) < (t : Int)) = true := by rw [decide_eq_true_iff]; omega
          clear s2 k1 k2 k3
          go_wp2_with fail
          go_round
          case rel => exact ⟨P - 1, S + y1, by go_num, by go_num, hnew.out⟩
          case measure => simp [intOf]; omega
        · obtain ⟨s1, _, s3⟩ := HS.out (.inl k1)
          obtain ⟨N, hN⟩ : ∃ n, n = P - 1 := ⟨_, rfl⟩
          have HN : Hid (N = _) := hN.trans (s3 k2)
          have e1 : (P : Int) - 1 = (N : Int) := by omega
          have t1 : decide ((4294967296 : Int) ≤ (P : Int)) = true := by rw [decide_eq_true_iff]; omega
          have t2 : decide ((4294967296 : Int) ≤ (S : Int) + (y1 : Int)) = true := by rw [decide_eq_true_iff]; omega
          clear s3 k1 k2 hN HS HDn
          obtain ⟨z, hz⟩ : ∃ n, n = (v * 4294967296 + l0) % Y := ⟨_, rfl⟩
          have r2 := rest_wrap HIN2.out HN.out hz
          have hNb : N < 4294967296 := by have := HN.out; rw [this]; exact HIN2.out.lt
          have HZ := Lib.hid hz
          clear hz
          go_wp2
          go_ret2
          exact ⟨tail_ret HEND.out HN1.out HV.out HN.out HZ.out HL1.out HL0.out, rfl⟩
        · obtain ⟨s1, _, s3⟩ := HS.out (.inr k3)
          obtain ⟨N, hN⟩ : ∃ n, n = P - 1 := ⟨_, rfl⟩
          have HN : Hid (N = _) := hN.trans (s3 k2)
          have e1 : (P : Int) - 1 = (N : Int) := by omega
          have t1 : decide ((4294967296 : Int) ≤ (P : Int)) = false := by rw [decide_eq_false_iff_not]; omega
          have t2 : decide ((4294967296 : Int) ≤ (S : Int) + (y1 : Int)) = true := by rw [decide_eq_true_iff]; omega
          have t3 : decide ((4294967296 : Int) * (S : Int) + (l0 : Int) < (t : Int)) = true := by rw [decide_eq_true_iff]; omega
          clear s3 k1 k2 k3 hN HS HDn
          obtain ⟨z, hz⟩ : ∃ n, n = (v * 4294967296 + l0) % Y := ⟨_, rfl⟩
          have r2 := rest_wrap HIN2.out HN.out hz
          have hNb : N < 4294967296 := by have := HN.out; rw [this]; exact HIN2.out.lt
          have HZ := Lib.hid hz
          clear hz
          go_wp2
          go_ret2
          exact ⟨tail_ret HEND.out HN1.out HV.out HN.out HZ.out HL1.out HL0.out, rfl⟩
        · have HN := Lib.hid (HDn.out k1 k3)
          obtain ⟨N, rfl⟩ : ∃ n, n = P := ⟨_, rfl⟩
          have t1 : decide ((4294967296 : Int) ≤ (N : Int)) = false := by rw [decide_eq_false_iff_not]; omega
          have t3 : decide ((4294967296 : Int) * (S : Int) + (l0 : Int) < (t : Int)) = false := by rw [decide_eq_false_iff_not]; omega
          clear k1 k3 HS HDn
          obtain ⟨z, hz⟩ : ∃ n, n = (v * 4294967296 + l0) % Y := ⟨_, rfl⟩
          have r2 := rest_wrap HIN2.out HN.out hz
          have hNb : N < 4294967296 := by have := HN.out; rw [this]; exact HIN2.out.lt
          have HZ := Lib.hid hz
          clear hz
          go_wp2
          go_ret2
          exact ⟨tail_ret HEND.out HN1.out HV.out HN.out HZ.out HL1.out HL0.out, rfl⟩
    · have HN := Lib.hid (HDn.out k1 k3)
      obtain ⟨N, rfl⟩ : ∃ n, n = Q := ⟨_, rfl⟩
      have t1 : decide ((4294967296 : Int) ≤ (N : Int)) = false := by rw [decide_eq_false_iff_not]; omega
      have t3 : decide ((4294967296 : Int) * (R : Int) + (l1 : Int) < (t : Int)) = false := by rw [decide_eq_false_iff_not]; omega
      clear k1 k3 HS HDn
      obtain ⟨v, hv⟩ : ∃ n, n = (u * 4294967296 + l1) % Y := ⟨_, rfl⟩
      have r1 := rest_wrap HIN.out HN.out hv
      have hNb : N < 4294967296 := by have := HN.out; rw [this]; exact HIN.out.lt
      have hvY : v < Y := by rw [hv]; exact Nat.mod_lt _ (Nat.lt_of_lt_of_le (by decide) HIN.out.1)
      have hin2 : KIn v l0 Y := ⟨HIN.out.1, HIN.out.2.1, hvY, by omega⟩
      obtain ⟨hst, hle⟩ := k_start hin2
      rw [← HY1.out] at hst hle
      obtain ⟨g, hg⟩ : ∃ n, n = v / y1 := ⟨_, rfl⟩
      rw [← hg] at hst hle
      obtain ⟨p, hp⟩ : ∃ n, n = g * y1 := ⟨_, rfl⟩
      rw [← hp] at hst hle
      have c10 : (v : Int) / (y1 : Int) = (g : Int) := by rw [hg]; rfl
      have hgb := hst.2.2.1
      have c11 : IntKind.u64.wrap (g : Int) = (g : Int) := wrap_nat g (by omega)
      have c12 : IntKind.u64.wrap ((g : Int) * (y1 : Int)) = (p : Int) := by rw [← Int.natCast_mul, ← hp, wrap_nat _ (by omega)]
      have HV := Lib.hid hv
      have HN1 := HN
      clear hv hg hp HN
      go_wp2_with fail
      have HST := Lib.hid hst
      have HLE := Lib.hid hle
      have HIN2 := Lib.hid hin2
      clear hst hle hin2 hgb c10 c11 c12 r1 d1 t1 htb hR hQ hrel
      try clear t2
      try clear t3
      try clear e1
      obtain ⟨N1, rfl⟩ : ∃ n, n = N := ⟨_, rfl⟩
      go_loop [18, 16] (fun q r => ∃ Q R : Nat, q = .int .u64 (Q : Int) ∧ r = .int .u64 (R : Int) ∧ KRel v l0 Y Q R) (fun q _ => (intOf q).toNat)
      case atStart => exact ⟨g, v - p, rfl, by rw [show ((v - p : Nat) : Int) = (v : Int) - (p : Int) by have := HLE.out; omega], HST.out⟩
      case round =>
        obtain ⟨P, S, rfl, rfl, hrel⟩ := hrel
        obtain ⟨t, ht⟩ : ∃ n, n = P * y0 := ⟨_, rfl⟩
        have hR := hrel.2.1
        have hQ := hrel.2.2.1
        have htb : t < 18446744073709551616 := by rw [ht, HY0.out]; exact k_prod hrel
        have d1 : IntKind.u64.wrap ((P : Int) * (y0 : Int)) = (t : Int) := by rw [← Int.natCast_mul, ← ht, wrap_nat _ htb]
        have hstep := k_step HIN2.out hrel
        have hdone := k_done HIN2.out hrel
        rw [← HY0.out, ← HY1.out, ← ht] at hstep
        rw [← HY0.out, ← ht] at hdone
        have HS := Lib.hid hstep
        have HDn := Lib.hid hdone
        clear ht hstep hdone
        have hcase : (4294967296 ≤ P ∧ S + y1 < 4294967296) ∨ (P < 4294967296 ∧ 4294967296 * S + l0 < t ∧ S + y1 < 4294967296) ∨
            (4294967296 ≤ P ∧ 4294967296 ≤ S + y1) ∨ (P < 4294967296 ∧ 4294967296 * S + l0 < t ∧ 4294967296 ≤ S + y1) ∨ (P < 4294967296 ∧ t ≤ 4294967296 * S + l0) := by omega
        rcases hcase with ⟨k1, k2⟩ | ⟨k1, k3, k2⟩ | ⟨k1, k2⟩ | ⟨k1, k3, k2⟩ | ⟨k1, k3⟩
        · obtain ⟨s1, s2, _⟩ := HS.out (.inl k1)
          have hnew := Lib.hid (s2 k2)
          have t1 : decide ((4294967296 : Int) ≤ (P : Int)) = true := by rw [decide_eq_true_iff]; omega
          have t2 : decide ((4294967296 : Int) ≤ (S : Int) + (y1 : Int)) = false := by rw [decide_eq_false_iff_not]; omega
          clear s2 k1 k2
          go_wp2_with fail
          go_round
          case rel => exact ⟨P - 1, S + y1, by go_num, by go_num, hnew.out⟩
          case measure => simp [intOf]; omega
        · obtain ⟨s1, s2, _⟩ := HS.out (.inr k3)
          have hnew := Lib.hid (s2 k2)
          have t1 : decide ((4294967296 : Int) ≤ (P : Int)) = false := by rw [decide_eq_false_iff_not]; omega
          have t2 : decide ((4294967296 : Int) ≤ (S : Int) + (y1 : Int)) = false := by rw [decide_eq_false_iff_not]; omega
          have t3 : decide ((4294967296 : Int) * (S : Int) + (l0 : Int) < (t : Int)) = true := by rw [decide_eq_true_iff]; omega
          clear s2 k1 k2 k3
          go_wp2_with fail
          go_round
          case rel => exact ⟨P - 1, S + y1, by go_num, by go_num, hnew.out⟩
          case measure => simp [intOf]; omega
        · obtain ⟨s1, _, s3⟩ := HS.out (.inl k1)
          obtain ⟨N, hN⟩ : ∃ n, n = P - 1 := ⟨_, rfl⟩
          have HN : Hid (N = _) := hN.trans (s3 k2)
          have e1 : (P : Int) - 1 = (N : Int) := by omega
          have t1 : decide ((4294967296 : Int) ≤ (P : Int)) = true := by rw [decide_eq_true_iff]; omega
          have t2 : decide ((4294967296 : Int) ≤ (S : Int) + (y1 : Int)) = true := by rw [decide_eq_true_iff]; omega
          clear s3 k1 k2 hN HS HDn
          obtain ⟨z, hz⟩ : ∃ n, n = (v * 4294967296 + l0) % Y := ⟨_, rfl⟩
          have r2 := rest_wrap HIN2.out HN.out hz
          have hNb : N < 4294967296 := by have := HN.out; rw [this]; exact HIN2.out.lt
          have HZ := Lib.hid hz
          clear hz
          go_wp2
          go_ret2
          exact ⟨tail_ret HEND.out HN1.out HV.out HN.out HZ.out HL1.out HL0.out, rfl⟩
        · obtain ⟨s1, _, s3⟩ := HS.out (.inr k3)
          obtain ⟨N, hN⟩ : ∃ n, n = P - 1 := ⟨_, rfl⟩
          have HN : Hid (N = _) := hN.trans (s3 k2)
          have e1 : (P : Int) - 1 = (N : Int) := by omega
          have t1 : decide ((4294967296 : Int) ≤ (P : Int)) = false := by rw [decide_eq_false_iff_not]; omega
          have t2 : decide ((4294967296 : Int) ≤ (S : Int) + (y1 : Int)) = true := by rw [decide_eq_true_iff]; omega
          have t3 : decide ((4294967296 : Int) * (S : Int) + (l0 : Int) < (t : Int)) = true := by rw [decide_eq_true_iff]; omega
          clear s3 k1 k2 k3 hN HS HDn
          obtain ⟨z, hz⟩ : ∃ n, n = (v * 4294967296 + l0) % Y := ⟨_, rfl⟩
          have r2 := rest_wrap HIN2.out HN.out hz
          have hNb : N < 4294967296 := by have := HN.out; rw [this]; exact HIN2.out.lt
          have HZ := Lib.hid hz
          clear hz
          go_wp2
          go_ret2
          exact ⟨tail_ret HEND.out HN1.out HV.out HN.out HZ.out HL1.out HL0.out, rfl⟩
        · have HN := Lib.hid (HDn.out k1 k3)
          obtain ⟨N, rfl⟩ : ∃ n, n = P := ⟨_, rfl⟩
          have t1 : decide ((4294967296 : Int) ≤ (N : Int)) = false := by rw [decide_eq_false_iff_not]; omega
          have t3 : decide ((4294967296 : Int) * (S : Int) + (l0 : Int) < (t : Int)) = false := by rw [decide_eq_false_iff_not]; omega
          clear k1 k3 HS HDn
          obtain ⟨z, hz⟩ : ∃ n, n = (v * 4294967296 + l0) % Y := ⟨_, rfl⟩
          have r2 := rest_wrap HIN2.out HN.out hz
          have hNb : N < 4294967296 := by have := HN.out; rw [this]; exact HIN2.out.lt
          have HZ := Lib.hid hz
          clear hz
          go_wp2
          go_ret2
          exact ⟨tail_ret HEND.out HN1.out HV.out HN.out HZ.out HL1.out HL0.out, rfl⟩

end Go.Proofs.Ytajkhbdniadkkaa
