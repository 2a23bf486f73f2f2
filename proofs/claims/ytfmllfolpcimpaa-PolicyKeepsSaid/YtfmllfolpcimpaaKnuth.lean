/- Plain arithmetic of the long division of 128 bits by 64, on halves of 32 bits. No program is named here. -/
namespace Go.Proofs.Ytfmllfolpcimpaa

/-- What is found digit by digit: 'q' is too great, asked on halves. -/
theorem half_test {u d y q r : Nat} (hy : 0 < y) (hd : d < 4294967296) (hu : u < y) (h : q * (y / 4294967296) + r = u) :
    (4294967296 ≤ q ∨ 4294967296 * r + d < q * (y % 4294967296)) ↔ (u * 4294967296 + d) / y < q := by
  have hsplit := Nat.div_add_mod y 4294967296
  have e : q * y = 4294967296 * (q * (y / 4294967296)) + q * (y % 4294967296) := by
    conv => lhs; rw [← hsplit, Nat.mul_add, Nat.mul_left_comm]
  have e2 : 4294967296 * (q * (y / 4294967296)) + 4294967296 * r = u * 4294967296 := by
    rw [← Nat.mul_add, h, Nat.mul_comm]
  rw [Nat.div_lt_iff_lt_mul hy]
  constructor
  · rintro (hq | hq)
    · have h1 : 4294967296 * y ≤ q * y := Nat.mul_le_mul_right y hq
      have h2 : (u + 1) * 4294967296 ≤ y * 4294967296 := Nat.mul_le_mul_right _ hu
      omega
    · omega
  · intro hq
    right
    omega
/-- The first guess is at most two too great. -/
theorem half_guess {u y : Nat} (hy : 9223372036854775808 ≤ y) (hu : u < y) : u / (y / 4294967296) ≤ 4294967297 := by
  have h1 : 2147483648 ≤ y / 4294967296 := by omega
  have hsplit := Nat.div_add_mod y 4294967296
  have hm := Nat.mod_lt y (show 0 < 4294967296 by decide)
  generalize y / 4294967296 = a at *
  have h2 : u < a * 4294967298 := by omega
  have := (Nat.div_lt_iff_lt_mul (by omega : 0 < a)).2 (by rw [Nat.mul_comm]; exact h2)
  omega
theorem half_start {u y : Nat} (hu : u < y) (hy : 9223372036854775808 ≤ y) (d : Nat) (hd : d < 4294967296) : (u * 4294967296 + d) / y ≤ u / (y / 4294967296) := by
  have h1 : 2147483648 ≤ y / 4294967296 := by omega
  have h := Nat.div_add_mod u (y / 4294967296)
  rcases Nat.lt_or_ge (u / (y / 4294967296)) ((u * 4294967296 + d) / y) with g | g
  · exfalso
    have hr := Nat.mod_lt u (show 0 < y / 4294967296 by omega)
    have hsplit := Nat.div_add_mod y 4294967296
    have h2 : (u / (y / 4294967296) + 1) * y ≤ u * 4294967296 + d := by
      have := Nat.div_mul_le_self (u * 4294967296 + d) y
      exact Nat.le_trans (Nat.mul_le_mul_right y g) this
    have h3 : (u / (y / 4294967296) + 1) * (4294967296 * (y / 4294967296)) ≤ (u / (y / 4294967296) + 1) * y := Nat.mul_le_mul_left _ (by omega)
    have h4 : (u / (y / 4294967296) + 1) * (4294967296 * (y / 4294967296)) = 4294967296 * (y / 4294967296 * (u / (y / 4294967296))) + 4294967296 * (y / 4294967296) := by
      rw [Nat.add_mul, Nat.one_mul, Nat.mul_left_comm, Nat.mul_comm (u / _)]
    omega
  · exact g
/-- Where the rest of the guess passes 32 bits the guess isn't too great. -/
theorem half_break {u d y q r : Nat} (hy : 0 < y) (h : q * (y / 4294967296) + r = u) (hq : q ≤ 4294967296) (hr : 4294967296 ≤ r) : q ≤ (u * 4294967296 + d) / y := by
  have hsplit := Nat.div_add_mod y 4294967296
  have hm := Nat.mod_lt y (show 0 < 4294967296 by decide)
  rw [Nat.le_div_iff_mul_le hy]
  have e : q * y = 4294967296 * (q * (y / 4294967296)) + q * (y % 4294967296) := by
    conv => lhs; rw [← hsplit, Nat.mul_add, Nat.mul_left_comm]
  have e2 : 4294967296 * (q * (y / 4294967296)) + 4294967296 * r = u * 4294967296 := by
    rw [← Nat.mul_add, h, Nat.mul_comm]
  have h3 : q * (y % 4294967296) ≤ 4294967296 * 4294967296 := Nat.mul_le_mul hq (by omega)
  omega
/-- The rest of two digits. -/
theorem half_rest {u d y : Nat} (hy : 0 < y) (hy2 : y < 18446744073709551616) :
    ((((u : Int) * 4294967296 % 18446744073709551616 + (d : Int)) % 18446744073709551616) - (((u * 4294967296 + d) / y : Nat) : Int) * (y : Int) % 18446744073709551616) % 18446744073709551616 = (((u * 4294967296 + d) % y : Nat) : Int) := by
  have h := Nat.div_add_mod (u * 4294967296 + d) y
  have hlt := Nat.mod_lt (u * 4294967296 + d) hy
  rw [← Int.natCast_mul, Nat.mul_comm ((u * 4294967296 + d) / y) y]
  generalize (u * 4294967296 + d) % y = m at *
  generalize y * ((u * 4294967296 + d) / y) = p at *
  omega

/-- The two steps of the division together, on halves of any size. -/
theorem two_halves_at {N y Y s u l K : Nat} (hY : Y = y * 2 ^ s) (hy : 0 < y) (hN : N * 2 ^ s = u * (K * K) + l) :
    (u * K + l / K) / Y * K + ((u * K + l / K) % Y * K + l % K) / Y = N / y ∧
    ((u * K + l / K) % Y * K + l % K) % Y / 2 ^ s = N % y := by
  have hp : 0 < 2 ^ s := Nat.pow_pos (by decide)
  have hY0 : 0 < Y := by rw [hY]; exact Nat.mul_pos hy hp
  have h1 := Nat.div_add_mod (u * K + l / K) Y
  have hl2 := Nat.div_add_mod l K
  generalize (u * K + l / K) / Y = q1 at *
  generalize (u * K + l / K) % Y = r1 at *
  have h2 := Nat.div_add_mod (r1 * K + l % K) Y
  have h3 := Nat.mod_lt (r1 * K + l % K) hY0
  generalize (r1 * K + l % K) / Y = q0 at *
  generalize (r1 * K + l % K) % Y = r0 at *
  have e : N * 2 ^ s = Y * (q1 * K + q0) + r0 := by
    have e1 : K * (u * K + l / K) = K * (Y * q1 + r1) := by rw [h1]
    rw [Nat.mul_add, Nat.mul_add, Nat.mul_left_comm K u K] at e1
    rw [hN, Nat.mul_add, Nat.mul_comm q1 K]
    rw [Nat.mul_left_comm K Y q1, Nat.mul_comm K r1] at e1
    omega
  have ed : N * 2 ^ s / (y * 2 ^ s) = N / y := Nat.mul_div_mul_right N y hp
  have em : N * 2 ^ s % (y * 2 ^ s) = N % y * 2 ^ s := Nat.mul_mod_mul_right (2 ^ s) N y
  rw [← hY] at ed em
  rw [e] at ed em
  rw [Nat.mul_add_div hY0, Nat.div_eq_of_lt h3, Nat.add_zero] at ed
  rw [Nat.mul_add_mod, Nat.mod_eq_of_lt h3] at em
  refine ⟨ed, ?_⟩
  rw [em, Nat.mul_div_cancel _ hp]

/-! ### the loop's relation -/
def KRel (u d Y q r : Nat) : Prop := q * (Y / 4294967296) + r = u ∧ r < 4294967296 ∧ q ≤ 4294967297 ∧ (u * 4294967296 + d) / Y ≤ q
def KIn (u d Y : Nat) : Prop := 9223372036854775808 ≤ Y ∧ Y < 18446744073709551616 ∧ u < Y ∧ d < 4294967296
theorem KIn.lt {u d Y : Nat} (h : KIn u d Y) : (u * 4294967296 + d) / Y < 4294967296 := by
  obtain ⟨h1, h2, h3, h4⟩ := h
  rw [Nat.div_lt_iff_lt_mul (by omega)]
  omega
theorem k_start {u d Y : Nat} (h : KIn u d Y) : KRel u d Y (u / (Y / 4294967296)) (u - u / (Y / 4294967296) * (Y / 4294967296)) ∧ u / (Y / 4294967296) * (Y / 4294967296) ≤ u := by
  obtain ⟨h1, h2, h3, h4⟩ := h
  have hle := Nat.div_mul_le_self u (Y / 4294967296)
  have hm := Nat.div_add_mod u (Y / 4294967296)
  have hlt := Nat.mod_lt u (show 0 < Y / 4294967296 by omega)
  rw [Nat.mul_comm (Y / 4294967296)] at hm
  exact ⟨⟨by omega, by omega, half_guess h1 h3, half_start h3 h1 d h4⟩, hle⟩
theorem k_done {u d Y q r : Nat} (h : KIn u d Y) (hr : KRel u d Y q r) (h1 : q < 4294967296) (h2 : q * (Y % 4294967296) ≤ 4294967296 * r + d) : q = (u * 4294967296 + d) / Y := by
  obtain ⟨i1, i2, i3, i4⟩ := h
  obtain ⟨r1, r2, r3, r4⟩ := hr
  have ht := half_test (by omega) i4 i3 r1
  rcases Nat.lt_or_ge ((u * 4294967296 + d) / Y) q with g | g
  · have := ht.2 g; omega
  · omega
theorem k_step {u d Y q r : Nat} (h : KIn u d Y) (hr : KRel u d Y q r) (ht : 4294967296 ≤ q ∨ 4294967296 * r + d < q * (Y % 4294967296)) :
    1 ≤ q ∧ (r + Y / 4294967296 < 4294967296 → KRel u d Y (q - 1) (r + Y / 4294967296)) ∧ (4294967296 ≤ r + Y / 4294967296 → q - 1 = (u * 4294967296 + d) / Y) := by
  obtain ⟨i1, i2, i3, i4⟩ := h
  obtain ⟨r1, r2, r3, r4⟩ := hr
  have hg := (half_test (by omega) i4 i3 r1).1 ht
  have e : (q - 1) * (Y / 4294967296) + (r + Y / 4294967296) = u := by
    rw [← r1, Nat.sub_mul, Nat.one_mul]
    have hq : 0 < q := Nat.lt_of_le_of_lt (Nat.zero_le _) hg
    have : Y / 4294967296 ≤ q * (Y / 4294967296) := Nat.le_mul_of_pos_left _ hq
    omega
  have hb : q - 1 ≤ 4294967296 → 4294967296 ≤ r + Y / 4294967296 → q - 1 ≤ (u * 4294967296 + d) / Y := fun hq hge => half_break (d := d) (by omega) e hq hge
  unfold KRel
  generalize (u * 4294967296 + d) / Y = Q at *
  refine ⟨by omega, fun hlt => ⟨e, hlt, by omega, by omega⟩, fun hge => ?_⟩
  have := hb (by omega) hge
  omega
theorem k_prod {u d Y q r : Nat} (hr : KRel u d Y q r) : q * (Y % 4294967296) < 18446744073709551616 := by
  have h1 := hr.2.2.1
  have h : q * (Y % 4294967296) ≤ 4294967297 * 4294967295 := Nat.mul_le_mul h1 (by omega)
  omega

end Go.Proofs.Ytfmllfolpcimpaa
