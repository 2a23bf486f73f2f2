/- What 'Ratio' and the laws' own example answer. -/
import Derived.Test.YtmfilgagdilmbaaWideA
namespace Go.Proofs.Ytmfilgagdilmbaa
open Go.RowKit
set_option linter.unusedVariables false

theorem wide_cmpN {m n a b c d : Nat} (w : World) (hm : m < 340282366920938463463374607431768211456) (ha : a = m / 18446744073709551616) (hb : b = m % 18446744073709551616) (hc : c = n / 18446744073709551616) (hd : d = n % 18446744073709551616) :
    Calls Try.prog 14 #[wd (a : Int) (b : Int), wd (c : Int) (d : Int)] w fun e w' => e = .returned (.int .i64 (sgn m n)) ∧ Below w.heap.size w w' := by
  have h := wide_cmp a b c d w (by rw [hb]; exact Nat.mod_lt _ (by decide)) (by rw [hd]; exact Nat.mod_lt _ (by decide))
  rw [ha, hb, hc, hd, Nat.div_add_mod' m 18446744073709551616, Nat.div_add_mod' n 18446744073709551616] at h
  rw [ha, hb, hc, hd]
  exact h
theorem ret_ra {a b : Int} {c : Int} (h : a = b) : Ending.returned (.tuple #[.int .i64 a, .int .i64 c]) = .returned (.tuple #[.int .i64 b, .int .i64 c]) := by rw [h]
theorem ratio_zero (a b c d : Nat) (w : World) (h : b = 0 ∨ d = 0) :
    Calls Try.prog 21 #[.int .u64 (a : Int), .int .u64 (b : Int), .int .u64 (c : Int), .int .u64 (d : Int)] w fun e w' => e = .returned (.tuple #[.int .i64 0, .int .i64 5]) ∧ Below w.heap.size w w' := by
  by_cases hb : b = 0
  · subst hb
    go_enter Try.func21, Try.ntmps21
    go_wp2
    go_ret2
    exact ⟨rfl, Below.refl _ _⟩
  · obtain rfl : d = 0 := by omega
    have t1 : ((b : Int) == 0) = false := by simp; omega
    clear h
    go_enter Try.func21, Try.ntmps21
    go_wp2
    go_ret2
    exact ⟨rfl, Below.refl _ _⟩
theorem ratio_any (a b c d : Nat) (w : World) (ha : a < 18446744073709551616) (hb : b < 18446744073709551616) (hc : c < 18446744073709551616) (hd : d < 18446744073709551616) (hb0 : b ≠ 0) (hd0 : d ≠ 0) :
    Calls Try.prog 21 #[.int .u64 (a : Int), .int .u64 (b : Int), .int .u64 (c : Int), .int .u64 (d : Int)] w fun e w' => e = .returned (.tuple #[.int .i64 (sgn (a * d) (c * b)), .int .i64 0]) ∧ Below w.heap.size w w' := by
  have t1 : ((b : Int) == 0) = false := by simp; omega
  have t2 : ((d : Int) == 0) = false := by simp; omega
  have hm : a * d < 340282366920938463463374607431768211456 := Nat.mul_lt_mul'' ha hd
  obtain ⟨H, hH⟩ : ∃ n, n = a * d / 18446744073709551616 := ⟨_, rfl⟩
  obtain ⟨L, hL⟩ : ∃ n, n = a * d % 18446744073709551616 := ⟨_, rfl⟩
  obtain ⟨H', hH'⟩ : ∃ n, n = c * b / 18446744073709551616 := ⟨_, rfl⟩
  obtain ⟨L', hL'⟩ : ∃ n, n = c * b % 18446744073709551616 := ⟨_, rfl⟩
  have C1 := Lib.hid (fun W : World => wide_ofV a d H L W ha hd hH hL)
  have C2 := Lib.hid (fun W : World => wide_ofV c b H' L' W hc hb hH' hL')
  have C3 := Lib.hid (fun W : World => wide_cmpN (m := a * d) (n := c * b) W hm hH hL hH' hL')
  clear hH hL hH' hL' hm hb0 hd0
  go_enter Try.func21, Try.ntmps21
  go_wp2_with fail
  refine (C1.out _).mono ?_
  rintro e w1 ⟨rfl, h1⟩
  go_wp2_with fail
  refine (C2.out _).mono ?_
  rintro e w2 ⟨rfl, h2⟩
  go_wp2_with fail
  refine (C3.out _).mono ?_
  rintro e w3 ⟨rfl, h3⟩
  go_wp2
  go_ret2
  have s1 := h1.size
  have s2 := h2.size
  exact ⟨rfl, (h1.trans (h2.mono s1)).trans (h3.mono (by omega))⟩

/-- The chapter's example, with which each law begins. -/
theorem lives_any (w : World) : Calls Try.prog 7 #[] w fun e w' => e = .returned (.bool true) ∧ Below w.heap.size w w' := by
  have m1 : ∀ W : World, Calls Try.prog 20 #[.int .u64 10, .int .u64 3, .int .u64 4, .bool false] W fun e w' => e = .returned (.tuple #[.int .u64 7, .int .i64 0]) ∧ Below W.heap.size W w' := fun W => by
    have h := muldiv_any 10 3 4 false W (by decide) (by decide) (by decide)
    rw [show mdVal 10 3 4 false = 7 by decide, show mdErr 10 3 4 false = 0 by decide] at h
    exact h
  have m2 : ∀ W : World, Calls Try.prog 20 #[.int .u64 10, .int .u64 3, .int .u64 4, .bool true] W fun e w' => e = .returned (.tuple #[.int .u64 8, .int .i64 0]) ∧ Below W.heap.size W w' := fun W => by
    have h := muldiv_any 10 3 4 true W (by decide) (by decide) (by decide)
    rw [show mdVal 10 3 4 true = 8 by decide, show mdErr 10 3 4 true = 0 by decide] at h
    exact h
  have M1 := Lib.hid m1
  have M2 := Lib.hid m2
  clear m1 m2
  go_enter Try.func7, Try.ntmps7
  go_wp2_with fail
  refine (M1.out _).mono ?_
  rintro e w1 ⟨rfl, h1⟩
  go_wp2_with fail
  refine (M2.out _).mono ?_
  rintro e w2 ⟨rfl, h2⟩
  go_wp2
  go_ret
  exact ⟨rfl, h1.trans (h2.mono h1.size)⟩

end Go.Proofs.Ytmfilgagdilmbaa
