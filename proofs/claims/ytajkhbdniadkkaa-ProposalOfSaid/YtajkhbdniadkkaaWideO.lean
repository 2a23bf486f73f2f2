/- What 'Of' and 'Cmp' of package wide answer. -/
import Derived.Test.YtajkhbdniadkkaaMem
import Derived.Test.YtajkhbdniadkkaaShelfM
namespace Go.Proofs.Ytajkhbdniadkkaa
open Go.RowKit
set_option linter.unusedVariables false

theorem is_nan (x : Nat) (w : World) : Calls Try.prog 96 #[.int .u64 (x : Int)] w fun e w' => e = .returned (.bool false) ∧ w = w' := by
  go_enter Try.func96, Try.ntmps96
  go_wp2
  go_ret
  exact ⟨by simp, rfl⟩
theorem ret_int {a b : Int} (h : a = b) : Ending.returned (.int .i64 a) = .returned (.int .i64 b) := by rw [h]
theorem compare_any (x y : Nat) (w : World) : Calls Try.prog 87 #[.int .u64 (x : Int), .int .u64 (y : Int)] w fun e w' => e = .returned (.int .i64 (sgn x y)) ∧ w = w' := by
  have hcase : x < y ∨ x = y ∨ y < x := by omega
  rcases hcase with h | rfl | h
  all_goals
    go_enter Try.func87, Try.ntmps87
    go_wp2_with fail
    refine (is_nan _ _).mono ?_
    rintro e w' ⟨rfl, rfl⟩
    go_wp2_with fail
    refine (is_nan _ _).mono ?_
    rintro e w' ⟨rfl, rfl⟩
    go_wp2
    go_ret
    first
      | exact ⟨ret_int (sgn_lt h).symm, rfl⟩
      | exact ⟨ret_int (sgn_gt h).symm, rfl⟩
      | exact ⟨ret_int (sgn_eq rfl).symm, rfl⟩

/-- A wide number, as a value. -/
abbrev wd (h l : Int) : Value := .agg #[.int .u64 h, .int .u64 l]
theorem wide_of (a b : Nat) (w : World) (ha : a < 18446744073709551616) (hb : b < 18446744073709551616) :
    Calls Try.prog 67 #[.int .u64 (a : Int), .int .u64 (b : Int)] w fun e w' =>
      e = .returned (wd ((a * b / 18446744073709551616 : Nat) : Int) ((a * b % 18446744073709551616 : Nat) : Int)) ∧ Below w.heap.size w w' := by
  go_enter Try.func67, Try.ntmps67
  go_wp2_with fail
  refine (mul64_any a b ha hb _).mono ?_
  rintro e w' ⟨rfl, rfl⟩
  go_wp2
  refine bodyPost_ret (v := wd ((a * b / 18446744073709551616 : Nat) : Int) ((a * b % 18446744073709551616 : Nat) : Int)) (by simp [results, Try.results67, go_sem]) rfl ⟨rfl, ?_⟩
  exact (Below.refl _ _).alloc (Nat.le_refl _) _

theorem sgn_wide {a b c d : Nat} (hb : b < 18446744073709551616) (hd : d < 18446744073709551616) :
    sgn (a * 18446744073709551616 + b) (c * 18446744073709551616 + d) = if sgn a c = 0 then sgn b d else sgn a c := by
  have hcase : a < c ∨ a = c ∨ c < a := by omega
  rcases hcase with h | rfl | h
  · rw [sgn_lt h, if_neg (by decide), sgn_lt (by omega)]
  · rw [sgn_eq rfl, if_pos rfl]
    unfold sgn
    have h1 : (a * 18446744073709551616 + d < a * 18446744073709551616 + b) ↔ d < b := by omega
    have h2 : (a * 18446744073709551616 + b < a * 18446744073709551616 + d) ↔ b < d := by omega
    simp only [h1, h2]
  · rw [sgn_gt h, if_neg (by decide), sgn_gt (by omega)]
theorem wide_cmp (a b c d : Nat) (w : World) (hb : b < 18446744073709551616) (hd : d < 18446744073709551616) :
    Calls Try.prog 68 #[wd (a : Int) (b : Int), wd (c : Int) (d : Int)] w fun e w' =>
      e = .returned (.int .i64 (sgn (a * 18446744073709551616 + b) (c * 18446744073709551616 + d))) ∧ Below w.heap.size w w' := by
  rw [sgn_wide hb hd]
  by_cases h0 : sgn a c = 0
  · rw [if_pos h0]
    have hx : (sgn a c != 0) = false := by simp [h0]
    clear h0
    go_enter Try.func68, Try.ntmps68
    go_wp2_with fail
    refine (compare_any _ _ _).mono ?_
    rintro e w' ⟨rfl, rfl⟩
    go_wp2_with fail
    refine (compare_any _ _ _).mono ?_
    rintro e w' ⟨rfl, rfl⟩
    go_wp2
    go_ret
    exact ⟨rfl, ((Below.refl _ _).alloc (Nat.le_refl _) _).alloc (by simp) _⟩
  · rw [if_neg h0]
    have hx : (sgn a c != 0) = true := by simp [h0]
    clear h0
    go_enter Try.func68, Try.ntmps68
    go_wp2_with fail
    refine (compare_any _ _ _).mono ?_
    rintro e w' ⟨rfl, rfl⟩
    go_wp2
    go_ret
    exact ⟨rfl, ((Below.refl _ _).alloc (Nat.le_refl _) _).alloc (by simp) _⟩

theorem wide_cmpN {m n a b c d : Nat} (w : World) (hm : m < 340282366920938463463374607431768211456) (ha : a = m / 18446744073709551616) (hb : b = m % 18446744073709551616) (hc : c = n / 18446744073709551616) (hd : d = n % 18446744073709551616) :
    Calls Try.prog 68 #[wd (a : Int) (b : Int), wd (c : Int) (d : Int)] w fun e w' => e = .returned (.int .i64 (sgn m n)) ∧ Below w.heap.size w w' := by
  have h := wide_cmp a b c d w (by rw [hb]; exact Nat.mod_lt _ (by decide)) (by rw [hd]; exact Nat.mod_lt _ (by decide))
  rw [ha, hb, hc, hd, Nat.div_add_mod' m 18446744073709551616, Nat.div_add_mod' n 18446744073709551616] at h
  rw [ha, hb, hc, hd]
  exact h

/-- The product, with letters for its halves. -/
theorem wide_ofV (a b H L : Nat) (w : World) (ha : a < 18446744073709551616) (hb : b < 18446744073709551616) (hH : H = a * b / 18446744073709551616) (hL : L = a * b % 18446744073709551616) :
    Calls Try.prog 67 #[.int .u64 (a : Int), .int .u64 (b : Int)] w fun e w' => e = .returned (wd (H : Int) (L : Int)) ∧ Below w.heap.size w w' := by
  subst hH hL
  exact wide_of a b w ha hb

end Go.Proofs.Ytajkhbdniadkkaa
