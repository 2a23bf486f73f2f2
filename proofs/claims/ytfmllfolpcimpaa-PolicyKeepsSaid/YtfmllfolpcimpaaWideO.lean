/- What 'Of' and 'Cmp' of package wide answer. -/
import Derived.Test.YtfmllfolpcimpaaMem
import Derived.Test.YtfmllfolpcimpaaShelfM
namespace Go.Proofs.Ytfmllfolpcimpaa
open Go.RowKit
set_option linter.unusedVariables false

theorem ret_int {a b : Int} (h : a = b) : Ending.returned (.int .i64 a) = .returned (.int .i64 b) := by rw [h]
/-- A wide number, as a value. -/
abbrev wd (h l : Int) : Value := .agg #[.int .u64 h, .int .u64 l]
theorem wide_of (a b : Nat) (w : World) (ha : a < 18446744073709551616) (hb : b < 18446744073709551616) :
    Calls Try.prog 20 #[.int .u64 (a : Int), .int .u64 (b : Int)] w fun e w' =>
      e = .returned (wd ((a * b / 18446744073709551616 : Nat) : Int) ((a * b % 18446744073709551616 : Nat) : Int)) ∧ Below w.heap.size w w' := by
  go_enter Try.func20, Try.ntmps20
  go_wp2_with fail
  refine (mul64_any a b ha hb _).mono ?_
  rintro e w' ⟨rfl, rfl⟩
  go_wp2
  refine bodyPost_ret (v := wd ((a * b / 18446744073709551616 : Nat) : Int) ((a * b % 18446744073709551616 : Nat) : Int)) (by simp [results, Try.results20, go_sem]) rfl ⟨rfl, ?_⟩
  exact (Below.refl _ _).alloc (Nat.le_refl _) _

theorem sgn_wide {a b c d : Nat} (hb : b < 18446744073709551616) (hd : d < 18446744073709551616) :
    sgn (a * 18446744073709551616 + b) (c * 18446744073709551616 + d) = if sgn a c = 0 then sgn b d else sgn a c := by
  have hcase : a < c ∨ a = c ∨ c < a := by omega
  rcases hcase with h | rfl | h
  · rw [sgn_lt h, if_neg (by decide), sgn_lt (by omega)]
  · rw [sgn_eq rfl, if_pos rfl]
    unfold sgn
    have h1 : (a * 18446744073709551616 + d < a * 18446744073709551616 + b) ↔ d < b := by omega
    have h2 : (a * 18446744073709551616 + b < a * 18446744073709551616 + d) ↔ b < d := by omega
    simp only [h1, h2]
  · rw [sgn_gt h, if_neg (by decide), sgn_gt (by omega)]
/-- The product, with letters for its halves. -/
theorem wide_ofV (a b H L : Nat) (w : World) (ha : a < 18446744073709551616) (hb : b < 18446744073709551616) (hH : H = a * b / 18446744073709551616) (hL : L = a * b % 18446744073709551616) :
    Calls Try.prog 20 #[.int .u64 (a : Int), .int .u64 (b : Int)] w fun e w' => e = .returned (wd (H : Int) (L : Int)) ∧ Below w.heap.size w w' := by
  subst hH hL
  exact wide_of a b w ha hb

end Go.Proofs.Ytfmllfolpcimpaa
