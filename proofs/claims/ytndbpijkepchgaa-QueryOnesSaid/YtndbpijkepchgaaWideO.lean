/- What 'Of' and 'Cmp' of package wide answer. -/
import Derived.Test.YtndbpijkepchgaaMem
namespace Go.Proofs.Ytndbpijkepchgaa
open Go.RowKit
set_option linter.unusedVariables false

theorem ret_int {a b : Int} (h : a = b) : Ending.returned (.int .i64 a) = .returned (.int .i64 b) := by rw [h]
/-- A wide number, as a value. -/
abbrev wd (h l : Int) : Value := .agg #[.int .u64 h, .int .u64 l]

theorem sgn_wide {a b c d : Nat} (hb : b < 18446744073709551616) (hd : d < 18446744073709551616) :
    sgn (a * 18446744073709551616 + b) (c * 18446744073709551616 + d) = if sgn a c = 0 then sgn b d else sgn a c := by
  have hcase : a < c ∨ a = c ∨ c < a := by omega
  rcases hcase with h | rfl | h
  · rw [sgn_lt h, if_neg (by decide), sgn_lt (by omega)]
  · rw [sgn_eq rfl, if_pos rfl]
    unfold sgn
    have h1 : (a * 18446744073709551616 + d < a * 18446744073709551616 + b) ↔ d < b := by omega
    have h2 : (a * 18446744073709551616 + b < a * 18446744073709551616 + d) ↔ b < d := by omega
    simp only [h1, h2]
  · rw [sgn_gt h, if_neg (by decide), sgn_gt (by omega)]


end Go.Proofs.Ytndbpijkepchgaa
