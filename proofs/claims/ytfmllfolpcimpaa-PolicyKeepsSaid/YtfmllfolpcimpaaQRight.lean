/- What 'Right' of package quant answers; how a sign stands to 0. -/
import Derived.Test.YtfmllfolpcimpaaWideO
namespace Go.Proofs.Ytfmllfolpcimpaa
open Go.RowKit
set_option linter.unusedVariables false

theorem sgn_over {m n : Nat} (h : n < m) : decide (0 < sgn m n) = true := by rw [sgn_gt h]; rfl
theorem sgn_within {m n : Nat} (h : m ≤ n) : decide (0 < sgn m n) = false := by
  rcases Nat.lt_or_ge m n with h1 | h1
  · rw [sgn_lt h1]; rfl
  · rw [sgn_eq (by omega)]; rfl

theorem sgn_le {m n : Nat} : decide (sgn m n ≤ 0) = decide (m ≤ n) := by
  rcases Nat.lt_or_ge n m with h | h
  · rw [sgn_gt h, decide_eq_false (by omega : ¬ m ≤ n)]; rfl
  · rw [decide_eq_true h]
    rcases Nat.lt_or_ge m n with h1 | h1
    · rw [sgn_lt h1]; rfl
    · rw [sgn_eq (by omega)]; rfl

end Go.Proofs.Ytfmllfolpcimpaa
