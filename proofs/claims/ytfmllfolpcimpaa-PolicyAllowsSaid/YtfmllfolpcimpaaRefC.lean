/- What 'Cmp', 'Mul', 'Number', 'Join' and 'Two' answer. -/
import Derived.Test.YtfmllfolpcimpaaRefB
namespace Go.Proofs.Ytfmllfolpcimpaa
open Go.RowKit
set_option linter.unusedVariables false

theorem ret_i64 {a b : Int} (h : a = b) : Ending.returned (.int .i64 a) = .returned (.int .i64 b) := by rw [h]

/-! ### 'Mul' -/
theorem mul_lt_pow {a b k m : Nat} (ha : a < 2 ^ k) (hb : b < 2 ^ m) : a * b < 2 ^ (k + m) := by
  rw [Nat.pow_add]
  exact Nat.mul_lt_mul'' ha hb
theorem mul_part_lt {a b k m : Nat} (j : Nat) (ha : a < 2 ^ k) (hb : b < 2 ^ m) : a * (b / 2 ^ j) < 2 ^ (k + m) :=
  mul_lt_pow ha (Nat.lt_of_le_of_lt (Nat.div_le_self _ _) hb)
end Go.Proofs.Ytfmllfolpcimpaa
