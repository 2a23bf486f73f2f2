/- What 'Number', 'Two' and 'Join' answer. -/
import Derived.Test.YtfmllfolpcimpaaRefC
namespace Go.Proofs.Ytfmllfolpcimpaa
open Go.RowKit
set_option linter.unusedVariables false

/-- The 64 lowest digits of a number. -/
def low (n : Nat) : Nat := n % 18446744073709551616
theorem low_lt (n : Nat) : low n < 18446744073709551616 := Nat.mod_lt _ (by decide)
theorem low_of {n : Nat} (h : n < 18446744073709551616) : low n = n := Nat.mod_eq_of_lt h
theorem low_step (a j : Nat) : low (a / 2 ^ j) = (low (a / 2 ^ (j + 1)) * 2 + bit a j) % 18446744073709551616 := by
  rw [div_step a j]; unfold low; omega
theorem wrap_step (X b : Nat) : IntKind.u64.wrap (IntKind.u64.wrap ((X : Int) * 2) + (b : Int)) = (((X * 2 + b) % 18446744073709551616 : Nat) : Int) := by
  rw [IntKind.wrap_u64, IntKind.wrap_u64]; omega
theorem ret_num {a b : Nat} {p q : Bool} (h : a = b) (g : p = q) : Ending.returned (.tuple #[.int .u64 (a : Int), .bool p]) = .returned (.tuple #[.int .u64 (b : Int), .bool q]) := by rw [h, g]
end Go.Proofs.Ytfmllfolpcimpaa
