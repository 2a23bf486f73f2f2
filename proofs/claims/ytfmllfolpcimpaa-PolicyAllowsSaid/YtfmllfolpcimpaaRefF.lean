/- What the document's answers of layer 3 are: 'Ceil', 'Floor', 'Near'. -/
import Derived.Test.YtfmllfolpcimpaaRefE
import Derived.Test.YtfmllfolpcimpaaQRight
namespace Go.Proofs.Ytfmllfolpcimpaa
open Go.RowKit
set_option linter.unusedVariables false

def upDiv (a b y : Nat) : Nat := a * b / y + (if a * b % y = 0 then 0 else 1)
theorem upDiv_even {a b y : Nat} (h : a * b % y = 0) : upDiv a b y = a * b / y := by unfold upDiv; rw [if_pos h, Nat.add_zero]
theorem upDiv_odd {a b y : Nat} (h : 0 < a * b % y) : upDiv a b y = a * b / y + 1 := by unfold upDiv; rw [if_neg (by omega)]
theorem ret_u64 {a b : Nat} (h : a = b) : Ending.returned (.int .u64 (a : Int)) = .returned (.int .u64 (b : Int)) := by rw [h]




end Go.Proofs.Ytfmllfolpcimpaa
