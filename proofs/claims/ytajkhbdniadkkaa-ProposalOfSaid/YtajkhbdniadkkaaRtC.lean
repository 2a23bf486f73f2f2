/- Layer 12: Increase, Resets, Rate. -/
import Derived.Test.YtajkhbdniadkkaaRtB
namespace Go.Proofs.Ytajkhbdniadkkaa.Rt
open Go.RowKit Go.Lib
open Go.Joins (cell_of_block unfrozen_of_block block_setCell)
set_option linter.unusedVariables false
set_option linter.unusedSimpArgs false
set_option maxRecDepth 20000

/-- The increase, or that it is too great. -/
def IncIs (w : World) (T : Int) (e : Ending) (w' : World) : Prop :=
  ((T ≤ 9007199254740992 ∧ e = .returned (.tuple #[.int .i64 T, .int .i64 0])) ∨ (9007199254740992 < T ∧ e = .returned (.tuple #[.int .i64 0, .int .i64 3]))) ∧ Below w.heap.size w w'

/-- The chapter's example. -/
def exR : List Sam := [(0, 10), (10, 15), (20, 3)]
theorem exR_good : Good exR := by
  refine ⟨fun i x hx => ?_, fun i x y hx hy => ?_⟩
  · match i, hx with
    | 0, hx => cases hx; decide
    | 1, hx => cases hx; decide
    | 2, hx => cases hx; decide
    | i + 3, hx => simp [exR] at hx
  · match i, hx, hy with
    | 0, hx, hy => cases hx; cases hy; decide
    | 1, hx, hy => cases hx; cases hy; decide
    | i + 2, hx, hy => simp [exR] at hy
end Go.Proofs.Ytajkhbdniadkkaa.Rt
