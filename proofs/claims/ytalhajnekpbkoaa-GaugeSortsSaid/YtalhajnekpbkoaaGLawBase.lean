/- What the laws of layer 4 have in common. -/
import Derived.Test.YtalhajnekpbkoaaRows
import Derived.Test.YtalhajnekpbkoaaGaugeD
import Derived.Test.YtalhajnekpbkoaaPost
import Derived.ProofKit
import Derived.OpenShut
namespace Go.Proofs.Ytalhajnekpbkoaa
open Go.ChangeShapes Go.WideShapes Go.ChangeAt Go.RowKit
set_option linter.unusedVariables false

theorem own : ownKnob Try.prog.godebug = none := by kernel_rfl
theorem below_draw (B : Nat) (w : World) (n : Nat) : Below B w (w.drewN n) := ⟨rfl, rfl, rfl, Nat.le_refl _, fun _ _ => rfl⟩

end Go.Proofs.Ytalhajnekpbkoaa
