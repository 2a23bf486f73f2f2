/- What the laws of layer 7 have in common. -/
import Derived.Test.YtbagicilmmkdhaaGreatRows
import Derived.Test.YtbagicilmmkdhaaGreatObOp
import Derived.Test.YtbagicilmmkdhaaGreatObLd
import Derived.Test.YtbagicilmmkdhaaGreatPost
import Derived.Test.YtbagicilmmkdhaaGreatArgs
import Derived.ProofKit
import Derived.OpenShut
namespace Go.Proofs.YtbagicilmmkdhaaGreat

theorem own : ownKnob Tryz.prog.godebug = none := by kernel_rfl
end Go.Proofs.YtbagicilmmkdhaaGreat
