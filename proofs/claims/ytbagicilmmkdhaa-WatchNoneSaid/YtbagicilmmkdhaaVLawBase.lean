/- What the laws of layer 7 have in common. -/
import Derived.Test.YtbagicilmmkdhaaRows
import Derived.Test.YtbagicilmmkdhaaObOp
import Derived.Test.YtbagicilmmkdhaaObLd
import Derived.Test.YtbagicilmmkdhaaPost
import Derived.Test.YtbagicilmmkdhaaArgs
import Derived.ProofKit
import Derived.OpenShut
namespace Go.Proofs.Ytbagicilmmkdhaa

theorem own : ownKnob Try.prog.godebug = none := by kernel_rfl
end Go.Proofs.Ytbagicilmmkdhaa
