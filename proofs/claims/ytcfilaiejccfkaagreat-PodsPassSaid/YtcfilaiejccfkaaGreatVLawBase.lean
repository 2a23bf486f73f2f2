/- What the laws of layer 7 have in common. -/
import Derived.Test.YtcfilaiejccfkaaGreatRows
import Derived.Test.YtcfilaiejccfkaaGreatObOp
import Derived.Test.YtcfilaiejccfkaaGreatObLd
import Derived.Test.YtcfilaiejccfkaaGreatPost
import Derived.Test.YtcfilaiejccfkaaGreatArgs
import Derived.ProofKit
import Derived.OpenShut
namespace Go.Proofs.YtcfilaiejccfkaaGreat

theorem own : ownKnob Tryz.prog.godebug = none := by kernel_rfl
end Go.Proofs.YtcfilaiejccfkaaGreat
