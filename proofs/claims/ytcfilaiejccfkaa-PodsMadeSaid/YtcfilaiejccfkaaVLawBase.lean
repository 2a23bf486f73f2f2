/- What the laws of layer 7 have in common. -/
import Derived.Test.YtcfilaiejccfkaaRows
import Derived.Test.YtcfilaiejccfkaaObOp
import Derived.Test.YtcfilaiejccfkaaObLd
import Derived.Test.YtcfilaiejccfkaaPost
import Derived.Test.YtcfilaiejccfkaaArgs
import Derived.ProofKit
import Derived.OpenShut
namespace Go.Proofs.Ytcfilaiejccfkaa

theorem own : ownKnob Try.prog.godebug = none := by kernel_rfl
end Go.Proofs.Ytcfilaiejccfkaa
