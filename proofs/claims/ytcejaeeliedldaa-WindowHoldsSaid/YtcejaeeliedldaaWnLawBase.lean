/- What the laws of layer 21 have in common. -/
import Derived.Test.YtcejaeeliedldaaRows
import Derived.Test.YtcejaeeliedldaaPost
import Derived.Test.YtcejaeeliedldaaArgs
import Derived.ProofKit
import Derived.OpenShut
namespace Go.Proofs.Ytcejaeeliedldaa
theorem own : ownKnob Try.prog.godebug = none := by kernel_rfl
end Go.Proofs.Ytcejaeeliedldaa
