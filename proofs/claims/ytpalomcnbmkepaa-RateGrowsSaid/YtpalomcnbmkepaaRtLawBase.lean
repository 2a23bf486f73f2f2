/- What the laws of layer 12 have in common. -/
import Derived.Test.YtpalomcnbmkepaaRows
import Derived.Test.YtpalomcnbmkepaaPost
import Derived.Test.YtpalomcnbmkepaaArgs
import Derived.ProofKit
import Derived.OpenShut
namespace Go.Proofs.Ytpalomcnbmkepaa
theorem own : ownKnob Try.prog.godebug = none := by kernel_rfl
end Go.Proofs.Ytpalomcnbmkepaa
