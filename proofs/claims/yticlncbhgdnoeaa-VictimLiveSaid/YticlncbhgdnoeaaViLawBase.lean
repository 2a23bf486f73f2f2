/- What the laws of layer 15 have in common. -/
import Derived.Test.YticlncbhgdnoeaaRows
import Derived.Test.YticlncbhgdnoeaaPost
import Derived.Test.YticlncbhgdnoeaaArgs
import Derived.ProofKit
import Derived.OpenShut
namespace Go.Proofs.Yticlncbhgdnoeaa
theorem own : ownKnob Try.prog.godebug = none := by kernel_rfl
end Go.Proofs.Yticlncbhgdnoeaa
