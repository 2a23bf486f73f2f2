/- What the laws of layer 13 have in common. -/
import Derived.Test.YtndbpijkepchgaaRows
import Derived.Test.YtndbpijkepchgaaPost
import Derived.Test.YtndbpijkepchgaaArgs
import Derived.ProofKit
import Derived.OpenShut
namespace Go.Proofs.Ytndbpijkepchgaa
theorem own : ownKnob Try.prog.godebug = none := by kernel_rfl
end Go.Proofs.Ytndbpijkepchgaa
