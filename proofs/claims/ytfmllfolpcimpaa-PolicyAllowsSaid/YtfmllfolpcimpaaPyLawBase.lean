/- What the laws of layer 22 have in common. -/
import Derived.Test.YtfmllfolpcimpaaRows
import Derived.Test.YtfmllfolpcimpaaPost
import Derived.Test.YtfmllfolpcimpaaArgs
import Derived.ProofKit
import Derived.OpenShut
namespace Go.Proofs.Ytfmllfolpcimpaa
theorem own : ownKnob Try.prog.godebug = none := by kernel_rfl
end Go.Proofs.Ytfmllfolpcimpaa
