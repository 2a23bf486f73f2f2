/- What the laws of layer 20 have in common. -/
import Derived.Test.YtajkhbdniadkkaaRows
import Derived.Test.YtajkhbdniadkkaaPost
import Derived.Test.YtajkhbdniadkkaaArgs
import Derived.ProofKit
import Derived.OpenShut
namespace Go.Proofs.Ytajkhbdniadkkaa
theorem own : ownKnob Try.prog.godebug = none := by kernel_rfl
end Go.Proofs.Ytajkhbdniadkkaa
