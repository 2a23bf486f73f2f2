/- What the laws of layer 10 have in common. -/
import Derived.Test.YthpmdaioekpipaaRows
import Derived.Test.YthpmdaioekpipaaPost
import Derived.Test.YthpmdaioekpipaaArgs
import Derived.ProofKit
import Derived.OpenShut
namespace Go.Proofs.Ythpmdaioekpipaa
theorem own : ownKnob Try.prog.godebug = none := by kernel_rfl
end Go.Proofs.Ythpmdaioekpipaa
