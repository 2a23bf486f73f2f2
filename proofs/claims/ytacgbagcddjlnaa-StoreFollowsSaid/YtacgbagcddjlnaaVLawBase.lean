/- What the laws of layer 7 have in common. -/
import Derived.Test.YtacgbagcddjlnaaRows
import Derived.Test.YtacgbagcddjlnaaObOp
import Derived.Test.YtacgbagcddjlnaaObLd
import Derived.Test.YtacgbagcddjlnaaPost
import Derived.Test.YtacgbagcddjlnaaArgs
import Derived.ProofKit
import Derived.OpenShut
namespace Go.Proofs.Ytacgbagcddjlnaa

theorem own : ownKnob Try.prog.godebug = none := by kernel_rfl
end Go.Proofs.Ytacgbagcddjlnaa
