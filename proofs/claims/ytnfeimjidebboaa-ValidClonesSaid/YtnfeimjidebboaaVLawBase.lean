/- What the laws of layer 7 have in common. -/
import Derived.Test.YtnfeimjidebboaaRows
import Derived.Test.YtnfeimjidebboaaObOp
import Derived.Test.YtnfeimjidebboaaObLd
import Derived.Test.YtnfeimjidebboaaPost
import Derived.Test.YtnfeimjidebboaaArgs
import Derived.ProofKit
import Derived.OpenShut
namespace Go.Proofs.Ytnfeimjidebboaa

theorem own : ownKnob Try.prog.godebug = none := by kernel_rfl
end Go.Proofs.Ytnfeimjidebboaa
