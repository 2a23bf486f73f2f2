/- What the laws of layer 11 have in common. -/
import Derived.Test.YtlklbhjcohgmhaaRows
import Derived.Test.YtlklbhjcohgmhaaPost
import Derived.Test.YtlklbhjcohgmhaaArgs
import Derived.ProofKit
import Derived.OpenShut
namespace Go.Proofs.Ytlklbhjcohgmhaa
theorem own : ownKnob Try.prog.godebug = none := by kernel_rfl
end Go.Proofs.Ytlklbhjcohgmhaa
