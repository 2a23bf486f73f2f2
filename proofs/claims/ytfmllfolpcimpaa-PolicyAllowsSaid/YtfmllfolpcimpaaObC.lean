/- The document's asks, resources, behavior; what is short. -/
import Derived.Test.YtfmllfolpcimpaaObB
namespace Go.Proofs.Ytfmllfolpcimpaa
open Go.RowKit Go.Shelf Go.Lib Go.Sort
set_option linter.unusedVariables false

/-! ### behavior -/
def behB (w p : Int) (l : List Pol) : List UInt8 := num w ++ num p ++ rowB byP l
end Go.Proofs.Ytfmllfolpcimpaa
