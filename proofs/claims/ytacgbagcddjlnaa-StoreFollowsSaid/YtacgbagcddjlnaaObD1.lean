/- The document's Object: kind 1. -/
import Derived.Test.YtacgbagcddjlnaaObO
import Derived.Deep.DeepCutAuto
namespace Go.Proofs.Ytacgbagcddjlnaa
open Go.RowKit Go.Shelf Go.Lib Go.Sort
set_option linter.unusedVariables false
set_option linter.unusedSimpArgs false
set_option maxRecDepth 20000

end Go.Proofs.Ytacgbagcddjlnaa
