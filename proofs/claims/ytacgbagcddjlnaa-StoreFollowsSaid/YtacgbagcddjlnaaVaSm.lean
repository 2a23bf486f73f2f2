/- The document's Same says true of two objects that are alike, of whatever kind. -/
import Derived.Test.YtacgbagcddjlnaaVaU
import Derived.Test.YtacgbagcddjlnaaObD
namespace Go.Proofs.Ytacgbagcddjlnaa
open Go.RowKit Go.Shelf Go.Lib Go.Sort Go.Deep
open Go.Joins (cell_of_block unfrozen_of_block block_setCell)
set_option linter.unusedVariables false
set_option linter.unusedSimpArgs false
set_option maxRecDepth 20000
end Go.Proofs.Ytacgbagcddjlnaa
