/- Every metric, every policy: the program. -/
import Derived.Test.YtdphooobgbminaaVaB
import Derived.StillTailTactics
namespace Go.Proofs.Ytdphooobgbminaa
open Go.RowKit Go.Shelf Go.Lib Go.Sort
set_option linter.unusedVariables false
set_option linter.unusedSimpArgs false
set_option maxRecDepth 20000

def polC (pc : Bool) (va pe : Int) : Bool := withinB va 1 1000000 && withinB pe 1 1800
def polB (x : Pol) : Bool := polC x.1 x.2.1 x.2.2
def cpuT : List UInt8 := [99, 112, 117]
def memT : List UInt8 := [109, 101, 109]
def metB (x : Met) : Bool := !((x.1 == 0) && !(x.2.1.toList == cpuT) && !(x.2.1.toList == memT)) && (withinB x.1 0 3 && nameB x.2.1 && someB x.2.2)

end Go.Proofs.Ytdphooobgbminaa
