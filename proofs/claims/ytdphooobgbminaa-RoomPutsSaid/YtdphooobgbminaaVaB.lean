/- Which workloads, nodes, groups may be: the program. -/
import Derived.Test.YtdphooobgbminaaVaA
import Derived.Deep.DeepCutAuto
namespace Go.Proofs.Ytdphooobgbminaa
open Go.RowKit Go.Shelf Go.Lib Go.Sort
set_option linter.unusedVariables false
set_option linter.unusedSimpArgs false
set_option maxRecDepth 20000

def wlC (rep cpu mem : Int) (lab : List Lab) (sel : List Req) (tol_ : List Lab) (warm : Int) : Bool := withinB rep 0 1000000 && resB cpu mem && rightB lab && asksB sel && rightB tol_ && withinB warm 0 1800
def ndC (grp : ByteArray) (cpu mem : Int) (lab tnt : List Lab) (since : Int) : Bool := mayB grp && resB cpu mem && rightB lab && rightB tnt && withinB since 0 4611686018427387904
def gpC (mn mx tgt cpu mem : Int) (lab tnt : List Lab) (prio : Int) : Bool := withinB mx 0 64 && withinB mn 0 mx && withinB tgt mn mx && resB cpu mem && rightB lab && rightB tnt && withinB prio 0 1000

end Go.Proofs.Ytdphooobgbminaa
