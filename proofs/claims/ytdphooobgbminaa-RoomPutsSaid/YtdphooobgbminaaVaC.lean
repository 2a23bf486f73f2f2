/- Which shapes are empty: the program. -/
import Derived.Test.YtdphooobgbminaaVaB
import Derived.Deep.Light
namespace Go.Proofs.Ytdphooobgbminaa
open Go.RowKit Go.Shelf Go.Lib Go.Sort
set_option linter.unusedVariables false
set_option linter.unusedSimpArgs false
set_option maxRecDepth 20000

def zWl (rep : Int) (cpu : Int) (mem : Int) (lab : List Lab) (sel : List Req) (tol_ : List Lab) (warm : Int) : Bool := decide (rep = 0) && (decide (cpu = 0) && decide (mem = 0)) && decide (lab.length = 0) && decide (sel.length = 0) && decide (tol_.length = 0) && decide (warm = 0)
def zPd (own : ByteArray) (node : ByteArray) (ph : Int) (since : Int) (cpu : Int) (mem : Int) (lab : List Lab) (sel : List Req) (tol_ : List Lab) (warm : Int) : Bool := decide (own.size = 0) && decide (node.size = 0) && decide (ph = 0) && decide (since = 0) && (decide (cpu = 0) && decide (mem = 0)) && decide (lab.length = 0) && decide (sel.length = 0) && decide (tol_.length = 0) && decide (warm = 0)
def zNd (grp : ByteArray) (cpu : Int) (mem : Int) (lab : List Lab) (tnt : List Lab) (since : Int) (closed : Bool) : Bool := decide (grp.size = 0) && (decide (cpu = 0) && decide (mem = 0)) && decide (lab.length = 0) && decide (tnt.length = 0) && decide (since = 0) && !closed
def zGp (mn : Int) (mx : Int) (tgt : Int) (cpu : Int) (mem : Int) (lab : List Lab) (tnt : List Lab) (prio : Int) : Bool := decide (mn = 0) && decide (mx = 0) && decide (tgt = 0) && (decide (cpu = 0) && decide (mem = 0)) && decide (lab.length = 0) && decide (tnt.length = 0) && decide (prio = 0)

end Go.Proofs.Ytdphooobgbminaa
