/- Which pods and Hpas may be: the program. -/
import Derived.Test.YtdphooobgbminaaVaC
import Derived.Test.YtdphooobgbminaaVaS
import Derived.StillTailTactics
namespace Go.Proofs.Ytdphooobgbminaa
open Go.RowKit Go.Shelf Go.Lib Go.Sort
set_option linter.unusedVariables false
set_option linter.unusedSimpArgs false
set_option maxRecDepth 20000

def zBh (wi : Int) (pk : Int) (pol : List Pol) : Bool := decide (wi = 0) && decide (pk = 0) && decide (pol.length = 0)
def behC (wi pk : Int) (pol : List Pol) : Bool := withinB wi 0 1800 && withinB pk 0 2 && (withinB pol.length 0 4 && pol.all polB)
def hpC (tg : ByteArray) (mn mx : Int) (met : List Met) (tol uw up : Int) (upol : List Pol) (dw dp : Int) (dpol : List Pol) (past : List Sca) : Bool :=
  nameB tg && withinB mx 1 1000000 && withinB mn 1 mx && (withinB met.length 1 4 && met.all metB) && withinB tol 0 1000 && behC uw up upol && behC dw dp dpol && pastB past
def phaseB (node : ByteArray) (ph : Int) : Bool := if node.size = 0 then (ph == 0) || (ph == 3) else withinB ph 1 3
def pdC (own node : ByteArray) (ph since cpu mem : Int) (lab : List Lab) (sel : List Req) (tol_ : List Lab) (warm : Int) : Bool :=
  nameB own && mayB node && phaseB node ph && withinB since 0 4611686018427387904 && wlC 0 cpu mem lab sel tol_ warm
def zHp (tg : ByteArray) (mn mx : Int) (met : List Met) (tol uw up : Int) (upol : List Pol) (dw dp : Int) (dpol : List Pol) (past : List Sca) : Bool :=
  decide (tg.size = 0) && decide (mn = 0) && decide (mx = 0) && decide (met.length = 0) && decide (tol = 0) && zBh uw up upol && zBh dw dp dpol && decide (past.length = 0)

theorem cell_two (w : World) (a b : Obj) {i : Nat} {v : Value} (h : ((w.alloc a).alloc b).cell? ⟨w.heap.size + 1, i, none⟩ = some v) : ((w.alloc a).alloc b).cell? ⟨w.heap.size + 1, i, none⟩ = some v := h

end Go.Proofs.Ytdphooobgbminaa
