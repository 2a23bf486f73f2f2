/- The document's Empty. -/
import Derived.Test.YtbkoepghmcdnhaaGreatDoorObEa
import Derived.Test.YtbkoepghmcdnhaaGreatDoorHeldG
import Derived.Test.YtbkoepghmcdnhaaGreatDoorObN
import Derived.BigRegion
import Derived.Deep.DeepCutAuto
import Derived.Deep.CutRange
import Derived.Deep.Light
namespace Go.Proofs.YtbkoepghmcdnhaaGreatDoor
open Go.RowKit Go.Shelf Go.Lib Go.Sort
set_option linter.unusedVariables false
set_option linter.unusedSimpArgs false
set_option maxRecDepth 20000

def e_w (o : Ob) : Bool := decide (o.w.rep = 0) && (decide (o.w.cpu = 0) && decide (o.w.mem = 0)) && (decide (o.w.lab.length = 0) && decide (o.w.sel.length = 0) && decide (o.w.tol.length = 0)) && decide (o.w.warm = 0)
def e_p (o : Ob) : Bool := decide (o.p.own.size = 0) && decide (o.p.node.size = 0) && decide (o.p.ph = 0) && decide (o.p.since = 0) && (decide (o.p.cpu = 0) && decide (o.p.mem = 0)) && (decide (o.p.lab.length = 0) && decide (o.p.sel.length = 0) && decide (o.p.tol.length = 0)) && decide (o.p.warm = 0)
def e_n (o : Ob) : Bool := decide (o.n.grp.size = 0) && (decide (o.n.cpu = 0) && decide (o.n.mem = 0)) && (decide (o.n.lab.length = 0) && decide (o.n.tnt.length = 0)) && decide (o.n.since = 0) && !o.n.closed
def e_g (o : Ob) : Bool := decide (o.g.mn = 0) && decide (o.g.mx = 0) && decide (o.g.tg = 0) && (decide (o.g.cpu = 0) && decide (o.g.mem = 0)) && (decide (o.g.lab.length = 0) && decide (o.g.tnt.length = 0)) && decide (o.g.prio = 0)
def e_h (o : Ob) : Bool := decide (o.h.tg.size = 0) && decide (o.h.mn = 0) && decide (o.h.mx = 0) && (decide (o.h.met.length = 0) && decide (o.h.past.length = 0)) && decide (o.h.tol = 0) && decide (o.h.uw = 0) && decide (o.h.up = 0) && decide (o.h.upol.length = 0) && decide (o.h.dw = 0) && decide (o.h.dp = 0) && decide (o.h.dpol.length = 0)
def empE (o : Ob) : Bool := (e_w o || (o.kind == 0)) && (e_p o || (o.kind == 1)) && (e_n o || (o.kind == 2)) && (e_g o || (o.kind == 3)) && (e_h o || (o.kind == 4))
/-- Rows are no longer than memory. -/
structure LensO (o : Ob) : Prop where
  l6 : o.w.lab.length ≤ 140737488355328
  l7 : o.w.sel.length ≤ 140737488355328
  l8 : o.w.tol.length ≤ 140737488355328
  l16 : o.p.lab.length ≤ 140737488355328
  l17 : o.p.sel.length ≤ 140737488355328
  l18 : o.p.tol.length ≤ 140737488355328
  l23 : o.n.lab.length ≤ 140737488355328
  l24 : o.n.tnt.length ≤ 140737488355328
  l32 : o.g.lab.length ≤ 140737488355328
  l33 : o.g.tnt.length ≤ 140737488355328
  l38 : o.h.met.length ≤ 140737488355328
  l42 : o.h.upol.length ≤ 140737488355328
  l45 : o.h.dpol.length ≤ 140737488355328
  l46 : o.h.past.length ≤ 140737488355328

end Go.Proofs.YtbkoepghmcdnhaaGreatDoor
