/- Which objects may be: the program's alone, right, Check. -/
import Derived.Test.YtdphooobgbminaaVaF
import Derived.Test.YtdphooobgbminaaObS
import Derived.Test.YtdphooobgbminaaObX
import Derived.BigRegion
import Derived.Deep.DeepCutAuto
namespace Go.Proofs.Ytdphooobgbminaa
open Go.RowKit Go.Shelf Go.Lib Go.Sort
open Go.Joins (cell_of_block unfrozen_of_block block_setCell)
set_option linter.unusedVariables false
set_option linter.unusedSimpArgs false
set_option maxRecDepth 20000

def z_w (o : Ob) : Bool := zWl o.w.rep o.w.cpu o.w.mem o.w.lab o.w.sel o.w.tol o.w.warm
def c_w (o : Ob) : Bool := wlC o.w.rep o.w.cpu o.w.mem o.w.lab o.w.sel o.w.tol o.w.warm
def z_p (o : Ob) : Bool := zPd o.p.own o.p.node o.p.ph o.p.since o.p.cpu o.p.mem o.p.lab o.p.sel o.p.tol o.p.warm
def c_p (o : Ob) : Bool := pdC o.p.own o.p.node o.p.ph o.p.since o.p.cpu o.p.mem o.p.lab o.p.sel o.p.tol o.p.warm
def z_n (o : Ob) : Bool := zNd o.n.grp o.n.cpu o.n.mem o.n.lab o.n.tnt o.n.since o.n.closed
def c_n (o : Ob) : Bool := ndC o.n.grp o.n.cpu o.n.mem o.n.lab o.n.tnt o.n.since
def z_g (o : Ob) : Bool := zGp o.g.mn o.g.mx o.g.tg o.g.cpu o.g.mem o.g.lab o.g.tnt o.g.prio
def c_g (o : Ob) : Bool := gpC o.g.mn o.g.mx o.g.tg o.g.cpu o.g.mem o.g.lab o.g.tnt o.g.prio
def z_h (o : Ob) : Bool := zHp o.h.tg o.h.mn o.h.mx o.h.met o.h.tol o.h.uw o.h.up o.h.upol o.h.dw o.h.dp o.h.dpol o.h.past
def c_h (o : Ob) : Bool := hpC o.h.tg o.h.mn o.h.mx o.h.met o.h.tol o.h.uw o.h.up o.h.upol o.h.dw o.h.dp o.h.dpol o.h.past
def alC (o : Ob) : Bool := (decide (o.kind = 0) || z_w o) && (decide (o.kind = 1) || z_p o) && (decide (o.kind = 2) || z_n o) && (decide (o.kind = 3) || z_g o) && (decide (o.kind = 4) || z_h o)
def shC (o : Ob) : Bool := if o.kind = 0 then c_w o else if o.kind = 1 then c_p o else if o.kind = 2 then c_n o else if o.kind = 3 then c_g o else c_h o
def chkE (o : Ob) : Int := if withinB o.kind 0 4 = false then 17 else if nameB o.name = false then 6 else if alC o = false ∨ shC o = false then 2 else 0

theorem load_at {w : World} {B : Nat} {cs : Array Value} {T : TypeId} {fz : Nat × Nat} {o : Ob} (h : w.heap[B]? = some (.cells cs T fz)) (hv : HdV cs o) : w.cell? ⟨B, 0, none⟩ = some (.int .i64 o.kind) := (cell_of_block h 0).trans hv.1
theorem load_nm {w : World} {B : Nat} {cs : Array Value} {T : TypeId} {fz : Nat × Nat} {o : Ob} (h : w.heap[B]? = some (.cells cs T fz)) (hv : HdV cs o) : w.cell? ⟨B, 1, none⟩ = some (.string o.name) := (cell_of_block h 1).trans hv.2.1

end Go.Proofs.Ytdphooobgbminaa
