/- What the law asks of an object, shape by shape. -/
import Derived.Test.YtdphooobgbminaaVaQ
import Derived.Test.YtdphooobgbminaaVaG
import Derived.Test.YtdphooobgbminaaObE
import Derived.BigRegion
import Derived.Deep.DeepCutAuto
import Derived.Deep.CutRange
import Derived.Deep.Light
namespace Go.Proofs.Ytdphooobgbminaa
open Go.RowKit Go.Shelf Go.Lib Go.Sort
open Go.Joins (cell_of_block unfrozen_of_block block_setCell)
set_option linter.unusedVariables false
set_option linter.unusedSimpArgs false
set_option maxRecDepth 20000

def l_w (o : Ob) : Bool := decide (0 ≤ o.w.rep) && decide (o.w.rep ≤ 1000000) && wantsB o.w.cpu o.w.mem o.w.lab o.w.sel o.w.tol o.w.warm
def l_n (o : Ob) : Bool := mayB o.n.grp && resB o.n.cpu o.n.mem && rightB o.n.lab && rightB o.n.tnt && decide (0 ≤ o.n.since) && decide (o.n.since ≤ 4611686018427387904)
def l_g (o : Ob) : Bool := decide (0 ≤ o.g.mn) && decide (o.g.mn ≤ o.g.tg) && decide (o.g.tg ≤ o.g.mx) && decide (o.g.mx ≤ 64) && resB o.g.cpu o.g.mem && rightB o.g.lab && rightB o.g.tnt && decide (0 ≤ o.g.prio) && decide (o.g.prio ≤ 1000)
def l_p (o : Ob) : Bool := nameB o.p.own && mayB o.p.node && decide (0 ≤ o.p.ph) && decide (o.p.ph ≤ 3) && decide (0 ≤ o.p.since) && decide (o.p.since ≤ 4611686018427387904) && wantsB o.p.cpu o.p.mem o.p.lab o.p.sel o.p.tol o.p.warm && ((o.p.ph == 3) || ((o.p.ph == 0) == decide (o.p.node.size = 0)))
def lawC (l : List Sca) (j : Nat) : Bool := match l[j]? with
  | some x => decide (0 ≤ x.1) && decide (x.1 ≤ 4611686018427387904) && decide (0 ≤ x.2.1) && decide (x.2.1 ≤ 1000000) && decide (0 ≤ x.2.2) && decide (x.2.2 ≤ 1000000) && (decide (j = 0) || decide (lastAt 0 l j ≤ x.1))
  | none => true
def lawU (l : List Sca) : Nat → Bool
  | 0 => true
  | k + 1 => lawU l k && lawC l k
def h0B (o : Ob) : Bool := nameB o.h.tg && decide (1 ≤ o.h.mn) && decide (o.h.mn ≤ o.h.mx) && decide (o.h.mx ≤ 1000000) && decide (1 ≤ (o.h.met.length : Int)) && decide ((o.h.met.length : Int) ≤ 4) && decide (0 ≤ o.h.tol) && decide (o.h.tol ≤ 1000) && behC o.h.uw o.h.up o.h.upol && behC o.h.dw o.h.dp o.h.dpol
def l_h (o : Ob) : Bool := h0B o && lawU o.h.past o.h.past.length && decide ((o.h.past.length : Int) ≤ 32) && o.h.met.all metB
def lawS (o : Ob) : Bool := if o.kind = 0 then l_w o else if o.kind = 1 then l_p o else if o.kind = 2 then l_n o else if o.kind = 3 then l_g o else l_h o
def rgtE (o : Ob) : Int := if o.kind < 0 ∨ 4 < o.kind then 17 else if nameB o.name = false then 6 else if (empE o && lawS o) = false then 2 else 0
theorem FitsO.lens {o : Ob} (F : FitsO o) : LensO o := ⟨by have := F.w_lab_r; omega, by have := F.w_sel_r; omega, by have := F.w_tol_r; omega, by have := F.p_lab_r; omega, by have := F.p_sel_r; omega, by have := F.p_tol_r; omega, by have := F.n_lab_r; omega, by have := F.n_tnt_r; omega, by have := F.g_lab_r; omega, by have := F.g_tnt_r; omega, by have := F.h_met_r; omega, by have := F.h_upol_r; omega, by have := F.h_dpol_r; omega, by have := F.h_past_r; omega⟩
theorem ret_i {a b : Int} (h : a = b) : Ending.returned (.int .i64 a) = .returned (.int .i64 b) := by rw [h]

end Go.Proofs.Ytdphooobgbminaa
