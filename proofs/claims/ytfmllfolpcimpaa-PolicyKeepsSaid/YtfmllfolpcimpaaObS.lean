/- An object's shapes, loaded out of its block. -/
import Derived.Test.YtfmllfolpcimpaaObEa
import Derived.Test.YtfmllfolpcimpaaObD
namespace Go.Proofs.Ytfmllfolpcimpaa
open Go.RowKit Go.Shelf Go.Lib Go.Sort
open Go.Joins (cell_of_block unfrozen_of_block block_setCell)
set_option linter.unusedVariables false
set_option maxRecDepth 20000

theorem range_of {w : World} {B : Nat} {cs : Array Value} {T : TypeId} {fz : Nat × Nat} {off : Nat} {l : List Value} (h : w.heap[B]? = some (.cells cs T fz)) (r : Rg cs off l) : w.rangeAt B off l := fun j v hv => by
  rw [cell_of_block h]
  exact r j v hv
theorem load_sub {w : World} {B : Nat} {cs : Array Value} {T : TypeId} {fz : Nat × Nat} {off : Nat} {l : List Value} {t : TypeId} {fs : Array Field} (ht : Try.prog.underlying t = some (.struct fs)) (hs : (Try.prog.info? t).map (·.size) = some l.length) (h : w.heap[B]? = some (.cells cs T fz)) (r : Rg cs off l) :
    (Instr.loadAt t (.pointer (some ⟨B, off, none⟩))).run Try.prog w = .ok (.agg l.toArray) w :=
  run_loadAt_mid (P := Try.prog) w B off t l _ (range_of h r) ht rfl hs

/-- No text is longer, and no row, than memory is. -/
structure FitsO (o : Ob) : Prop where
  name : ftT o.name = true
  w_lab_r : o.w.lab.length ≤ 140737488351232
  w_lab : o.w.lab.all ftL = true
  w_sel_r : o.w.sel.length ≤ 140737488351232
  w_sel : o.w.sel.all ftR = true
  w_tol_r : o.w.tol.length ≤ 140737488351232
  w_tol : o.w.tol.all ftL = true
  p_own : ftT o.p.own = true
  p_node : ftT o.p.node = true
  p_lab_r : o.p.lab.length ≤ 140737488351232
  p_lab : o.p.lab.all ftL = true
  p_sel_r : o.p.sel.length ≤ 140737488351232
  p_sel : o.p.sel.all ftR = true
  p_tol_r : o.p.tol.length ≤ 140737488351232
  p_tol : o.p.tol.all ftL = true
  n_grp : ftT o.n.grp = true
  n_lab_r : o.n.lab.length ≤ 140737488351232
  n_lab : o.n.lab.all ftL = true
  n_tnt_r : o.n.tnt.length ≤ 140737488351232
  n_tnt : o.n.tnt.all ftL = true
  g_lab_r : o.g.lab.length ≤ 140737488351232
  g_lab : o.g.lab.all ftL = true
  g_tnt_r : o.g.tnt.length ≤ 140737488351232
  g_tnt : o.g.tnt.all ftL = true
  h_tg : ftT o.h.tg = true
  h_met_r : o.h.met.length ≤ 140737488351232
  h_met : o.h.met.all ftM = true
  h_upol_r : o.h.upol.length ≤ 140737488351232
  h_dpol_r : o.h.dpol.length ≤ 140737488351232
  h_past_r : o.h.past.length ≤ 140737488351232
theorem FitsO.w_lab_n {o : Ob} (F : FitsO o) : o.w.lab.length ≤ 9223372036854775807 := Nat.le_trans F.w_lab_r (by decide)
theorem FitsO.w_sel_n {o : Ob} (F : FitsO o) : o.w.sel.length ≤ 9223372036854775807 := Nat.le_trans F.w_sel_r (by decide)
theorem FitsO.w_tol_n {o : Ob} (F : FitsO o) : o.w.tol.length ≤ 9223372036854775807 := Nat.le_trans F.w_tol_r (by decide)
theorem FitsO.p_lab_n {o : Ob} (F : FitsO o) : o.p.lab.length ≤ 9223372036854775807 := Nat.le_trans F.p_lab_r (by decide)
theorem FitsO.p_sel_n {o : Ob} (F : FitsO o) : o.p.sel.length ≤ 9223372036854775807 := Nat.le_trans F.p_sel_r (by decide)
theorem FitsO.p_tol_n {o : Ob} (F : FitsO o) : o.p.tol.length ≤ 9223372036854775807 := Nat.le_trans F.p_tol_r (by decide)
theorem FitsO.n_lab_n {o : Ob} (F : FitsO o) : o.n.lab.length ≤ 9223372036854775807 := Nat.le_trans F.n_lab_r (by decide)
theorem FitsO.n_tnt_n {o : Ob} (F : FitsO o) : o.n.tnt.length ≤ 9223372036854775807 := Nat.le_trans F.n_tnt_r (by decide)
theorem FitsO.g_lab_n {o : Ob} (F : FitsO o) : o.g.lab.length ≤ 9223372036854775807 := Nat.le_trans F.g_lab_r (by decide)
theorem FitsO.g_tnt_n {o : Ob} (F : FitsO o) : o.g.tnt.length ≤ 9223372036854775807 := Nat.le_trans F.g_tnt_r (by decide)
theorem FitsO.h_met_n {o : Ob} (F : FitsO o) : o.h.met.length ≤ 9223372036854775807 := Nat.le_trans F.h_met_r (by decide)
theorem FitsO.h_upol_n {o : Ob} (F : FitsO o) : o.h.upol.length ≤ 9223372036854775807 := Nat.le_trans F.h_upol_r (by decide)
theorem FitsO.h_dpol_n {o : Ob} (F : FitsO o) : o.h.dpol.length ≤ 9223372036854775807 := Nat.le_trans F.h_dpol_r (by decide)
theorem FitsO.h_past_n {o : Ob} (F : FitsO o) : o.h.past.length ≤ 9223372036854775807 := Nat.le_trans F.h_past_r (by decide)
end Go.Proofs.Ytfmllfolpcimpaa
