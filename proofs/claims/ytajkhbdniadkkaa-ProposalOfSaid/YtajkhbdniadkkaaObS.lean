/- An object's shapes, loaded out of its block. -/
import Derived.Test.YtajkhbdniadkkaaObEa
import Derived.Test.YtajkhbdniadkkaaObD
namespace Go.Proofs.Ytajkhbdniadkkaa
open Go.RowKit Go.Shelf Go.Lib Go.Sort
open Go.Joins (cell_of_block unfrozen_of_block block_setCell)
set_option linter.unusedVariables false
set_option maxRecDepth 20000

theorem range_of {w : World} {B : Nat} {cs : Array Value} {T : TypeId} {fz : Nat × Nat} {off : Nat} {l : List Value} (h : w.heap[B]? = some (.cells cs T fz)) (r : Rg cs off l) : w.rangeAt B off l := fun j v hv => by
  rw [cell_of_block h]
  exact r j v hv
theorem load_sub {w : World} {B : Nat} {cs : Array Value} {T : TypeId} {fz : Nat × Nat} {off : Nat} {l : List Value} {t : TypeId} {fs : Array Field} (ht : Try.prog.underlying t = some (.struct fs)) (hs : (Try.prog.info? t).map (·.size) = some l.length) (h : w.heap[B]? = some (.cells cs T fz)) (r : Rg cs off l) :
    (Instr.loadAt t (.pointer (some ⟨B, off, none⟩))).run Try.prog w = .ok (.agg l.toArray) w :=
  run_loadAt_mid (P := Try.prog) w B off t l _ (range_of h r) ht rfl hs

theorem load_w {W : World} {cs : Array Value} {o : Ob} (hv : ObjV W cs o) : ∃ (q_lab : Option Addr) (k_lab : Nat), ∃ (q_sel : Option Addr) (k_sel : Nat), ∃ (q_tol : Option Addr) (k_tol : Nat),
    RowR 2 encL W q_lab o.w.lab ∧ RowR 3 encR W q_sel o.w.sel ∧ RowR 2 encL W q_tol o.w.tol ∧ ∀ (w : World) (B : Nat) (T : TypeId) (fz : Nat × Nat), w.heap[B]? = some (.cells cs T fz) → (Instr.loadAt 84 (.pointer (some ⟨B, 3, none⟩))).run Try.prog w = .ok (.agg #[.int .i64 o.w.rep, .int .i64 o.w.cpu, .int .i64 o.w.mem, .slice q_lab o.w.lab.length k_lab, .slice q_sel o.w.sel.length k_sel, .slice q_tol o.w.tol.length k_tol, .int .i64 o.w.warm]) w := by
  obtain ⟨_, _, hW, hP, hN, hG, hH⟩ := hv
  obtain ⟨c0, c1, c2, ⟨q_lab, k_lab, c3, r_lab⟩, ⟨q_sel, k_sel, c4, r_sel⟩, ⟨q_tol, k_tol, c5, r_tol⟩, c6⟩ := hW
  exact ⟨q_lab, k_lab, q_sel, k_sel, q_tol, k_tol, r_lab, r_sel, r_tol, fun w B T fz h => load_sub Try.underlying84 (by kernel_rfl) h (Rg.cons c0 (Rg.cons c1 (Rg.cons c2 (Rg.cons c3 (Rg.cons c4 (Rg.cons c5 (Rg.cons c6 (Rg.nil _ _))))))))⟩
theorem load_p {W : World} {cs : Array Value} {o : Ob} (hv : ObjV W cs o) : ∃ (q_lab : Option Addr) (k_lab : Nat), ∃ (q_sel : Option Addr) (k_sel : Nat), ∃ (q_tol : Option Addr) (k_tol : Nat),
    RowR 2 encL W q_lab o.p.lab ∧ RowR 3 encR W q_sel o.p.sel ∧ RowR 2 encL W q_tol o.p.tol ∧ ∀ (w : World) (B : Nat) (T : TypeId) (fz : Nat × Nat), w.heap[B]? = some (.cells cs T fz) → (Instr.loadAt 86 (.pointer (some ⟨B, 10, none⟩))).run Try.prog w = .ok (.agg #[.string o.p.own, .string o.p.node, .int .i64 o.p.ph, .int .i64 o.p.since, .int .i64 o.p.cpu, .int .i64 o.p.mem, .slice q_lab o.p.lab.length k_lab, .slice q_sel o.p.sel.length k_sel, .slice q_tol o.p.tol.length k_tol, .int .i64 o.p.warm]) w := by
  obtain ⟨_, _, hW, hP, hN, hG, hH⟩ := hv
  obtain ⟨c0, c1, c2, c3, c4, c5, ⟨q_lab, k_lab, c6, r_lab⟩, ⟨q_sel, k_sel, c7, r_sel⟩, ⟨q_tol, k_tol, c8, r_tol⟩, c9⟩ := hP
  exact ⟨q_lab, k_lab, q_sel, k_sel, q_tol, k_tol, r_lab, r_sel, r_tol, fun w B T fz h => load_sub Try.underlying86 (by kernel_rfl) h (Rg.cons c0 (Rg.cons c1 (Rg.cons c2 (Rg.cons c3 (Rg.cons c4 (Rg.cons c5 (Rg.cons c6 (Rg.cons c7 (Rg.cons c8 (Rg.cons c9 (Rg.nil _ _)))))))))))⟩
theorem load_n {W : World} {cs : Array Value} {o : Ob} (hv : ObjV W cs o) : ∃ (q_lab : Option Addr) (k_lab : Nat), ∃ (q_tnt : Option Addr) (k_tnt : Nat),
    RowR 2 encL W q_lab o.n.lab ∧ RowR 2 encL W q_tnt o.n.tnt ∧ ∀ (w : World) (B : Nat) (T : TypeId) (fz : Nat × Nat), w.heap[B]? = some (.cells cs T fz) → (Instr.loadAt 88 (.pointer (some ⟨B, 20, none⟩))).run Try.prog w = .ok (.agg #[.string o.n.grp, .int .i64 o.n.cpu, .int .i64 o.n.mem, .slice q_lab o.n.lab.length k_lab, .slice q_tnt o.n.tnt.length k_tnt, .int .i64 o.n.since, .bool o.n.closed]) w := by
  obtain ⟨_, _, hW, hP, hN, hG, hH⟩ := hv
  obtain ⟨c0, c1, c2, ⟨q_lab, k_lab, c3, r_lab⟩, ⟨q_tnt, k_tnt, c4, r_tnt⟩, c5, c6⟩ := hN
  exact ⟨q_lab, k_lab, q_tnt, k_tnt, r_lab, r_tnt, fun w B T fz h => load_sub Try.underlying88 (by kernel_rfl) h (Rg.cons c0 (Rg.cons c1 (Rg.cons c2 (Rg.cons c3 (Rg.cons c4 (Rg.cons c5 (Rg.cons c6 (Rg.nil _ _))))))))⟩
theorem load_g {W : World} {cs : Array Value} {o : Ob} (hv : ObjV W cs o) : ∃ (q_lab : Option Addr) (k_lab : Nat), ∃ (q_tnt : Option Addr) (k_tnt : Nat),
    RowR 2 encL W q_lab o.g.lab ∧ RowR 2 encL W q_tnt o.g.tnt ∧ ∀ (w : World) (B : Nat) (T : TypeId) (fz : Nat × Nat), w.heap[B]? = some (.cells cs T fz) → (Instr.loadAt 90 (.pointer (some ⟨B, 27, none⟩))).run Try.prog w = .ok (.agg #[.int .i64 o.g.mn, .int .i64 o.g.mx, .int .i64 o.g.tg, .int .i64 o.g.cpu, .int .i64 o.g.mem, .slice q_lab o.g.lab.length k_lab, .slice q_tnt o.g.tnt.length k_tnt, .int .i64 o.g.prio]) w := by
  obtain ⟨_, _, hW, hP, hN, hG, hH⟩ := hv
  obtain ⟨c0, c1, c2, c3, c4, ⟨q_lab, k_lab, c5, r_lab⟩, ⟨q_tnt, k_tnt, c6, r_tnt⟩, c7⟩ := hG
  exact ⟨q_lab, k_lab, q_tnt, k_tnt, r_lab, r_tnt, fun w B T fz h => load_sub Try.underlying90 (by kernel_rfl) h (Rg.cons c0 (Rg.cons c1 (Rg.cons c2 (Rg.cons c3 (Rg.cons c4 (Rg.cons c5 (Rg.cons c6 (Rg.cons c7 (Rg.nil _ _)))))))))⟩
theorem load_h {W : World} {cs : Array Value} {o : Ob} (hv : ObjV W cs o) : ∃ (q_met : Option Addr) (k_met : Nat), ∃ (q_upol : Option Addr) (k_upol : Nat), ∃ (q_dpol : Option Addr) (k_dpol : Nat), ∃ (q_past : Option Addr) (k_past : Nat),
    RowR 3 encM W q_met o.h.met ∧ RowR 3 encP W q_upol o.h.upol ∧ RowR 3 encP W q_dpol o.h.dpol ∧ RowR 3 encS W q_past o.h.past ∧ ∀ (w : World) (B : Nat) (T : TypeId) (fz : Nat × Nat), w.heap[B]? = some (.cells cs T fz) → (Instr.loadAt 97 (.pointer (some ⟨B, 35, none⟩))).run Try.prog w = .ok (.agg #[.string o.h.tg, .int .i64 o.h.mn, .int .i64 o.h.mx, .slice q_met o.h.met.length k_met, .int .i64 o.h.tol, .int .i64 o.h.uw, .int .i64 o.h.up, .slice q_upol o.h.upol.length k_upol, .int .i64 o.h.dw, .int .i64 o.h.dp, .slice q_dpol o.h.dpol.length k_dpol, .slice q_past o.h.past.length k_past]) w := by
  obtain ⟨_, _, hW, hP, hN, hG, hH⟩ := hv
  obtain ⟨c0, c1, c2, ⟨q_met, k_met, c3, r_met⟩, c4, c5, c6, ⟨q_upol, k_upol, c7, r_upol⟩, c8, c9, ⟨q_dpol, k_dpol, c10, r_dpol⟩, ⟨q_past, k_past, c11, r_past⟩⟩ := hH
  exact ⟨q_met, k_met, q_upol, k_upol, q_dpol, k_dpol, q_past, k_past, r_met, r_upol, r_dpol, r_past, fun w B T fz h => load_sub Try.underlying97 (by kernel_rfl) h (Rg.cons c0 (Rg.cons c1 (Rg.cons c2 (Rg.cons c3 (Rg.cons c4 (Rg.cons c5 (Rg.cons c6 (Rg.cons c7 (Rg.cons c8 (Rg.cons c9 (Rg.cons c10 (Rg.cons c11 (Rg.nil _ _)))))))))))))⟩
/-- No text is longer, and no row, than memory is. -/
structure FitsO (o : Ob) : Prop where
  name : ftT o.name = true
  w_lab_r : o.w.lab.length ≤ 140737488351232
  w_lab : o.w.lab.all ftL = true
  w_sel_r : o.w.sel.length ≤ 140737488351232
  w_sel : o.w.sel.all ftR = true
  w_tol_r : o.w.tol.length ≤ 140737488351232
  w_tol : o.w.tol.all ftL = true
  p_own : ftT o.p.own = true
  p_node : ftT o.p.node = true
  p_lab_r : o.p.lab.length ≤ 140737488351232
  p_lab : o.p.lab.all ftL = true
  p_sel_r : o.p.sel.length ≤ 140737488351232
  p_sel : o.p.sel.all ftR = true
  p_tol_r : o.p.tol.length ≤ 140737488351232
  p_tol : o.p.tol.all ftL = true
  n_grp : ftT o.n.grp = true
  n_lab_r : o.n.lab.length ≤ 140737488351232
  n_lab : o.n.lab.all ftL = true
  n_tnt_r : o.n.tnt.length ≤ 140737488351232
  n_tnt : o.n.tnt.all ftL = true
  g_lab_r : o.g.lab.length ≤ 140737488351232
  g_lab : o.g.lab.all ftL = true
  g_tnt_r : o.g.tnt.length ≤ 140737488351232
  g_tnt : o.g.tnt.all ftL = true
  h_tg : ftT o.h.tg = true
  h_met_r : o.h.met.length ≤ 140737488351232
  h_met : o.h.met.all ftM = true
  h_upol_r : o.h.upol.length ≤ 140737488351232
  h_dpol_r : o.h.dpol.length ≤ 140737488351232
  h_past_r : o.h.past.length ≤ 140737488351232
theorem FitsO.w_lab_n {o : Ob} (F : FitsO o) : o.w.lab.length ≤ 9223372036854775807 := Nat.le_trans F.w_lab_r (by decide)
theorem FitsO.w_sel_n {o : Ob} (F : FitsO o) : o.w.sel.length ≤ 9223372036854775807 := Nat.le_trans F.w_sel_r (by decide)
theorem FitsO.w_tol_n {o : Ob} (F : FitsO o) : o.w.tol.length ≤ 9223372036854775807 := Nat.le_trans F.w_tol_r (by decide)
theorem FitsO.p_lab_n {o : Ob} (F : FitsO o) : o.p.lab.length ≤ 9223372036854775807 := Nat.le_trans F.p_lab_r (by decide)
theorem FitsO.p_sel_n {o : Ob} (F : FitsO o) : o.p.sel.length ≤ 9223372036854775807 := Nat.le_trans F.p_sel_r (by decide)
theorem FitsO.p_tol_n {o : Ob} (F : FitsO o) : o.p.tol.length ≤ 9223372036854775807 := Nat.le_trans F.p_tol_r (by decide)
theorem FitsO.n_lab_n {o : Ob} (F : FitsO o) : o.n.lab.length ≤ 9223372036854775807 := Nat.le_trans F.n_lab_r (by decide)
theorem FitsO.n_tnt_n {o : Ob} (F : FitsO o) : o.n.tnt.length ≤ 9223372036854775807 := Nat.le_trans F.n_tnt_r (by decide)
theorem FitsO.g_lab_n {o : Ob} (F : FitsO o) : o.g.lab.length ≤ 9223372036854775807 := Nat.le_trans F.g_lab_r (by decide)
theorem FitsO.g_tnt_n {o : Ob} (F : FitsO o) : o.g.tnt.length ≤ 9223372036854775807 := Nat.le_trans F.g_tnt_r (by decide)
theorem FitsO.h_met_n {o : Ob} (F : FitsO o) : o.h.met.length ≤ 9223372036854775807 := Nat.le_trans F.h_met_r (by decide)
theorem FitsO.h_upol_n {o : Ob} (F : FitsO o) : o.h.upol.length ≤ 9223372036854775807 := Nat.le_trans F.h_upol_r (by decide)
theorem FitsO.h_dpol_n {o : Ob} (F : FitsO o) : o.h.dpol.length ≤ 9223372036854775807 := Nat.le_trans F.h_dpol_r (by decide)
theorem FitsO.h_past_n {o : Ob} (F : FitsO o) : o.h.past.length ≤ 9223372036854775807 := Nat.le_trans F.h_past_r (by decide)
end Go.Proofs.Ytajkhbdniadkkaa
