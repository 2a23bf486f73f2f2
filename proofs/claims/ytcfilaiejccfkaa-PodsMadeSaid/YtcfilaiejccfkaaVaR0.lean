/- The law's Right: workloads. -/
import Derived.Test.YtcfilaiejccfkaaVaR
import Derived.BigRegion
import Derived.Deep.DeepCutAuto
import Derived.Deep.CutRange
import Derived.Deep.Light
namespace Go.Proofs.Ytcfilaiejccfkaa
open Go.RowKit Go.Shelf Go.Lib Go.Sort
open Go.Joins (cell_of_block unfrozen_of_block block_setCell)
set_option linter.unusedVariables false
set_option linter.unusedSimpArgs false
set_option maxRecDepth 20000

set_option maxHeartbeats 8000000 in
theorem law0 (w : World) (cs : Array Value) (o : Ob) (hv : ObjV w cs o) (F : FitsO o) (hk : o.kind = 0) :
    Calls Try.prog 11 #[.agg cs] w fun e w' => e = .returned (.int .i64 (rgtE o)) ∧ Gr w w' := by
  have mixed : Try.prog.follows .mixedOrders = true := by kernel_rfl
  obtain ⟨B, hB⟩ : ∃ B, B = w.heap.size := ⟨_, rfl⟩
  obtain ⟨wb, hwb⟩ : ∃ wb, wb = w.alloc (.cells cs 46) := ⟨_, rfl⟩
  have G0 : Gr w wb := hwb ▸ (Gr.refl w).alloc _
  have b0 : wb.heap[B]? = some (.cells cs 46 (0, 0)) := by rw [hwb, hB]; exact heap_alloc_new w _
  have HB : Hid (∀ W, Gr wb W → Gr w W ∧ W.heap[B]? = some (.cells cs 46 (0, 0)) ∧ W.cell? ⟨B, 0, none⟩ = some (.int .i64 0)) := fun W g => ⟨G0.trans g, (g.heap (Array.getElem?_eq_some_iff.1 b0).1).trans b0, hk ▸ load_at ((g.heap (Array.getElem?_eq_some_iff.1 b0).1).trans b0) hv.2.1⟩
  obtain ⟨qw_lab, kw_lab, qw_sel, kw_sel, qw_tol, kw_tol, rw_lab, rw_sel, rw_tol, Lw⟩ := load_w hv
  have d1 : wb.cell? ⟨B, 1, none⟩ = some (.string o.name) := load_nm b0 hv.2.1
  have CN := Lib.hid (fun (W : World) => rname_any W o.name (by have := ftT_iff.1 F.name; omega))
  have CE := Lib.hid (fun (W : World) (g : Gr w W) => rempty_any W cs o (hv.below g.below) (by omega) F.lens)
  have LO : Hid ((Instr.loadAt 46 (.pointer (some ⟨B, 0, none⟩))).run Try.prog wb = .ok (.agg cs) wb) := load_ob b0 hv.1
  have HO : Hid (rgtE o = if nameB o.name = false then 6 else if (empE o && l_w o) = false then 2 else 0) := by show _ = _; simp [rgtE, lawS, hk]
  unfold l_w at HO
  have C2 := Lib.hid (fun (W : World) (g : Gr w W) => wants_any W o.w.cpu o.w.mem qw_lab kw_lab o.w.lab (rw_lab.gr g) F.w_lab_n F.w_lab qw_sel kw_sel o.w.sel (rw_sel.gr g) F.w_sel_n F.w_sel qw_tol kw_tol o.w.tol (rw_tol.gr g) F.w_tol_n F.w_tol o.w.warm)
  obtain ⟨p0, t0⟩ : ∃ p, decide (0 ≤ o.w.rep) = p := ⟨_, rfl⟩
  obtain ⟨p1, t1⟩ : ∃ p, decide (o.w.rep ≤ 1000000) = p := ⟨_, rfl⟩
  generalize hb2 : wantsB o.w.cpu o.w.mem o.w.lab o.w.sel o.w.tol o.w.warm = p2 at HO C2
  rw [t0, t1] at HO
  generalize hbn : nameB o.name = bn at HO CN
  generalize hbe : empE o = be at HO CE
  have LLw := Lib.hid Lw
  have HW := Lib.hid (And.intro hwb (And.intro hB G0))
  clear hbn hbe hb2 hv F hwb hB b0 G0 hk Lw rw_lab rw_sel rw_tol
  have TP := Lib.hid (⟨t0, t1⟩ : decide (0 ≤ o.w.rep) = p0 ∧ decide (o.w.rep ≤ 1000000) = p1)
  clear t0 t1
  obtain ⟨_, _, d0⟩ := HB.out _ (Gr.refl _)
  go_enter Try.func11, Try.ntmps11
  go_upto_region 1 with fail
  rw [← HW.out.1, ← HW.out.2.1]
  go_wp2_with fail
  refine (CN.out _).mono ?_
  rintro e w1 ⟨rfl, rfl⟩
  cases bn with
  | false => (go_wp2; go_ret; exact ⟨by rw [HO.out]; rfl, HW.out.2.2⟩)
  | true =>
    go_wp2_with (refine wpList_load_by (by kernel_rfl) 46 _ rfl (.pointer (some ⟨B, 0, none⟩)) (.agg cs) (by kernel_rfl) LO.out ?_)
    refine (CE.out _ HW.out.2.2).mono ?_
    rintro e w1 ⟨rfl, h1⟩
    have K1 := Lib.hid h1
    obtain ⟨g1, B1, d1'⟩ := HB.out _ K1.out
    have HB1 := Lib.hid B1
    have G1 := Lib.hid g1
    clear h1 B1 g1 d0 d1 LO
    have HX : Hid (∀ (W : World), Gr (w1.alloc (.cells #[.int .i64 o.w.rep, .int .i64 o.w.cpu, .int .i64 o.w.mem, .slice qw_lab o.w.lab.length kw_lab, .slice qw_sel o.w.sel.length kw_sel, .slice qw_tol o.w.tol.length kw_tol, .int .i64 o.w.warm] 33)) W → Gr w W ∧ W.cell? ⟨w1.heap.size, 0, none⟩ = some (.int .i64 o.w.rep) ∧ W.cell? ⟨w1.heap.size, 1, none⟩ = some (.int .i64 o.w.cpu) ∧ W.cell? ⟨w1.heap.size, 2, none⟩ = some (.int .i64 o.w.mem) ∧ W.cell? ⟨w1.heap.size, 3, none⟩ = some (.slice qw_lab o.w.lab.length kw_lab) ∧ W.cell? ⟨w1.heap.size, 4, none⟩ = some (.slice qw_sel o.w.sel.length kw_sel) ∧ W.cell? ⟨w1.heap.size, 5, none⟩ = some (.slice qw_tol o.w.tol.length kw_tol) ∧ W.cell? ⟨w1.heap.size, 6, none⟩ = some (.int .i64 o.w.warm)) := fun W g => ⟨(G1.out.trans ((Gr.refl w1).alloc _)).trans g, g.cell (by simp), g.cell (by simp), g.cell (by simp), g.cell (by simp), g.cell (by simp), g.cell (by simp), g.cell (by simp)⟩
    obtain ⟨g2, e0_0, e0_1, e0_2, e0_3, e0_4, e0_5, e0_6⟩ := HX.out _ (Gr.refl _)
    have G2 := Lib.hid g2
    have K2 := Lib.hid (Gr.refl (w1.alloc (.cells #[.int .i64 o.w.rep, .int .i64 o.w.cpu, .int .i64 o.w.mem, .slice qw_lab o.w.lab.length kw_lab, .slice qw_sel o.w.sel.length kw_sel, .slice qw_tol o.w.tol.length kw_tol, .int .i64 o.w.warm] 33)))
    clear g2
    cases be with
    | false =>
      go_upto_region 9 with (refine wpList_load_by (by kernel_rfl) 33 _ rfl (.pointer (some ⟨B, 3, none⟩)) (.agg #[.int .i64 o.w.rep, .int .i64 o.w.cpu, .int .i64 o.w.mem, .slice qw_lab o.w.lab.length kw_lab, .slice qw_sel o.w.sel.length kw_sel, .slice qw_tol o.w.tol.length kw_tol, .int .i64 o.w.warm]) (by rfl) (LLw.out _ _ _ _ HB1.out) ?_)
      go_wp2
      go_ret
      exact ⟨by rw [HO.out]; rfl, G2.out⟩
    | true =>
      obtain ⟨t0, t1⟩ := TP.out
      go_upto_region 9 with (refine wpList_load_by (by kernel_rfl) 33 _ rfl (.pointer (some ⟨B, 3, none⟩)) (.agg #[.int .i64 o.w.rep, .int .i64 o.w.cpu, .int .i64 o.w.mem, .slice qw_lab o.w.lab.length kw_lab, .slice qw_sel o.w.sel.length kw_sel, .slice qw_tol o.w.tol.length kw_tol, .int .i64 o.w.warm]) (by rfl) (LLw.out _ _ _ _ HB1.out) ?_)
      go_wp2_with fail
      any_goals (go_ret; refine ⟨ret_i ?_, G2.out⟩; go_light; rw [HO.out]; first | rfl | (simp [*]; done) | (simp_all; done))
      refine (C2.out _ G2.out).mono ?_
      rintro e w3 ⟨rfl, h3⟩
      have K3 := Lib.hid (K2.out.trans h3)
      have G3 := Lib.hid (HX.out _ K3.out).1
      obtain ⟨_, e3_0, e3_1, e3_2, e3_3, e3_4, e3_5, e3_6⟩ := HX.out _ K3.out
      clear h3
      cases p2 with
      | false =>
        go_wp2
        all_goals (go_ret; refine ⟨ret_i ?_, G3.out⟩; go_light; rw [HO.out]; first | rfl | (simp [*]; done) | (simp_all; done))
      | true =>
        go_wp2
        all_goals (go_ret; refine ⟨ret_i ?_, G3.out⟩; go_light; rw [HO.out]; first | rfl | (simp [*]; done) | (simp_all; done))

end Go.Proofs.Ytcfilaiejccfkaa
