/- The law's Right: pods. -/
import Derived.Test.YtdphooobgbminaaVaR
import Derived.BigRegion
import Derived.Deep.DeepCutAuto
import Derived.Deep.CutRange
import Derived.Deep.Light
namespace Go.Proofs.Ytdphooobgbminaa
open Go.RowKit Go.Shelf Go.Lib Go.Sort
open Go.Joins (cell_of_block unfrozen_of_block block_setCell)
set_option linter.unusedVariables false
set_option linter.unusedSimpArgs false
set_option maxRecDepth 20000

set_option maxHeartbeats 8000000 in
theorem law1e (w : World) (cs : Array Value) (o : Ob) (hv : ObjV w cs o) (F : FitsO o) (hk : o.kind = 1) (hx : o.p.node.size = 0) :
    Calls Try.prog 13 #[.agg cs] w fun e w' => e = .returned (.int .i64 (rgtE o)) ∧ Gr w w' := by
  have mixed : Try.prog.follows .mixedOrders = true := by kernel_rfl
  obtain ⟨B, hB⟩ : ∃ B, B = w.heap.size := ⟨_, rfl⟩
  obtain ⟨wb, hwb⟩ : ∃ wb, wb = w.alloc (.cells cs 44) := ⟨_, rfl⟩
  have G0 : Gr w wb := hwb ▸ (Gr.refl w).alloc _
  have b0 : wb.heap[B]? = some (.cells cs 44 (0, 0)) := by rw [hwb, hB]; exact heap_alloc_new w _
  have HB : Hid (∀ W, Gr wb W → Gr w W ∧ W.heap[B]? = some (.cells cs 44 (0, 0)) ∧ W.cell? ⟨B, 0, none⟩ = some (.int .i64 1)) := fun W g => ⟨G0.trans g, (g.heap (Array.getElem?_eq_some_iff.1 b0).1).trans b0, hk ▸ load_at ((g.heap (Array.getElem?_eq_some_iff.1 b0).1).trans b0) hv.2.1⟩
  obtain ⟨qp_lab, kp_lab, qp_sel, kp_sel, qp_tol, kp_tol, rp_lab, rp_sel, rp_tol, Lp⟩ := load_p hv
  have d1 : wb.cell? ⟨B, 1, none⟩ = some (.string o.name) := load_nm b0 hv.2.1
  have CN := Lib.hid (fun (W : World) => rname_any W o.name (by have := ftT_iff.1 F.name; omega))
  have CE := Lib.hid (fun (W : World) (g : Gr w W) => rempty_any W cs o (hv.below g.below) (by omega) F.lens)
  have LO : Hid ((Instr.loadAt 44 (.pointer (some ⟨B, 0, none⟩))).run Try.prog wb = .ok (.agg cs) wb) := load_ob b0 hv.1
  have HO : Hid (rgtE o = if nameB o.name = false then 6 else if (empE o && l_p o) = false then 2 else 0) := by show _ = _; simp [rgtE, lawS, hk]
  unfold l_p at HO
  have C0 := Lib.hid (fun (W : World) => rname_any W o.p.own (by have := ftT_iff.1 F.p_own; omega))
  have em1 : mayB o.p.node = true := by rw [mayB, decide_eq_true hx, Bool.true_or]
  have te1 : (o.p.node.toList == ([] : List UInt8)) = true := by rw [empty_test, decide_eq_true hx]
  rw [em1] at HO
  clear em1
  have C6 := Lib.hid (fun (W : World) (g : Gr w W) => wants_any W o.p.cpu o.p.mem qp_lab kp_lab o.p.lab (rp_lab.gr g) F.p_lab_n F.p_lab qp_sel kp_sel o.p.sel (rp_sel.gr g) F.p_sel_n F.p_sel qp_tol kp_tol o.p.tol (rp_tol.gr g) F.p_tol_n F.p_tol o.p.warm)
  generalize hb0 : nameB o.p.own = p0 at HO C0
  obtain ⟨p2, t2⟩ : ∃ p, decide (0 ≤ o.p.ph) = p := ⟨_, rfl⟩
  obtain ⟨p3, t3⟩ : ∃ p, decide (o.p.ph ≤ 3) = p := ⟨_, rfl⟩
  obtain ⟨p4, t4⟩ : ∃ p, decide (0 ≤ o.p.since) = p := ⟨_, rfl⟩
  obtain ⟨p5, t5⟩ : ∃ p, decide (o.p.since ≤ 4611686018427387904) = p := ⟨_, rfl⟩
  generalize hb6 : wantsB o.p.cpu o.p.mem o.p.lab o.p.sel o.p.tol o.p.warm = p6 at HO C6
  rw [decide_eq_true hx] at HO
  obtain ⟨p_3, t_3⟩ : ∃ p, (o.p.ph == 3) = p := ⟨_, rfl⟩
  obtain ⟨p_0, t_0⟩ : ∃ p, (o.p.ph == 0) = p := ⟨_, rfl⟩
  rw [t2, t3, t4, t5, t_3, t_0] at HO
  generalize hbn : nameB o.name = bn at HO CN
  generalize hbe : empE o = be at HO CE
  have LLp := Lib.hid Lp
  have HW := Lib.hid (And.intro hwb (And.intro hB G0))
  clear hbn hbe hb0 hb6 hv F hwb hB b0 G0 hk Lp rp_lab rp_sel rp_tol
  have TP := Lib.hid (⟨t2, t3, t4, t5, t_3, t_0⟩ : decide (0 ≤ o.p.ph) = p2 ∧ decide (o.p.ph ≤ 3) = p3 ∧ decide (0 ≤ o.p.since) = p4 ∧ decide (o.p.since ≤ 4611686018427387904) = p5 ∧ (o.p.ph == 3) = p_3 ∧ (o.p.ph == 0) = p_0)
  clear t2 t3 t4 t5 t_3 t_0
  obtain ⟨_, _, d0⟩ := HB.out _ (Gr.refl _)
  go_enter Try.func13, Try.ntmps13
  go_upto_region 1 with fail
  rw [← HW.out.1, ← HW.out.2.1]
  go_wp2_with fail
  refine (CN.out _).mono ?_
  rintro e w1 ⟨rfl, rfl⟩
  cases bn with
  | false => (go_wp2; go_ret; exact ⟨by rw [HO.out]; rfl, HW.out.2.2⟩)
  | true =>
    go_wp2_with (refine wpList_load_by (by kernel_rfl) 44 _ rfl (.pointer (some ⟨B, 0, none⟩)) (.agg cs) (by kernel_rfl) LO.out ?_)
    refine (CE.out _ HW.out.2.2).mono ?_
    rintro e w1 ⟨rfl, h1⟩
    have K1 := Lib.hid h1
    obtain ⟨g1, B1, d1'⟩ := HB.out _ K1.out
    have HB1 := Lib.hid B1
    have G1 := Lib.hid g1
    clear h1 B1 g1 d0 d1 LO
    have HX : Hid (∀ (W : World), Gr (w1.alloc (.cells #[.string o.p.own, .string o.p.node, .int .i64 o.p.ph, .int .i64 o.p.since, .int .i64 o.p.cpu, .int .i64 o.p.mem, .slice qp_lab o.p.lab.length kp_lab, .slice qp_sel o.p.sel.length kp_sel, .slice qp_tol o.p.tol.length kp_tol, .int .i64 o.p.warm] 31)) W → Gr w W ∧ W.cell? ⟨w1.heap.size, 0, none⟩ = some (.string o.p.own) ∧ W.cell? ⟨w1.heap.size, 1, none⟩ = some (.string o.p.node) ∧ W.cell? ⟨w1.heap.size, 2, none⟩ = some (.int .i64 o.p.ph) ∧ W.cell? ⟨w1.heap.size, 3, none⟩ = some (.int .i64 o.p.since) ∧ W.cell? ⟨w1.heap.size, 4, none⟩ = some (.int .i64 o.p.cpu) ∧ W.cell? ⟨w1.heap.size, 5, none⟩ = some (.int .i64 o.p.mem) ∧ W.cell? ⟨w1.heap.size, 6, none⟩ = some (.slice qp_lab o.p.lab.length kp_lab) ∧ W.cell? ⟨w1.heap.size, 7, none⟩ = some (.slice qp_sel o.p.sel.length kp_sel) ∧ W.cell? ⟨w1.heap.size, 8, none⟩ = some (.slice qp_tol o.p.tol.length kp_tol) ∧ W.cell? ⟨w1.heap.size, 9, none⟩ = some (.int .i64 o.p.warm)) := fun W g => ⟨(G1.out.trans ((Gr.refl w1).alloc _)).trans g, g.cell (by simp), g.cell (by simp), g.cell (by simp), g.cell (by simp), g.cell (by simp), g.cell (by simp), g.cell (by simp), g.cell (by simp), g.cell (by simp), g.cell (by simp)⟩
    obtain ⟨g2, e0_0, e0_1, e0_2, e0_3, e0_4, e0_5, e0_6, e0_7, e0_8, e0_9⟩ := HX.out _ (Gr.refl _)
    have G2 := Lib.hid g2
    have K2 := Lib.hid (Gr.refl (w1.alloc (.cells #[.string o.p.own, .string o.p.node, .int .i64 o.p.ph, .int .i64 o.p.since, .int .i64 o.p.cpu, .int .i64 o.p.mem, .slice qp_lab o.p.lab.length kp_lab, .slice qp_sel o.p.sel.length kp_sel, .slice qp_tol o.p.tol.length kp_tol, .int .i64 o.p.warm] 31)))
    clear g2
    cases be with
    | false =>
      go_upto_region 12 with (refine wpList_load_by (by kernel_rfl) 31 _ rfl (.pointer (some ⟨B, 10, none⟩)) (.agg #[.string o.p.own, .string o.p.node, .int .i64 o.p.ph, .int .i64 o.p.since, .int .i64 o.p.cpu, .int .i64 o.p.mem, .slice qp_lab o.p.lab.length kp_lab, .slice qp_sel o.p.sel.length kp_sel, .slice qp_tol o.p.tol.length kp_tol, .int .i64 o.p.warm]) (by rfl) (LLp.out _ _ _ _ HB1.out) ?_)
      go_wp2
      go_ret
      exact ⟨by rw [HO.out]; rfl, G2.out⟩
    | true =>
      obtain ⟨t2, t3, t4, t5, t_3, t_0⟩ := TP.out
      go_upto_region 12 with (refine wpList_load_by (by kernel_rfl) 31 _ rfl (.pointer (some ⟨B, 10, none⟩)) (.agg #[.string o.p.own, .string o.p.node, .int .i64 o.p.ph, .int .i64 o.p.since, .int .i64 o.p.cpu, .int .i64 o.p.mem, .slice qp_lab o.p.lab.length kp_lab, .slice qp_sel o.p.sel.length kp_sel, .slice qp_tol o.p.tol.length kp_tol, .int .i64 o.p.warm]) (by rfl) (LLp.out _ _ _ _ HB1.out) ?_)
      go_wp2_with fail
      refine (C0.out _).mono ?_
      rintro e w3 ⟨rfl, rfl⟩
      cases p0 with
      | false =>
        go_wp2
        all_goals (go_ret; refine ⟨ret_i ?_, G2.out⟩; go_light; rw [HO.out]; first | rfl | (simp [*]; done) | (simp_all; done))
      | true =>
        go_wp2_with fail
        any_goals (go_ret; refine ⟨ret_i ?_, G2.out⟩; go_light; rw [HO.out]; first | rfl | (simp [*]; done) | (simp_all; done))
        refine (C6.out _ G2.out).mono ?_
        rintro e w3 ⟨rfl, h3⟩
        have K3 := Lib.hid (K2.out.trans h3)
        have G3 := Lib.hid (HX.out _ K3.out).1
        obtain ⟨_, e3_0, e3_1, e3_2, e3_3, e3_4, e3_5, e3_6, e3_7, e3_8, e3_9⟩ := HX.out _ K3.out
        clear h3
        cases p6 with
        | false =>
          go_wp2
          all_goals (go_ret; refine ⟨ret_i ?_, G3.out⟩; go_light; rw [HO.out]; first | rfl | (simp [*]; done) | (simp_all; done))
        | true =>
          go_wp2
          all_goals (go_ret; refine ⟨ret_i ?_, G3.out⟩; go_light; rw [HO.out]; first | rfl | (simp [*]; done) | (simp_all; done))

set_option maxHeartbeats 8000000 in
theorem law1n (w : World) (cs : Array Value) (o : Ob) (hv : ObjV w cs o) (F : FitsO o) (hk : o.kind = 1) (hx : ¬ o.p.node.size = 0) :
    Calls Try.prog 13 #[.agg cs] w fun e w' => e = .returned (.int .i64 (rgtE o)) ∧ Gr w w' := by
  have mixed : Try.prog.follows .mixedOrders = true := by kernel_rfl
  obtain ⟨B, hB⟩ : ∃ B, B = w.heap.size := ⟨_, rfl⟩
  obtain ⟨wb, hwb⟩ : ∃ wb, wb = w.alloc (.cells cs 44) := ⟨_, rfl⟩
  have G0 : Gr w wb := hwb ▸ (Gr.refl w).alloc _
  have b0 : wb.heap[B]? = some (.cells cs 44 (0, 0)) := by rw [hwb, hB]; exact heap_alloc_new w _
  have HB : Hid (∀ W, Gr wb W → Gr w W ∧ W.heap[B]? = some (.cells cs 44 (0, 0)) ∧ W.cell? ⟨B, 0, none⟩ = some (.int .i64 1)) := fun W g => ⟨G0.trans g, (g.heap (Array.getElem?_eq_some_iff.1 b0).1).trans b0, hk ▸ load_at ((g.heap (Array.getElem?_eq_some_iff.1 b0).1).trans b0) hv.2.1⟩
  obtain ⟨qp_lab, kp_lab, qp_sel, kp_sel, qp_tol, kp_tol, rp_lab, rp_sel, rp_tol, Lp⟩ := load_p hv
  have d1 : wb.cell? ⟨B, 1, none⟩ = some (.string o.name) := load_nm b0 hv.2.1
  have CN := Lib.hid (fun (W : World) => rname_any W o.name (by have := ftT_iff.1 F.name; omega))
  have CE := Lib.hid (fun (W : World) (g : Gr w W) => rempty_any W cs o (hv.below g.below) (by omega) F.lens)
  have LO : Hid ((Instr.loadAt 44 (.pointer (some ⟨B, 0, none⟩))).run Try.prog wb = .ok (.agg cs) wb) := load_ob b0 hv.1
  have HO : Hid (rgtE o = if nameB o.name = false then 6 else if (empE o && l_p o) = false then 2 else 0) := by show _ = _; simp [rgtE, lawS, hk]
  unfold l_p at HO
  have C0 := Lib.hid (fun (W : World) => rname_any W o.p.own (by have := ftT_iff.1 F.p_own; omega))
  have em1 : mayB o.p.node = nameB o.p.node := by rw [mayB, decide_eq_false hx, Bool.false_or]
  have te1 : (o.p.node.toList == ([] : List UInt8)) = false := by rw [empty_test, decide_eq_false hx]
  have C1 := Lib.hid (fun (W : World) => rname_any W o.p.node (by have := ftT_iff.1 F.p_node; omega))
  rw [em1] at HO
  clear em1
  have C6 := Lib.hid (fun (W : World) (g : Gr w W) => wants_any W o.p.cpu o.p.mem qp_lab kp_lab o.p.lab (rp_lab.gr g) F.p_lab_n F.p_lab qp_sel kp_sel o.p.sel (rp_sel.gr g) F.p_sel_n F.p_sel qp_tol kp_tol o.p.tol (rp_tol.gr g) F.p_tol_n F.p_tol o.p.warm)
  generalize hb0 : nameB o.p.own = p0 at HO C0
  generalize hb1 : nameB o.p.node = p1 at HO C1
  obtain ⟨p2, t2⟩ : ∃ p, decide (0 ≤ o.p.ph) = p := ⟨_, rfl⟩
  obtain ⟨p3, t3⟩ : ∃ p, decide (o.p.ph ≤ 3) = p := ⟨_, rfl⟩
  obtain ⟨p4, t4⟩ : ∃ p, decide (0 ≤ o.p.since) = p := ⟨_, rfl⟩
  obtain ⟨p5, t5⟩ : ∃ p, decide (o.p.since ≤ 4611686018427387904) = p := ⟨_, rfl⟩
  generalize hb6 : wantsB o.p.cpu o.p.mem o.p.lab o.p.sel o.p.tol o.p.warm = p6 at HO C6
  rw [decide_eq_false hx] at HO
  obtain ⟨p_3, t_3⟩ : ∃ p, (o.p.ph == 3) = p := ⟨_, rfl⟩
  obtain ⟨p_0, t_0⟩ : ∃ p, (o.p.ph == 0) = p := ⟨_, rfl⟩
  rw [t2, t3, t4, t5, t_3, t_0] at HO
  generalize hbn : nameB o.name = bn at HO CN
  generalize hbe : empE o = be at HO CE
  have LLp := Lib.hid Lp
  have HW := Lib.hid (And.intro hwb (And.intro hB G0))
  clear hbn hbe hb0 hb1 hb6 hv F hwb hB b0 G0 hk Lp rp_lab rp_sel rp_tol
  have TP := Lib.hid (⟨t2, t3, t4, t5, t_3, t_0⟩ : decide (0 ≤ o.p.ph) = p2 ∧ decide (o.p.ph ≤ 3) = p3 ∧ decide (0 ≤ o.p.since) = p4 ∧ decide (o.p.since ≤ 4611686018427387904) = p5 ∧ (o.p.ph == 3) = p_3 ∧ (o.p.ph == 0) = p_0)
  clear t2 t3 t4 t5 t_3 t_0
  obtain ⟨_, _, d0⟩ := HB.out _ (Gr.refl _)
  go_enter Try.func13, Try.ntmps13
  go_upto_region 1 with fail
  rw [← HW.out.1, ← HW.out.2.1]
  go_wp2_with fail
  refine (CN.out _).mono ?_
  rintro e w1 ⟨rfl, rfl⟩
  cases bn with
  | false => (go_wp2; go_ret; exact ⟨by rw [HO.out]; rfl, HW.out.2.2⟩)
  | true =>
    go_wp2_with (refine wpList_load_by (by kernel_rfl) 44 _ rfl (.pointer (some ⟨B, 0, none⟩)) (.agg cs) (by kernel_rfl) LO.out ?_)
    refine (CE.out _ HW.out.2.2).mono ?_
    rintro e w1 ⟨rfl, h1⟩
    have K1 := Lib.hid h1
    obtain ⟨g1, B1, d1'⟩ := HB.out _ K1.out
    have HB1 := Lib.hid B1
    have G1 := Lib.hid g1
    clear h1 B1 g1 d0 d1 LO
    have HX : Hid (∀ (W : World), Gr (w1.alloc (.cells #[.string o.p.own, .string o.p.node, .int .i64 o.p.ph, .int .i64 o.p.since, .int .i64 o.p.cpu, .int .i64 o.p.mem, .slice qp_lab o.p.lab.length kp_lab, .slice qp_sel o.p.sel.length kp_sel, .slice qp_tol o.p.tol.length kp_tol, .int .i64 o.p.warm] 31)) W → Gr w W ∧ W.cell? ⟨w1.heap.size, 0, none⟩ = some (.string o.p.own) ∧ W.cell? ⟨w1.heap.size, 1, none⟩ = some (.string o.p.node) ∧ W.cell? ⟨w1.heap.size, 2, none⟩ = some (.int .i64 o.p.ph) ∧ W.cell? ⟨w1.heap.size, 3, none⟩ = some (.int .i64 o.p.since) ∧ W.cell? ⟨w1.heap.size, 4, none⟩ = some (.int .i64 o.p.cpu) ∧ W.cell? ⟨w1.heap.size, 5, none⟩ = some (.int .i64 o.p.mem) ∧ W.cell? ⟨w1.heap.size, 6, none⟩ = some (.slice qp_lab o.p.lab.length kp_lab) ∧ W.cell? ⟨w1.heap.size, 7, none⟩ = some (.slice qp_sel o.p.sel.length kp_sel) ∧ W.cell? ⟨w1.heap.size, 8, none⟩ = some (.slice qp_tol o.p.tol.length kp_tol) ∧ W.cell? ⟨w1.heap.size, 9, none⟩ = some (.int .i64 o.p.warm)) := fun W g => ⟨(G1.out.trans ((Gr.refl w1).alloc _)).trans g, g.cell (by simp), g.cell (by simp), g.cell (by simp), g.cell (by simp), g.cell (by simp), g.cell (by simp), g.cell (by simp), g.cell (by simp), g.cell (by simp), g.cell (by simp)⟩
    obtain ⟨g2, e0_0, e0_1, e0_2, e0_3, e0_4, e0_5, e0_6, e0_7, e0_8, e0_9⟩ := HX.out _ (Gr.refl _)
    have G2 := Lib.hid g2
    have K2 := Lib.hid (Gr.refl (w1.alloc (.cells #[.string o.p.own, .string o.p.node, .int .i64 o.p.ph, .int .i64 o.p.since, .int .i64 o.p.cpu, .int .i64 o.p.mem, .slice qp_lab o.p.lab.length kp_lab, .slice qp_sel o.p.sel.length kp_sel, .slice qp_tol o.p.tol.length kp_tol, .int .i64 o.p.warm] 31)))
    clear g2
    cases be with
    | false =>
      go_upto_region 12 with (refine wpList_load_by (by kernel_rfl) 31 _ rfl (.pointer (some ⟨B, 10, none⟩)) (.agg #[.string o.p.own, .string o.p.node, .int .i64 o.p.ph, .int .i64 o.p.since, .int .i64 o.p.cpu, .int .i64 o.p.mem, .slice qp_lab o.p.lab.length kp_lab, .slice qp_sel o.p.sel.length kp_sel, .slice qp_tol o.p.tol.length kp_tol, .int .i64 o.p.warm]) (by rfl) (LLp.out _ _ _ _ HB1.out) ?_)
      go_wp2
      go_ret
      exact ⟨by rw [HO.out]; rfl, G2.out⟩
    | true =>
      obtain ⟨t2, t3, t4, t5, t_3, t_0⟩ := TP.out
      go_upto_region 12 with (refine wpList_load_by (by kernel_rfl) 31 _ rfl (.pointer (some ⟨B, 10, none⟩)) (.agg #[.string o.p.own, .string o.p.node, .int .i64 o.p.ph, .int .i64 o.p.since, .int .i64 o.p.cpu, .int .i64 o.p.mem, .slice qp_lab o.p.lab.length kp_lab, .slice qp_sel o.p.sel.length kp_sel, .slice qp_tol o.p.tol.length kp_tol, .int .i64 o.p.warm]) (by rfl) (LLp.out _ _ _ _ HB1.out) ?_)
      go_wp2_with fail
      refine (C0.out _).mono ?_
      rintro e w3 ⟨rfl, rfl⟩
      cases p0 with
      | false =>
        go_wp2
        all_goals (go_ret; refine ⟨ret_i ?_, G2.out⟩; go_light; rw [HO.out]; first | rfl | (simp [*]; done) | (simp_all; done))
      | true =>
        go_wp2_with fail
        refine (C1.out _).mono ?_
        rintro e w3 ⟨rfl, rfl⟩
        cases p1 with
        | false =>
          go_wp2
          all_goals (go_ret; refine ⟨ret_i ?_, G2.out⟩; go_light; rw [HO.out]; first | rfl | (simp [*]; done) | (simp_all; done))
        | true =>
          go_wp2_with fail
          any_goals (go_ret; refine ⟨ret_i ?_, G2.out⟩; go_light; rw [HO.out]; first | rfl | (simp [*]; done) | (simp_all; done))
          refine (C6.out _ G2.out).mono ?_
          rintro e w3 ⟨rfl, h3⟩
          have K3 := Lib.hid (K2.out.trans h3)
          have G3 := Lib.hid (HX.out _ K3.out).1
          obtain ⟨_, e3_0, e3_1, e3_2, e3_3, e3_4, e3_5, e3_6, e3_7, e3_8, e3_9⟩ := HX.out _ K3.out
          clear h3
          cases p6 with
          | false =>
            go_wp2
            all_goals (go_ret; refine ⟨ret_i ?_, G3.out⟩; go_light; rw [HO.out]; first | rfl | (simp [*]; done) | (simp_all; done))
          | true =>
            go_wp2
            all_goals (go_ret; refine ⟨ret_i ?_, G3.out⟩; go_light; rw [HO.out]; first | rfl | (simp [*]; done) | (simp_all; done))

end Go.Proofs.Ytdphooobgbminaa
