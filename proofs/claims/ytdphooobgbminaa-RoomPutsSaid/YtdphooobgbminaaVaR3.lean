/- The law's Right: groups. -/
import Derived.Test.YtdphooobgbminaaVaR
import Derived.BigRegion
import Derived.Deep.DeepCutAuto
import Derived.Deep.CutRange
import Derived.Deep.Light
namespace Go.Proofs.Ytdphooobgbminaa
open Go.RowKit Go.Shelf Go.Lib Go.Sort
open Go.Joins (cell_of_block unfrozen_of_block block_setCell)
set_option linter.unusedVariables false
set_option linter.unusedSimpArgs false
set_option maxRecDepth 20000

set_option maxHeartbeats 8000000 in
theorem law3 (w : World) (cs : Array Value) (o : Ob) (hv : ObjV w cs o) (F : FitsO o) (hk : o.kind = 3) :
    Calls Try.prog 13 #[.agg cs] w fun e w' => e = .returned (.int .i64 (rgtE o)) ∧ Gr w w' := by
  have mixed : Try.prog.follows .mixedOrders = true := by kernel_rfl
  obtain ⟨B, hB⟩ : ∃ B, B = w.heap.size := ⟨_, rfl⟩
  obtain ⟨wb, hwb⟩ : ∃ wb, wb = w.alloc (.cells cs 44) := ⟨_, rfl⟩
  have G0 : Gr w wb := hwb ▸ (Gr.refl w).alloc _
  have b0 : wb.heap[B]? = some (.cells cs 44 (0, 0)) := by rw [hwb, hB]; exact heap_alloc_new w _
  have HB : Hid (∀ W, Gr wb W → Gr w W ∧ W.heap[B]? = some (.cells cs 44 (0, 0)) ∧ W.cell? ⟨B, 0, none⟩ = some (.int .i64 3)) := fun W g => ⟨G0.trans g, (g.heap (Array.getElem?_eq_some_iff.1 b0).1).trans b0, hk ▸ load_at ((g.heap (Array.getElem?_eq_some_iff.1 b0).1).trans b0) hv.2.1⟩
  obtain ⟨qg_lab, kg_lab, qg_tnt, kg_tnt, rg_lab, rg_tnt, Lg⟩ := load_g hv
  have d1 : wb.cell? ⟨B, 1, none⟩ = some (.string o.name) := load_nm b0 hv.2.1
  have CN := Lib.hid (fun (W : World) => rname_any W o.name (by have := ftT_iff.1 F.name; omega))
  have CE := Lib.hid (fun (W : World) (g : Gr w W) => rempty_any W cs o (hv.below g.below) (by omega) F.lens)
  have LO : Hid ((Instr.loadAt 44 (.pointer (some ⟨B, 0, none⟩))).run Try.prog wb = .ok (.agg cs) wb) := load_ob b0 hv.1
  have HO : Hid (rgtE o = if nameB o.name = false then 6 else if (empE o && l_g o) = false then 2 else 0) := by show _ = _; simp [rgtE, lawS, hk]
  unfold l_g at HO
  have C4 := Lib.hid (fun (W : World) (g : Gr w W) => sized_any W o.g.cpu o.g.mem)
  have C5 := Lib.hid (fun (W : World) (g : Gr w W) => rright_any W qg_lab kg_lab o.g.lab (rg_lab.gr g) F.g_lab_n F.g_lab)
  have C6 := Lib.hid (fun (W : World) (g : Gr w W) => rright_any W qg_tnt kg_tnt o.g.tnt (rg_tnt.gr g) F.g_tnt_n F.g_tnt)
  obtain ⟨p0, t0⟩ : ∃ p, decide (0 ≤ o.g.mn) = p := ⟨_, rfl⟩
  obtain ⟨p1, t1⟩ : ∃ p, decide (o.g.mn ≤ o.g.tg) = p := ⟨_, rfl⟩
  obtain ⟨p2, t2⟩ : ∃ p, decide (o.g.tg ≤ o.g.mx) = p := ⟨_, rfl⟩
  obtain ⟨p3, t3⟩ : ∃ p, decide (o.g.mx ≤ 64) = p := ⟨_, rfl⟩
  generalize hb4 : resB o.g.cpu o.g.mem = p4 at HO C4
  generalize hb5 : rightB o.g.lab = p5 at HO C5
  generalize hb6 : rightB o.g.tnt = p6 at HO C6
  obtain ⟨p7, t7⟩ : ∃ p, decide (0 ≤ o.g.prio) = p := ⟨_, rfl⟩
  obtain ⟨p8, t8⟩ : ∃ p, decide (o.g.prio ≤ 1000) = p := ⟨_, rfl⟩
  rw [t0, t1, t2, t3, t7, t8] at HO
  generalize hbn : nameB o.name = bn at HO CN
  generalize hbe : empE o = be at HO CE
  have LLg := Lib.hid Lg
  have HW := Lib.hid (And.intro hwb (And.intro hB G0))
  clear hbn hbe hb4 hb5 hb6 hv F hwb hB b0 G0 hk Lg rg_lab rg_tnt
  have TP := Lib.hid (⟨t0, t1, t2, t3, t7, t8⟩ : decide (0 ≤ o.g.mn) = p0 ∧ decide (o.g.mn ≤ o.g.tg) = p1 ∧ decide (o.g.tg ≤ o.g.mx) = p2 ∧ decide (o.g.mx ≤ 64) = p3 ∧ decide (0 ≤ o.g.prio) = p7 ∧ decide (o.g.prio ≤ 1000) = p8)
  clear t0 t1 t2 t3 t7 t8
  obtain ⟨_, _, d0⟩ := HB.out _ (Gr.refl _)
  go_enter Try.func13, Try.ntmps13
  go_upto_region 1 with fail
  rw [← HW.out.1, ← HW.out.2.1]
  go_wp2_with fail
  refine (CN.out _).mono ?_
  rintro e w1 ⟨rfl, rfl⟩
  cases bn with
  | false => (go_wp2; go_ret; exact ⟨by rw [HO.out]; rfl, HW.out.2.2⟩)
  | true =>
    go_wp2_with (refine wpList_load_by (by kernel_rfl) 44 _ rfl (.pointer (some ⟨B, 0, none⟩)) (.agg cs) (by kernel_rfl) LO.out ?_)
    refine (CE.out _ HW.out.2.2).mono ?_
    rintro e w1 ⟨rfl, h1⟩
    have K1 := Lib.hid h1
    obtain ⟨g1, B1, d1'⟩ := HB.out _ K1.out
    have HB1 := Lib.hid B1
    have G1 := Lib.hid g1
    clear h1 B1 g1 d0 d1 LO
    have HX : Hid (∀ (W : World), Gr (w1.alloc (.cells #[.int .i64 o.g.mn, .int .i64 o.g.mx, .int .i64 o.g.tg, .int .i64 o.g.cpu, .int .i64 o.g.mem, .slice qg_lab o.g.lab.length kg_lab, .slice qg_tnt o.g.tnt.length kg_tnt, .int .i64 o.g.prio] 35)) W → Gr w W ∧ W.cell? ⟨w1.heap.size, 0, none⟩ = some (.int .i64 o.g.mn) ∧ W.cell? ⟨w1.heap.size, 1, none⟩ = some (.int .i64 o.g.mx) ∧ W.cell? ⟨w1.heap.size, 2, none⟩ = some (.int .i64 o.g.tg) ∧ W.cell? ⟨w1.heap.size, 3, none⟩ = some (.int .i64 o.g.cpu) ∧ W.cell? ⟨w1.heap.size, 4, none⟩ = some (.int .i64 o.g.mem) ∧ W.cell? ⟨w1.heap.size, 5, none⟩ = some (.slice qg_lab o.g.lab.length kg_lab) ∧ W.cell? ⟨w1.heap.size, 6, none⟩ = some (.slice qg_tnt o.g.tnt.length kg_tnt) ∧ W.cell? ⟨w1.heap.size, 7, none⟩ = some (.int .i64 o.g.prio)) := fun W g => ⟨(G1.out.trans ((Gr.refl w1).alloc _)).trans g, g.cell (by simp), g.cell (by simp), g.cell (by simp), g.cell (by simp), g.cell (by simp), g.cell (by simp), g.cell (by simp), g.cell (by simp)⟩
    obtain ⟨g2, e0_0, e0_1, e0_2, e0_3, e0_4, e0_5, e0_6, e0_7⟩ := HX.out _ (Gr.refl _)
    have G2 := Lib.hid g2
    have K2 := Lib.hid (Gr.refl (w1.alloc (.cells #[.int .i64 o.g.mn, .int .i64 o.g.mx, .int .i64 o.g.tg, .int .i64 o.g.cpu, .int .i64 o.g.mem, .slice qg_lab o.g.lab.length kg_lab, .slice qg_tnt o.g.tnt.length kg_tnt, .int .i64 o.g.prio] 35)))
    clear g2
    cases be with
    | false =>
      go_upto_region 19 with (refine wpList_load_by (by kernel_rfl) 35 _ rfl (.pointer (some ⟨B, 27, none⟩)) (.agg #[.int .i64 o.g.mn, .int .i64 o.g.mx, .int .i64 o.g.tg, .int .i64 o.g.cpu, .int .i64 o.g.mem, .slice qg_lab o.g.lab.length kg_lab, .slice qg_tnt o.g.tnt.length kg_tnt, .int .i64 o.g.prio]) (by rfl) (LLg.out _ _ _ _ HB1.out) ?_)
      go_wp2
      go_ret
      exact ⟨by rw [HO.out]; rfl, G2.out⟩
    | true =>
      obtain ⟨t0, t1, t2, t3, t7, t8⟩ := TP.out
      go_upto_region 19 with (refine wpList_load_by (by kernel_rfl) 35 _ rfl (.pointer (some ⟨B, 27, none⟩)) (.agg #[.int .i64 o.g.mn, .int .i64 o.g.mx, .int .i64 o.g.tg, .int .i64 o.g.cpu, .int .i64 o.g.mem, .slice qg_lab o.g.lab.length kg_lab, .slice qg_tnt o.g.tnt.length kg_tnt, .int .i64 o.g.prio]) (by rfl) (LLg.out _ _ _ _ HB1.out) ?_)
      go_wp2_with fail
      any_goals (go_ret; refine ⟨ret_i ?_, G2.out⟩; go_light; rw [HO.out]; first | rfl | (simp [*]; done) | (simp_all; done))
      refine (C4.out _ G2.out).mono ?_
      rintro e w3 ⟨rfl, h3⟩
      have K3 := Lib.hid (K2.out.trans h3)
      have G3 := Lib.hid (HX.out _ K3.out).1
      obtain ⟨_, e3_0, e3_1, e3_2, e3_3, e3_4, e3_5, e3_6, e3_7⟩ := HX.out _ K3.out
      clear h3
      cases p4 with
      | false =>
        go_wp2
        all_goals (go_ret; refine ⟨ret_i ?_, G3.out⟩; go_light; rw [HO.out]; first | rfl | (simp [*]; done) | (simp_all; done))
      | true =>
        go_wp2_with fail
        refine (C5.out _ G3.out).mono ?_
        rintro e w4 ⟨rfl, h4⟩
        have K4 := Lib.hid (K3.out.trans h4)
        have G4 := Lib.hid (HX.out _ K4.out).1
        obtain ⟨_, e4_0, e4_1, e4_2, e4_3, e4_4, e4_5, e4_6, e4_7⟩ := HX.out _ K4.out
        clear h4
        cases p5 with
        | false =>
          go_wp2
          all_goals (go_ret; refine ⟨ret_i ?_, G4.out⟩; go_light; rw [HO.out]; first | rfl | (simp [*]; done) | (simp_all; done))
        | true =>
          go_wp2_with fail
          refine (C6.out _ G4.out).mono ?_
          rintro e w5 ⟨rfl, h5⟩
          have K5 := Lib.hid (K4.out.trans h5)
          have G5 := Lib.hid (HX.out _ K5.out).1
          obtain ⟨_, e5_0, e5_1, e5_2, e5_3, e5_4, e5_5, e5_6, e5_7⟩ := HX.out _ K5.out
          clear h5
          cases p6 with
          | false =>
            go_wp2
            all_goals (go_ret; refine ⟨ret_i ?_, G5.out⟩; go_light; rw [HO.out]; first | rfl | (simp [*]; done) | (simp_all; done))
          | true =>
            go_wp2
            all_goals (go_ret; refine ⟨ret_i ?_, G5.out⟩; go_light; rw [HO.out]; first | rfl | (simp [*]; done) | (simp_all; done))

end Go.Proofs.Ytdphooobgbminaa
