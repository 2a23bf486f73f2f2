/- The law's Right: nodes. -/
import Derived.Test.YtdphooobgbminaaVaR
import Derived.BigRegion
import Derived.Deep.DeepCutAuto
import Derived.Deep.CutRange
import Derived.Deep.Light
namespace Go.Proofs.Ytdphooobgbminaa
open Go.RowKit Go.Shelf Go.Lib Go.Sort
open Go.Joins (cell_of_block unfrozen_of_block block_setCell)
set_option linter.unusedVariables false
set_option linter.unusedSimpArgs false
set_option maxRecDepth 20000

set_option maxHeartbeats 8000000 in
theorem law2e (w : World) (cs : Array Value) (o : Ob) (hv : ObjV w cs o) (F : FitsO o) (hk : o.kind = 2) (hx : o.n.grp.size = 0) :
    Calls Try.prog 13 #[.agg cs] w fun e w' => e = .returned (.int .i64 (rgtE o)) ∧ Gr w w' := by
  have mixed : Try.prog.follows .mixedOrders = true := by kernel_rfl
  obtain ⟨B, hB⟩ : ∃ B, B = w.heap.size := ⟨_, rfl⟩
  obtain ⟨wb, hwb⟩ : ∃ wb, wb = w.alloc (.cells cs 44) := ⟨_, rfl⟩
  have G0 : Gr w wb := hwb ▸ (Gr.refl w).alloc _
  have b0 : wb.heap[B]? = some (.cells cs 44 (0, 0)) := by rw [hwb, hB]; exact heap_alloc_new w _
  have HB : Hid (∀ W, Gr wb W → Gr w W ∧ W.heap[B]? = some (.cells cs 44 (0, 0)) ∧ W.cell? ⟨B, 0, none⟩ = some (.int .i64 2)) := fun W g => ⟨G0.trans g, (g.heap (Array.getElem?_eq_some_iff.1 b0).1).trans b0, hk ▸ load_at ((g.heap (Array.getElem?_eq_some_iff.1 b0).1).trans b0) hv.2.1⟩
  obtain ⟨qn_lab, kn_lab, qn_tnt, kn_tnt, rn_lab, rn_tnt, Ln⟩ := load_n hv
  have d1 : wb.cell? ⟨B, 1, none⟩ = some (.string o.name) := load_nm b0 hv.2.1
  have CN := Lib.hid (fun (W : World) => rname_any W o.name (by have := ftT_iff.1 F.name; omega))
  have CE := Lib.hid (fun (W : World) (g : Gr w W) => rempty_any W cs o (hv.below g.below) (by omega) F.lens)
  have LO : Hid ((Instr.loadAt 44 (.pointer (some ⟨B, 0, none⟩))).run Try.prog wb = .ok (.agg cs) wb) := load_ob b0 hv.1
  have HO : Hid (rgtE o = if nameB o.name = false then 6 else if (empE o && l_n o) = false then 2 else 0) := by show _ = _; simp [rgtE, lawS, hk]
  unfold l_n at HO
  have em0 : mayB o.n.grp = true := by rw [mayB, decide_eq_true hx, Bool.true_or]
  have te0 : (o.n.grp.toList == ([] : List UInt8)) = true := by rw [empty_test, decide_eq_true hx]
  rw [em0] at HO
  clear em0
  have C1 := Lib.hid (fun (W : World) (g : Gr w W) => sized_any W o.n.cpu o.n.mem)
  have C2 := Lib.hid (fun (W : World) (g : Gr w W) => rright_any W qn_lab kn_lab o.n.lab (rn_lab.gr g) F.n_lab_n F.n_lab)
  have C3 := Lib.hid (fun (W : World) (g : Gr w W) => rright_any W qn_tnt kn_tnt o.n.tnt (rn_tnt.gr g) F.n_tnt_n F.n_tnt)
  generalize hb1 : resB o.n.cpu o.n.mem = p1 at HO C1
  generalize hb2 : rightB o.n.lab = p2 at HO C2
  generalize hb3 : rightB o.n.tnt = p3 at HO C3
  obtain ⟨p4, t4⟩ : ∃ p, decide (0 ≤ o.n.since) = p := ⟨_, rfl⟩
  obtain ⟨p5, t5⟩ : ∃ p, decide (o.n.since ≤ 4611686018427387904) = p := ⟨_, rfl⟩
  rw [t4, t5] at HO
  generalize hbn : nameB o.name = bn at HO CN
  generalize hbe : empE o = be at HO CE
  have LLn := Lib.hid Ln
  have HW := Lib.hid (And.intro hwb (And.intro hB G0))
  clear hbn hbe hb1 hb2 hb3 hv F hwb hB b0 G0 hk Ln rn_lab rn_tnt
  have TP := Lib.hid (⟨t4, t5⟩ : decide (0 ≤ o.n.since) = p4 ∧ decide (o.n.since ≤ 4611686018427387904) = p5)
  clear t4 t5
  obtain ⟨_, _, d0⟩ := HB.out _ (Gr.refl _)
  go_enter Try.func13, Try.ntmps13
  go_upto_region 1 with fail
  rw [← HW.out.1, ← HW.out.2.1]
  go_wp2_with fail
  refine (CN.out _).mono ?_
  rintro e w1 ⟨rfl, rfl⟩
  cases bn with
  | false => (go_wp2; go_ret; exact ⟨by rw [HO.out]; rfl, HW.out.2.2⟩)
  | true =>
    go_wp2_with (refine wpList_load_by (by kernel_rfl) 44 _ rfl (.pointer (some ⟨B, 0, none⟩)) (.agg cs) (by kernel_rfl) LO.out ?_)
    refine (CE.out _ HW.out.2.2).mono ?_
    rintro e w1 ⟨rfl, h1⟩
    have K1 := Lib.hid h1
    obtain ⟨g1, B1, d1'⟩ := HB.out _ K1.out
    have HB1 := Lib.hid B1
    have G1 := Lib.hid g1
    clear h1 B1 g1 d0 d1 LO
    have HX : Hid (∀ (W : World), Gr (w1.alloc (.cells #[.string o.n.grp, .int .i64 o.n.cpu, .int .i64 o.n.mem, .slice qn_lab o.n.lab.length kn_lab, .slice qn_tnt o.n.tnt.length kn_tnt, .int .i64 o.n.since, .bool o.n.closed] 33)) W → Gr w W ∧ W.cell? ⟨w1.heap.size, 0, none⟩ = some (.string o.n.grp) ∧ W.cell? ⟨w1.heap.size, 1, none⟩ = some (.int .i64 o.n.cpu) ∧ W.cell? ⟨w1.heap.size, 2, none⟩ = some (.int .i64 o.n.mem) ∧ W.cell? ⟨w1.heap.size, 3, none⟩ = some (.slice qn_lab o.n.lab.length kn_lab) ∧ W.cell? ⟨w1.heap.size, 4, none⟩ = some (.slice qn_tnt o.n.tnt.length kn_tnt) ∧ W.cell? ⟨w1.heap.size, 5, none⟩ = some (.int .i64 o.n.since) ∧ W.cell? ⟨w1.heap.size, 6, none⟩ = some (.bool o.n.closed)) := fun W g => ⟨(G1.out.trans ((Gr.refl w1).alloc _)).trans g, g.cell (by simp), g.cell (by simp), g.cell (by simp), g.cell (by simp), g.cell (by simp), g.cell (by simp), g.cell (by simp)⟩
    obtain ⟨g2, e0_0, e0_1, e0_2, e0_3, e0_4, e0_5, e0_6⟩ := HX.out _ (Gr.refl _)
    have G2 := Lib.hid g2
    have K2 := Lib.hid (Gr.refl (w1.alloc (.cells #[.string o.n.grp, .int .i64 o.n.cpu, .int .i64 o.n.mem, .slice qn_lab o.n.lab.length kn_lab, .slice qn_tnt o.n.tnt.length kn_tnt, .int .i64 o.n.since, .bool o.n.closed] 33)))
    clear g2
    cases be with
    | false =>
      go_upto_region 16 with (refine wpList_load_by (by kernel_rfl) 33 _ rfl (.pointer (some ⟨B, 20, none⟩)) (.agg #[.string o.n.grp, .int .i64 o.n.cpu, .int .i64 o.n.mem, .slice qn_lab o.n.lab.length kn_lab, .slice qn_tnt o.n.tnt.length kn_tnt, .int .i64 o.n.since, .bool o.n.closed]) (by rfl) (LLn.out _ _ _ _ HB1.out) ?_)
      go_wp2
      go_ret
      exact ⟨by rw [HO.out]; rfl, G2.out⟩
    | true =>
      obtain ⟨t4, t5⟩ := TP.out
      go_upto_region 16 with (refine wpList_load_by (by kernel_rfl) 33 _ rfl (.pointer (some ⟨B, 20, none⟩)) (.agg #[.string o.n.grp, .int .i64 o.n.cpu, .int .i64 o.n.mem, .slice qn_lab o.n.lab.length kn_lab, .slice qn_tnt o.n.tnt.length kn_tnt, .int .i64 o.n.since, .bool o.n.closed]) (by rfl) (LLn.out _ _ _ _ HB1.out) ?_)
      go_wp2_with fail
      refine (C1.out _ G2.out).mono ?_
      rintro e w3 ⟨rfl, h3⟩
      have K3 := Lib.hid (K2.out.trans h3)
      have G3 := Lib.hid (HX.out _ K3.out).1
      obtain ⟨_, e3_0, e3_1, e3_2, e3_3, e3_4, e3_5, e3_6⟩ := HX.out _ K3.out
      clear h3
      cases p1 with
      | false =>
        go_wp2
        all_goals (go_ret; refine ⟨ret_i ?_, G3.out⟩; go_light; rw [HO.out]; first | rfl | (simp [*]; done) | (simp_all; done))
      | true =>
        go_wp2_with fail
        refine (C2.out _ G3.out).mono ?_
        rintro e w4 ⟨rfl, h4⟩
        have K4 := Lib.hid (K3.out.trans h4)
        have G4 := Lib.hid (HX.out _ K4.out).1
        obtain ⟨_, e4_0, e4_1, e4_2, e4_3, e4_4, e4_5, e4_6⟩ := HX.out _ K4.out
        clear h4
        cases p2 with
        | false =>
          go_wp2
          all_goals (go_ret; refine ⟨ret_i ?_, G4.out⟩; go_light; rw [HO.out]; first | rfl | (simp [*]; done) | (simp_all; done))
        | true =>
          go_wp2_with fail
          refine (C3.out _ G4.out).mono ?_
          rintro e w5 ⟨rfl, h5⟩
          have K5 := Lib.hid (K4.out.trans h5)
          have G5 := Lib.hid (HX.out _ K5.out).1
          obtain ⟨_, e5_0, e5_1, e5_2, e5_3, e5_4, e5_5, e5_6⟩ := HX.out _ K5.out
          clear h5
          cases p3 with
          | false =>
            go_wp2
            all_goals (go_ret; refine ⟨ret_i ?_, G5.out⟩; go_light; rw [HO.out]; first | rfl | (simp [*]; done) | (simp_all; done))
          | true =>
            go_wp2
            all_goals (go_ret; refine ⟨ret_i ?_, G5.out⟩; go_light; rw [HO.out]; first | rfl | (simp [*]; done) | (simp_all; done))

set_option maxHeartbeats 8000000 in
theorem law2n (w : World) (cs : Array Value) (o : Ob) (hv : ObjV w cs o) (F : FitsO o) (hk : o.kind = 2) (hx : ¬ o.n.grp.size = 0) :
    Calls Try.prog 13 #[.agg cs] w fun e w' => e = .returned (.int .i64 (rgtE o)) ∧ Gr w w' := by
  have mixed : Try.prog.follows .mixedOrders = true := by kernel_rfl
  obtain ⟨B, hB⟩ : ∃ B, B = w.heap.size := ⟨_, rfl⟩
  obtain ⟨wb, hwb⟩ : ∃ wb, wb = w.alloc (.cells cs 44) := ⟨_, rfl⟩
  have G0 : Gr w wb := hwb ▸ (Gr.refl w).alloc _
  have b0 : wb.heap[B]? = some (.cells cs 44 (0, 0)) := by rw [hwb, hB]; exact heap_alloc_new w _
  have HB : Hid (∀ W, Gr wb W → Gr w W ∧ W.heap[B]? = some (.cells cs 44 (0, 0)) ∧ W.cell? ⟨B, 0, none⟩ = some (.int .i64 2)) := fun W g => ⟨G0.trans g, (g.heap (Array.getElem?_eq_some_iff.1 b0).1).trans b0, hk ▸ load_at ((g.heap (Array.getElem?_eq_some_iff.1 b0).1).trans b0) hv.2.1⟩
  obtain ⟨qn_lab, kn_lab, qn_tnt, kn_tnt, rn_lab, rn_tnt, Ln⟩ := load_n hv
  have d1 : wb.cell? ⟨B, 1, none⟩ = some (.string o.name) := load_nm b0 hv.2.1
  have CN := Lib.hid (fun (W : World) => rname_any W o.name (by have := ftT_iff.1 F.name; omega))
  have CE := Lib.hid (fun (W : World) (g : Gr w W) => rempty_any W cs o (hv.below g.below) (by omega) F.lens)
  have LO : Hid ((Instr.loadAt 44 (.pointer (some ⟨B, 0, none⟩))).run Try.prog wb = .ok (.agg cs) wb) := load_ob b0 hv.1
  have HO : Hid (rgtE o = if nameB o.name = false then 6 else if (empE o && l_n o) = false then 2 else 0) := by show _ = _; simp [rgtE, lawS, hk]
  unfold l_n at HO
  have em0 : mayB o.n.grp = nameB o.n.grp := by rw [mayB, decide_eq_false hx, Bool.false_or]
  have te0 : (o.n.grp.toList == ([] : List UInt8)) = false := by rw [empty_test, decide_eq_false hx]
  have C0 := Lib.hid (fun (W : World) => rname_any W o.n.grp (by have := ftT_iff.1 F.n_grp; omega))
  rw [em0] at HO
  clear em0
  have C1 := Lib.hid (fun (W : World) (g : Gr w W) => sized_any W o.n.cpu o.n.mem)
  have C2 := Lib.hid (fun (W : World) (g : Gr w W) => rright_any W qn_lab kn_lab o.n.lab (rn_lab.gr g) F.n_lab_n F.n_lab)
  have C3 := Lib.hid (fun (W : World) (g : Gr w W) => rright_any W qn_tnt kn_tnt o.n.tnt (rn_tnt.gr g) F.n_tnt_n F.n_tnt)
  generalize hb0 : nameB o.n.grp = p0 at HO C0
  generalize hb1 : resB o.n.cpu o.n.mem = p1 at HO C1
  generalize hb2 : rightB o.n.lab = p2 at HO C2
  generalize hb3 : rightB o.n.tnt = p3 at HO C3
  obtain ⟨p4, t4⟩ : ∃ p, decide (0 ≤ o.n.since) = p := ⟨_, rfl⟩
  obtain ⟨p5, t5⟩ : ∃ p, decide (o.n.since ≤ 4611686018427387904) = p := ⟨_, rfl⟩
  rw [t4, t5] at HO
  generalize hbn : nameB o.name = bn at HO CN
  generalize hbe : empE o = be at HO CE
  have LLn := Lib.hid Ln
  have HW := Lib.hid (And.intro hwb (And.intro hB G0))
  clear hbn hbe hb0 hb1 hb2 hb3 hv F hwb hB b0 G0 hk Ln rn_lab rn_tnt
  have TP := Lib.hid (⟨t4, t5⟩ : decide (0 ≤ o.n.since) = p4 ∧ decide (o.n.since ≤ 4611686018427387904) = p5)
  clear t4 t5
  obtain ⟨_, _, d0⟩ := HB.out _ (Gr.refl _)
  go_enter Try.func13, Try.ntmps13
  go_upto_region 1 with fail
  rw [← HW.out.1, ← HW.out.2.1]
  go_wp2_with fail
  refine (CN.out _).mono ?_
  rintro e w1 ⟨rfl, rfl⟩
  cases bn with
  | false => (go_wp2; go_ret; exact ⟨by rw [HO.out]; rfl, HW.out.2.2⟩)
  | true =>
    go_wp2_with (refine wpList_load_by (by kernel_rfl) 44 _ rfl (.pointer (some ⟨B, 0, none⟩)) (.agg cs) (by kernel_rfl) LO.out ?_)
    refine (CE.out _ HW.out.2.2).mono ?_
    rintro e w1 ⟨rfl, h1⟩
    have K1 := Lib.hid h1
    obtain ⟨g1, B1, d1'⟩ := HB.out _ K1.out
    have HB1 := Lib.hid B1
    have G1 := Lib.hid g1
    clear h1 B1 g1 d0 d1 LO
    have HX : Hid (∀ (W : World), Gr (w1.alloc (.cells #[.string o.n.grp, .int .i64 o.n.cpu, .int .i64 o.n.mem, .slice qn_lab o.n.lab.length kn_lab, .slice qn_tnt o.n.tnt.length kn_tnt, .int .i64 o.n.since, .bool o.n.closed] 33)) W → Gr w W ∧ W.cell? ⟨w1.heap.size, 0, none⟩ = some (.string o.n.grp) ∧ W.cell? ⟨w1.heap.size, 1, none⟩ = some (.int .i64 o.n.cpu) ∧ W.cell? ⟨w1.heap.size, 2, none⟩ = some (.int .i64 o.n.mem) ∧ W.cell? ⟨w1.heap.size, 3, none⟩ = some (.slice qn_lab o.n.lab.length kn_lab) ∧ W.cell? ⟨w1.heap.size, 4, none⟩ = some (.slice qn_tnt o.n.tnt.length kn_tnt) ∧ W.cell? ⟨w1.heap.size, 5, none⟩ = some (.int .i64 o.n.since) ∧ W.cell? ⟨w1.heap.size, 6, none⟩ = some (.bool o.n.closed)) := fun W g => ⟨(G1.out.trans ((Gr.refl w1).alloc _)).trans g, g.cell (by simp), g.cell (by simp), g.cell (by simp), g.cell (by simp), g.cell (by simp), g.cell (by simp), g.cell (by simp)⟩
    obtain ⟨g2, e0_0, e0_1, e0_2, e0_3, e0_4, e0_5, e0_6⟩ := HX.out _ (Gr.refl _)
    have G2 := Lib.hid g2
    have K2 := Lib.hid (Gr.refl (w1.alloc (.cells #[.string o.n.grp, .int .i64 o.n.cpu, .int .i64 o.n.mem, .slice qn_lab o.n.lab.length kn_lab, .slice qn_tnt o.n.tnt.length kn_tnt, .int .i64 o.n.since, .bool o.n.closed] 33)))
    clear g2
    cases be with
    | false =>
      go_upto_region 16 with (refine wpList_load_by (by kernel_rfl) 33 _ rfl (.pointer (some ⟨B, 20, none⟩)) (.agg #[.string o.n.grp, .int .i64 o.n.cpu, .int .i64 o.n.mem, .slice qn_lab o.n.lab.length kn_lab, .slice qn_tnt o.n.tnt.length kn_tnt, .int .i64 o.n.since, .bool o.n.closed]) (by rfl) (LLn.out _ _ _ _ HB1.out) ?_)
      go_wp2
      go_ret
      exact ⟨by rw [HO.out]; rfl, G2.out⟩
    | true =>
      obtain ⟨t4, t5⟩ := TP.out
      go_upto_region 16 with (refine wpList_load_by (by kernel_rfl) 33 _ rfl (.pointer (some ⟨B, 20, none⟩)) (.agg #[.string o.n.grp, .int .i64 o.n.cpu, .int .i64 o.n.mem, .slice qn_lab o.n.lab.length kn_lab, .slice qn_tnt o.n.tnt.length kn_tnt, .int .i64 o.n.since, .bool o.n.closed]) (by rfl) (LLn.out _ _ _ _ HB1.out) ?_)
      go_wp2_with fail
      refine (C0.out _).mono ?_
      rintro e w3 ⟨rfl, rfl⟩
      cases p0 with
      | false =>
        go_wp2
        all_goals (go_ret; refine ⟨ret_i ?_, G2.out⟩; go_light; rw [HO.out]; first | rfl | (simp [*]; done) | (simp_all; done))
      | true =>
        go_wp2_with fail
        refine (C1.out _ G2.out).mono ?_
        rintro e w3 ⟨rfl, h3⟩
        have K3 := Lib.hid (K2.out.trans h3)
        have G3 := Lib.hid (HX.out _ K3.out).1
        obtain ⟨_, e3_0, e3_1, e3_2, e3_3, e3_4, e3_5, e3_6⟩ := HX.out _ K3.out
        clear h3
        cases p1 with
        | false =>
          go_wp2
          all_goals (go_ret; refine ⟨ret_i ?_, G3.out⟩; go_light; rw [HO.out]; first | rfl | (simp [*]; done) | (simp_all; done))
        | true =>
          go_wp2_with fail
          refine (C2.out _ G3.out).mono ?_
          rintro e w4 ⟨rfl, h4⟩
          have K4 := Lib.hid (K3.out.trans h4)
          have G4 := Lib.hid (HX.out _ K4.out).1
          obtain ⟨_, e4_0, e4_1, e4_2, e4_3, e4_4, e4_5, e4_6⟩ := HX.out _ K4.out
          clear h4
          cases p2 with
          | false =>
            go_wp2
            all_goals (go_ret; refine ⟨ret_i ?_, G4.out⟩; go_light; rw [HO.out]; first | rfl | (simp [*]; done) | (simp_all; done))
          | true =>
            go_wp2_with fail
            refine (C3.out _ G4.out).mono ?_
            rintro e w5 ⟨rfl, h5⟩
            have K5 := Lib.hid (K4.out.trans h5)
            have G5 := Lib.hid (HX.out _ K5.out).1
            obtain ⟨_, e5_0, e5_1, e5_2, e5_3, e5_4, e5_5, e5_6⟩ := HX.out _ K5.out
            clear h5
            cases p3 with
            | false =>
              go_wp2
              all_goals (go_ret; refine ⟨ret_i ?_, G5.out⟩; go_light; rw [HO.out]; first | rfl | (simp [*]; done) | (simp_all; done))
            | true =>
              go_wp2
              all_goals (go_ret; refine ⟨ret_i ?_, G5.out⟩; go_light; rw [HO.out]; first | rfl | (simp [*]; done) | (simp_all; done))

end Go.Proofs.Ytdphooobgbminaa
