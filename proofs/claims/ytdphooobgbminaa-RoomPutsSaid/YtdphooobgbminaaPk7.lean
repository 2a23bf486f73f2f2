/- The law's Few. -/
import Derived.Test.YtdphooobgbminaaObE
import Derived.Test.YtdphooobgbminaaObS
import Derived.BigRegion
import Derived.Deep.DeepCutAuto
import Derived.Deep.CutRange
import Derived.Deep.Light
import Derived.Test.YtdphooobgbminaaVaR
import Derived.Test.YtdphooobgbminaaVaR1
import Derived.Test.YtdphooobgbminaaVaR2
import Derived.Test.YtdphooobgbminaaVaR3
import Derived.Test.YtdphooobgbminaaVaR4
import Derived.BigQuiet
namespace Go.Proofs.Ytdphooobgbminaa
open Go.RowKit Go.Shelf Go.Lib Go.Sort
open Go.Joins (cell_of_block unfrozen_of_block block_setCell)
set_option linter.unusedVariables false
set_option linter.unusedSimpArgs false
set_option maxRecDepth 20000

def rows8 (o : Ob) : List Nat := [o.w.lab.length, o.w.tol.length, o.p.lab.length, o.p.tol.length, o.n.lab.length, o.n.tnt.length, o.g.lab.length, o.g.tnt.length]
def fewB (o : Ob) : Bool := (rows8 o).all (fun n => decide (n ≤ 30)) && decide (o.w.sel.length + o.p.sel.length + o.h.met.length + o.h.upol.length + o.h.dpol.length + o.h.past.length ≤ 60)

set_option maxHeartbeats 8000000 in
theorem few_any (w : World) (cs : Array Value) (o : Ob) (hv : ObjV w cs o) (F : FitsO o) :
    Calls Try.prog 12 #[.agg cs] w fun e w' => e = .returned (.bool (fewB o)) ∧ Gr w w' := by
  have mixed : Try.prog.follows .mixedOrders = true := by kernel_rfl
  obtain ⟨hsz, ⟨c0, c1, c2, hver⟩, hW, hP, hN, hG, hH⟩ := hv
  obtain ⟨c3, c4, c5, ⟨q6, k6, c6, r6⟩, ⟨q7, k7, c7, r7⟩, ⟨q8, k8, c8, r8⟩, c9⟩ := hW
  obtain ⟨c10, c11, c12, c13, c14, c15, ⟨q16, k16, c16, r16⟩, ⟨q17, k17, c17, r17⟩, ⟨q18, k18, c18, r18⟩, c19⟩ := hP
  obtain ⟨c20, c21, c22, ⟨q23, k23, c23, r23⟩, ⟨q24, k24, c24, r24⟩, c25, c26⟩ := hN
  obtain ⟨c27, c28, c29, c30, c31, ⟨q32, k32, c32, r32⟩, ⟨q33, k33, c33, r33⟩, c34⟩ := hG
  obtain ⟨c35, c36, c37, ⟨q38, k38, c38, r38⟩, c39, c40, c41, ⟨q42, k42, c42, r42⟩, c43, c44, ⟨q45, k45, c45, r45⟩, ⟨q46, k46, c46, r46⟩⟩ := hH
  obtain ⟨B, hB⟩ : ∃ B, B = w.heap.size := ⟨_, rfl⟩
  obtain ⟨wb, hwb⟩ : ∃ wb, wb = w.alloc (.cells cs 44) := ⟨_, rfl⟩
  have GB : Gr w wb := hwb ▸ (Gr.refl w).alloc _
  have hbk : wb.heap[B]? = some (.cells cs 44 (0, 0)) := by rw [hwb, hB]; exact heap_alloc_new w _
  have hz : B < wb.heap.size := (Array.getElem?_eq_some_iff.1 hbk).1
  obtain ⟨L0, hL0⟩ : ∃ L : List Value, L = [.int .i64 o.w.rep, .int .i64 o.w.cpu, .int .i64 o.w.mem, .slice q6 o.w.lab.length k6, .slice q7 o.w.sel.length k7, .slice q8 o.w.tol.length k8, .int .i64 o.w.warm] := ⟨_, rfl⟩
  have r0 : wb.rangeAt B 3 L0 := by rw [hL0]; exact range_of hbk (Rg.cons c3 (Rg.cons c4 (Rg.cons c5 (Rg.cons c6 (Rg.cons c7 (Rg.cons c8 (Rg.cons c9 (Rg.nil _ _))))))))
  obtain ⟨L1, hL1⟩ : ∃ L : List Value, L = [.string o.p.own, .string o.p.node, .int .i64 o.p.ph, .int .i64 o.p.since, .int .i64 o.p.cpu, .int .i64 o.p.mem, .slice q16 o.p.lab.length k16, .slice q17 o.p.sel.length k17, .slice q18 o.p.tol.length k18, .int .i64 o.p.warm] := ⟨_, rfl⟩
  have r1 : wb.rangeAt B 10 L1 := by rw [hL1]; exact range_of hbk (Rg.cons c10 (Rg.cons c11 (Rg.cons c12 (Rg.cons c13 (Rg.cons c14 (Rg.cons c15 (Rg.cons c16 (Rg.cons c17 (Rg.cons c18 (Rg.cons c19 (Rg.nil _ _)))))))))))
  obtain ⟨L2, hL2⟩ : ∃ L : List Value, L = [.string o.n.grp, .int .i64 o.n.cpu, .int .i64 o.n.mem, .slice q23 o.n.lab.length k23, .slice q24 o.n.tnt.length k24, .int .i64 o.n.since, .bool o.n.closed] := ⟨_, rfl⟩
  have r2 : wb.rangeAt B 20 L2 := by rw [hL2]; exact range_of hbk (Rg.cons c20 (Rg.cons c21 (Rg.cons c22 (Rg.cons c23 (Rg.cons c24 (Rg.cons c25 (Rg.cons c26 (Rg.nil _ _))))))))
  obtain ⟨L3, hL3⟩ : ∃ L : List Value, L = [.int .i64 o.g.mn, .int .i64 o.g.mx, .int .i64 o.g.tg, .int .i64 o.g.cpu, .int .i64 o.g.mem, .slice q32 o.g.lab.length k32, .slice q33 o.g.tnt.length k33, .int .i64 o.g.prio] := ⟨_, rfl⟩
  have r3 : wb.rangeAt B 27 L3 := by rw [hL3]; exact range_of hbk (Rg.cons c27 (Rg.cons c28 (Rg.cons c29 (Rg.cons c30 (Rg.cons c31 (Rg.cons c32 (Rg.cons c33 (Rg.cons c34 (Rg.nil _ _)))))))))
  obtain ⟨L4, hL4⟩ : ∃ L : List Value, L = [.string o.h.tg, .int .i64 o.h.mn, .int .i64 o.h.mx, .slice q38 o.h.met.length k38, .int .i64 o.h.tol, .int .i64 o.h.uw, .int .i64 o.h.up, .slice q42 o.h.upol.length k42, .int .i64 o.h.dw, .int .i64 o.h.dp, .slice q45 o.h.dpol.length k45, .slice q46 o.h.past.length k46] := ⟨_, rfl⟩
  have r4 : wb.rangeAt B 35 L4 := by rw [hL4]; exact range_of hbk (Rg.cons c35 (Rg.cons c36 (Rg.cons c37 (Rg.cons c38 (Rg.cons c39 (Rg.cons c40 (Rg.cons c41 (Rg.cons c42 (Rg.cons c43 (Rg.cons c44 (Rg.cons c45 (Rg.cons c46 (Rg.nil _ _)))))))))))))
  have HL := Lib.hid (And.intro hL0 (And.intro hL1 (And.intro hL2 (And.intro hL3 hL4))))
  have l0 : L0.length = 7 := by rw [hL0]; rfl
  have o0 : Ones L0 := by rw [hL0]; exact (Ones.cons rfl (Ones.cons rfl (Ones.cons rfl (Ones.cons rfl (Ones.cons rfl (Ones.cons rfl (Ones.cons rfl Ones.nil)))))))
  have l1 : L1.length = 10 := by rw [hL1]; rfl
  have o1 : Ones L1 := by rw [hL1]; exact (Ones.cons rfl (Ones.cons rfl (Ones.cons rfl (Ones.cons rfl (Ones.cons rfl (Ones.cons rfl (Ones.cons rfl (Ones.cons rfl (Ones.cons rfl (Ones.cons rfl Ones.nil))))))))))
  have l2 : L2.length = 7 := by rw [hL2]; rfl
  have o2 : Ones L2 := by rw [hL2]; exact (Ones.cons rfl (Ones.cons rfl (Ones.cons rfl (Ones.cons rfl (Ones.cons rfl (Ones.cons rfl (Ones.cons rfl Ones.nil)))))))
  have l3 : L3.length = 8 := by rw [hL3]; rfl
  have o3 : Ones L3 := by rw [hL3]; exact (Ones.cons rfl (Ones.cons rfl (Ones.cons rfl (Ones.cons rfl (Ones.cons rfl (Ones.cons rfl (Ones.cons rfl (Ones.cons rfl Ones.nil))))))))
  have l4 : L4.length = 12 := by rw [hL4]; rfl
  have o4 : Ones L4 := by rw [hL4]; exact (Ones.cons rfl (Ones.cons rfl (Ones.cons rfl (Ones.cons rfl (Ones.cons rfl (Ones.cons rfl (Ones.cons rfl (Ones.cons rfl (Ones.cons rfl (Ones.cons rfl (Ones.cons rfl (Ones.cons rfl Ones.nil))))))))))))
  have HR := Lib.hid (And.intro r0 (And.intro r1 (And.intro r2 (And.intro r3 r4))))
  clear hL0 hL1 hL2 hL3 hL4 r0 r1 r2 r3 r4
  have HW := Lib.hid (And.intro hwb hB)
  have GB0 := Lib.hid GB
  have HZ := Lib.hid hz
  have HF : Hid (fewB o = (([o.w.lab.length, o.w.tol.length, o.p.lab.length, o.p.tol.length, o.n.lab.length, o.n.tnt.length, o.g.lab.length, o.g.tnt.length] : List Nat).all (fun n => decide (n ≤ 30)) && decide (o.w.sel.length + o.p.sel.length + o.h.met.length + o.h.upol.length + o.h.dpol.length + o.h.past.length ≤ 60))) := rfl
  have HN : Hid (o.w.lab.length ≤ 140737488351232 ∧ o.w.tol.length ≤ 140737488351232 ∧ o.p.lab.length ≤ 140737488351232 ∧ o.p.tol.length ≤ 140737488351232 ∧ o.n.lab.length ≤ 140737488351232 ∧ o.n.tnt.length ≤ 140737488351232 ∧ o.g.lab.length ≤ 140737488351232 ∧ o.g.tnt.length ≤ 140737488351232 ∧ o.w.sel.length ≤ 140737488351232 ∧ o.p.sel.length ≤ 140737488351232 ∧ o.h.met.length ≤ 140737488351232 ∧ o.h.upol.length ≤ 140737488351232 ∧ o.h.dpol.length ≤ 140737488351232 ∧ o.h.past.length ≤ 140737488351232) := ⟨F.w_lab_r, F.w_tol_r, F.p_lab_r, F.p_tol_r, F.n_lab_r, F.n_tnt_r, F.g_lab_r, F.g_tnt_r, F.w_sel_r, F.p_sel_r, F.h_met_r, F.h_upol_r, F.h_dpol_r, F.h_past_r⟩
  clear F GB hwb hB hbk hz hsz c0 c1 c2 hver c3 c4 c5 c6 c7 c8 c9 c10 c11 c12 c13 c14 c15 c16 c17 c18 c19 c20 c21 c22 c23 c24 c25 c26 c27 c28 c29 c30 c31 c32 c33 c34 c35 c36 c37 c38 c39 c40 c41 c42 c43 c44 c45 c46 r6 r7 r8 r16 r17 r18 r23 r24 r32 r33 r38 r42 r45 r46
  generalize fewB o = fb at HF ⊢
  go_enter Try.func12, Try.ntmps12
  go_wp2_with fail
  rw [← HW.out.1, ← HW.out.2]
  refine wp_region_held_drew (S := fun w' => Bd wb.heap.size wb w') mixed (Bd.refl _ wb).drew (fun hHeld => ?_)
  refine wpAnyH_takeD (i := 0) (d := 10) (v := .pointer (some ⟨B, 3, none⟩)) _ rfl rfl (by kernel_rfl) (by kernel_rfl) (by kernel_rfl) (fun _ _ _ h => h) (Or.inl ⟨by kernel_rfl, fun ws hSw => by go_simp⟩) hHeld ?_
  simp only [Act.put, List.setIfInBounds_toArray, List.set_cons_zero, List.set_cons_succ]
  refine wpAnyH_takeD (i := 1) (d := 11) (v := .agg L0.toArray) _ rfl rfl (by kernel_rfl) (by kernel_rfl) (by kernel_rfl) (fun _ _ _ h => h) (yieldsIf_load_mid (by kernel_rfl) _ _ rfl B 3 (by kernel_rfl) L0 _ (fun ws hSw => rangeAt_below HR.out.1 hSw.below HZ.out) Try.underlying29 rfl (by rw [l0]; kernel_rfl)) hHeld ?_
  simp only [Act.put, List.setIfInBounds_toArray, List.set_cons_zero, List.set_cons_succ]
  refine wpAnyH_takeD (i := 2) (d := 12) (v := .pointer (some ⟨B, 10, none⟩)) _ rfl rfl (by kernel_rfl) (by kernel_rfl) (by kernel_rfl) (fun _ _ _ h => h) (Or.inl ⟨by kernel_rfl, fun ws hSw => by go_simp⟩) hHeld ?_
  simp only [Act.put, List.setIfInBounds_toArray, List.set_cons_zero, List.set_cons_succ]
  refine wpAnyH_takeD (i := 3) (d := 13) (v := .agg L1.toArray) _ rfl rfl (by kernel_rfl) (by kernel_rfl) (by kernel_rfl) (fun _ _ _ h => h) (yieldsIf_load_mid (by kernel_rfl) _ _ rfl B 10 (by kernel_rfl) L1 _ (fun ws hSw => rangeAt_below HR.out.2.1 hSw.below HZ.out) Try.underlying31 rfl (by rw [l1]; kernel_rfl)) hHeld ?_
  simp only [Act.put, List.setIfInBounds_toArray, List.set_cons_zero, List.set_cons_succ]
  refine wpAnyH_takeD (i := 4) (d := 14) (v := .pointer (some ⟨B, 20, none⟩)) _ rfl rfl (by kernel_rfl) (by kernel_rfl) (by kernel_rfl) (fun _ _ _ h => h) (Or.inl ⟨by kernel_rfl, fun ws hSw => by go_simp⟩) hHeld ?_
  simp only [Act.put, List.setIfInBounds_toArray, List.set_cons_zero, List.set_cons_succ]
  refine wpAnyH_takeD (i := 5) (d := 15) (v := .agg L2.toArray) _ rfl rfl (by kernel_rfl) (by kernel_rfl) (by kernel_rfl) (fun _ _ _ h => h) (yieldsIf_load_mid (by kernel_rfl) _ _ rfl B 20 (by kernel_rfl) L2 _ (fun ws hSw => rangeAt_below HR.out.2.2.1 hSw.below HZ.out) Try.underlying33 rfl (by rw [l2]; kernel_rfl)) hHeld ?_
  simp only [Act.put, List.setIfInBounds_toArray, List.set_cons_zero, List.set_cons_succ]
  refine wpAnyH_takeD (i := 6) (d := 16) (v := .pointer (some ⟨B, 27, none⟩)) _ rfl rfl (by kernel_rfl) (by kernel_rfl) (by kernel_rfl) (fun _ _ _ h => h) (Or.inl ⟨by kernel_rfl, fun ws hSw => by go_simp⟩) hHeld ?_
  simp only [Act.put, List.setIfInBounds_toArray, List.set_cons_zero, List.set_cons_succ]
  refine wpAnyH_takeD (i := 7) (d := 17) (v := .agg L3.toArray) _ rfl rfl (by kernel_rfl) (by kernel_rfl) (by kernel_rfl) (fun _ _ _ h => h) (yieldsIf_load_mid (by kernel_rfl) _ _ rfl B 27 (by kernel_rfl) L3 _ (fun ws hSw => rangeAt_below HR.out.2.2.2.1 hSw.below HZ.out) Try.underlying35 rfl (by rw [l3]; kernel_rfl)) hHeld ?_
  simp only [Act.put, List.setIfInBounds_toArray, List.set_cons_zero, List.set_cons_succ]
  refine wpAnyH_takeD (i := 8) (d := 18) (v := .pointer (some ⟨B, 35, none⟩)) _ rfl rfl (by kernel_rfl) (by kernel_rfl) (by kernel_rfl) (fun _ _ _ h => h) (Or.inl ⟨by kernel_rfl, fun ws hSw => by go_simp⟩) hHeld ?_
  simp only [Act.put, List.setIfInBounds_toArray, List.set_cons_zero, List.set_cons_succ]
  refine wpAnyH_takeD (i := 9) (d := 19) (v := .agg L4.toArray) _ rfl rfl (by kernel_rfl) (by kernel_rfl) (by kernel_rfl) (fun _ _ _ h => h) (yieldsIf_load_mid (by kernel_rfl) _ _ rfl B 35 (by kernel_rfl) L4 _ (fun ws hSw => rangeAt_below HR.out.2.2.2.2 hSw.below HZ.out) Try.underlying42 rfl (by rw [l4]; kernel_rfl)) hHeld ?_
  simp only [Act.put, List.setIfInBounds_toArray, List.set_cons_zero, List.set_cons_succ]
  refine five_all (N := wb.heap.size) 3 11 _ (Nat.le_refl _)
    ⟨⟨_, rfl, rfl, fun _ => rfl, fun a ws => by go_simp; rfl⟩⟩ ⟨⟨_, rfl, rfl, fun _ => rfl, fun a ws => by go_simp; rfl⟩⟩ ⟨⟨_, rfl, rfl, fun _ => rfl, fun a ws => by go_simp; rfl⟩⟩ ⟨⟨_, rfl, rfl, fun _ => rfl, fun a ws => by go_simp; rfl⟩⟩ ⟨⟨_, rfl, rfl, fun _ => rfl, fun a ws => by go_simp; rfl⟩⟩
    (by intro t0 t1 t2 t3 t4 hf; cases t0 <;> cases t1 <;> cases t2 <;> cases t3 <;> cases t4 <;> first | (cases hf; done) | kernel_rfl)
    ⟨⟨_, _, rfl, rfl, fun _ => rfl, rfl, by kernel_rfl⟩⟩ ⟨⟨_, _, rfl, rfl, fun _ => rfl, rfl, by kernel_rfl⟩⟩ ⟨⟨_, _, rfl, rfl, fun _ => rfl, rfl, by kernel_rfl⟩⟩ ⟨⟨_, _, rfl, rfl, fun _ => rfl, rfl, by kernel_rfl⟩⟩ ⟨⟨_, _, rfl, rfl, fun _ => rfl, rfl, by kernel_rfl⟩⟩
    (by kernel_rfl) (by kernel_rfl) (by kernel_rfl) (by kernel_rfl) (by kernel_rfl) (by kernel_rfl)
    (by decide) l0 l1 l2 l3 l4 o0 o1 o2 o3 o4
    (fun _ _ _ _ _ => ⟨by kernel_rfl, by kernel_rfl, by kernel_rfl, by kernel_rfl, by kernel_rfl⟩) (fun _ _ _ _ _ => ⟨by kernel_rfl, by kernel_rfl, by kernel_rfl, by kernel_rfl, by kernel_rfl⟩) ?_ (by kernel_rfl) hHeld
  clear hHeld l0 l1 l2 l3 l4 o0 o1 o2 o3 o4
  intro b0 b1 b2 b3 b4 w1 hb p0 p1 p2 p3 p4 r0 r1 r2 r3 r4
  simp only [act5, Act.put, Nat.reduceAdd, List.setIfInBounds_toArray, List.set_cons_zero, List.set_cons_succ]
  rw [HL.out.1] at r0
  have R0 := Lib.hid r0
  rw [HL.out.2.1] at r1
  have R1 := Lib.hid r1
  rw [HL.out.2.2.1] at r2
  have R2 := Lib.hid r2
  rw [HL.out.2.2.2.1] at r3
  have R3 := Lib.hid r3
  rw [HL.out.2.2.2.2] at r4
  have R4 := Lib.hid r4
  clear r0 r1 r2 r3 r4
  have HB : Hid (Gr w w1) := GB0.out.trans hb.gr
  clear hb p0 p1 p2 p3 p4 HL HR HW GB0 HZ
  generalize o.w.lab.length = n6 at *
  generalize o.w.tol.length = n8 at *
  generalize o.p.lab.length = n16 at *
  generalize o.p.tol.length = n18 at *
  generalize o.n.lab.length = n23 at *
  generalize o.n.tnt.length = n24 at *
  generalize o.g.lab.length = n32 at *
  generalize o.g.tnt.length = n33 at *
  generalize o.w.sel.length = n7 at *
  generalize o.p.sel.length = n17 at *
  generalize o.h.met.length = n38 at *
  generalize o.h.upol.length = n42 at *
  generalize o.h.dpol.length = n45 at *
  generalize o.h.past.length = n46 at *
  have f6 : w1.cell? ⟨b0, 3, none⟩ = some (.slice q6 n6 k6) := range_cell R0.out rfl
  have f8 : w1.cell? ⟨b0, 5, none⟩ = some (.slice q8 n8 k8) := range_cell R0.out rfl
  have f16 : w1.cell? ⟨b1, 6, none⟩ = some (.slice q16 n16 k16) := range_cell R1.out rfl
  have f18 : w1.cell? ⟨b1, 8, none⟩ = some (.slice q18 n18 k18) := range_cell R1.out rfl
  have f23 : w1.cell? ⟨b2, 3, none⟩ = some (.slice q23 n23 k23) := range_cell R2.out rfl
  have f24 : w1.cell? ⟨b2, 4, none⟩ = some (.slice q24 n24 k24) := range_cell R2.out rfl
  have f32 : w1.cell? ⟨b3, 5, none⟩ = some (.slice q32 n32 k32) := range_cell R3.out rfl
  have f33 : w1.cell? ⟨b3, 6, none⟩ = some (.slice q33 n33 k33) := range_cell R3.out rfl
  have f7 : w1.cell? ⟨b0, 4, none⟩ = some (.slice q7 n7 k7) := range_cell R0.out rfl
  have f17 : w1.cell? ⟨b1, 7, none⟩ = some (.slice q17 n17 k17) := range_cell R1.out rfl
  have f38 : w1.cell? ⟨b4, 3, none⟩ = some (.slice q38 n38 k38) := range_cell R4.out rfl
  have f42 : w1.cell? ⟨b4, 7, none⟩ = some (.slice q42 n42 k42) := range_cell R4.out rfl
  have f45 : w1.cell? ⟨b4, 10, none⟩ = some (.slice q45 n45 k45) := range_cell R4.out rfl
  have f46 : w1.cell? ⟨b4, 11, none⟩ = some (.slice q46 n46 k46) := range_cell R4.out rfl
  have FF := Lib.hid (⟨f7, f17, f38, f42, f45, f46⟩ : w1.cell? ⟨b0, 4, none⟩ = some (.slice q7 n7 k7) ∧ w1.cell? ⟨b1, 7, none⟩ = some (.slice q17 n17 k17) ∧ w1.cell? ⟨b4, 3, none⟩ = some (.slice q38 n38 k38) ∧ w1.cell? ⟨b4, 7, none⟩ = some (.slice q42 n42 k42) ∧ w1.cell? ⟨b4, 10, none⟩ = some (.slice q45 n45 k45) ∧ w1.cell? ⟨b4, 11, none⟩ = some (.slice q46 n46 k46))
  clear f7 f17 f38 f42 f45 f46
  clear R0 R1 R2 R3 R4
  obtain ⟨RL, hRL⟩ : ∃ RL : List (Option Addr × Nat × Nat), RL = [(q6, n6, k6), (q8, n8, k8), (q16, n16, k16), (q18, n18, k18), (q23, n23, k23), (q24, n24, k24), (q32, n32, k32), (q33, n33, k33)] := ⟨_, rfl⟩
  obtain ⟨S, hS⟩ : ∃ S, S = w1.heap.size := ⟨_, rfl⟩
  obtain ⟨ws, hws⟩ : ∃ ws, ws = w1.alloc (.cells #[.slice q6 n6 k6, .slice q8 n8 k8, .slice q16 n16 k16, .slice q18 n18 k18, .slice q23 n23 k23, .slice q24 n24 k24, .slice q32 n32 k32, .slice q33 n33 k33] 26) := ⟨_, rfl⟩
  have GS : Gr w1 ws := hws ▸ (Gr.refl w1).alloc _
  have hcell : ∀ j q n c, RL[j]? = some (q, n, c) → ws.cell? ⟨S, j, none⟩ = some (.slice q n c) := by
    intro j q n c hj
    rw [hRL] at hj
    rw [hws, hS]
    match j, hj with
    | 0, hj => simp at hj; obtain ⟨rfl, rfl, rfl⟩ := hj; simp
    | 1, hj => simp at hj; obtain ⟨rfl, rfl, rfl⟩ := hj; simp
    | 2, hj => simp at hj; obtain ⟨rfl, rfl, rfl⟩ := hj; simp
    | 3, hj => simp at hj; obtain ⟨rfl, rfl, rfl⟩ := hj; simp
    | 4, hj => simp at hj; obtain ⟨rfl, rfl, rfl⟩ := hj; simp
    | 5, hj => simp at hj; obtain ⟨rfl, rfl, rfl⟩ := hj; simp
    | 6, hj => simp at hj; obtain ⟨rfl, rfl, rfl⟩ := hj; simp
    | 7, hj => simp at hj; obtain ⟨rfl, rfl, rfl⟩ := hj; simp
    | j + 8, hj => simp at hj
  have hlen : RL.length = 8 := by rw [hRL]; rfl
  have hmap : ([n6, n8, n16, n18, n23, n24, n32, n33] : List Nat) = RL.map (fun x => x.2.1) := by rw [hRL]; rfl
  have HWS := Lib.hid (And.intro hws hS)
  have HC := Lib.hid hcell
  have HLN := Lib.hid hlen
  have HGS := Lib.hid GS
  have HBAD : Hid (∀ j q n c, RL[j]? = some (q, n, c) → 30 < n → fb = false) := fun j q n c hj hn => by
    have e := HF.out
    rw [hmap] at e
    have h2 : (RL.map (fun x => x.2.1)).all (fun n => decide (n ≤ 30)) = false := List.all_eq_false.2 ⟨n, List.mem_map.2 ⟨(q, n, c), List.mem_of_getElem? hj, rfl⟩, by simp; omega⟩
    rw [h2] at e
    exact e
  have HRL := Lib.hid hRL
  clear hws hS hcell hlen hmap GS hRL
  go_upto_region 2 with fail
  go_wp2_with fail
  rw [← HWS.out.1, ← HWS.out.2]
  go_loopg [38] 8 (fun g vi wr => ∃ (k : Nat), k ≤ 8 ∧ 8 - k ≤ g ∧ vi = .int .i64 (k : Int) ∧ Hid (∀ j q n c, j < k → RL[j]? = some (q, n, c) → n ≤ 30) ∧ ws = wr)
  case atStart => exact ⟨0, by omega, by omega, rfl, fun j q n c h => absurd h (Nat.not_lt_zero _), rfl⟩
  case round =>
    obtain ⟨k, hk, hg, rfl, HS, rfl⟩ := hrel
    by_cases hlt : k < 8
    · obtain ⟨x, hx⟩ : ∃ x, RL[k]? = some x := ⟨_, List.getElem?_eq_getElem (by rw [HLN.out]; exact hlt)⟩
      obtain ⟨q, n, c⟩ := x
      have d := HC.out k q n c hx
      have HX := Lib.hid hx
      clear hx
      by_cases hn : 30 < n
      · have HB2 := Lib.hid (HBAD.out k q n c HX.out hn)
        go_wp2
        go_ret
        exact ⟨by rw [HB2.out]; rfl, HB.out.trans HGS.out⟩
      · have HS2 : Hid (∀ j q n c, j < k + 1 → RL[j]? = some (q, n, c) → n ≤ 30) := fun j q' n' c' hj h => by
          by_cases e : j = k
          · subst e
            rw [HX.out] at h
            cases h
            omega
          · exact HS.out j q' n' c' (by omega) h
        go_wp2
        go_roundg (8 - (k + 1))
        case measure => omega
        case rel => exact ⟨k + 1, hlt, Nat.le_refl _, by go_num, HS2, rfl⟩
    · obtain rfl : k = 8 := by omega
      have m6 : n6 ≤ 30 := HS.out 0 q6 n6 k6 (by omega) (by rw [HRL.out]; rfl)
      have m8 : n8 ≤ 30 := HS.out 1 q8 n8 k8 (by omega) (by rw [HRL.out]; rfl)
      have m16 : n16 ≤ 30 := HS.out 2 q16 n16 k16 (by omega) (by rw [HRL.out]; rfl)
      have m18 : n18 ≤ 30 := HS.out 3 q18 n18 k18 (by omega) (by rw [HRL.out]; rfl)
      have m23 : n23 ≤ 30 := HS.out 4 q23 n23 k23 (by omega) (by rw [HRL.out]; rfl)
      have m24 : n24 ≤ 30 := HS.out 5 q24 n24 k24 (by omega) (by rw [HRL.out]; rfl)
      have m32 : n32 ≤ 30 := HS.out 6 q32 n32 k32 (by omega) (by rw [HRL.out]; rfl)
      have m33 : n33 ≤ 30 := HS.out 7 q33 n33 k33 (by omega) (by rw [HRL.out]; rfl)
      obtain ⟨h6, h8, h16, h18, h23, h24, h32, h33, h7, h17, h38, h42, h45, h46⟩ := HN.out
      have HE : Hid (fb = decide (n7 + n17 + n38 + n42 + n45 + n46 ≤ 60)) := by
        show _ = _
        rw [HF.out]
        simp [m6, m8, m16, m18, m23, m24, m32, m33]
      clear m6 m8 m16 m18 m23 m24 m32 m33 h6 h8 h16 h18 h23 h24 h32 h33
      have HG := HGS.out
      obtain ⟨g7, g17, g38, g42, g45, g46⟩ := FF.out
      have f7 := HG.cell g7
      have f17 := HG.cell g17
      have f38 := HG.cell g38
      have f42 := HG.cell g42
      have f45 := HG.cell g45
      have f46 := HG.cell g46
      clear HG g7 g17 g38 g42 g45 g46
      by_cases hs : n7 + n17 + n38 + n42 + n45 + n46 ≤ 60
      · rw [decide_eq_true hs] at HE
        have t : decide ((n7 : Int) + (n17 : Int) + (n38 : Int) + (n42 : Int) + (n45 : Int) + (n46 : Int) ≤ 60) = true := decide_eq_true (by omega)
        clear hs
        go_wp2
        go_ret
        exact ⟨by rw [HE.out]; rfl, HB.out.trans HGS.out⟩
      · rw [decide_eq_false hs] at HE
        have t : decide ((n7 : Int) + (n17 : Int) + (n38 : Int) + (n42 : Int) + (n45 : Int) + (n46 : Int) ≤ 60) = false := decide_eq_false (by omega)
        clear hs
        go_wp2
        go_ret
        exact ⟨by rw [HE.out]; rfl, HB.out.trans HGS.out⟩
end Go.Proofs.Ytdphooobgbminaa
/- The law's Right asks what the program's Check asks. -/
namespace Go.Proofs.Ytdphooobgbminaa
open Go.RowKit Go.Shelf Go.Lib Go.Sort
set_option linter.unusedVariables false
set_option linter.unusedSimpArgs false

theorem lawU_iff (l : List Sca) : ∀ k, lawU l k = true ↔ ∀ j, j < k → lawC l j = true
  | 0 => by simp [lawU]
  | k + 1 => by
    rw [lawU, Bool.and_eq_true, lawU_iff l k]
    constructor
    · rintro ⟨h1, h2⟩ j hj
      by_cases e : j = k
      · rw [e]; exact h2
      · exact h1 j (by omega)
    · intro h
      exact ⟨fun j hj => h j (by omega), h k (by omega)⟩
theorem lawC_at' {l : List Sca} {k : Nat} {x : Sca} (hx : l[k]? = some x) : lawC l k = true ↔ 0 ≤ x.1 ∧ x.1 ≤ 4611686018427387904 ∧ 0 ≤ x.2.1 ∧ x.2.1 ≤ 1000000 ∧ 0 ≤ x.2.2 ∧ x.2.2 ≤ 1000000 ∧ (k = 0 ∨ lastAt 0 l k ≤ x.1) := by
  simp [lawC, hx, and_assoc]
theorem scaC_iff (a : Int) (x : Sca) : scaC a x = true ↔ a ≤ x.1 ∧ x.1 ≤ 4611686018427387904 ∧ 0 ≤ x.2.1 ∧ x.2.1 ≤ 1000000 ∧ 0 ≤ x.2.2 ∧ x.2.2 ≤ 1000000 := by
  simp [scaC, withinB, and_assoc]
theorem law_past (l : List Sca) : lawU l l.length = pastL 0 l := by
  rw [Bool.eq_iff_iff, lawU_iff, past_iff]
  constructor
  · intro h j x hx
    have hj := (List.getElem?_eq_some_iff.1 hx).1
    obtain ⟨a1, a2, a3, a4, a5, a6, a7⟩ := (lawC_at' hx).1 (h j hj)
    refine (scaC_iff _ _).2 ⟨?_, a2, a3, a4, a5, a6⟩
    rcases a7 with rfl | a7
    · exact a1
    · exact a7
  · intro h j hj
    have pos : ∀ (k : Nat) (x : Sca), l[k]? = some x → 0 ≤ x.1 := by
      intro k
      induction k with
      | zero => intro x hx; exact ((scaC_iff _ _).1 (h 0 x hx)).1
      | succ k ih =>
        intro x hx
        have hk : k < l.length := by have := (List.getElem?_eq_some_iff.1 hx).1; omega
        have h1 := ih _ (List.getElem?_eq_getElem hk)
        have h2 := ((scaC_iff _ _).1 (h (k + 1) x hx)).1
        rw [lastAt_step (List.getElem?_eq_getElem hk)] at h2
        omega
    have hx := List.getElem?_eq_getElem hj
    obtain ⟨b1, b2, b3, b4, b5, b6⟩ := (scaC_iff _ _).1 (h j _ hx)
    exact (lawC_at' hx).2 ⟨pos j _ hx, b2, b3, b4, b5, b6, .inr b1⟩

theorem eq_w (o : Ob) : l_w o = c_w o := by simp [l_w, c_w, wlC, wantsB, withinB, Bool.and_assoc]
theorem eq_n (o : Ob) : l_n o = c_n o := by simp [l_n, c_n, ndC, withinB, Bool.and_assoc]
theorem eq_g (o : Ob) : l_g o = c_g o := by
  unfold l_g c_g gpC
  generalize resB o.g.cpu o.g.mem = b1
  generalize rightB o.g.lab = b2
  generalize rightB o.g.tnt = b3
  rw [Bool.eq_iff_iff]
  cases b1 <;> cases b2 <;> cases b3 <;> simp [withinB] <;> omega
theorem eq_p (o : Ob) : l_p o = c_p o := by
  unfold l_p c_p pdC wlC wantsB phaseB
  generalize nameB o.p.own = b1
  generalize mayB o.p.node = b2
  generalize resB o.p.cpu o.p.mem = b3
  generalize rightB o.p.lab = b4
  generalize asksB o.p.sel = b5
  generalize rightB o.p.tol = b6
  rw [Bool.eq_iff_iff]
  by_cases hn : o.p.node.size = 0
  · rw [if_pos hn, decide_eq_true hn]
    cases b1 <;> cases b2 <;> cases b3 <;> cases b4 <;> cases b5 <;> cases b6 <;> simp [withinB] <;> omega
  · rw [if_neg hn, decide_eq_false hn]
    cases b1 <;> cases b2 <;> cases b3 <;> cases b4 <;> cases b5 <;> cases b6 <;> simp [withinB] <;> omega
theorem eq_h (o : Ob) : l_h o = c_h o := by
  unfold l_h c_h hpC h0B pastB
  rw [law_past]
  generalize nameB o.h.tg = b1
  generalize behC o.h.uw o.h.up o.h.upol = b2
  generalize behC o.h.dw o.h.dp o.h.dpol = b3
  generalize pastL 0 o.h.past = b4
  generalize o.h.met.all metB = b5
  rw [Bool.eq_iff_iff]
  cases b1 <;> cases b2 <;> cases b3 <;> cases b4 <;> cases b5 <;> simp [withinB] <;> omega
theorem law_sh (o : Ob) : lawS o = shC o := by unfold lawS shC; rw [eq_w, eq_p, eq_n, eq_g, eq_h]

theorem z_we (o : Ob) : e_w o = z_w o := by simp [e_w, z_w, zWl, Bool.and_assoc]
theorem z_pe (o : Ob) : e_p o = z_p o := by simp [e_p, z_p, zPd, Bool.and_assoc]
theorem z_ne (o : Ob) : e_n o = z_n o := by simp [e_n, z_n, zNd, Bool.and_assoc]
theorem z_ge (o : Ob) : e_g o = z_g o := by simp [e_g, z_g, zGp, Bool.and_assoc]
theorem z_he (o : Ob) : e_h o = z_h o := by
  unfold e_h z_h zHp zBh
  ac_rfl
theorem num_testk (x k : Int) : (x == k) = decide (x = k) := by rw [Bool.eq_iff_iff]; simp
theorem emp_al (o : Ob) : empE o = alC o := by
  unfold empE alC
  rw [z_we, z_pe, z_ne, z_ge, z_he]
  simp only [num_testk, Bool.or_comm]
theorem rgt_chk (o : Ob) : rgtE o = chkE o := by
  unfold rgtE chkE
  rw [emp_al, law_sh]
  by_cases hk : o.kind < 0 ∨ 4 < o.kind
  · have h2 : withinB o.kind 0 4 = false := by simp [withinB]; omega
    rw [if_pos hk, if_pos h2]
  · have h2 : ¬ withinB o.kind 0 4 = false := by simp [withinB]; omega
    rw [if_neg hk, if_neg h2]
    cases nameB o.name <;> cases alC o <;> cases shC o <;> simp
end Go.Proofs.Ytdphooobgbminaa
/- The law's Right: workloads. -/
namespace Go.Proofs.Ytdphooobgbminaa
open Go.RowKit Go.Shelf Go.Lib Go.Sort
open Go.Joins (cell_of_block unfrozen_of_block block_setCell)
set_option linter.unusedVariables false
set_option linter.unusedSimpArgs false
set_option maxRecDepth 20000

set_option maxHeartbeats 8000000 in
theorem law0 (w : World) (cs : Array Value) (o : Ob) (hv : ObjV w cs o) (F : FitsO o) (hk : o.kind = 0) :
    Calls Try.prog 13 #[.agg cs] w fun e w' => e = .returned (.int .i64 (rgtE o)) ∧ Gr w w' := by
  have mixed : Try.prog.follows .mixedOrders = true := by kernel_rfl
  obtain ⟨B, hB⟩ : ∃ B, B = w.heap.size := ⟨_, rfl⟩
  obtain ⟨wb, hwb⟩ : ∃ wb, wb = w.alloc (.cells cs 44) := ⟨_, rfl⟩
  have G0 : Gr w wb := hwb ▸ (Gr.refl w).alloc _
  have b0 : wb.heap[B]? = some (.cells cs 44 (0, 0)) := by rw [hwb, hB]; exact heap_alloc_new w _
  have HB : Hid (∀ W, Gr wb W → Gr w W ∧ W.heap[B]? = some (.cells cs 44 (0, 0)) ∧ W.cell? ⟨B, 0, none⟩ = some (.int .i64 0)) := fun W g => ⟨G0.trans g, (g.heap (Array.getElem?_eq_some_iff.1 b0).1).trans b0, hk ▸ load_at ((g.heap (Array.getElem?_eq_some_iff.1 b0).1).trans b0) hv.2.1⟩
  obtain ⟨qw_lab, kw_lab, qw_sel, kw_sel, qw_tol, kw_tol, rw_lab, rw_sel, rw_tol, Lw⟩ := load_w hv
  have d1 : wb.cell? ⟨B, 1, none⟩ = some (.string o.name) := load_nm b0 hv.2.1
  have CN := Lib.hid (fun (W : World) => rname_any W o.name (by have := ftT_iff.1 F.name; omega))
  have CE := Lib.hid (fun (W : World) (g : Gr w W) => rempty_any W cs o (hv.below g.below) (by omega) F.lens)
  have LO : Hid ((Instr.loadAt 44 (.pointer (some ⟨B, 0, none⟩))).run Try.prog wb = .ok (.agg cs) wb) := load_ob b0 hv.1
  have HO : Hid (rgtE o = if nameB o.name = false then 6 else if (empE o && l_w o) = false then 2 else 0) := by show _ = _; simp [rgtE, lawS, hk]
  unfold l_w at HO
  have C2 := Lib.hid (fun (W : World) (g : Gr w W) => wants_any W o.w.cpu o.w.mem qw_lab kw_lab o.w.lab (rw_lab.gr g) F.w_lab_n F.w_lab qw_sel kw_sel o.w.sel (rw_sel.gr g) F.w_sel_n F.w_sel qw_tol kw_tol o.w.tol (rw_tol.gr g) F.w_tol_n F.w_tol o.w.warm)
  obtain ⟨p0, t0⟩ : ∃ p, decide (0 ≤ o.w.rep) = p := ⟨_, rfl⟩
  obtain ⟨p1, t1⟩ : ∃ p, decide (o.w.rep ≤ 1000000) = p := ⟨_, rfl⟩
  generalize hb2 : wantsB o.w.cpu o.w.mem o.w.lab o.w.sel o.w.tol o.w.warm = p2 at HO C2
  rw [t0, t1] at HO
  generalize hbn : nameB o.name = bn at HO CN
  generalize hbe : empE o = be at HO CE
  have LLw := Lib.hid Lw
  have HW := Lib.hid (And.intro hwb (And.intro hB G0))
  clear hbn hbe hb2 hv F hwb hB b0 G0 hk Lw rw_lab rw_sel rw_tol
  have TP := Lib.hid (⟨t0, t1⟩ : decide (0 ≤ o.w.rep) = p0 ∧ decide (o.w.rep ≤ 1000000) = p1)
  clear t0 t1
  obtain ⟨_, _, d0⟩ := HB.out _ (Gr.refl _)
  go_enter Try.func13, Try.ntmps13
  go_upto_region 1 with fail
  rw [← HW.out.1, ← HW.out.2.1]
  go_wp2_with fail
  refine (CN.out _).mono ?_
  rintro e w1 ⟨rfl, rfl⟩
  cases bn with
  | false => (go_wp2; go_ret; exact ⟨by rw [HO.out]; rfl, HW.out.2.2⟩)
  | true =>
    go_wp2_with (refine wpList_load_by (by kernel_rfl) 44 _ rfl (.pointer (some ⟨B, 0, none⟩)) (.agg cs) (by kernel_rfl) LO.out ?_)
    refine (CE.out _ HW.out.2.2).mono ?_
    rintro e w1 ⟨rfl, h1⟩
    have K1 := Lib.hid h1
    obtain ⟨g1, B1, d1'⟩ := HB.out _ K1.out
    have HB1 := Lib.hid B1
    have G1 := Lib.hid g1
    clear h1 B1 g1 d0 d1 LO
    have HX : Hid (∀ (W : World), Gr (w1.alloc (.cells #[.int .i64 o.w.rep, .int .i64 o.w.cpu, .int .i64 o.w.mem, .slice qw_lab o.w.lab.length kw_lab, .slice qw_sel o.w.sel.length kw_sel, .slice qw_tol o.w.tol.length kw_tol, .int .i64 o.w.warm] 29)) W → Gr w W ∧ W.cell? ⟨w1.heap.size, 0, none⟩ = some (.int .i64 o.w.rep) ∧ W.cell? ⟨w1.heap.size, 1, none⟩ = some (.int .i64 o.w.cpu) ∧ W.cell? ⟨w1.heap.size, 2, none⟩ = some (.int .i64 o.w.mem) ∧ W.cell? ⟨w1.heap.size, 3, none⟩ = some (.slice qw_lab o.w.lab.length kw_lab) ∧ W.cell? ⟨w1.heap.size, 4, none⟩ = some (.slice qw_sel o.w.sel.length kw_sel) ∧ W.cell? ⟨w1.heap.size, 5, none⟩ = some (.slice qw_tol o.w.tol.length kw_tol) ∧ W.cell? ⟨w1.heap.size, 6, none⟩ = some (.int .i64 o.w.warm)) := fun W g => ⟨(G1.out.trans ((Gr.refl w1).alloc _)).trans g, g.cell (by simp), g.cell (by simp), g.cell (by simp), g.cell (by simp), g.cell (by simp), g.cell (by simp), g.cell (by simp)⟩
    obtain ⟨g2, e0_0, e0_1, e0_2, e0_3, e0_4, e0_5, e0_6⟩ := HX.out _ (Gr.refl _)
    have G2 := Lib.hid g2
    have K2 := Lib.hid (Gr.refl (w1.alloc (.cells #[.int .i64 o.w.rep, .int .i64 o.w.cpu, .int .i64 o.w.mem, .slice qw_lab o.w.lab.length kw_lab, .slice qw_sel o.w.sel.length kw_sel, .slice qw_tol o.w.tol.length kw_tol, .int .i64 o.w.warm] 29)))
    clear g2
    cases be with
    | false =>
      go_upto_region 9 with (refine wpList_load_by (by kernel_rfl) 29 _ rfl (.pointer (some ⟨B, 3, none⟩)) (.agg #[.int .i64 o.w.rep, .int .i64 o.w.cpu, .int .i64 o.w.mem, .slice qw_lab o.w.lab.length kw_lab, .slice qw_sel o.w.sel.length kw_sel, .slice qw_tol o.w.tol.length kw_tol, .int .i64 o.w.warm]) (by rfl) (LLw.out _ _ _ _ HB1.out) ?_)
      go_wp2
      go_ret
      exact ⟨by rw [HO.out]; rfl, G2.out⟩
    | true =>
      obtain ⟨t0, t1⟩ := TP.out
      go_upto_region 9 with (refine wpList_load_by (by kernel_rfl) 29 _ rfl (.pointer (some ⟨B, 3, none⟩)) (.agg #[.int .i64 o.w.rep, .int .i64 o.w.cpu, .int .i64 o.w.mem, .slice qw_lab o.w.lab.length kw_lab, .slice qw_sel o.w.sel.length kw_sel, .slice qw_tol o.w.tol.length kw_tol, .int .i64 o.w.warm]) (by rfl) (LLw.out _ _ _ _ HB1.out) ?_)
      go_wp2_with fail
      any_goals (go_ret; refine ⟨ret_i ?_, G2.out⟩; go_light; rw [HO.out]; first | rfl | (simp [*]; done) | (simp_all; done))
      refine (C2.out _ G2.out).mono ?_
      rintro e w3 ⟨rfl, h3⟩
      have K3 := Lib.hid (K2.out.trans h3)
      have G3 := Lib.hid (HX.out _ K3.out).1
      obtain ⟨_, e3_0, e3_1, e3_2, e3_3, e3_4, e3_5, e3_6⟩ := HX.out _ K3.out
      clear h3
      cases p2 with
      | false =>
        go_wp2
        all_goals (go_ret; refine ⟨ret_i ?_, G3.out⟩; go_light; rw [HO.out]; first | rfl | (simp [*]; done) | (simp_all; done))
      | true =>
        go_wp2
        all_goals (go_ret; refine ⟨ret_i ?_, G3.out⟩; go_light; rw [HO.out]; first | rfl | (simp [*]; done) | (simp_all; done))

end Go.Proofs.Ytdphooobgbminaa
/- The law's own answer (trimtablaw07.Right) at any object. -/
namespace Go.Proofs.Ytdphooobgbminaa
open Go.RowKit Go.Lib Go.Shelf Go.Sort
open Go.Joins (cell_of_block unfrozen_of_block block_setCell)
set_option linter.unusedVariables false
set_option linter.unusedSimpArgs false
set_option maxRecDepth 20000

set_option maxHeartbeats 4000000 in
theorem lawO_any (w : World) (cs : Array Value) (o : Ob) (hv : ObjV w cs o) (F : FitsO o) :
    Calls Try.prog 13 #[.agg cs] w fun e w' => e = .returned (.int .i64 (rgtE o)) ∧ Gr w w' := by
  by_cases hk : o.kind < 0 ∨ 4 < o.kind
  · have HO : Hid (rgtE o = 17) := if_pos hk
    have hb : (w.alloc (.cells cs 44)).heap[w.heap.size]? = some (.cells cs 44 (0, 0)) := heap_alloc_new w _
    have d0 := load_at hb hv.2.1
    have G := Lib.hid ((Gr.refl w).alloc (.cells cs 44))
    clear hv F hb
    generalize o.kind = k at *
    rcases hk with h | h
    · go_enter Try.func13, Try.ntmps13
      go_wp2
      go_ret
      exact ⟨by rw [HO.out]; rfl, G.out⟩
    · have t0 : ¬ k < 0 := by omega
      have t : decide (4 < k) = true := decide_eq_true h
      go_enter Try.func13, Try.ntmps13
      go_wp2
      go_ret
      exact ⟨by rw [HO.out]; rfl, G.out⟩
  · have h5 : o.kind = 0 ∨ o.kind = 1 ∨ o.kind = 2 ∨ o.kind = 3 ∨ o.kind = 4 := by omega
    rcases h5 with h | h | h | h | h
    · exact law0 w cs o hv F h
    · by_cases hx : o.p.node.size = 0
      · exact law1e w cs o hv F h hx
      · exact law1n w cs o hv F h hx
    · by_cases hx : o.n.grp.size = 0
      · exact law2e w cs o hv F h hx
      · exact law2n w cs o hv F h hx
    · exact law3 w cs o hv F h
    · exact law4 w cs o hv F h

end Go.Proofs.Ytdphooobgbminaa
