/- The law's Few. -/
import Derived.Test.YtbkoepghmcdnhaaGreatDoorObE
import Derived.Test.YtbkoepghmcdnhaaGreatDoorObS
import Derived.BigRegion
import Derived.Deep.DeepCutAuto
import Derived.Deep.CutRange
import Derived.Deep.Light
namespace Go.Proofs.YtbkoepghmcdnhaaGreatDoor
open Go.RowKit Go.Shelf Go.Lib Go.Sort
open Go.Joins (cell_of_block unfrozen_of_block block_setCell)
set_option linter.unusedVariables false
set_option linter.unusedSimpArgs false
set_option maxRecDepth 20000

def rows8 (o : Ob) : List Nat := [o.w.lab.length, o.w.tol.length, o.p.lab.length, o.p.tol.length, o.n.lab.length, o.n.tnt.length, o.g.lab.length, o.g.tnt.length]
def fewB (o : Ob) : Bool := (rows8 o).all (fun n => decide (n ≤ 30)) && decide (o.w.sel.length + o.p.sel.length + o.h.met.length + o.h.upol.length + o.h.dpol.length + o.h.past.length ≤ 60)

set_option maxHeartbeats 8000000 in
theorem few_any (w : World) (cs : Array Value) (o : Ob) (hv : ObjV w cs o) (F : FitsO o) :
    Calls Tryz.prog 11 #[.agg cs] w fun e w' => e = .returned (.bool (fewB o)) ∧ Gr w w' := by
  have mixed : Tryz.prog.follows .mixedOrders = true := by kernel_rfl
  obtain ⟨hsz, ⟨c0, c1, c2, hver⟩, hW, hP, hN, hG, hH⟩ := hv
  obtain ⟨c3, c4, c5, ⟨q6, k6, c6, r6⟩, ⟨q7, k7, c7, r7⟩, ⟨q8, k8, c8, r8⟩, c9⟩ := hW
  obtain ⟨c10, c11, c12, c13, c14, c15, ⟨q16, k16, c16, r16⟩, ⟨q17, k17, c17, r17⟩, ⟨q18, k18, c18, r18⟩, c19⟩ := hP
  obtain ⟨c20, c21, c22, ⟨q23, k23, c23, r23⟩, ⟨q24, k24, c24, r24⟩, c25, c26⟩ := hN
  obtain ⟨c27, c28, c29, c30, c31, ⟨q32, k32, c32, r32⟩, ⟨q33, k33, c33, r33⟩, c34⟩ := hG
  obtain ⟨c35, c36, c37, ⟨q38, k38, c38, r38⟩, c39, c40, c41, ⟨q42, k42, c42, r42⟩, c43, c44, ⟨q45, k45, c45, r45⟩, ⟨q46, k46, c46, r46⟩⟩ := hH
  obtain ⟨B, hB⟩ : ∃ B, B = w.heap.size := ⟨_, rfl⟩
  obtain ⟨wb, hwb⟩ : ∃ wb, wb = w.alloc (.cells cs 51) := ⟨_, rfl⟩
  have GB : Gr w wb := hwb ▸ (Gr.refl w).alloc _
  have hbk : wb.heap[B]? = some (.cells cs 51 (0, 0)) := by rw [hwb, hB]; exact heap_alloc_new w _
  have hz : B < wb.heap.size := (Array.getElem?_eq_some_iff.1 hbk).1
  obtain ⟨L0, hL0⟩ : ∃ L : List Value, L = [.int .i64 o.w.rep, .int .i64 o.w.cpu, .int .i64 o.w.mem, .slice q6 o.w.lab.length k6, .slice q7 o.w.sel.length k7, .slice q8 o.w.tol.length k8, .int .i64 o.w.warm] := ⟨_, rfl⟩
  have r0 : wb.rangeAt B 3 L0 := by rw [hL0]; exact range_of hbk (Rg.cons c3 (Rg.cons c4 (Rg.cons c5 (Rg.cons c6 (Rg.cons c7 (Rg.cons c8 (Rg.cons c9 (Rg.nil _ _))))))))
  obtain ⟨L1, hL1⟩ : ∃ L : List Value, L = [.string o.p.own, .string o.p.node, .int .i64 o.p.ph, .int .i64 o.p.since, .int .i64 o.p.cpu, .int .i64 o.p.mem, .slice q16 o.p.lab.length k16, .slice q17 o.p.sel.length k17, .slice q18 o.p.tol.length k18, .int .i64 o.p.warm] := ⟨_, rfl⟩
  have r1 : wb.rangeAt B 10 L1 := by rw [hL1]; exact range_of hbk (Rg.cons c10 (Rg.cons c11 (Rg.cons c12 (Rg.cons c13 (Rg.cons c14 (Rg.cons c15 (Rg.cons c16 (Rg.cons c17 (Rg.cons c18 (Rg.cons c19 (Rg.nil _ _)))))))))))
  obtain ⟨L2, hL2⟩ : ∃ L : List Value, L = [.string o.n.grp, .int .i64 o.n.cpu, .int .i64 o.n.mem, .slice q23 o.n.lab.length k23, .slice q24 o.n.tnt.length k24, .int .i64 o.n.since, .bool o.n.closed] := ⟨_, rfl⟩
  have r2 : wb.rangeAt B 20 L2 := by rw [hL2]; exact range_of hbk (Rg.cons c20 (Rg.cons c21 (Rg.cons c22 (Rg.cons c23 (Rg.cons c24 (Rg.cons c25 (Rg.cons c26 (Rg.nil _ _))))))))
  obtain ⟨L3, hL3⟩ : ∃ L : List Value, L = [.int .i64 o.g.mn, .int .i64 o.g.mx, .int .i64 o.g.tg, .int .i64 o.g.cpu, .int .i64 o.g.mem, .slice q32 o.g.lab.length k32, .slice q33 o.g.tnt.length k33, .int .i64 o.g.prio] := ⟨_, rfl⟩
  have r3 : wb.rangeAt B 27 L3 := by rw [hL3]; exact range_of hbk (Rg.cons c27 (Rg.cons c28 (Rg.cons c29 (Rg.cons c30 (Rg.cons c31 (Rg.cons c32 (Rg.cons c33 (Rg.cons c34 (Rg.nil _ _)))))))))
  obtain ⟨L4, hL4⟩ : ∃ L : List Value, L = [.string o.h.tg, .int .i64 o.h.mn, .int .i64 o.h.mx, .slice q38 o.h.met.length k38, .int .i64 o.h.tol, .int .i64 o.h.uw, .int .i64 o.h.up, .slice q42 o.h.upol.length k42, .int .i64 o.h.dw, .int .i64 o.h.dp, .slice q45 o.h.dpol.length k45, .slice q46 o.h.past.length k46] := ⟨_, rfl⟩
  have r4 : wb.rangeAt B 35 L4 := by rw [hL4]; exact range_of hbk (Rg.cons c35 (Rg.cons c36 (Rg.cons c37 (Rg.cons c38 (Rg.cons c39 (Rg.cons c40 (Rg.cons c41 (Rg.cons c42 (Rg.cons c43 (Rg.cons c44 (Rg.cons c45 (Rg.cons c46 (Rg.nil _ _)))))))))))))
  have HL := Lib.hid (And.intro hL0 (And.intro hL1 (And.intro hL2 (And.intro hL3 hL4))))
  have l0 : L0.length = 7 := by rw [hL0]; rfl
  have o0 : Ones L0 := by rw [hL0]; exact (Ones.cons rfl (Ones.cons rfl (Ones.cons rfl (Ones.cons rfl (Ones.cons rfl (Ones.cons rfl (Ones.cons rfl Ones.nil)))))))
  have l1 : L1.length = 10 := by rw [hL1]; rfl
  have o1 : Ones L1 := by rw [hL1]; exact (Ones.cons rfl (Ones.cons rfl (Ones.cons rfl (Ones.cons rfl (Ones.cons rfl (Ones.cons rfl (Ones.cons rfl (Ones.cons rfl (Ones.cons rfl (Ones.cons rfl Ones.nil))))))))))
  have l2 : L2.length = 7 := by rw [hL2]; rfl
  have o2 : Ones L2 := by rw [hL2]; exact (Ones.cons rfl (Ones.cons rfl (Ones.cons rfl (Ones.cons rfl (Ones.cons rfl (Ones.cons rfl (Ones.cons rfl Ones.nil)))))))
  have l3 : L3.length = 8 := by rw [hL3]; rfl
  have o3 : Ones L3 := by rw [hL3]; exact (Ones.cons rfl (Ones.cons rfl (Ones.cons rfl (Ones.cons rfl (Ones.cons rfl (Ones.cons rfl (Ones.cons rfl (Ones.cons rfl Ones.nil))))))))
  have l4 : L4.length = 12 := by rw [hL4]; rfl
  have o4 : Ones L4 := by rw [hL4]; exact (Ones.cons rfl (Ones.cons rfl (Ones.cons rfl (Ones.cons rfl (Ones.cons rfl (Ones.cons rfl (Ones.cons rfl (Ones.cons rfl (Ones.cons rfl (Ones.cons rfl (Ones.cons rfl (Ones.cons rfl Ones.nil))))))))))))
  have HR := Lib.hid (And.intro r0 (And.intro r1 (And.intro r2 (And.intro r3 r4))))
  clear hL0 hL1 hL2 hL3 hL4 r0 r1 r2 r3 r4
  have HW := Lib.hid (And.intro hwb hB)
  have GB0 := Lib.hid GB
  have HZ := Lib.hid hz
  have HF : Hid (fewB o = (([o.w.lab.length, o.w.tol.length, o.p.lab.length, o.p.tol.length, o.n.lab.length, o.n.tnt.length, o.g.lab.length, o.g.tnt.length] : List Nat).all (fun n => decide (n ≤ 30)) && decide (o.w.sel.length + o.p.sel.length + o.h.met.length + o.h.upol.length + o.h.dpol.length + o.h.past.length ≤ 60))) := rfl
  have HN : Hid (o.w.lab.length ≤ 140737488351232 ∧ o.w.tol.length ≤ 140737488351232 ∧ o.p.lab.length ≤ 140737488351232 ∧ o.p.tol.length ≤ 140737488351232 ∧ o.n.lab.length ≤ 140737488351232 ∧ o.n.tnt.length ≤ 140737488351232 ∧ o.g.lab.length ≤ 140737488351232 ∧ o.g.tnt.length ≤ 140737488351232 ∧ o.w.sel.length ≤ 140737488351232 ∧ o.p.sel.length ≤ 140737488351232 ∧ o.h.met.length ≤ 140737488351232 ∧ o.h.upol.length ≤ 140737488351232 ∧ o.h.dpol.length ≤ 140737488351232 ∧ o.h.past.length ≤ 140737488351232) := ⟨F.w_lab_r, F.w_tol_r, F.p_lab_r, F.p_tol_r, F.n_lab_r, F.n_tnt_r, F.g_lab_r, F.g_tnt_r, F.w_sel_r, F.p_sel_r, F.h_met_r, F.h_upol_r, F.h_dpol_r, F.h_past_r⟩
  clear F GB hwb hB hbk hz hsz c0 c1 c2 hver c3 c4 c5 c6 c7 c8 c9 c10 c11 c12 c13 c14 c15 c16 c17 c18 c19 c20 c21 c22 c23 c24 c25 c26 c27 c28 c29 c30 c31 c32 c33 c34 c35 c36 c37 c38 c39 c40 c41 c42 c43 c44 c45 c46 r6 r7 r8 r16 r17 r18 r23 r24 r32 r33 r38 r42 r45 r46
  generalize fewB o = fb at HF ⊢
  go_enter Tryz.func11, Tryz.ntmps11
  go_wp2_with fail
  rw [← HW.out.1, ← HW.out.2]
  refine wp_region_held_drew (S := fun w' => Bd wb.heap.size wb w') mixed (Bd.refl _ wb).drew (fun hHeld => ?_)
  refine wpAnyH_takeD (i := 0) (d := 10) (v := .pointer (some ⟨B, 3, none⟩)) _ rfl rfl (by kernel_rfl) (by kernel_rfl) (by kernel_rfl) (fun _ _ _ h => h) (Or.inl ⟨by kernel_rfl, fun ws hSw => by go_simp⟩) hHeld ?_
  simp only [Act.put, List.setIfInBounds_toArray, List.set_cons_zero, List.set_cons_succ]
  refine wpAnyH_takeD (i := 1) (d := 11) (v := .agg L0.toArray) _ rfl rfl (by kernel_rfl) (by kernel_rfl) (by kernel_rfl) (fun _ _ _ h => h) (yieldsIf_load_mid (by kernel_rfl) _ _ rfl B 3 (by kernel_rfl) L0 _ (fun ws hSw => rangeAt_below HR.out.1 hSw.below HZ.out) Tryz.underlying36 rfl (by rw [l0]; kernel_rfl)) hHeld ?_
  simp only [Act.put, List.setIfInBounds_toArray, List.set_cons_zero, List.set_cons_succ]
  refine wpAnyH_takeD (i := 2) (d := 12) (v := .pointer (some ⟨B, 10, none⟩)) _ rfl rfl (by kernel_rfl) (by kernel_rfl) (by kernel_rfl) (fun _ _ _ h => h) (Or.inl ⟨by kernel_rfl, fun ws hSw => by go_simp⟩) hHeld ?_
  simp only [Act.put, List.setIfInBounds_toArray, List.set_cons_zero, List.set_cons_succ]
  refine wpAnyH_takeD (i := 3) (d := 13) (v := .agg L1.toArray) _ rfl rfl (by kernel_rfl) (by kernel_rfl) (by kernel_rfl) (fun _ _ _ h => h) (yieldsIf_load_mid (by kernel_rfl) _ _ rfl B 10 (by kernel_rfl) L1 _ (fun ws hSw => rangeAt_below HR.out.2.1 hSw.below HZ.out) Tryz.underlying38 rfl (by rw [l1]; kernel_rfl)) hHeld ?_
  simp only [Act.put, List.setIfInBounds_toArray, List.set_cons_zero, List.set_cons_succ]
  refine wpAnyH_takeD (i := 4) (d := 14) (v := .pointer (some ⟨B, 20, none⟩)) _ rfl rfl (by kernel_rfl) (by kernel_rfl) (by kernel_rfl) (fun _ _ _ h => h) (Or.inl ⟨by kernel_rfl, fun ws hSw => by go_simp⟩) hHeld ?_
  simp only [Act.put, List.setIfInBounds_toArray, List.set_cons_zero, List.set_cons_succ]
  refine wpAnyH_takeD (i := 5) (d := 15) (v := .agg L2.toArray) _ rfl rfl (by kernel_rfl) (by kernel_rfl) (by kernel_rfl) (fun _ _ _ h => h) (yieldsIf_load_mid (by kernel_rfl) _ _ rfl B 20 (by kernel_rfl) L2 _ (fun ws hSw => rangeAt_below HR.out.2.2.1 hSw.below HZ.out) Tryz.underlying40 rfl (by rw [l2]; kernel_rfl)) hHeld ?_
  simp only [Act.put, List.setIfInBounds_toArray, List.set_cons_zero, List.set_cons_succ]
  refine wpAnyH_takeD (i := 6) (d := 16) (v := .pointer (some ⟨B, 27, none⟩)) _ rfl rfl (by kernel_rfl) (by kernel_rfl) (by kernel_rfl) (fun _ _ _ h => h) (Or.inl ⟨by kernel_rfl, fun ws hSw => by go_simp⟩) hHeld ?_
  simp only [Act.put, List.setIfInBounds_toArray, List.set_cons_zero, List.set_cons_succ]
  refine wpAnyH_takeD (i := 7) (d := 17) (v := .agg L3.toArray) _ rfl rfl (by kernel_rfl) (by kernel_rfl) (by kernel_rfl) (fun _ _ _ h => h) (yieldsIf_load_mid (by kernel_rfl) _ _ rfl B 27 (by kernel_rfl) L3 _ (fun ws hSw => rangeAt_below HR.out.2.2.2.1 hSw.below HZ.out) Tryz.underlying42 rfl (by rw [l3]; kernel_rfl)) hHeld ?_
  simp only [Act.put, List.setIfInBounds_toArray, List.set_cons_zero, List.set_cons_succ]
  refine wpAnyH_takeD (i := 8) (d := 18) (v := .pointer (some ⟨B, 35, none⟩)) _ rfl rfl (by kernel_rfl) (by kernel_rfl) (by kernel_rfl) (fun _ _ _ h => h) (Or.inl ⟨by kernel_rfl, fun ws hSw => by go_simp⟩) hHeld ?_
  simp only [Act.put, List.setIfInBounds_toArray, List.set_cons_zero, List.set_cons_succ]
  refine wpAnyH_takeD (i := 9) (d := 19) (v := .agg L4.toArray) _ rfl rfl (by kernel_rfl) (by kernel_rfl) (by kernel_rfl) (fun _ _ _ h => h) (yieldsIf_load_mid (by kernel_rfl) _ _ rfl B 35 (by kernel_rfl) L4 _ (fun ws hSw => rangeAt_below HR.out.2.2.2.2 hSw.below HZ.out) Tryz.underlying49 rfl (by rw [l4]; kernel_rfl)) hHeld ?_
  simp only [Act.put, List.setIfInBounds_toArray, List.set_cons_zero, List.set_cons_succ]
  refine five_all (N := wb.heap.size) 3 11 _ (Nat.le_refl _)
    ⟨⟨_, rfl, rfl, fun _ => rfl, fun a ws => by go_simp; rfl⟩⟩ ⟨⟨_, rfl, rfl, fun _ => rfl, fun a ws => by go_simp; rfl⟩⟩ ⟨⟨_, rfl, rfl, fun _ => rfl, fun a ws => by go_simp; rfl⟩⟩ ⟨⟨_, rfl, rfl, fun _ => rfl, fun a ws => by go_simp; rfl⟩⟩ ⟨⟨_, rfl, rfl, fun _ => rfl, fun a ws => by go_simp; rfl⟩⟩
    (by intro t0 t1 t2 t3 t4 hf; cases t0 <;> cases t1 <;> cases t2 <;> cases t3 <;> cases t4 <;> first | (cases hf; done) | kernel_rfl)
    ⟨⟨_, _, rfl, rfl, fun _ => rfl, rfl, by kernel_rfl⟩⟩ ⟨⟨_, _, rfl, rfl, fun _ => rfl, rfl, by kernel_rfl⟩⟩ ⟨⟨_, _, rfl, rfl, fun _ => rfl, rfl, by kernel_rfl⟩⟩ ⟨⟨_, _, rfl, rfl, fun _ => rfl, rfl, by kernel_rfl⟩⟩ ⟨⟨_, _, rfl, rfl, fun _ => rfl, rfl, by kernel_rfl⟩⟩
    (by kernel_rfl) (by kernel_rfl) (by kernel_rfl) (by kernel_rfl) (by kernel_rfl) (by kernel_rfl)
    (by decide) l0 l1 l2 l3 l4 o0 o1 o2 o3 o4
    (fun _ _ _ _ _ => ⟨by kernel_rfl, by kernel_rfl, by kernel_rfl, by kernel_rfl, by kernel_rfl⟩) (fun _ _ _ _ _ => ⟨by kernel_rfl, by kernel_rfl, by kernel_rfl, by kernel_rfl, by kernel_rfl⟩) ?_ (by kernel_rfl) hHeld
  clear hHeld l0 l1 l2 l3 l4 o0 o1 o2 o3 o4
  intro b0 b1 b2 b3 b4 w1 hb p0 p1 p2 p3 p4 r0 r1 r2 r3 r4
  simp only [act5, Act.put, Nat.reduceAdd, List.setIfInBounds_toArray, List.set_cons_zero, List.set_cons_succ]
  rw [HL.out.1] at r0
  have R0 := Lib.hid r0
  rw [HL.out.2.1] at r1
  have R1 := Lib.hid r1
  rw [HL.out.2.2.1] at r2
  have R2 := Lib.hid r2
  rw [HL.out.2.2.2.1] at r3
  have R3 := Lib.hid r3
  rw [HL.out.2.2.2.2] at r4
  have R4 := Lib.hid r4
  clear r0 r1 r2 r3 r4
  have HB : Hid (Gr w w1) := GB0.out.trans hb.gr
  clear hb p0 p1 p2 p3 p4 HL HR HW GB0 HZ
  generalize o.w.lab.length = n6 at *
  generalize o.w.tol.length = n8 at *
  generalize o.p.lab.length = n16 at *
  generalize o.p.tol.length = n18 at *
  generalize o.n.lab.length = n23 at *
  generalize o.n.tnt.length = n24 at *
  generalize o.g.lab.length = n32 at *
  generalize o.g.tnt.length = n33 at *
  generalize o.w.sel.length = n7 at *
  generalize o.p.sel.length = n17 at *
  generalize o.h.met.length = n38 at *
  generalize o.h.upol.length = n42 at *
  generalize o.h.dpol.length = n45 at *
  generalize o.h.past.length = n46 at *
  have f6 : w1.cell? ⟨b0, 3, none⟩ = some (.slice q6 n6 k6) := range_cell R0.out rfl
  have f8 : w1.cell? ⟨b0, 5, none⟩ = some (.slice q8 n8 k8) := range_cell R0.out rfl
  have f16 : w1.cell? ⟨b1, 6, none⟩ = some (.slice q16 n16 k16) := range_cell R1.out rfl
  have f18 : w1.cell? ⟨b1, 8, none⟩ = some (.slice q18 n18 k18) := range_cell R1.out rfl
  have f23 : w1.cell? ⟨b2, 3, none⟩ = some (.slice q23 n23 k23) := range_cell R2.out rfl
  have f24 : w1.cell? ⟨b2, 4, none⟩ = some (.slice q24 n24 k24) := range_cell R2.out rfl
  have f32 : w1.cell? ⟨b3, 5, none⟩ = some (.slice q32 n32 k32) := range_cell R3.out rfl
  have f33 : w1.cell? ⟨b3, 6, none⟩ = some (.slice q33 n33 k33) := range_cell R3.out rfl
  have f7 : w1.cell? ⟨b0, 4, none⟩ = some (.slice q7 n7 k7) := range_cell R0.out rfl
  have f17 : w1.cell? ⟨b1, 7, none⟩ = some (.slice q17 n17 k17) := range_cell R1.out rfl
  have f38 : w1.cell? ⟨b4, 3, none⟩ = some (.slice q38 n38 k38) := range_cell R4.out rfl
  have f42 : w1.cell? ⟨b4, 7, none⟩ = some (.slice q42 n42 k42) := range_cell R4.out rfl
  have f45 : w1.cell? ⟨b4, 10, none⟩ = some (.slice q45 n45 k45) := range_cell R4.out rfl
  have f46 : w1.cell? ⟨b4, 11, none⟩ = some (.slice q46 n46 k46) := range_cell R4.out rfl
  have FF := Lib.hid (⟨f7, f17, f38, f42, f45, f46⟩ : w1.cell? ⟨b0, 4, none⟩ = some (.slice q7 n7 k7) ∧ w1.cell? ⟨b1, 7, none⟩ = some (.slice q17 n17 k17) ∧ w1.cell? ⟨b4, 3, none⟩ = some (.slice q38 n38 k38) ∧ w1.cell? ⟨b4, 7, none⟩ = some (.slice q42 n42 k42) ∧ w1.cell? ⟨b4, 10, none⟩ = some (.slice q45 n45 k45) ∧ w1.cell? ⟨b4, 11, none⟩ = some (.slice q46 n46 k46))
  clear f7 f17 f38 f42 f45 f46
  clear R0 R1 R2 R3 R4
  obtain ⟨RL, hRL⟩ : ∃ RL : List (Option Addr × Nat × Nat), RL = [(q6, n6, k6), (q8, n8, k8), (q16, n16, k16), (q18, n18, k18), (q23, n23, k23), (q24, n24, k24), (q32, n32, k32), (q33, n33, k33)] := ⟨_, rfl⟩
  obtain ⟨S, hS⟩ : ∃ S, S = w1.heap.size := ⟨_, rfl⟩
  obtain ⟨ws, hws⟩ : ∃ ws, ws = w1.alloc (.cells #[.slice q6 n6 k6, .slice q8 n8 k8, .slice q16 n16 k16, .slice q18 n18 k18, .slice q23 n23 k23, .slice q24 n24 k24, .slice q32 n32 k32, .slice q33 n33 k33] 33) := ⟨_, rfl⟩
  have GS : Gr w1 ws := hws ▸ (Gr.refl w1).alloc _
  have hcell : ∀ j q n c, RL[j]? = some (q, n, c) → ws.cell? ⟨S, j, none⟩ = some (.slice q n c) := by
    intro j q n c hj
    rw [hRL] at hj
    rw [hws, hS]
    match j, hj with
    | 0, hj => simp at hj; obtain ⟨rfl, rfl, rfl⟩ := hj; simp
    | 1, hj => simp at hj; obtain ⟨rfl, rfl, rfl⟩ := hj; simp
    | 2, hj => simp at hj; obtain ⟨rfl, rfl, rfl⟩ := hj; simp
    | 3, hj => simp at hj; obtain ⟨rfl, rfl, rfl⟩ := hj; simp
    | 4, hj => simp at hj; obtain ⟨rfl, rfl, rfl⟩ := hj; simp
    | 5, hj => simp at hj; obtain ⟨rfl, rfl, rfl⟩ := hj; simp
    | 6, hj => simp at hj; obtain ⟨rfl, rfl, rfl⟩ := hj; simp
    | 7, hj => simp at hj; obtain ⟨rfl, rfl, rfl⟩ := hj; simp
    | j + 8, hj => simp at hj
  have hlen : RL.length = 8 := by rw [hRL]; rfl
  have hmap : ([n6, n8, n16, n18, n23, n24, n32, n33] : List Nat) = RL.map (fun x => x.2.1) := by rw [hRL]; rfl
  have HWS := Lib.hid (And.intro hws hS)
  have HC := Lib.hid hcell
  have HLN := Lib.hid hlen
  have HGS := Lib.hid GS
  have HBAD : Hid (∀ j q n c, RL[j]? = some (q, n, c) → 30 < n → fb = false) := fun j q n c hj hn => by
    have e := HF.out
    rw [hmap] at e
    have h2 : (RL.map (fun x => x.2.1)).all (fun n => decide (n ≤ 30)) = false := List.all_eq_false.2 ⟨n, List.mem_map.2 ⟨(q, n, c), List.mem_of_getElem? hj, rfl⟩, by simp; omega⟩
    rw [h2] at e
    exact e
  have HRL := Lib.hid hRL
  clear hws hS hcell hlen hmap GS hRL
  go_upto_region 2 with fail
  go_wp2_with fail
  rw [← HWS.out.1, ← HWS.out.2]
  go_loopg [38] 8 (fun g vi wr => ∃ (k : Nat), k ≤ 8 ∧ 8 - k ≤ g ∧ vi = .int .i64 (k : Int) ∧ Hid (∀ j q n c, j < k → RL[j]? = some (q, n, c) → n ≤ 30) ∧ ws = wr)
  case atStart => exact ⟨0, by omega, by omega, rfl, fun j q n c h => absurd h (Nat.not_lt_zero _), rfl⟩
  case round =>
    obtain ⟨k, hk, hg, rfl, HS, rfl⟩ := hrel
    by_cases hlt : k < 8
    · obtain ⟨x, hx⟩ : ∃ x, RL[k]? = some x := ⟨_, List.getElem?_eq_getElem (by rw [HLN.out]; exact hlt)⟩
      obtain ⟨q, n, c⟩ := x
      have d := HC.out k q n c hx
      have HX := Lib.hid hx
      clear hx
      by_cases hn : 30 < n
      · have HB2 := Lib.hid (HBAD.out k q n c HX.out hn)
        go_wp2
        go_ret
        exact ⟨by rw [HB2.out]; rfl, HB.out.trans HGS.out⟩
      · have HS2 : Hid (∀ j q n c, j < k + 1 → RL[j]? = some (q, n, c) → n ≤ 30) := fun j q' n' c' hj h => by
          by_cases e : j = k
          · subst e
            rw [HX.out] at h
            cases h
            omega
          · exact HS.out j q' n' c' (by omega) h
        go_wp2
        go_roundg (8 - (k + 1))
        case measure => omega
        case rel => exact ⟨k + 1, hlt, Nat.le_refl _, by go_num, HS2, rfl⟩
    · obtain rfl : k = 8 := by omega
      have m6 : n6 ≤ 30 := HS.out 0 q6 n6 k6 (by omega) (by rw [HRL.out]; rfl)
      have m8 : n8 ≤ 30 := HS.out 1 q8 n8 k8 (by omega) (by rw [HRL.out]; rfl)
      have m16 : n16 ≤ 30 := HS.out 2 q16 n16 k16 (by omega) (by rw [HRL.out]; rfl)
      have m18 : n18 ≤ 30 := HS.out 3 q18 n18 k18 (by omega) (by rw [HRL.out]; rfl)
      have m23 : n23 ≤ 30 := HS.out 4 q23 n23 k23 (by omega) (by rw [HRL.out]; rfl)
      have m24 : n24 ≤ 30 := HS.out 5 q24 n24 k24 (by omega) (by rw [HRL.out]; rfl)
      have m32 : n32 ≤ 30 := HS.out 6 q32 n32 k32 (by omega) (by rw [HRL.out]; rfl)
      have m33 : n33 ≤ 30 := HS.out 7 q33 n33 k33 (by omega) (by rw [HRL.out]; rfl)
      obtain ⟨h6, h8, h16, h18, h23, h24, h32, h33, h7, h17, h38, h42, h45, h46⟩ := HN.out
      have HE : Hid (fb = decide (n7 + n17 + n38 + n42 + n45 + n46 ≤ 60)) := by
        show _ = _
        rw [HF.out]
        simp [m6, m8, m16, m18, m23, m24, m32, m33]
      clear m6 m8 m16 m18 m23 m24 m32 m33 h6 h8 h16 h18 h23 h24 h32 h33
      have HG := HGS.out
      obtain ⟨g7, g17, g38, g42, g45, g46⟩ := FF.out
      have f7 := HG.cell g7
      have f17 := HG.cell g17
      have f38 := HG.cell g38
      have f42 := HG.cell g42
      have f45 := HG.cell g45
      have f46 := HG.cell g46
      clear HG g7 g17 g38 g42 g45 g46
      by_cases hs : n7 + n17 + n38 + n42 + n45 + n46 ≤ 60
      · rw [decide_eq_true hs] at HE
        have t : decide ((n7 : Int) + (n17 : Int) + (n38 : Int) + (n42 : Int) + (n45 : Int) + (n46 : Int) ≤ 60) = true := decide_eq_true (by omega)
        clear hs
        go_wp2
        go_ret
        exact ⟨by rw [HE.out]; rfl, HB.out.trans HGS.out⟩
      · rw [decide_eq_false hs] at HE
        have t : decide ((n7 : Int) + (n17 : Int) + (n38 : Int) + (n42 : Int) + (n45 : Int) + (n46 : Int) ≤ 60) = false := decide_eq_false (by omega)
        clear hs
        go_wp2
        go_ret
        exact ⟨by rw [HE.out]; rfl, HB.out.trans HGS.out⟩
end Go.Proofs.YtbkoepghmcdnhaaGreatDoor
