/- The document's Object: kind 0. -/
import Derived.Test.YtcfilaiejccfkaaObO
import Derived.Deep.DeepCutAuto
namespace Go.Proofs.Ytcfilaiejccfkaa
open Go.RowKit Go.Shelf Go.Lib Go.Sort
set_option linter.unusedVariables false
set_option linter.unusedSimpArgs false
set_option maxRecDepth 20000

set_option maxHeartbeats 8000000 in
theorem robj0 (w : World) (cs : Array Value) (ob : Ob) (hv : ObjV w cs ob) (hk : ob.kind = 0) (hname : ftT ob.name = true) (ho : ftW ob.w = true) :
    Calls Try.prog 12 #[.agg cs] w fun e w' => e = .returned (.string (mk (objB ob))) ∧ Gr w w' := by
  have mixed : Try.prog.follows .mixedOrders = true := by kernel_rfl
  obtain ⟨kind, name, ver, W, P, N, G, H⟩ := ob
  obtain ⟨hsz, ⟨c0, c1, c2, hver⟩, hW, hP, hN, hG, hH⟩ := hv
  dsimp only at *
  subst hk
  obtain ⟨rep, cpu, mem, lab, sel, tol, warm⟩ := W
  obtain ⟨c3, c4, c5, ⟨q_lab, k_lab, c6, r_lab⟩, ⟨q_sel, k_sel, c7, r_sel⟩, ⟨q_tol, k_tol, c8, r_tol⟩, c9⟩ := hW
  simp only [ftW, Bool.and_eq_true, ftRow_iff, ftT_iff, decide_eq_true_eq] at ho hname
  obtain ⟨⟨hlab, hsel⟩, htol⟩ := ho
  dsimp only at *
  clear hP
  clear hN
  clear hG
  clear hH
  have cv0 : IntKind.u64.wrap 0 = 0 := by rw [IntKind.wrap_u64]; omega
  obtain ⟨B, hB⟩ : ∃ B, B = w.heap.size := ⟨_, rfl⟩
  obtain ⟨wb, hwb⟩ : ∃ wb, wb = w.alloc (.cells cs 46) := ⟨_, rfl⟩
  have GB : Gr w wb := hwb ▸ (Gr.refl w).alloc _
  have hz : B < wb.heap.size := by rw [hwb, hB]; simp
  have d0 : wb.cell? ⟨B, 0, none⟩ = some (.int .i64 0) := by rw [hwb, hB]; simp [c0]
  have d1 : wb.cell? ⟨B, 1, none⟩ = some (.string name) := by rw [hwb, hB]; simp [c1]
  have d2 : wb.cell? ⟨B, 2, none⟩ = some (.int .u64 (ver : Int)) := by rw [hwb, hB]; simp [c2]
  have d3 : wb.cell? ⟨B, 3, none⟩ = some (.int .i64 rep) := by rw [hwb, hB]; simp [c3]
  have d4 : wb.cell? ⟨B, 4, none⟩ = some (.int .i64 cpu) := by rw [hwb, hB]; simp [c4]
  have d5 : wb.cell? ⟨B, 5, none⟩ = some (.int .i64 mem) := by rw [hwb, hB]; simp [c5]
  have d6 : wb.cell? ⟨B, 6, none⟩ = some (.slice q_lab lab.length k_lab) := by rw [hwb, hB]; simp [c6]
  have d7 : wb.cell? ⟨B, 7, none⟩ = some (.slice q_sel sel.length k_sel) := by rw [hwb, hB]; simp [c7]
  have d8 : wb.cell? ⟨B, 8, none⟩ = some (.slice q_tol tol.length k_tol) := by rw [hwb, hB]; simp [c8]
  have d9 : wb.cell? ⟨B, 9, none⟩ = some (.int .i64 warm) := by rw [hwb, hB]; simp [c9]
  have ka_0 := fun (n : Nat) (os : Array Obj) => rput_any (grow (wb.drewN n) os) 0 1 (by decide) (by decide)
  obtain ⟨ta_0, hta_0⟩ : ∃ t, t = le 0 1 := ⟨_, rfl⟩
  have zta_0 : (mk ta_0).size ≤ 1 := by rw [mk_size, hta_0]; exact (by rw [le_len]; omega)
  rw [← hta_0] at ka_0
  have ka_1 := fun (n : Nat) (os : Array Obj) => rtext_any (grow (wb.drewN n) os) name hname
  obtain ⟨ta_1, hta_1⟩ : ∃ t, t = txt name := ⟨_, rfl⟩
  have zta_1 : (mk ta_1).size ≤ 140737488351233 := by rw [mk_size, hta_1]; exact (by rw [txt_len]; have := hname; omega)
  rw [← hta_1] at ka_1
  have ka_2 := fun (n : Nat) (os : Array Obj) => rput_any (grow (wb.drewN n) os) ver 8 hver (by decide)
  obtain ⟨ta_2, hta_2⟩ : ∃ t, t = le ver 8 := ⟨_, rfl⟩
  have zta_2 : (mk ta_2).size ≤ 8 := by rw [mk_size, hta_2]; exact (by rw [le_len]; omega)
  rw [← hta_2] at ka_2
  have ya_1 : ¬ (9223372036854775807 < (mk ta_0).size + (mk ta_1).size) := by omega
  have ya_2 : ¬ (9223372036854775807 < (mk ta_0).size + (mk ta_1).size + (mk ta_2).size) := by omega
  obtain ⟨s1, hs1⟩ : ∃ t, t = ta_0 ++ ta_1 ++ ta_2 := ⟨_, rfl⟩
  have es1 : mk ta_0 ++ mk ta_1 ++ mk ta_2 = mk s1 := by rw [hs1]; simp only [mk_app]
  have zs1 : (mk s1).size ≤ 140737488351242 := by rw [hs1]; simp only [mk_size, List.length_append] at *; omega
  have ga_0 := cell_grown hz d0
  have ga_1 := cell_grown hz d1
  have ga_2 := cell_grown hz d2
  have HHa := Lib.hid (And.intro hta_0 (And.intro hta_1 (And.intro hta_2 hs1)))
  have HKa_0 := Lib.hid ka_0
  have HKa_1 := Lib.hid ka_1
  have HKa_2 := Lib.hid ka_2
  have HEa := Lib.hid es1
  have HZa := Lib.hid zs1
  clear hta_0 hta_1 hta_2 hs1 es1 zs1 ka_0 ka_1 ka_2 zta_0 zta_1 zta_2
  have HW := Lib.hid (And.intro hwb hB)
  clear c0 c1 c2 c3 c4 c5 c6 c7 c8 c9
  have D0 := Lib.hid d0
  have D1 := Lib.hid d1
  have D2 := Lib.hid d2
  have D3 := Lib.hid d3
  have D4 := Lib.hid d4
  have D5 := Lib.hid d5
  have D6 := Lib.hid d6
  have D7 := Lib.hid d7
  have D8 := Lib.hid d8
  have D9 := Lib.hid d9
  clear hsz hver hz d0 d1 d2 d3 d4 d5 d6 d7 d8 d9
  have R_lab := Lib.hid (r_lab.gr GB)
  have R_sel := Lib.hid (r_sel.gr GB)
  have R_tol := Lib.hid (r_tol.gr GB)
  have HZB : Hid (B < wb.heap.size) := by have h := HW.out; show _ < _; rw [h.1, h.2]; simp
  have GB0 := Lib.hid GB
  clear GB hwb hB r_lab r_sel r_tol
  go_enter Try.func12, Try.ntmps12
  go_wp2_with fail
  rw [← HW.out.1, ← HW.out.2]
  go_quiet_grown (first
      | (go_at_call_of 27 (Value.string name); refine gr_of (HKa_1.out _ _))
      | (go_at_call_of 26 (Value.int .u64 (ver : Int)); refine gr_of (HKa_2.out _ _))
      | (go_at_call 26; refine gr_of (HKa_0.out _ _)))
  go_upto_region 2 with fail
  rw [HEa.out]
  have G1 : Hid (Gr wb (grow (wb.drewN nq) osq)) := Gr.put _ _ _
  generalize grow (wb.drewN nq) osq = w1 at *
  clear ya_1 ya_2 ga_0 ga_1 ga_2
  have d0 := G1.out.cell D0.out
  have d3 := G1.out.cell D3.out
  have d4 := G1.out.cell D4.out
  have d5 := G1.out.cell D5.out
  have d6 := G1.out.cell D6.out
  have d7 := G1.out.cell D7.out
  have d8 := G1.out.cell D8.out
  have d9 := G1.out.cell D9.out
  go_wp2_with fail
  obtain ⟨w2, hw2⟩ : ∃ w2, w2 = w1.alloc (.cells #[.int .i64 rep, .int .i64 cpu, .int .i64 mem, .slice q_lab lab.length k_lab, .slice q_sel sel.length k_sel, .slice q_tol tol.length k_tol, .int .i64 warm] 33) := ⟨_, rfl⟩
  have HW2 := Lib.hid hw2
  rw [← HW2.out]
  have GW : Hid (Gr wb w2) := by show Gr _ _; rw [hw2]; exact G1.out.alloc _
  clear d0 d3 d4 d5 d6 d7 d8 d9
  have hz2 : w1.heap.size < w2.heap.size := by rw [hw2]; simp
  have f0 : w2.cell? ⟨w1.heap.size, 0, none⟩ = some (.int .i64 rep) := by rw [hw2]; simp
  have f1 : w2.cell? ⟨w1.heap.size, 1, none⟩ = some (.int .i64 cpu) := by rw [hw2]; simp
  have f2 : w2.cell? ⟨w1.heap.size, 2, none⟩ = some (.int .i64 mem) := by rw [hw2]; simp
  have f3 : w2.cell? ⟨w1.heap.size, 3, none⟩ = some (.slice q_lab lab.length k_lab) := by rw [hw2]; simp
  have f4 : w2.cell? ⟨w1.heap.size, 4, none⟩ = some (.slice q_sel sel.length k_sel) := by rw [hw2]; simp
  have f5 : w2.cell? ⟨w1.heap.size, 5, none⟩ = some (.slice q_tol tol.length k_tol) := by rw [hw2]; simp
  have f6 : w2.cell? ⟨w1.heap.size, 6, none⟩ = some (.int .i64 warm) := by rw [hw2]; simp
  clear hw2
  have Q_lab := Lib.hid (R_lab.out.gr GW.out)
  have Q_sel := Lib.hid (R_sel.out.gr GW.out)
  have Q_tol := Lib.hid (R_tol.out.gr GW.out)
  have zs1 := HZa.out
  have kb_0 := fun (n : Nat) (os : Array Obj) => rint_any (grow (w2.drewN n) os) rep
  obtain ⟨tb_0, htb_0⟩ : ∃ t, t = num rep := ⟨_, rfl⟩
  have ztb_0 : (mk tb_0).size ≤ 8 := by rw [mk_size, htb_0]; exact (by rw [num_len]; omega)
  rw [← htb_0] at kb_0
  have kb_1 := fun (n : Nat) (os : Array Obj) => rres_any (grow (w2.drewN n) os) cpu mem
  obtain ⟨tb_1, htb_1⟩ : ∃ t, t = (num cpu ++ num mem) := ⟨_, rfl⟩
  have ztb_1 : (mk tb_1).size ≤ 16 := by rw [mk_size, htb_1]; exact (by rw [List.length_append, num_len, num_len]; omega)
  rw [← htb_1] at kb_1
  have kb_2 := fun (n : Nat) (os : Array Obj) => rlabels_any (grow (w2.drewN n) os) q_lab k_lab lab (Q_lab.out.gr (Gr.put w2 n os)) hlab.2 hlab.1
  obtain ⟨tb_2, htb_2⟩ : ∃ t, t = rowB byL lab := ⟨_, rfl⟩
  have ztb_2 : (mk tb_2).size ≤ 71776119059131870 := by rw [mk_size, htb_2]; exact lab_size hlab.1 hlab.2
  rw [← htb_2] at kb_2
  have kb_3 := fun (n : Nat) (os : Array Obj) => rasks_any (grow (w2.drewN n) os) q_sel k_sel sel (Q_sel.out.gr (Gr.put w2 n os)) hsel.2 hsel.1
  obtain ⟨tb_3, htb_3⟩ : ∃ t, t = rowB byR sel := ⟨_, rfl⟩
  have ztb_3 : (mk tb_3).size ≤ 71776119059131870 := by rw [mk_size, htb_3]; exact req_size hsel.1 hsel.2
  rw [← htb_3] at kb_3
  have kb_4 := fun (n : Nat) (os : Array Obj) => rlabels_any (grow (w2.drewN n) os) q_tol k_tol tol (Q_tol.out.gr (Gr.put w2 n os)) htol.2 htol.1
  obtain ⟨tb_4, htb_4⟩ : ∃ t, t = rowB byL tol := ⟨_, rfl⟩
  have ztb_4 : (mk tb_4).size ≤ 71776119059131870 := by rw [mk_size, htb_4]; exact lab_size htol.1 htol.2
  rw [← htb_4] at kb_4
  have kb_5 := fun (n : Nat) (os : Array Obj) => rint_any (grow (w2.drewN n) os) warm
  obtain ⟨tb_5, htb_5⟩ : ∃ t, t = num warm := ⟨_, rfl⟩
  have ztb_5 : (mk tb_5).size ≤ 8 := by rw [mk_size, htb_5]; exact (by rw [num_len]; omega)
  rw [← htb_5] at kb_5
  have yb_0 : ¬ (9223372036854775807 < (mk s1).size + (mk tb_0).size) := by omega
  have yb_1 : ¬ (9223372036854775807 < (mk s1).size + (mk tb_0).size + (mk tb_1).size) := by omega
  have yb_2 : ¬ (9223372036854775807 < (mk s1).size + (mk tb_0).size + (mk tb_1).size + (mk tb_2).size) := by omega
  have yb_3 : ¬ (9223372036854775807 < (mk s1).size + (mk tb_0).size + (mk tb_1).size + (mk tb_2).size + (mk tb_3).size) := by omega
  have yb_4 : ¬ (9223372036854775807 < (mk s1).size + (mk tb_0).size + (mk tb_1).size + (mk tb_2).size + (mk tb_3).size + (mk tb_4).size) := by omega
  have yb_5 : ¬ (9223372036854775807 < (mk s1).size + (mk tb_0).size + (mk tb_1).size + (mk tb_2).size + (mk tb_3).size + (mk tb_4).size + (mk tb_5).size) := by omega
  obtain ⟨s2, hs2⟩ : ∃ t, t = s1 ++ tb_0 ++ tb_1 ++ tb_2 ++ tb_3 ++ tb_4 ++ tb_5 := ⟨_, rfl⟩
  have es2 : mk s1 ++ mk tb_0 ++ mk tb_1 ++ mk tb_2 ++ mk tb_3 ++ mk tb_4 ++ mk tb_5 = mk s2 := by rw [hs2]; simp only [mk_app]
  have zs2 : (mk s2).size ≤ 215469094665746884 := by rw [hs2]; simp only [mk_size, List.length_append] at *; omega
  have gb_0 := cell_grown hz2 f0
  have gb_1 := cell_grown hz2 f1
  have gb_2 := cell_grown hz2 f2
  have gb_3 := cell_grown hz2 f3
  have gb_4 := cell_grown hz2 f4
  have gb_5 := cell_grown hz2 f5
  have gb_6 := cell_grown hz2 f6
  have HHb := Lib.hid (And.intro htb_0 (And.intro htb_1 (And.intro htb_2 (And.intro htb_3 (And.intro htb_4 (And.intro htb_5 hs2))))))
  have HKb_0 := Lib.hid kb_0
  have HKb_1 := Lib.hid kb_1
  have HKb_2 := Lib.hid kb_2
  have HKb_3 := Lib.hid kb_3
  have HKb_4 := Lib.hid kb_4
  have HKb_5 := Lib.hid kb_5
  have HEb := Lib.hid es2
  have HZb := Lib.hid zs2
  clear htb_0 htb_1 htb_2 htb_3 htb_4 htb_5 hs2 es2 zs2 kb_0 kb_1 kb_2 kb_3 kb_4 kb_5 ztb_0 ztb_1 ztb_2 ztb_3 ztb_4 ztb_5
  clear f0 f1 f2 f3 f4 f5 f6 hz2
  go_quiet_grown (first
      | (go_at_call_of 28 (Value.int .i64 rep); refine gr_of (HKb_0.out _ _))
      | (go_at_call_of 30 (Value.slice q_lab lab.length k_lab); refine gr_of (HKb_2.out _ _))
      | (go_at_call_of 30 (Value.slice q_tol tol.length k_tol); refine gr_of (HKb_4.out _ _))
      | (go_at_call_of 28 (Value.int .i64 warm); refine gr_of (HKb_5.out _ _))
      | (go_at_call 29; refine gr_of (HKb_1.out _ _))
      | (go_at_call 31; refine gr_of (HKb_3.out _ _)))
  go_wp2
  go_ret
  refine ⟨?_, GB0.out.trans (GW.out.trans (Gr.put _ _ _))⟩
  rw [HEb.out]
  obtain ⟨p0, p1, p2, p3, p4, p5, pS⟩ := HHb.out
  obtain ⟨a0, a1, a2, aS⟩ := HHa.out
  have he : s2 = objB ⟨0, name, ver, ⟨rep, cpu, mem, lab, sel, tol, warm⟩, P, N, G, H⟩ := by
    subst pS p0 p1 p2 p3 p4 p5 aS a0 a1 a2
    simp [objB, hdB, shB, wlB, u64, List.append_assoc]
  rw [← he]
  rfl
end Go.Proofs.Ytcfilaiejccfkaa
