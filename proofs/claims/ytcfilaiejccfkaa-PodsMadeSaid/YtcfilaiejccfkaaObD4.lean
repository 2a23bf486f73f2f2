/- The document's Object: kind 4. -/
import Derived.Test.YtcfilaiejccfkaaObO
import Derived.Deep.DeepCutAuto
namespace Go.Proofs.Ytcfilaiejccfkaa
open Go.RowKit Go.Shelf Go.Lib Go.Sort
set_option linter.unusedVariables false
set_option linter.unusedSimpArgs false
set_option maxRecDepth 20000

set_option maxHeartbeats 8000000 in
theorem robj4 (w : World) (cs : Array Value) (ob : Ob) (hv : ObjV w cs ob) (hk : ob.kind = 4) (hname : ftT ob.name = true) (ho : ftH ob.h = true) :
    Calls Try.prog 12 #[.agg cs] w fun e w' => e = .returned (.string (mk (objB ob))) ∧ Gr w w' := by
  have mixed : Try.prog.follows .mixedOrders = true := by kernel_rfl
  obtain ⟨kind, name, ver, W, P, N, G, H⟩ := ob
  obtain ⟨hsz, ⟨c0, c1, c2, hver⟩, hW, hP, hN, hG, hH⟩ := hv
  dsimp only at *
  subst hk
  obtain ⟨tg, mn, mx, met, tol, uw, up, upol, dw, dp, dpol, past⟩ := H
  obtain ⟨c35, c36, c37, ⟨q_met, k_met, c38, r_met⟩, c39, c40, c41, ⟨q_upol, k_upol, c42, r_upol⟩, c43, c44, ⟨q_dpol, k_dpol, c45, r_dpol⟩, ⟨q_past, k_past, c46, r_past⟩⟩ := hH
  simp only [ftH, Bool.and_eq_true, ftRow_iff, ftT_iff, decide_eq_true_eq] at ho hname
  obtain ⟨⟨⟨⟨⟨hmet, htg⟩, hmetl⟩, hpast⟩, hupol⟩, hdpol⟩ := ho
  dsimp only at *
  clear hW
  clear hP
  clear hN
  clear hG
  have cv4 : IntKind.u64.wrap 4 = 4 := by rw [IntKind.wrap_u64]; omega
  obtain ⟨B, hB⟩ : ∃ B, B = w.heap.size := ⟨_, rfl⟩
  obtain ⟨wb, hwb⟩ : ∃ wb, wb = w.alloc (.cells cs 46) := ⟨_, rfl⟩
  have GB : Gr w wb := hwb ▸ (Gr.refl w).alloc _
  have hz : B < wb.heap.size := by rw [hwb, hB]; simp
  have d0 : wb.cell? ⟨B, 0, none⟩ = some (.int .i64 4) := by rw [hwb, hB]; simp [c0]
  have d1 : wb.cell? ⟨B, 1, none⟩ = some (.string name) := by rw [hwb, hB]; simp [c1]
  have d2 : wb.cell? ⟨B, 2, none⟩ = some (.int .u64 (ver : Int)) := by rw [hwb, hB]; simp [c2]
  have d35 : wb.cell? ⟨B, 35, none⟩ = some (.string tg) := by rw [hwb, hB]; simp [c35]
  have d36 : wb.cell? ⟨B, 36, none⟩ = some (.int .i64 mn) := by rw [hwb, hB]; simp [c36]
  have d37 : wb.cell? ⟨B, 37, none⟩ = some (.int .i64 mx) := by rw [hwb, hB]; simp [c37]
  have d38 : wb.cell? ⟨B, 38, none⟩ = some (.slice q_met met.length k_met) := by rw [hwb, hB]; simp [c38]
  have d39 : wb.cell? ⟨B, 39, none⟩ = some (.int .i64 tol) := by rw [hwb, hB]; simp [c39]
  have d40 : wb.cell? ⟨B, 40, none⟩ = some (.int .i64 uw) := by rw [hwb, hB]; simp [c40]
  have d41 : wb.cell? ⟨B, 41, none⟩ = some (.int .i64 up) := by rw [hwb, hB]; simp [c41]
  have d42 : wb.cell? ⟨B, 42, none⟩ = some (.slice q_upol upol.length k_upol) := by rw [hwb, hB]; simp [c42]
  have d43 : wb.cell? ⟨B, 43, none⟩ = some (.int .i64 dw) := by rw [hwb, hB]; simp [c43]
  have d44 : wb.cell? ⟨B, 44, none⟩ = some (.int .i64 dp) := by rw [hwb, hB]; simp [c44]
  have d45 : wb.cell? ⟨B, 45, none⟩ = some (.slice q_dpol dpol.length k_dpol) := by rw [hwb, hB]; simp [c45]
  have d46 : wb.cell? ⟨B, 46, none⟩ = some (.slice q_past past.length k_past) := by rw [hwb, hB]; simp [c46]
  have ka_0 := fun (n : Nat) (os : Array Obj) => rput_any (grow (wb.drewN n) os) 4 1 (by decide) (by decide)
  obtain ⟨ta_0, hta_0⟩ : ∃ t, t = le 4 1 := ⟨_, rfl⟩
  have zta_0 : (mk ta_0).size ≤ 1 := by rw [mk_size, hta_0]; exact (by rw [le_len]; omega)
  rw [← hta_0] at ka_0
  have ka_1 := fun (n : Nat) (os : Array Obj) => rtext_any (grow (wb.drewN n) os) name hname
  obtain ⟨ta_1, hta_1⟩ : ∃ t, t = txt name := ⟨_, rfl⟩
  have zta_1 : (mk ta_1).size ≤ 140737488351233 := by rw [mk_size, hta_1]; exact (by rw [txt_len]; have := hname; omega)
  rw [← hta_1] at ka_1
  have ka_2 := fun (n : Nat) (os : Array Obj) => rput_any (grow (wb.drewN n) os) ver 8 hver (by decide)
  obtain ⟨ta_2, hta_2⟩ : ∃ t, t = le ver 8 := ⟨_, rfl⟩
  have zta_2 : (mk ta_2).size ≤ 8 := by rw [mk_size, hta_2]; exact (by rw [le_len]; omega)
  rw [← hta_2] at ka_2
  have ya_1 : ¬ (9223372036854775807 < (mk ta_0).size + (mk ta_1).size) := by omega
  have ya_2 : ¬ (9223372036854775807 < (mk ta_0).size + (mk ta_1).size + (mk ta_2).size) := by omega
  obtain ⟨s1, hs1⟩ : ∃ t, t = ta_0 ++ ta_1 ++ ta_2 := ⟨_, rfl⟩
  have es1 : mk ta_0 ++ mk ta_1 ++ mk ta_2 = mk s1 := by rw [hs1]; simp only [mk_app]
  have zs1 : (mk s1).size ≤ 140737488351242 := by rw [hs1]; simp only [mk_size, List.length_append] at *; omega
  have ga_0 := cell_grown hz d0
  have ga_1 := cell_grown hz d1
  have ga_2 := cell_grown hz d2
  have HHa := Lib.hid (And.intro hta_0 (And.intro hta_1 (And.intro hta_2 hs1)))
  have HKa_0 := Lib.hid ka_0
  have HKa_1 := Lib.hid ka_1
  have HKa_2 := Lib.hid ka_2
  have HEa := Lib.hid es1
  have HZa := Lib.hid zs1
  clear hta_0 hta_1 hta_2 hs1 es1 zs1 ka_0 ka_1 ka_2 zta_0 zta_1 zta_2
  have HW := Lib.hid (And.intro hwb hB)
  clear c0 c1 c2 c35 c36 c37 c38 c39 c40 c41 c42 c43 c44 c45 c46
  have D0 := Lib.hid d0
  have D1 := Lib.hid d1
  have D2 := Lib.hid d2
  have D35 := Lib.hid d35
  have D36 := Lib.hid d36
  have D37 := Lib.hid d37
  have D38 := Lib.hid d38
  have D39 := Lib.hid d39
  have D40 := Lib.hid d40
  have D41 := Lib.hid d41
  have D42 := Lib.hid d42
  have D43 := Lib.hid d43
  have D44 := Lib.hid d44
  have D45 := Lib.hid d45
  have D46 := Lib.hid d46
  clear hsz hver hz d0 d1 d2 d35 d36 d37 d38 d39 d40 d41 d42 d43 d44 d45 d46
  have R_met := Lib.hid (r_met.gr GB)
  have R_upol := Lib.hid (r_upol.gr GB)
  have R_dpol := Lib.hid (r_dpol.gr GB)
  have R_past := Lib.hid (r_past.gr GB)
  have HZB : Hid (B < wb.heap.size) := by have h := HW.out; show _ < _; rw [h.1, h.2]; simp
  have GB0 := Lib.hid GB
  clear GB hwb hB r_met r_upol r_dpol r_past
  go_enter Try.func12, Try.ntmps12
  go_wp2_with fail
  rw [← HW.out.1, ← HW.out.2]
  go_quiet_grown (first
      | (go_at_call_of 27 (Value.string name); refine gr_of (HKa_1.out _ _))
      | (go_at_call_of 26 (Value.int .u64 (ver : Int)); refine gr_of (HKa_2.out _ _))
      | (go_at_call 26; refine gr_of (HKa_0.out _ _)))
  go_upto_region 2 with fail
  rw [HEa.out]
  have G1 : Hid (Gr wb (grow (wb.drewN nq) osq)) := Gr.put _ _ _
  generalize grow (wb.drewN nq) osq = w1 at *
  clear ya_1 ya_2 ga_0 ga_1 ga_2
  have d0 := G1.out.cell D0.out
  have d35 := G1.out.cell D35.out
  have d36 := G1.out.cell D36.out
  have d37 := G1.out.cell D37.out
  have d38 := G1.out.cell D38.out
  have d39 := G1.out.cell D39.out
  have d40 := G1.out.cell D40.out
  have d41 := G1.out.cell D41.out
  have d42 := G1.out.cell D42.out
  have d43 := G1.out.cell D43.out
  have d44 := G1.out.cell D44.out
  have d45 := G1.out.cell D45.out
  have d46 := G1.out.cell D46.out
  go_wp2_with fail
  obtain ⟨w2, hw2⟩ : ∃ w2, w2 = w1.alloc (.cells #[.string tg, .int .i64 mn, .int .i64 mx, .slice q_met met.length k_met, .int .i64 tol, .int .i64 uw, .int .i64 up, .slice q_upol upol.length k_upol, .int .i64 dw, .int .i64 dp, .slice q_dpol dpol.length k_dpol, .slice q_past past.length k_past] 44) := ⟨_, rfl⟩
  have HW2 := Lib.hid hw2
  rw [← HW2.out]
  have GW : Hid (Gr wb w2) := by show Gr _ _; rw [hw2]; exact G1.out.alloc _
  clear d0 d35 d36 d37 d38 d39 d40 d41 d42 d43 d44 d45 d46
  have hz2 : w1.heap.size < w2.heap.size := by rw [hw2]; simp
  have f0 : w2.cell? ⟨w1.heap.size, 0, none⟩ = some (.string tg) := by rw [hw2]; simp
  have f1 : w2.cell? ⟨w1.heap.size, 1, none⟩ = some (.int .i64 mn) := by rw [hw2]; simp
  have f2 : w2.cell? ⟨w1.heap.size, 2, none⟩ = some (.int .i64 mx) := by rw [hw2]; simp
  have f3 : w2.cell? ⟨w1.heap.size, 3, none⟩ = some (.slice q_met met.length k_met) := by rw [hw2]; simp
  have f4 : w2.cell? ⟨w1.heap.size, 4, none⟩ = some (.int .i64 tol) := by rw [hw2]; simp
  have f5 : w2.cell? ⟨w1.heap.size, 5, none⟩ = some (.int .i64 uw) := by rw [hw2]; simp
  have f6 : w2.cell? ⟨w1.heap.size, 6, none⟩ = some (.int .i64 up) := by rw [hw2]; simp
  have f7 : w2.cell? ⟨w1.heap.size, 7, none⟩ = some (.slice q_upol upol.length k_upol) := by rw [hw2]; simp
  have f8 : w2.cell? ⟨w1.heap.size, 8, none⟩ = some (.int .i64 dw) := by rw [hw2]; simp
  have f9 : w2.cell? ⟨w1.heap.size, 9, none⟩ = some (.int .i64 dp) := by rw [hw2]; simp
  have f10 : w2.cell? ⟨w1.heap.size, 10, none⟩ = some (.slice q_dpol dpol.length k_dpol) := by rw [hw2]; simp
  have f11 : w2.cell? ⟨w1.heap.size, 11, none⟩ = some (.slice q_past past.length k_past) := by rw [hw2]; simp
  clear hw2
  have Q_met := Lib.hid (R_met.out.gr GW.out)
  have Q_upol := Lib.hid (R_upol.out.gr GW.out)
  have Q_dpol := Lib.hid (R_dpol.out.gr GW.out)
  have Q_past := Lib.hid (R_past.out.gr GW.out)
  have zs1 := HZa.out
  have cvm := len255 hmetl
  have kb_0 := fun (n : Nat) (os : Array Obj) => rtext_any (grow (w2.drewN n) os) tg htg
  obtain ⟨tb_0, htb_0⟩ : ∃ t, t = txt tg := ⟨_, rfl⟩
  have ztb_0 : (mk tb_0).size ≤ 140737488351233 := by rw [mk_size, htb_0]; exact (by rw [txt_len]; have := htg; omega)
  rw [← htb_0] at kb_0
  have kb_1 := fun (n : Nat) (os : Array Obj) => rint_any (grow (w2.drewN n) os) mn
  obtain ⟨tb_1, htb_1⟩ : ∃ t, t = num mn := ⟨_, rfl⟩
  have ztb_1 : (mk tb_1).size ≤ 8 := by rw [mk_size, htb_1]; exact (by rw [num_len]; omega)
  rw [← htb_1] at kb_1
  have kb_2 := fun (n : Nat) (os : Array Obj) => rint_any (grow (w2.drewN n) os) mx
  obtain ⟨tb_2, htb_2⟩ : ∃ t, t = num mx := ⟨_, rfl⟩
  have ztb_2 : (mk tb_2).size ≤ 8 := by rw [mk_size, htb_2]; exact (by rw [num_len]; omega)
  rw [← htb_2] at kb_2
  have kb_3 := fun (n : Nat) (os : Array Obj) => rput_any (grow (w2.drewN n) os) met.length 1 (by omega) (by decide)
  obtain ⟨tb_3, htb_3⟩ : ∃ t, t = le met.length 1 := ⟨_, rfl⟩
  have ztb_3 : (mk tb_3).size ≤ 1 := by rw [mk_size, htb_3]; exact (by rw [le_len]; omega)
  rw [← htb_3] at kb_3
  have yb_0 : ¬ (9223372036854775807 < (mk s1).size + (mk tb_0).size) := by omega
  have yb_1 : ¬ (9223372036854775807 < (mk s1).size + (mk tb_0).size + (mk tb_1).size) := by omega
  have yb_2 : ¬ (9223372036854775807 < (mk s1).size + (mk tb_0).size + (mk tb_1).size + (mk tb_2).size) := by omega
  have yb_3 : ¬ (9223372036854775807 < (mk s1).size + (mk tb_0).size + (mk tb_1).size + (mk tb_2).size + (mk tb_3).size) := by omega
  obtain ⟨s2, hs2⟩ : ∃ t, t = s1 ++ tb_0 ++ tb_1 ++ tb_2 ++ tb_3 := ⟨_, rfl⟩
  have es2 : mk s1 ++ mk tb_0 ++ mk tb_1 ++ mk tb_2 ++ mk tb_3 = mk s2 := by rw [hs2]; simp only [mk_app]
  have zs2 : (mk s2).size ≤ 281474976702492 := by rw [hs2]; simp only [mk_size, List.length_append] at *; omega
  have gb_0 := cell_grown hz2 f0
  have gb_1 := cell_grown hz2 f1
  have gb_2 := cell_grown hz2 f2
  have gb_3 := cell_grown hz2 f3
  have HHb := Lib.hid (And.intro htb_0 (And.intro htb_1 (And.intro htb_2 (And.intro htb_3 hs2))))
  have HKb_0 := Lib.hid kb_0
  have HKb_1 := Lib.hid kb_1
  have HKb_2 := Lib.hid kb_2
  have HKb_3 := Lib.hid kb_3
  have HEb := Lib.hid es2
  have HZb := Lib.hid zs2
  clear htb_0 htb_1 htb_2 htb_3 hs2 es2 zs2 kb_0 kb_1 kb_2 kb_3 ztb_0 ztb_1 ztb_2 ztb_3
  have F0 := Lib.hid f0
  have F1 := Lib.hid f1
  have F2 := Lib.hid f2
  have F3 := Lib.hid f3
  have F4 := Lib.hid f4
  have F5 := Lib.hid f5
  have F6 := Lib.hid f6
  have F7 := Lib.hid f7
  have F8 := Lib.hid f8
  have F9 := Lib.hid f9
  have F10 := Lib.hid f10
  have F11 := Lib.hid f11
  have HZ2 := Lib.hid hz2
  clear hz2 f0 f1 f2 f3 f4 f5 f6 f7 f8 f9 f10 f11
  generalize w1.heap.size = B2 at *
  go_quiet_grown (first
      | (go_at_call_of 27 (Value.string tg); refine gr_of (HKb_0.out _ _))
      | (go_at_call_of 28 (Value.int .i64 mn); refine gr_of (HKb_1.out _ _))
      | (go_at_call_of 28 (Value.int .i64 mx); refine gr_of (HKb_2.out _ _))
      | (go_at_call 26; refine gr_of (HKb_3.out _ _)))
  go_upto_region 17 with fail
  rw [HEb.out]
  have G3 : Hid (Gr w2 (grow (w2.drewN nq) osq)) := Gr.put _ _ _
  generalize grow (w2.drewN nq) osq = w3 at *
  clear cvm yb_0 yb_1 yb_2 yb_3 gb_0 gb_1 gb_2 gb_3
  have d3 := G3.out.cell F3.out
  go_wp2_with fail
  clear d3
  have GW3 : Hid (Gr wb w3) := GW.out.trans G3.out
  have M_met := Lib.hid (R_met.out.gr GW3.out)
  have HO := Lib.hid (List.all_eq_true.1 hmet)
  go_loopg [3, 183] met.length (fun g vo vi wr => ∃ (k : Nat) (s : List UInt8), k ≤ met.length ∧ met.length - k ≤ g ∧ vo = .string (mk s) ∧ vi = .int .i64 (k : Int) ∧ s.length ≤ 281474976702492 + k * 140737488351249 ∧ Hid (s ++ (met.drop k).flatMap byM = s2 ++ met.flatMap byM) ∧ Hid (Gr w3 wr))
  case atStart => exact ⟨0, s2, Nat.zero_le _, by omega, rfl, rfl, by have := HZb.out; rw [mk_size] at this; omega, rfl, Gr.refl _⟩
  case round =>
    obtain ⟨k, s, hk, hg, rfl, rfl, hsl, HS, HG⟩ := hrel
    by_cases hlt : k < met.length
    · obtain ⟨x, hx⟩ : ∃ x, met[k]? = some x := ⟨met[k], List.getElem?_eq_getElem hlt⟩
      obtain ⟨b, off, rfl, hb, hc⟩ := (M_met.out.gr HG.out) k x hx
      have c1 := hc 0 _ rfl
      have c2 := hc 1 _ rfl
      have c3 := hc 2 _ rfl
      rw [Nat.add_zero] at c1
      have hok := HO.out x (List.mem_of_getElem? hx)
      have HD := Lib.hid (drop_flat (f := byM) hx)
      have HN := Lib.hid (fun y W => rint_any W y)
      have HT := Lib.hid (fun y (hy : y.size ≤ 140737488351232) W => rtext_any W y hy)
      obtain ⟨x1, x2, x3⟩ := x
      simp only [ftM, Bool.and_eq_true, decide_eq_true_eq] at hok
      obtain ⟨t1, ht1⟩ : ∃ t, t = num x1 := ⟨_, rfl⟩
      have hk1 := fun (n : Nat) (os : Array Obj) => HN.out x1 (grow ((wr.alloc (.cells #[.int .i64 x1, .string x2, .int .i64 x3] 69)).drewN n) os)
      rw [← ht1] at hk1
      have z1 : (mk t1).size ≤ 8 := by rw [mk_size, ht1, num_len]; omega
      obtain ⟨t2, ht2⟩ : ∃ t, t = txt x2 := ⟨_, rfl⟩
      have hk2 := fun (n : Nat) (os : Array Obj) => HT.out x2 hok (grow ((wr.alloc (.cells #[.int .i64 x1, .string x2, .int .i64 x3] 69)).drewN n) os)
      rw [← ht2] at hk2
      have z2 : (mk t2).size ≤ 140737488351233 := by rw [mk_size, ht2, txt_len]; omega
      obtain ⟨t3, ht3⟩ : ∃ t, t = num x3 := ⟨_, rfl⟩
      have hk3 := fun (n : Nat) (os : Array Obj) => HN.out x3 (grow ((wr.alloc (.cells #[.int .i64 x1, .string x2, .int .i64 x3] 69)).drewN n) os)
      rw [← ht3] at hk3
      have z3 : (mk t3).size ≤ 8 := by rw [mk_size, ht3, num_len]; omega
      have y1 : ¬ (9223372036854775807 < (mk s).size + (mk t1).size) := by rw [mk_size s]; omega
      have y2 : ¬ (9223372036854775807 < (mk s).size + (mk t1).size + (mk t2).size) := by rw [mk_size s]; omega
      have y3 : ¬ (9223372036854775807 < (mk s).size + (mk t1).size + (mk t2).size + (mk t3).size) := by rw [mk_size s]; omega
      have hz : wr.heap.size < (wr.alloc (.cells #[.int .i64 x1, .string x2, .int .i64 x3] 69)).heap.size := by simp
      have f1 : (wr.alloc (.cells #[.int .i64 x1, .string x2, .int .i64 x3] 69)).cell? ⟨wr.heap.size, 0, none⟩ = some (.int .i64 x1) := by simp
      have g1 := cell_grown hz f1
      have HK1 := Lib.hid hk1
      have f2 : (wr.alloc (.cells #[.int .i64 x1, .string x2, .int .i64 x3] 69)).cell? ⟨wr.heap.size, 1, none⟩ = some (.string x2) := by simp
      have g2 := cell_grown hz f2
      have HK2 := Lib.hid hk2
      have f3 : (wr.alloc (.cells #[.int .i64 x1, .string x2, .int .i64 x3] 69)).cell? ⟨wr.heap.size, 2, none⟩ = some (.int .i64 x3) := by simp
      have g3 := cell_grown hz f3
      have HK3 := Lib.hid hk3
      have HH := Lib.hid (And.intro ht1 (And.intro ht2 ht3))
      have HL := Lib.hid (And.intro z1 (And.intro z2 (And.intro z3 hsl)))
      have GA := Lib.hid (HG.out.alloc (.cells #[.int .i64 x1, .string x2, .int .i64 x3] 69))
      clear hx hc hb hk1 hk2 hk3 ht1 ht2 ht3 f1 f2 f3 hz z1 z2 z3 hsl hok
      go_wp2_with fail
      generalize wr.alloc (.cells #[.int .i64 x1, .string x2, .int .i64 x3] 69) = wa at *
      go_quiet_grown (first | (go_at_call_of 28 (Value.int .i64 x1); refine gr_of (HK1.out _ _)) | (go_at_call_of 27 (Value.string x2); refine gr_of (HK2.out _ _)) | (go_at_call_of 28 (Value.int .i64 x3); refine gr_of (HK3.out _ _)))
      go_wp2
      go_roundg (met.length - (k + 1))
      case measure => omega
      case rel =>
        have hh := HH.out
        refine ⟨k + 1, s ++ (t1 ++ (t2 ++ t3)), hlt, Nat.le_refl _, by simp only [← mk_app, ← ByteArray.append_assoc], by go_num, ?_, ?_, (GA.out.trans (Gr.put _ _ _))⟩
        · have := HL.out
          simp only [mk_size] at this
          simp
          omega
        · show _ = _
          have h := HS.out
          rw [HD.out] at h
          rw [hh.1, hh.2.1, hh.2.2]
          simpa [byM] using h
    · obtain rfl : k = met.length := by omega
      have h := HS.out
      rw [List.drop_length, List.flatMap_nil, List.append_nil] at h
      clear HS
      obtain ⟨m, hm⟩ : ∃ m, m = s := ⟨_, rfl⟩
      subst hm
      have HM := Lib.hid h
      have zm : (mk m).size ≤ 36169534506270987 := by rw [mk_size]; omega
      clear h
      have GR : Hid (Gr w2 wr) := G3.out.trans HG.out
      have f4 := GR.out.cell F4.out
      have f5 := GR.out.cell F5.out
      have f6 := GR.out.cell F6.out
      have f7 := GR.out.cell F7.out
      have f8 := GR.out.cell F8.out
      have f9 := GR.out.cell F9.out
      have f10 := GR.out.cell F10.out
      have f11 := GR.out.cell F11.out
      have hz4 : B2 < wr.heap.size := Nat.lt_of_lt_of_le HZ2.out GR.out.size
      have GW4 : Hid (Gr wb wr) := GW.out.trans GR.out
      have Q4_upol := Lib.hid (R_upol.out.gr GW4.out)
      have Q4_dpol := Lib.hid (R_dpol.out.gr GW4.out)
      have cvp := len255 hpast
      have kc_0 := fun (n : Nat) (os : Array Obj) => rint_any (grow (wr.drewN n) os) tol
      obtain ⟨tc_0, htc_0⟩ : ∃ t, t = num tol := ⟨_, rfl⟩
      have ztc_0 : (mk tc_0).size ≤ 8 := by rw [mk_size, htc_0]; exact (by rw [num_len]; omega)
      rw [← htc_0] at kc_0
      have kc_1 := fun (n : Nat) (os : Array Obj) => rbeh_any (grow (wr.drewN n) os) q_upol k_upol uw up upol (Q4_upol.out.gr (Gr.put wr n os)) hupol
      obtain ⟨tc_1, htc_1⟩ : ∃ t, t = behB uw up upol := ⟨_, rfl⟩
      have ztc_1 : (mk tc_1).size ≤ 71776119059131886 := by rw [mk_size, htc_1]; exact beh_size hupol
      rw [← htc_1] at kc_1
      have kc_2 := fun (n : Nat) (os : Array Obj) => rbeh_any (grow (wr.drewN n) os) q_dpol k_dpol dw dp dpol (Q4_dpol.out.gr (Gr.put wr n os)) hdpol
      obtain ⟨tc_2, htc_2⟩ : ∃ t, t = behB dw dp dpol := ⟨_, rfl⟩
      have ztc_2 : (mk tc_2).size ≤ 71776119059131886 := by rw [mk_size, htc_2]; exact beh_size hdpol
      rw [← htc_2] at kc_2
      have kc_3 := fun (n : Nat) (os : Array Obj) => rput_any (grow (wr.drewN n) os) past.length 1 (by omega) (by decide)
      obtain ⟨tc_3, htc_3⟩ : ∃ t, t = le past.length 1 := ⟨_, rfl⟩
      have ztc_3 : (mk tc_3).size ≤ 1 := by rw [mk_size, htc_3]; exact (by rw [le_len]; omega)
      rw [← htc_3] at kc_3
      have yc_0 : ¬ (9223372036854775807 < (mk m).size + (mk tc_0).size) := by omega
      have yc_1 : ¬ (9223372036854775807 < (mk m).size + (mk tc_0).size + (mk tc_1).size) := by omega
      have yc_2 : ¬ (9223372036854775807 < (mk m).size + (mk tc_0).size + (mk tc_1).size + (mk tc_2).size) := by omega
      have yc_3 : ¬ (9223372036854775807 < (mk m).size + (mk tc_0).size + (mk tc_1).size + (mk tc_2).size + (mk tc_3).size) := by omega
      obtain ⟨s3, hs3⟩ : ∃ t, t = m ++ tc_0 ++ tc_1 ++ tc_2 ++ tc_3 := ⟨_, rfl⟩
      have es3 : mk m ++ mk tc_0 ++ mk tc_1 ++ mk tc_2 ++ mk tc_3 = mk s3 := by rw [hs3]; simp only [mk_app]
      have zs3 : (mk s3).size ≤ 179721772624534768 := by rw [hs3]; simp only [mk_size, List.length_append] at *; omega
      have gc_4 := cell_grown hz4 f4
      have gc_5 := cell_grown hz4 f5
      have gc_6 := cell_grown hz4 f6
      have gc_7 := cell_grown hz4 f7
      have gc_8 := cell_grown hz4 f8
      have gc_9 := cell_grown hz4 f9
      have gc_10 := cell_grown hz4 f10
      have gc_11 := cell_grown hz4 f11
      have HHc := Lib.hid (And.intro htc_0 (And.intro htc_1 (And.intro htc_2 (And.intro htc_3 hs3))))
      have HKc_0 := Lib.hid kc_0
      have HKc_1 := Lib.hid kc_1
      have HKc_2 := Lib.hid kc_2
      have HKc_3 := Lib.hid kc_3
      have HEc := Lib.hid es3
      have HZc := Lib.hid zs3
      clear htc_0 htc_1 htc_2 htc_3 hs3 es3 zs3 kc_0 kc_1 kc_2 kc_3 ztc_0 ztc_1 ztc_2 ztc_3
      have zs3 := HZc.out
      go_wp2_with fail
      go_quiet_grown (first
          | (go_at_call_of 28 (Value.int .i64 tol); refine gr_of (HKc_0.out _ _))
          | (go_at_call_of 33 (Value.agg #[.int .i64 uw, .int .i64 up, .slice q_upol upol.length k_upol]); refine gr_of (HKc_1.out _ _))
          | (go_at_call_of 33 (Value.agg #[.int .i64 dw, .int .i64 dp, .slice q_dpol dpol.length k_dpol]); refine gr_of (HKc_2.out _ _))
          | (go_at_call 26; refine gr_of (HKc_3.out _ _)))
      go_upto_region 23 with fail
      rw [HEc.out]
      have G5 : Hid (Gr wr (grow (wr.drewN nq) osq)) := Gr.put _ _ _
      have d11 := G5.out.cell f11
      generalize grow (wr.drewN nq) osq = w5 at *
      clear cvp yc_0 yc_1 yc_2 yc_3 gc_4 gc_5 gc_6 gc_7 gc_8 gc_9 gc_10 gc_11
      clear f4 f5 f6 f7 f8 f9 f10 f11
      go_wp2_with fail
      clear d11
      have GW5 : Hid (Gr wb w5) := GW4.out.trans G5.out
      have M_past := Lib.hid (R_past.out.gr GW5.out)
      clear HG hg hk
      go_loopg [3, 223] past.length (fun g vo vi wr => ∃ (k : Nat) (s : List UInt8), k ≤ past.length ∧ past.length - k ≤ g ∧ vo = .string (mk s) ∧ vi = .int .i64 (k : Int) ∧ s.length ≤ 179721772624534768 + k * 24 ∧ Hid (s ++ (past.drop k).flatMap byS = s3 ++ past.flatMap byS) ∧ Hid (Gr w5 wr))
      case atStart => exact ⟨0, s3, Nat.zero_le _, by omega, rfl, rfl, by rw [mk_size] at zs3; omega, rfl, Gr.refl _⟩
      case round =>
        obtain ⟨k, s, hk, hg, rfl, rfl, hsl, HS, HG⟩ := hrel
        by_cases hlt : k < past.length
        · obtain ⟨x, hx⟩ : ∃ x, past[k]? = some x := ⟨past[k], List.getElem?_eq_getElem hlt⟩
          obtain ⟨b, off, rfl, hb, hc⟩ := (M_past.out.gr HG.out) k x hx
          have c1 := hc 0 _ rfl
          have c2 := hc 1 _ rfl
          have c3 := hc 2 _ rfl
          rw [Nat.add_zero] at c1
          have HD := Lib.hid (drop_flat (f := byS) hx)
          have HN := Lib.hid (fun y W => rint_any W y)
          obtain ⟨x1, x2, x3⟩ := x
          obtain ⟨t1, ht1⟩ : ∃ t, t = num x1 := ⟨_, rfl⟩
          have hk1 := fun (n : Nat) (os : Array Obj) => HN.out x1 (grow ((wr.alloc (.cells #[.int .i64 x1, .int .i64 x2, .int .i64 x3] 75)).drewN n) os)
          rw [← ht1] at hk1
          have z1 : (mk t1).size ≤ 8 := by rw [mk_size, ht1, num_len]; omega
          obtain ⟨t2, ht2⟩ : ∃ t, t = num x2 := ⟨_, rfl⟩
          have hk2 := fun (n : Nat) (os : Array Obj) => HN.out x2 (grow ((wr.alloc (.cells #[.int .i64 x1, .int .i64 x2, .int .i64 x3] 75)).drewN n) os)
          rw [← ht2] at hk2
          have z2 : (mk t2).size ≤ 8 := by rw [mk_size, ht2, num_len]; omega
          obtain ⟨t3, ht3⟩ : ∃ t, t = num x3 := ⟨_, rfl⟩
          have hk3 := fun (n : Nat) (os : Array Obj) => HN.out x3 (grow ((wr.alloc (.cells #[.int .i64 x1, .int .i64 x2, .int .i64 x3] 75)).drewN n) os)
          rw [← ht3] at hk3
          have z3 : (mk t3).size ≤ 8 := by rw [mk_size, ht3, num_len]; omega
          have y1 : ¬ (9223372036854775807 < (mk s).size + (mk t1).size) := by rw [mk_size s]; omega
          have y2 : ¬ (9223372036854775807 < (mk s).size + (mk t1).size + (mk t2).size) := by rw [mk_size s]; omega
          have y3 : ¬ (9223372036854775807 < (mk s).size + (mk t1).size + (mk t2).size + (mk t3).size) := by rw [mk_size s]; omega
          have hz : wr.heap.size < (wr.alloc (.cells #[.int .i64 x1, .int .i64 x2, .int .i64 x3] 75)).heap.size := by simp
          have f1 : (wr.alloc (.cells #[.int .i64 x1, .int .i64 x2, .int .i64 x3] 75)).cell? ⟨wr.heap.size, 0, none⟩ = some (.int .i64 x1) := by simp
          have g1 := cell_grown hz f1
          have HK1 := Lib.hid hk1
          have f2 : (wr.alloc (.cells #[.int .i64 x1, .int .i64 x2, .int .i64 x3] 75)).cell? ⟨wr.heap.size, 1, none⟩ = some (.int .i64 x2) := by simp
          have g2 := cell_grown hz f2
          have HK2 := Lib.hid hk2
          have f3 : (wr.alloc (.cells #[.int .i64 x1, .int .i64 x2, .int .i64 x3] 75)).cell? ⟨wr.heap.size, 2, none⟩ = some (.int .i64 x3) := by simp
          have g3 := cell_grown hz f3
          have HK3 := Lib.hid hk3
          have HH := Lib.hid (And.intro ht1 (And.intro ht2 ht3))
          have HL := Lib.hid (And.intro z1 (And.intro z2 (And.intro z3 hsl)))
          have GA := Lib.hid (HG.out.alloc (.cells #[.int .i64 x1, .int .i64 x2, .int .i64 x3] 75))
          clear hx hc hb hk1 hk2 hk3 ht1 ht2 ht3 f1 f2 f3 hz z1 z2 z3 hsl
          go_wp2_with fail
          generalize wr.alloc (.cells #[.int .i64 x1, .int .i64 x2, .int .i64 x3] 75) = wa at *
          go_quiet_grown (first | (go_at_call_of 28 (Value.int .i64 x1); refine gr_of (HK1.out _ _)) | (go_at_call_of 28 (Value.int .i64 x2); refine gr_of (HK2.out _ _)) | (go_at_call_of 28 (Value.int .i64 x3); refine gr_of (HK3.out _ _)))
          go_wp2
          go_roundg (past.length - (k + 1))
          case measure => omega
          case rel =>
            have hh := HH.out
            refine ⟨k + 1, s ++ (t1 ++ (t2 ++ t3)), hlt, Nat.le_refl _, by simp only [← mk_app, ← ByteArray.append_assoc], by go_num, ?_, ?_, (GA.out.trans (Gr.put _ _ _))⟩
            · have := HL.out
              simp only [mk_size] at this
              simp
              omega
            · show _ = _
              have h := HS.out
              rw [HD.out] at h
              rw [hh.1, hh.2.1, hh.2.2]
              simpa [byS] using h
        · obtain rfl : k = past.length := by omega
          have h := HS.out
          rw [List.drop_length, List.flatMap_nil, List.append_nil] at h
          have HEE := Lib.hid h
          clear h HS
          go_wp2
          go_ret
          refine ⟨?_, GB0.out.trans (GW5.out.trans HG.out)⟩
          obtain ⟨p0, p1, p2, p3, pS⟩ := HHb.out
          obtain ⟨r0, r1, r2, r3, rS⟩ := HHc.out
          obtain ⟨a0, a1, a2, aS⟩ := HHa.out
          have he : s = objB ⟨4, name, ver, W, P, N, G, ⟨tg, mn, mx, met, tol, uw, up, upol, dw, dp, dpol, past⟩⟩ := by
            rw [HEE.out, rS, HM.out, pS, aS, a0, a1, a2, p0, p1, p2, p3, r0, r1, r2, r3]
            simp [objB, hdB, shB, hpB, rowB, u64, List.append_assoc]
          rw [← he]
          rfl
end Go.Proofs.Ytcfilaiejccfkaa
