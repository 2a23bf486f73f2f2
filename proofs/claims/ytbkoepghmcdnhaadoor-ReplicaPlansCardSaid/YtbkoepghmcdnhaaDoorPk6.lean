/- Layer 16 (replica): the chapter's example. -/
import Derived.Test.YtbkoepghmcdnhaaDoorPk5
import Derived.Test.YtbkoepghmcdnhaaDoorVaR
import Derived.BigRegion
import Derived.Deep.DeepCutAuto
import Derived.Deep.CutRange
import Derived.Deep.Light
namespace Go.Proofs.YtbkoepghmcdnhaaDoor.Rp
open Go.RowKit Go.Shelf Go.Lib Go.Sort Go.Deep
open Go.Joins (cell_of_block unfrozen_of_block block_setCell)
open Go.Proofs.YtbkoepghmcdnhaaDoor.Ow Go.Proofs.YtbkoepghmcdnhaaDoor.Vi
set_option linter.unusedVariables false
set_option linter.unusedSimpArgs false
set_option maxRecDepth 20000

abbrev tApp : ByteArray := { data := #[97, 112, 112] }
def exW : Array Value := #[.int .i64 2, .int .i64 0, .int .i64 0, .slice none 0 0, .slice none 0 0, .slice none 0 0, .int .i64 0]
def exWC : Array Value := #[.int .i64 0, .string { data := #[97, 112, 112] }, .int .u64 0, .int .i64 2, .int .i64 0, .int .i64 0, .slice none 0 0, .slice none 0 0, .slice none 0 0, .int .i64 0] ++ zerC.extract 10 47
def exWO : Ob := { zerO with kind := 0, name := tApp, w := { zerO.w with rep := 2 } }
theorem exW_obj (w : World) : ObjV w exWC exWO := by
  have rL : SlR 2 encL w (some (.slice none 0 0)) [] := ⟨none, 0, rfl, RowR.nil _ _ _ _⟩
  have rR : SlR 3 encR w (some (.slice none 0 0)) [] := ⟨none, 0, rfl, RowR.nil _ _ _ _⟩
  have rM : SlR 3 encM w (some (.slice none 0 0)) [] := ⟨none, 0, rfl, RowR.nil _ _ _ _⟩
  have rP : SlR 3 encP w (some (.slice none 0 0)) [] := ⟨none, 0, rfl, RowR.nil _ _ _ _⟩
  have rS : SlR 3 encS w (some (.slice none 0 0)) [] := ⟨none, 0, rfl, RowR.nil _ _ _ _⟩
  exact ⟨rfl, ⟨rfl, rfl, rfl, (by decide : (0 : Nat) < 18446744073709551616)⟩, ⟨rfl, rfl, rfl, rL, rR, rL, rfl⟩, ⟨rfl, rfl, rfl, rfl, rfl, rfl, rL, rR, rL, rfl⟩, ⟨rfl, rfl, rfl, rL, rL, rfl, rfl⟩, ⟨rfl, rfl, rfl, rfl, rfl, rL, rL, rfl⟩, ⟨rfl, rfl, rfl, rM, rfl, rfl, rfl, rP, rfl, rfl, rP, rS⟩⟩
theorem built_w : Tryd.prog.built 29 [(0, .int .i64 2)] = some exW := by kernel_rfl
theorem built_wo : Tryd.prog.built OT [(0, .int .i64 0), (1, .string { data := #[97, 112, 112] }), (3, .agg exW)] = some exWC := by kernel_rfl
theorem okApp : okNm tApp = true := by decide +kernel
theorem frees_app : frees tApp [] 2 = [⟨#[97, 112, 112, 45, 48, 48, 48, 48]⟩, ⟨#[97, 112, 112, 45, 48, 48, 48, 49]⟩] := by
  have h : (List.range 2).filter (fr tApp []) = [0, 1] := by
    rw [List.filter_eq_self.2]
    · rfl
    · intro x _
      unfold fr
      simp
  rw [frees_at okApp (n := 2) (by decide) (by rw [h]; decide) (.inr (by rw [h]; rfl)), h]
  decide +kernel
set_option maxHeartbeats 4000000 in
theorem rlives (w : World) (hT : Tab w) : Calls Tryd.prog 4 #[] w fun e w' => e = .returned (.bool true) ∧ Below w.heap.size w w' := by
  have CP := Lib.hid (plan_any w exWC exWO 2 none 0 0 [] (exW_obj w) rfl rfl (by decide) (by decide) rfl (RowR.nil _ _ _ _) (by simp) (by decide) hT)
  have BW := Lib.hid built_w
  have BO := Lib.hid built_wo
  obtain ⟨X, hX⟩ : ∃ X, X = exWC := ⟨_, rfl⟩
  rw [← hX] at CP BO
  clear hX hT
  go_enter Tryd.func4, Tryd.ntmps4
  go_wp2_with (first | (refine wpList_known (by kernel_rfl) (run_built rfl (by kernel_rfl) BW.out _) ?_) | (refine wpList_known (by kernel_rfl) (run_built rfl (by kernel_rfl) BO.out _) ?_))
  refine CP.out.mono ?_
  rintro e w1 ⟨⟨v1, v2, rfl, HP⟩, b1⟩
  obtain ⟨p, t, st, sm, hp, o1, o2⟩ := HP.out
  have ht : t = [] := by
    have h1 : p.length = 0 := by
      have := congrArg List.length hp
      rw [List.length_map] at this
      exact this
    have h2 := sm.1.length_eq
    exact List.eq_nil_of_length_eq_zero (by omega)
  subst ht
  have e1 : frees exWO.name (takenOf exWO.name (([] : List Obv).map (·.2))) (min (2 - ([] : List El).length) 16) = [⟨#[97, 112, 112, 45, 48, 48, 48, 48]⟩, ⟨#[97, 112, 112, 45, 48, 48, 48, 49]⟩] := frees_app
  have e2 : sortS (((([] : List Obv).map (·.2)).filter (isFailed exWO.name)).map (·.name)) ++ (([] : List El).take (min (([] : List El).length - 2) 16)).map (·.1.2.name) = [] := by
    show sortS [] ++ _ = []
    rw [List.eq_nil_of_length_eq_zero (sortS_len [])]
    rfl
  rw [e1] at o1
  rw [e2] at o2
  obtain ⟨q1, c1, rfl, _, s1⟩ := o1.slc
  obtain ⟨q2, c2, rfl, _, _⟩ := o2.slc
  obtain ⟨g, off, rfl, hg, k0⟩ := s1 0 _ rfl
  obtain ⟨g', off', eg, _, k1⟩ := s1 1 _ rfl
  simp only [Option.some.injEq, Addr.mk.injEq] at eg
  obtain ⟨rfl, rfl, _⟩ := eg
  rw [Nat.add_zero] at k0
  have B1 := Lib.hid b1
  clear HP st sm hp o1 o2 e1 e2 s1 hg b1 BW BO CP
  go_wp2_with fail
  go_ret
  exact ⟨by first | rfl | (simp; done), B1.out⟩
end Go.Proofs.YtbkoepghmcdnhaaDoor.Rp
/- The law's Right asks what the program's Check asks. -/
namespace Go.Proofs.YtbkoepghmcdnhaaDoor
open Go.RowKit Go.Shelf Go.Lib Go.Sort
set_option linter.unusedVariables false
set_option linter.unusedSimpArgs false

theorem lawU_iff (l : List Sca) : ∀ k, lawU l k = true ↔ ∀ j, j < k → lawC l j = true
  | 0 => by simp [lawU]
  | k + 1 => by
    rw [lawU, Bool.and_eq_true, lawU_iff l k]
    constructor
    · rintro ⟨h1, h2⟩ j hj
      by_cases e : j = k
      · rw [e]; exact h2
      · exact h1 j (by omega)
    · intro h
      exact ⟨fun j hj => h j (by omega), h k (by omega)⟩
theorem lawC_at' {l : List Sca} {k : Nat} {x : Sca} (hx : l[k]? = some x) : lawC l k = true ↔ 0 ≤ x.1 ∧ x.1 ≤ 4611686018427387904 ∧ 0 ≤ x.2.1 ∧ x.2.1 ≤ 1000000 ∧ 0 ≤ x.2.2 ∧ x.2.2 ≤ 1000000 ∧ (k = 0 ∨ lastAt 0 l k ≤ x.1) := by
  simp [lawC, hx, and_assoc]
theorem scaC_iff (a : Int) (x : Sca) : scaC a x = true ↔ a ≤ x.1 ∧ x.1 ≤ 4611686018427387904 ∧ 0 ≤ x.2.1 ∧ x.2.1 ≤ 1000000 ∧ 0 ≤ x.2.2 ∧ x.2.2 ≤ 1000000 := by
  simp [scaC, withinB, and_assoc]
theorem law_past (l : List Sca) : lawU l l.length = pastL 0 l := by
  rw [Bool.eq_iff_iff, lawU_iff, past_iff]
  constructor
  · intro h j x hx
    have hj := (List.getElem?_eq_some_iff.1 hx).1
    obtain ⟨a1, a2, a3, a4, a5, a6, a7⟩ := (lawC_at' hx).1 (h j hj)
    refine (scaC_iff _ _).2 ⟨?_, a2, a3, a4, a5, a6⟩
    rcases a7 with rfl | a7
    · exact a1
    · exact a7
  · intro h j hj
    have pos : ∀ (k : Nat) (x : Sca), l[k]? = some x → 0 ≤ x.1 := by
      intro k
      induction k with
      | zero => intro x hx; exact ((scaC_iff _ _).1 (h 0 x hx)).1
      | succ k ih =>
        intro x hx
        have hk : k < l.length := by have := (List.getElem?_eq_some_iff.1 hx).1; omega
        have h1 := ih _ (List.getElem?_eq_getElem hk)
        have h2 := ((scaC_iff _ _).1 (h (k + 1) x hx)).1
        rw [lastAt_step (List.getElem?_eq_getElem hk)] at h2
        omega
    have hx := List.getElem?_eq_getElem hj
    obtain ⟨b1, b2, b3, b4, b5, b6⟩ := (scaC_iff _ _).1 (h j _ hx)
    exact (lawC_at' hx).2 ⟨pos j _ hx, b2, b3, b4, b5, b6, .inr b1⟩

theorem eq_w (o : Ob) : l_w o = c_w o := by simp [l_w, c_w, wlC, wantsB, withinB, Bool.and_assoc]
theorem eq_n (o : Ob) : l_n o = c_n o := by simp [l_n, c_n, ndC, withinB, Bool.and_assoc]
theorem eq_g (o : Ob) : l_g o = c_g o := by
  unfold l_g c_g gpC
  generalize resB o.g.cpu o.g.mem = b1
  generalize rightB o.g.lab = b2
  generalize rightB o.g.tnt = b3
  rw [Bool.eq_iff_iff]
  cases b1 <;> cases b2 <;> cases b3 <;> simp [withinB] <;> omega
theorem eq_p (o : Ob) : l_p o = c_p o := by
  unfold l_p c_p pdC wlC wantsB phaseB
  generalize nameB o.p.own = b1
  generalize mayB o.p.node = b2
  generalize resB o.p.cpu o.p.mem = b3
  generalize rightB o.p.lab = b4
  generalize asksB o.p.sel = b5
  generalize rightB o.p.tol = b6
  rw [Bool.eq_iff_iff]
  by_cases hn : o.p.node.size = 0
  · rw [if_pos hn, decide_eq_true hn]
    cases b1 <;> cases b2 <;> cases b3 <;> cases b4 <;> cases b5 <;> cases b6 <;> simp [withinB] <;> omega
  · rw [if_neg hn, decide_eq_false hn]
    cases b1 <;> cases b2 <;> cases b3 <;> cases b4 <;> cases b5 <;> cases b6 <;> simp [withinB] <;> omega
theorem eq_h (o : Ob) : l_h o = c_h o := by
  unfold l_h c_h hpC h0B pastB
  rw [law_past]
  generalize nameB o.h.tg = b1
  generalize behC o.h.uw o.h.up o.h.upol = b2
  generalize behC o.h.dw o.h.dp o.h.dpol = b3
  generalize pastL 0 o.h.past = b4
  generalize o.h.met.all metB = b5
  rw [Bool.eq_iff_iff]
  cases b1 <;> cases b2 <;> cases b3 <;> cases b4 <;> cases b5 <;> simp [withinB] <;> omega
theorem law_sh (o : Ob) : lawS o = shC o := by unfold lawS shC; rw [eq_w, eq_p, eq_n, eq_g, eq_h]

theorem z_we (o : Ob) : e_w o = z_w o := by simp [e_w, z_w, zWl, Bool.and_assoc]
theorem z_pe (o : Ob) : e_p o = z_p o := by simp [e_p, z_p, zPd, Bool.and_assoc]
theorem z_ne (o : Ob) : e_n o = z_n o := by simp [e_n, z_n, zNd, Bool.and_assoc]
theorem z_ge (o : Ob) : e_g o = z_g o := by simp [e_g, z_g, zGp, Bool.and_assoc]
theorem z_he (o : Ob) : e_h o = z_h o := by
  unfold e_h z_h zHp zBh
  ac_rfl
theorem num_testk (x k : Int) : (x == k) = decide (x = k) := by rw [Bool.eq_iff_iff]; simp
theorem emp_al (o : Ob) : empE o = alC o := by
  unfold empE alC
  rw [z_we, z_pe, z_ne, z_ge, z_he]
  simp only [num_testk, Bool.or_comm]
theorem rgt_chk (o : Ob) : rgtE o = chkE o := by
  unfold rgtE chkE
  rw [emp_al, law_sh]
  by_cases hk : o.kind < 0 ∨ 4 < o.kind
  · have h2 : withinB o.kind 0 4 = false := by simp [withinB]; omega
    rw [if_pos hk, if_pos h2]
  · have h2 : ¬ withinB o.kind 0 4 = false := by simp [withinB]; omega
    rw [if_neg hk, if_neg h2]
    cases nameB o.name <;> cases alC o <;> cases shC o <;> simp
end Go.Proofs.YtbkoepghmcdnhaaDoor
/- The law's Right: workloads. -/
namespace Go.Proofs.YtbkoepghmcdnhaaDoor
open Go.RowKit Go.Shelf Go.Lib Go.Sort
open Go.Joins (cell_of_block unfrozen_of_block block_setCell)
set_option linter.unusedVariables false
set_option linter.unusedSimpArgs false
set_option maxRecDepth 20000

set_option maxHeartbeats 8000000 in
theorem law0 (w : World) (cs : Array Value) (o : Ob) (hv : ObjV w cs o) (F : FitsO o) (hk : o.kind = 0) :
    Calls Tryd.prog 6 #[.agg cs] w fun e w' => e = .returned (.int .i64 (rgtE o)) ∧ Gr w w' := by
  have mixed : Tryd.prog.follows .mixedOrders = true := by kernel_rfl
  obtain ⟨B, hB⟩ : ∃ B, B = w.heap.size := ⟨_, rfl⟩
  obtain ⟨wb, hwb⟩ : ∃ wb, wb = w.alloc (.cells cs 44) := ⟨_, rfl⟩
  have G0 : Gr w wb := hwb ▸ (Gr.refl w).alloc _
  have b0 : wb.heap[B]? = some (.cells cs 44 (0, 0)) := by rw [hwb, hB]; exact heap_alloc_new w _
  have HB : Hid (∀ W, Gr wb W → Gr w W ∧ W.heap[B]? = some (.cells cs 44 (0, 0)) ∧ W.cell? ⟨B, 0, none⟩ = some (.int .i64 0)) := fun W g => ⟨G0.trans g, (g.heap (Array.getElem?_eq_some_iff.1 b0).1).trans b0, hk ▸ load_at ((g.heap (Array.getElem?_eq_some_iff.1 b0).1).trans b0) hv.2.1⟩
  obtain ⟨qw_lab, kw_lab, qw_sel, kw_sel, qw_tol, kw_tol, rw_lab, rw_sel, rw_tol, Lw⟩ := load_w hv
  have d1 : wb.cell? ⟨B, 1, none⟩ = some (.string o.name) := load_nm b0 hv.2.1
  have CN := Lib.hid (fun (W : World) => rname_any W o.name (by have := ftT_iff.1 F.name; omega))
  have CE := Lib.hid (fun (W : World) (g : Gr w W) => rempty_any W cs o (hv.below g.below) (by omega) F.lens)
  have LO : Hid ((Instr.loadAt 44 (.pointer (some ⟨B, 0, none⟩))).run Tryd.prog wb = .ok (.agg cs) wb) := load_ob b0 hv.1
  have HO : Hid (rgtE o = if nameB o.name = false then 6 else if (empE o && l_w o) = false then 2 else 0) := by show _ = _; simp [rgtE, lawS, hk]
  unfold l_w at HO
  have C2 := Lib.hid (fun (W : World) (g : Gr w W) => wants_any W o.w.cpu o.w.mem qw_lab kw_lab o.w.lab (rw_lab.gr g) F.w_lab_n F.w_lab qw_sel kw_sel o.w.sel (rw_sel.gr g) F.w_sel_n F.w_sel qw_tol kw_tol o.w.tol (rw_tol.gr g) F.w_tol_n F.w_tol o.w.warm)
  obtain ⟨p0, t0⟩ : ∃ p, decide (0 ≤ o.w.rep) = p := ⟨_, rfl⟩
  obtain ⟨p1, t1⟩ : ∃ p, decide (o.w.rep ≤ 1000000) = p := ⟨_, rfl⟩
  generalize hb2 : wantsB o.w.cpu o.w.mem o.w.lab o.w.sel o.w.tol o.w.warm = p2 at HO C2
  rw [t0, t1] at HO
  generalize hbn : nameB o.name = bn at HO CN
  generalize hbe : empE o = be at HO CE
  have LLw := Lib.hid Lw
  have HW := Lib.hid (And.intro hwb (And.intro hB G0))
  clear hbn hbe hb2 hv F hwb hB b0 G0 hk Lw rw_lab rw_sel rw_tol
  have TP := Lib.hid (⟨t0, t1⟩ : decide (0 ≤ o.w.rep) = p0 ∧ decide (o.w.rep ≤ 1000000) = p1)
  clear t0 t1
  obtain ⟨_, _, d0⟩ := HB.out _ (Gr.refl _)
  go_enter Tryd.func6, Tryd.ntmps6
  go_upto_region 1 with fail
  rw [← HW.out.1, ← HW.out.2.1]
  go_wp2_with fail
  refine (CN.out _).mono ?_
  rintro e w1 ⟨rfl, rfl⟩
  cases bn with
  | false => (go_wp2; go_ret; exact ⟨by rw [HO.out]; rfl, HW.out.2.2⟩)
  | true =>
    go_wp2_with (refine wpList_load_by (by kernel_rfl) 44 _ rfl (.pointer (some ⟨B, 0, none⟩)) (.agg cs) (by kernel_rfl) LO.out ?_)
    refine (CE.out _ HW.out.2.2).mono ?_
    rintro e w1 ⟨rfl, h1⟩
    have K1 := Lib.hid h1
    obtain ⟨g1, B1, d1'⟩ := HB.out _ K1.out
    have HB1 := Lib.hid B1
    have G1 := Lib.hid g1
    clear h1 B1 g1 d0 d1 LO
    have HX : Hid (∀ (W : World), Gr (w1.alloc (.cells #[.int .i64 o.w.rep, .int .i64 o.w.cpu, .int .i64 o.w.mem, .slice qw_lab o.w.lab.length kw_lab, .slice qw_sel o.w.sel.length kw_sel, .slice qw_tol o.w.tol.length kw_tol, .int .i64 o.w.warm] 29)) W → Gr w W ∧ W.cell? ⟨w1.heap.size, 0, none⟩ = some (.int .i64 o.w.rep) ∧ W.cell? ⟨w1.heap.size, 1, none⟩ = some (.int .i64 o.w.cpu) ∧ W.cell? ⟨w1.heap.size, 2, none⟩ = some (.int .i64 o.w.mem) ∧ W.cell? ⟨w1.heap.size, 3, none⟩ = some (.slice qw_lab o.w.lab.length kw_lab) ∧ W.cell? ⟨w1.heap.size, 4, none⟩ = some (.slice qw_sel o.w.sel.length kw_sel) ∧ W.cell? ⟨w1.heap.size, 5, none⟩ = some (.slice qw_tol o.w.tol.length kw_tol) ∧ W.cell? ⟨w1.heap.size, 6, none⟩ = some (.int .i64 o.w.warm)) := fun W g => ⟨(G1.out.trans ((Gr.refl w1).alloc _)).trans g, g.cell (by simp), g.cell (by simp), g.cell (by simp), g.cell (by simp), g.cell (by simp), g.cell (by simp), g.cell (by simp)⟩
    obtain ⟨g2, e0_0, e0_1, e0_2, e0_3, e0_4, e0_5, e0_6⟩ := HX.out _ (Gr.refl _)
    have G2 := Lib.hid g2
    have K2 := Lib.hid (Gr.refl (w1.alloc (.cells #[.int .i64 o.w.rep, .int .i64 o.w.cpu, .int .i64 o.w.mem, .slice qw_lab o.w.lab.length kw_lab, .slice qw_sel o.w.sel.length kw_sel, .slice qw_tol o.w.tol.length kw_tol, .int .i64 o.w.warm] 29)))
    clear g2
    cases be with
    | false =>
      go_upto_region 9 with (refine wpList_load_by (by kernel_rfl) 29 _ rfl (.pointer (some ⟨B, 3, none⟩)) (.agg #[.int .i64 o.w.rep, .int .i64 o.w.cpu, .int .i64 o.w.mem, .slice qw_lab o.w.lab.length kw_lab, .slice qw_sel o.w.sel.length kw_sel, .slice qw_tol o.w.tol.length kw_tol, .int .i64 o.w.warm]) (by rfl) (LLw.out _ _ _ _ HB1.out) ?_)
      go_wp2
      go_ret
      exact ⟨by rw [HO.out]; rfl, G2.out⟩
    | true =>
      obtain ⟨t0, t1⟩ := TP.out
      go_upto_region 9 with (refine wpList_load_by (by kernel_rfl) 29 _ rfl (.pointer (some ⟨B, 3, none⟩)) (.agg #[.int .i64 o.w.rep, .int .i64 o.w.cpu, .int .i64 o.w.mem, .slice qw_lab o.w.lab.length kw_lab, .slice qw_sel o.w.sel.length kw_sel, .slice qw_tol o.w.tol.length kw_tol, .int .i64 o.w.warm]) (by rfl) (LLw.out _ _ _ _ HB1.out) ?_)
      go_wp2_with fail
      any_goals (go_ret; refine ⟨ret_i ?_, G2.out⟩; go_light; rw [HO.out]; first | rfl | (simp [*]; done) | (simp_all; done))
      refine (C2.out _ G2.out).mono ?_
      rintro e w3 ⟨rfl, h3⟩
      have K3 := Lib.hid (K2.out.trans h3)
      have G3 := Lib.hid (HX.out _ K3.out).1
      obtain ⟨_, e3_0, e3_1, e3_2, e3_3, e3_4, e3_5, e3_6⟩ := HX.out _ K3.out
      clear h3
      cases p2 with
      | false =>
        go_wp2
        all_goals (go_ret; refine ⟨ret_i ?_, G3.out⟩; go_light; rw [HO.out]; first | rfl | (simp [*]; done) | (simp_all; done))
      | true =>
        go_wp2
        all_goals (go_ret; refine ⟨ret_i ?_, G3.out⟩; go_light; rw [HO.out]; first | rfl | (simp [*]; done) | (simp_all; done))

end Go.Proofs.YtbkoepghmcdnhaaDoor
/- The law's Right: pods. -/
namespace Go.Proofs.YtbkoepghmcdnhaaDoor
open Go.RowKit Go.Shelf Go.Lib Go.Sort
open Go.Joins (cell_of_block unfrozen_of_block block_setCell)
set_option linter.unusedVariables false
set_option linter.unusedSimpArgs false
set_option maxRecDepth 20000

set_option maxHeartbeats 8000000 in
theorem law1e (w : World) (cs : Array Value) (o : Ob) (hv : ObjV w cs o) (F : FitsO o) (hk : o.kind = 1) (hx : o.p.node.size = 0) :
    Calls Tryd.prog 6 #[.agg cs] w fun e w' => e = .returned (.int .i64 (rgtE o)) ∧ Gr w w' := by
  have mixed : Tryd.prog.follows .mixedOrders = true := by kernel_rfl
  obtain ⟨B, hB⟩ : ∃ B, B = w.heap.size := ⟨_, rfl⟩
  obtain ⟨wb, hwb⟩ : ∃ wb, wb = w.alloc (.cells cs 44) := ⟨_, rfl⟩
  have G0 : Gr w wb := hwb ▸ (Gr.refl w).alloc _
  have b0 : wb.heap[B]? = some (.cells cs 44 (0, 0)) := by rw [hwb, hB]; exact heap_alloc_new w _
  have HB : Hid (∀ W, Gr wb W → Gr w W ∧ W.heap[B]? = some (.cells cs 44 (0, 0)) ∧ W.cell? ⟨B, 0, none⟩ = some (.int .i64 1)) := fun W g => ⟨G0.trans g, (g.heap (Array.getElem?_eq_some_iff.1 b0).1).trans b0, hk ▸ load_at ((g.heap (Array.getElem?_eq_some_iff.1 b0).1).trans b0) hv.2.1⟩
  obtain ⟨qp_lab, kp_lab, qp_sel, kp_sel, qp_tol, kp_tol, rp_lab, rp_sel, rp_tol, Lp⟩ := load_p hv
  have d1 : wb.cell? ⟨B, 1, none⟩ = some (.string o.name) := load_nm b0 hv.2.1
  have CN := Lib.hid (fun (W : World) => rname_any W o.name (by have := ftT_iff.1 F.name; omega))
  have CE := Lib.hid (fun (W : World) (g : Gr w W) => rempty_any W cs o (hv.below g.below) (by omega) F.lens)
  have LO : Hid ((Instr.loadAt 44 (.pointer (some ⟨B, 0, none⟩))).run Tryd.prog wb = .ok (.agg cs) wb) := load_ob b0 hv.1
  have HO : Hid (rgtE o = if nameB o.name = false then 6 else if (empE o && l_p o) = false then 2 else 0) := by show _ = _; simp [rgtE, lawS, hk]
  unfold l_p at HO
  have C0 := Lib.hid (fun (W : World) => rname_any W o.p.own (by have := ftT_iff.1 F.p_own; omega))
  have em1 : mayB o.p.node = true := by rw [mayB, decide_eq_true hx, Bool.true_or]
  have te1 : (o.p.node.toList == ([] : List UInt8)) = true := by rw [empty_test, decide_eq_true hx]
  rw [em1] at HO
  clear em1
  have C6 := Lib.hid (fun (W : World) (g : Gr w W) => wants_any W o.p.cpu o.p.mem qp_lab kp_lab o.p.lab (rp_lab.gr g) F.p_lab_n F.p_lab qp_sel kp_sel o.p.sel (rp_sel.gr g) F.p_sel_n F.p_sel qp_tol kp_tol o.p.tol (rp_tol.gr g) F.p_tol_n F.p_tol o.p.warm)
  generalize hb0 : nameB o.p.own = p0 at HO C0
  obtain ⟨p2, t2⟩ : ∃ p, decide (0 ≤ o.p.ph) = p := ⟨_, rfl⟩
  obtain ⟨p3, t3⟩ : ∃ p, decide (o.p.ph ≤ 3) = p := ⟨_, rfl⟩
  obtain ⟨p4, t4⟩ : ∃ p, decide (0 ≤ o.p.since) = p := ⟨_, rfl⟩
  obtain ⟨p5, t5⟩ : ∃ p, decide (o.p.since ≤ 4611686018427387904) = p := ⟨_, rfl⟩
  generalize hb6 : wantsB o.p.cpu o.p.mem o.p.lab o.p.sel o.p.tol o.p.warm = p6 at HO C6
  rw [decide_eq_true hx] at HO
  obtain ⟨p_3, t_3⟩ : ∃ p, (o.p.ph == 3) = p := ⟨_, rfl⟩
  obtain ⟨p_0, t_0⟩ : ∃ p, (o.p.ph == 0) = p := ⟨_, rfl⟩
  rw [t2, t3, t4, t5, t_3, t_0] at HO
  generalize hbn : nameB o.name = bn at HO CN
  generalize hbe : empE o = be at HO CE
  have LLp := Lib.hid Lp
  have HW := Lib.hid (And.intro hwb (And.intro hB G0))
  clear hbn hbe hb0 hb6 hv F hwb hB b0 G0 hk Lp rp_lab rp_sel rp_tol
  have TP := Lib.hid (⟨t2, t3, t4, t5, t_3, t_0⟩ : decide (0 ≤ o.p.ph) = p2 ∧ decide (o.p.ph ≤ 3) = p3 ∧ decide (0 ≤ o.p.since) = p4 ∧ decide (o.p.since ≤ 4611686018427387904) = p5 ∧ (o.p.ph == 3) = p_3 ∧ (o.p.ph == 0) = p_0)
  clear t2 t3 t4 t5 t_3 t_0
  obtain ⟨_, _, d0⟩ := HB.out _ (Gr.refl _)
  go_enter Tryd.func6, Tryd.ntmps6
  go_upto_region 1 with fail
  rw [← HW.out.1, ← HW.out.2.1]
  go_wp2_with fail
  refine (CN.out _).mono ?_
  rintro e w1 ⟨rfl, rfl⟩
  cases bn with
  | false => (go_wp2; go_ret; exact ⟨by rw [HO.out]; rfl, HW.out.2.2⟩)
  | true =>
    go_wp2_with (refine wpList_load_by (by kernel_rfl) 44 _ rfl (.pointer (some ⟨B, 0, none⟩)) (.agg cs) (by kernel_rfl) LO.out ?_)
    refine (CE.out _ HW.out.2.2).mono ?_
    rintro e w1 ⟨rfl, h1⟩
    have K1 := Lib.hid h1
    obtain ⟨g1, B1, d1'⟩ := HB.out _ K1.out
    have HB1 := Lib.hid B1
    have G1 := Lib.hid g1
    clear h1 B1 g1 d0 d1 LO
    have HX : Hid (∀ (W : World), Gr (w1.alloc (.cells #[.string o.p.own, .string o.p.node, .int .i64 o.p.ph, .int .i64 o.p.since, .int .i64 o.p.cpu, .int .i64 o.p.mem, .slice qp_lab o.p.lab.length kp_lab, .slice qp_sel o.p.sel.length kp_sel, .slice qp_tol o.p.tol.length kp_tol, .int .i64 o.p.warm] 31)) W → Gr w W ∧ W.cell? ⟨w1.heap.size, 0, none⟩ = some (.string o.p.own) ∧ W.cell? ⟨w1.heap.size, 1, none⟩ = some (.string o.p.node) ∧ W.cell? ⟨w1.heap.size, 2, none⟩ = some (.int .i64 o.p.ph) ∧ W.cell? ⟨w1.heap.size, 3, none⟩ = some (.int .i64 o.p.since) ∧ W.cell? ⟨w1.heap.size, 4, none⟩ = some (.int .i64 o.p.cpu) ∧ W.cell? ⟨w1.heap.size, 5, none⟩ = some (.int .i64 o.p.mem) ∧ W.cell? ⟨w1.heap.size, 6, none⟩ = some (.slice qp_lab o.p.lab.length kp_lab) ∧ W.cell? ⟨w1.heap.size, 7, none⟩ = some (.slice qp_sel o.p.sel.length kp_sel) ∧ W.cell? ⟨w1.heap.size, 8, none⟩ = some (.slice qp_tol o.p.tol.length kp_tol) ∧ W.cell? ⟨w1.heap.size, 9, none⟩ = some (.int .i64 o.p.warm)) := fun W g => ⟨(G1.out.trans ((Gr.refl w1).alloc _)).trans g, g.cell (by simp), g.cell (by simp), g.cell (by simp), g.cell (by simp), g.cell (by simp), g.cell (by simp), g.cell (by simp), g.cell (by simp), g.cell (by simp), g.cell (by simp)⟩
    obtain ⟨g2, e0_0, e0_1, e0_2, e0_3, e0_4, e0_5, e0_6, e0_7, e0_8, e0_9⟩ := HX.out _ (Gr.refl _)
    have G2 := Lib.hid g2
    have K2 := Lib.hid (Gr.refl (w1.alloc (.cells #[.string o.p.own, .string o.p.node, .int .i64 o.p.ph, .int .i64 o.p.since, .int .i64 o.p.cpu, .int .i64 o.p.mem, .slice qp_lab o.p.lab.length kp_lab, .slice qp_sel o.p.sel.length kp_sel, .slice qp_tol o.p.tol.length kp_tol, .int .i64 o.p.warm] 31)))
    clear g2
    cases be with
    | false =>
      go_upto_region 12 with (refine wpList_load_by (by kernel_rfl) 31 _ rfl (.pointer (some ⟨B, 10, none⟩)) (.agg #[.string o.p.own, .string o.p.node, .int .i64 o.p.ph, .int .i64 o.p.since, .int .i64 o.p.cpu, .int .i64 o.p.mem, .slice qp_lab o.p.lab.length kp_lab, .slice qp_sel o.p.sel.length kp_sel, .slice qp_tol o.p.tol.length kp_tol, .int .i64 o.p.warm]) (by rfl) (LLp.out _ _ _ _ HB1.out) ?_)
      go_wp2
      go_ret
      exact ⟨by rw [HO.out]; rfl, G2.out⟩
    | true =>
      obtain ⟨t2, t3, t4, t5, t_3, t_0⟩ := TP.out
      go_upto_region 12 with (refine wpList_load_by (by kernel_rfl) 31 _ rfl (.pointer (some ⟨B, 10, none⟩)) (.agg #[.string o.p.own, .string o.p.node, .int .i64 o.p.ph, .int .i64 o.p.since, .int .i64 o.p.cpu, .int .i64 o.p.mem, .slice qp_lab o.p.lab.length kp_lab, .slice qp_sel o.p.sel.length kp_sel, .slice qp_tol o.p.tol.length kp_tol, .int .i64 o.p.warm]) (by rfl) (LLp.out _ _ _ _ HB1.out) ?_)
      go_wp2_with fail
      refine (C0.out _).mono ?_
      rintro e w3 ⟨rfl, rfl⟩
      cases p0 with
      | false =>
        go_wp2
        all_goals (go_ret; refine ⟨ret_i ?_, G2.out⟩; go_light; rw [HO.out]; first | rfl | (simp [*]; done) | (simp_all; done))
      | true =>
        go_wp2_with fail
        any_goals (go_ret; refine ⟨ret_i ?_, G2.out⟩; go_light; rw [HO.out]; first | rfl | (simp [*]; done) | (simp_all; done))
        refine (C6.out _ G2.out).mono ?_
        rintro e w3 ⟨rfl, h3⟩
        have K3 := Lib.hid (K2.out.trans h3)
        have G3 := Lib.hid (HX.out _ K3.out).1
        obtain ⟨_, e3_0, e3_1, e3_2, e3_3, e3_4, e3_5, e3_6, e3_7, e3_8, e3_9⟩ := HX.out _ K3.out
        clear h3
        cases p6 with
        | false =>
          go_wp2
          all_goals (go_ret; refine ⟨ret_i ?_, G3.out⟩; go_light; rw [HO.out]; first | rfl | (simp [*]; done) | (simp_all; done))
        | true =>
          go_wp2
          all_goals (go_ret; refine ⟨ret_i ?_, G3.out⟩; go_light; rw [HO.out]; first | rfl | (simp [*]; done) | (simp_all; done))

set_option maxHeartbeats 8000000 in
theorem law1n (w : World) (cs : Array Value) (o : Ob) (hv : ObjV w cs o) (F : FitsO o) (hk : o.kind = 1) (hx : ¬ o.p.node.size = 0) :
    Calls Tryd.prog 6 #[.agg cs] w fun e w' => e = .returned (.int .i64 (rgtE o)) ∧ Gr w w' := by
  have mixed : Tryd.prog.follows .mixedOrders = true := by kernel_rfl
  obtain ⟨B, hB⟩ : ∃ B, B = w.heap.size := ⟨_, rfl⟩
  obtain ⟨wb, hwb⟩ : ∃ wb, wb = w.alloc (.cells cs 44) := ⟨_, rfl⟩
  have G0 : Gr w wb := hwb ▸ (Gr.refl w).alloc _
  have b0 : wb.heap[B]? = some (.cells cs 44 (0, 0)) := by rw [hwb, hB]; exact heap_alloc_new w _
  have HB : Hid (∀ W, Gr wb W → Gr w W ∧ W.heap[B]? = some (.cells cs 44 (0, 0)) ∧ W.cell? ⟨B, 0, none⟩ = some (.int .i64 1)) := fun W g => ⟨G0.trans g, (g.heap (Array.getElem?_eq_some_iff.1 b0).1).trans b0, hk ▸ load_at ((g.heap (Array.getElem?_eq_some_iff.1 b0).1).trans b0) hv.2.1⟩
  obtain ⟨qp_lab, kp_lab, qp_sel, kp_sel, qp_tol, kp_tol, rp_lab, rp_sel, rp_tol, Lp⟩ := load_p hv
  have d1 : wb.cell? ⟨B, 1, none⟩ = some (.string o.name) := load_nm b0 hv.2.1
  have CN := Lib.hid (fun (W : World) => rname_any W o.name (by have := ftT_iff.1 F.name; omega))
  have CE := Lib.hid (fun (W : World) (g : Gr w W) => rempty_any W cs o (hv.below g.below) (by omega) F.lens)
  have LO : Hid ((Instr.loadAt 44 (.pointer (some ⟨B, 0, none⟩))).run Tryd.prog wb = .ok (.agg cs) wb) := load_ob b0 hv.1
  have HO : Hid (rgtE o = if nameB o.name = false then 6 else if (empE o && l_p o) = false then 2 else 0) := by show _ = _; simp [rgtE, lawS, hk]
  unfold l_p at HO
  have C0 := Lib.hid (fun (W : World) => rname_any W o.p.own (by have := ftT_iff.1 F.p_own; omega))
  have em1 : mayB o.p.node = nameB o.p.node := by rw [mayB, decide_eq_false hx, Bool.false_or]
  have te1 : (o.p.node.toList == ([] : List UInt8)) = false := by rw [empty_test, decide_eq_false hx]
  have C1 := Lib.hid (fun (W : World) => rname_any W o.p.node (by have := ftT_iff.1 F.p_node; omega))
  rw [em1] at HO
  clear em1
  have C6 := Lib.hid (fun (W : World) (g : Gr w W) => wants_any W o.p.cpu o.p.mem qp_lab kp_lab o.p.lab (rp_lab.gr g) F.p_lab_n F.p_lab qp_sel kp_sel o.p.sel (rp_sel.gr g) F.p_sel_n F.p_sel qp_tol kp_tol o.p.tol (rp_tol.gr g) F.p_tol_n F.p_tol o.p.warm)
  generalize hb0 : nameB o.p.own = p0 at HO C0
  generalize hb1 : nameB o.p.node = p1 at HO C1
  obtain ⟨p2, t2⟩ : ∃ p, decide (0 ≤ o.p.ph) = p := ⟨_, rfl⟩
  obtain ⟨p3, t3⟩ : ∃ p, decide (o.p.ph ≤ 3) = p := ⟨_, rfl⟩
  obtain ⟨p4, t4⟩ : ∃ p, decide (0 ≤ o.p.since) = p := ⟨_, rfl⟩
  obtain ⟨p5, t5⟩ : ∃ p, decide (o.p.since ≤ 4611686018427387904) = p := ⟨_, rfl⟩
  generalize hb6 : wantsB o.p.cpu o.p.mem o.p.lab o.p.sel o.p.tol o.p.warm = p6 at HO C6
  rw [decide_eq_false hx] at HO
  obtain ⟨p_3, t_3⟩ : ∃ p, (o.p.ph == 3) = p := ⟨_, rfl⟩
  obtain ⟨p_0, t_0⟩ : ∃ p, (o.p.ph == 0) = p := ⟨_, rfl⟩
  rw [t2, t3, t4, t5, t_3, t_0] at HO
  generalize hbn : nameB o.name = bn at HO CN
  generalize hbe : empE o = be at HO CE
  have LLp := Lib.hid Lp
  have HW := Lib.hid (And.intro hwb (And.intro hB G0))
  clear hbn hbe hb0 hb1 hb6 hv F hwb hB b0 G0 hk Lp rp_lab rp_sel rp_tol
  have TP := Lib.hid (⟨t2, t3, t4, t5, t_3, t_0⟩ : decide (0 ≤ o.p.ph) = p2 ∧ decide (o.p.ph ≤ 3) = p3 ∧ decide (0 ≤ o.p.since) = p4 ∧ decide (o.p.since ≤ 4611686018427387904) = p5 ∧ (o.p.ph == 3) = p_3 ∧ (o.p.ph == 0) = p_0)
  clear t2 t3 t4 t5 t_3 t_0
  obtain ⟨_, _, d0⟩ := HB.out _ (Gr.refl _)
  go_enter Tryd.func6, Tryd.ntmps6
  go_upto_region 1 with fail
  rw [← HW.out.1, ← HW.out.2.1]
  go_wp2_with fail
  refine (CN.out _).mono ?_
  rintro e w1 ⟨rfl, rfl⟩
  cases bn with
  | false => (go_wp2; go_ret; exact ⟨by rw [HO.out]; rfl, HW.out.2.2⟩)
  | true =>
    go_wp2_with (refine wpList_load_by (by kernel_rfl) 44 _ rfl (.pointer (some ⟨B, 0, none⟩)) (.agg cs) (by kernel_rfl) LO.out ?_)
    refine (CE.out _ HW.out.2.2).mono ?_
    rintro e w1 ⟨rfl, h1⟩
    have K1 := Lib.hid h1
    obtain ⟨g1, B1, d1'⟩ := HB.out _ K1.out
    have HB1 := Lib.hid B1
    have G1 := Lib.hid g1
    clear h1 B1 g1 d0 d1 LO
    have HX : Hid (∀ (W : World), Gr (w1.alloc (.cells #[.string o.p.own, .string o.p.node, .int .i64 o.p.ph, .int .i64 o.p.since, .int .i64 o.p.cpu, .int .i64 o.p.mem, .slice qp_lab o.p.lab.length kp_lab, .slice qp_sel o.p.sel.length kp_sel, .slice qp_tol o.p.tol.length kp_tol, .int .i64 o.p.warm] 31)) W → Gr w W ∧ W.cell? ⟨w1.heap.size, 0, none⟩ = some (.string o.p.own) ∧ W.cell? ⟨w1.heap.size, 1, none⟩ = some (.string o.p.node) ∧ W.cell? ⟨w1.heap.size, 2, none⟩ = some (.int .i64 o.p.ph) ∧ W.cell? ⟨w1.heap.size, 3, none⟩ = some (.int .i64 o.p.since) ∧ W.cell? ⟨w1.heap.size, 4, none⟩ = some (.int .i64 o.p.cpu) ∧ W.cell? ⟨w1.heap.size, 5, none⟩ = some (.int .i64 o.p.mem) ∧ W.cell? ⟨w1.heap.size, 6, none⟩ = some (.slice qp_lab o.p.lab.length kp_lab) ∧ W.cell? ⟨w1.heap.size, 7, none⟩ = some (.slice qp_sel o.p.sel.length kp_sel) ∧ W.cell? ⟨w1.heap.size, 8, none⟩ = some (.slice qp_tol o.p.tol.length kp_tol) ∧ W.cell? ⟨w1.heap.size, 9, none⟩ = some (.int .i64 o.p.warm)) := fun W g => ⟨(G1.out.trans ((Gr.refl w1).alloc _)).trans g, g.cell (by simp), g.cell (by simp), g.cell (by simp), g.cell (by simp), g.cell (by simp), g.cell (by simp), g.cell (by simp), g.cell (by simp), g.cell (by simp), g.cell (by simp)⟩
    obtain ⟨g2, e0_0, e0_1, e0_2, e0_3, e0_4, e0_5, e0_6, e0_7, e0_8, e0_9⟩ := HX.out _ (Gr.refl _)
    have G2 := Lib.hid g2
    have K2 := Lib.hid (Gr.refl (w1.alloc (.cells #[.string o.p.own, .string o.p.node, .int .i64 o.p.ph, .int .i64 o.p.since, .int .i64 o.p.cpu, .int .i64 o.p.mem, .slice qp_lab o.p.lab.length kp_lab, .slice qp_sel o.p.sel.length kp_sel, .slice qp_tol o.p.tol.length kp_tol, .int .i64 o.p.warm] 31)))
    clear g2
    cases be with
    | false =>
      go_upto_region 12 with (refine wpList_load_by (by kernel_rfl) 31 _ rfl (.pointer (some ⟨B, 10, none⟩)) (.agg #[.string o.p.own, .string o.p.node, .int .i64 o.p.ph, .int .i64 o.p.since, .int .i64 o.p.cpu, .int .i64 o.p.mem, .slice qp_lab o.p.lab.length kp_lab, .slice qp_sel o.p.sel.length kp_sel, .slice qp_tol o.p.tol.length kp_tol, .int .i64 o.p.warm]) (by rfl) (LLp.out _ _ _ _ HB1.out) ?_)
      go_wp2
      go_ret
      exact ⟨by rw [HO.out]; rfl, G2.out⟩
    | true =>
      obtain ⟨t2, t3, t4, t5, t_3, t_0⟩ := TP.out
      go_upto_region 12 with (refine wpList_load_by (by kernel_rfl) 31 _ rfl (.pointer (some ⟨B, 10, none⟩)) (.agg #[.string o.p.own, .string o.p.node, .int .i64 o.p.ph, .int .i64 o.p.since, .int .i64 o.p.cpu, .int .i64 o.p.mem, .slice qp_lab o.p.lab.length kp_lab, .slice qp_sel o.p.sel.length kp_sel, .slice qp_tol o.p.tol.length kp_tol, .int .i64 o.p.warm]) (by rfl) (LLp.out _ _ _ _ HB1.out) ?_)
      go_wp2_with fail
      refine (C0.out _).mono ?_
      rintro e w3 ⟨rfl, rfl⟩
      cases p0 with
      | false =>
        go_wp2
        all_goals (go_ret; refine ⟨ret_i ?_, G2.out⟩; go_light; rw [HO.out]; first | rfl | (simp [*]; done) | (simp_all; done))
      | true =>
        go_wp2_with fail
        refine (C1.out _).mono ?_
        rintro e w3 ⟨rfl, rfl⟩
        cases p1 with
        | false =>
          go_wp2
          all_goals (go_ret; refine ⟨ret_i ?_, G2.out⟩; go_light; rw [HO.out]; first | rfl | (simp [*]; done) | (simp_all; done))
        | true =>
          go_wp2_with fail
          any_goals (go_ret; refine ⟨ret_i ?_, G2.out⟩; go_light; rw [HO.out]; first | rfl | (simp [*]; done) | (simp_all; done))
          refine (C6.out _ G2.out).mono ?_
          rintro e w3 ⟨rfl, h3⟩
          have K3 := Lib.hid (K2.out.trans h3)
          have G3 := Lib.hid (HX.out _ K3.out).1
          obtain ⟨_, e3_0, e3_1, e3_2, e3_3, e3_4, e3_5, e3_6, e3_7, e3_8, e3_9⟩ := HX.out _ K3.out
          clear h3
          cases p6 with
          | false =>
            go_wp2
            all_goals (go_ret; refine ⟨ret_i ?_, G3.out⟩; go_light; rw [HO.out]; first | rfl | (simp [*]; done) | (simp_all; done))
          | true =>
            go_wp2
            all_goals (go_ret; refine ⟨ret_i ?_, G3.out⟩; go_light; rw [HO.out]; first | rfl | (simp [*]; done) | (simp_all; done))

end Go.Proofs.YtbkoepghmcdnhaaDoor
