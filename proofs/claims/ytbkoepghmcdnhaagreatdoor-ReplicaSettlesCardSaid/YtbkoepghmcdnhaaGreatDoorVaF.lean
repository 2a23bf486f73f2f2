/- Which pods and Hpas may be: the program. -/
import Derived.Test.YtbkoepghmcdnhaaGreatDoorVaC
import Derived.Test.YtbkoepghmcdnhaaGreatDoorVaS2
namespace Go.Proofs.YtbkoepghmcdnhaaGreatDoor
open Go.RowKit Go.Shelf Go.Lib Go.Sort
set_option linter.unusedVariables false
set_option linter.unusedSimpArgs false
set_option maxRecDepth 20000

def zBh (wi : Int) (pk : Int) (pol : List Pol) : Bool := decide (wi = 0) && decide (pk = 0) && decide (pol.length = 0)
def behC (wi pk : Int) (pol : List Pol) : Bool := withinB wi 0 1800 && withinB pk 0 2 && (withinB pol.length 0 4 && pol.all polB)
def hpC (tg : ByteArray) (mn mx : Int) (met : List Met) (tol uw up : Int) (upol : List Pol) (dw dp : Int) (dpol : List Pol) (past : List Sca) : Bool :=
  nameB tg && withinB mx 1 1000000 && withinB mn 1 mx && (withinB met.length 1 4 && met.all metB) && withinB tol 0 1000 && behC uw up upol && behC dw dp dpol && pastB past
def phaseB (node : ByteArray) (ph : Int) : Bool := if node.size = 0 then (ph == 0) || (ph == 3) else withinB ph 1 3
def pdC (own node : ByteArray) (ph since cpu mem : Int) (lab : List Lab) (sel : List Req) (tol_ : List Lab) (warm : Int) : Bool :=
  nameB own && mayB node && phaseB node ph && withinB since 0 4611686018427387904 && wlC 0 cpu mem lab sel tol_ warm
def zHp (tg : ByteArray) (mn mx : Int) (met : List Met) (tol uw up : Int) (upol : List Pol) (dw dp : Int) (dpol : List Pol) (past : List Sca) : Bool :=
  decide (tg.size = 0) && decide (mn = 0) && decide (mx = 0) && decide (met.length = 0) && decide (tol = 0) && zBh uw up upol && zBh dw dp dpol && decide (past.length = 0)

theorem cell_two (w : World) (a b : Obj) {i : Nat} {v : Value} (h : ((w.alloc a).alloc b).cell? ⟨w.heap.size + 1, i, none⟩ = some v) : ((w.alloc a).alloc b).cell? ⟨w.heap.size + 1, i, none⟩ = some v := h

set_option maxHeartbeats 2000000 in
theorem behavior_any (w : World) (wi : Int) (pk : Int) (q_pol : Option Addr) (k_pol : Nat) (pol : List Pol) (r_pol : RowR 3 encP w q_pol pol) (n_pol : pol.length ≤ 9223372036854775807) :
    Calls Tryz.prog 125 #[.agg #[.int .i64 wi, .int .i64 pk, .slice q_pol pol.length k_pol]] w fun e w' => e = .returned (.bool (behC wi pk pol)) ∧ Gr w w' := by
  have mixed : Tryz.prog.follows .mixedOrders = true := by kernel_rfl
  have HO : Hid (behC wi pk pol = (withinB wi 0 1800 && withinB pk 0 2 && (withinB pol.length 0 4 && pol.all polB))) := rfl
  have HF : Hid (∀ (W : World), Gr (w.alloc (.cells #[.int .i64 wi, .int .i64 pk, .slice q_pol pol.length k_pol] 46)) W → Gr w W ∧ W.cell? ⟨w.heap.size, 0, none⟩ = some (.int .i64 wi) ∧ W.cell? ⟨w.heap.size, 1, none⟩ = some (.int .i64 pk) ∧ W.cell? ⟨w.heap.size, 2, none⟩ = some (.slice q_pol pol.length k_pol)) := fun W g => ⟨((Gr.refl w).alloc _).trans g, g.cell (by simp), g.cell (by simp), g.cell (by simp)⟩
  have C0 := Lib.hid (fun (W : World) => within_any W wi 0 1800)
  have C1 := Lib.hid (fun (W : World) => within_any W pk 0 2)
  have C2 := Lib.hid (fun (W : World) (g : Gr w W) => pol_every W q_pol k_pol pol 0 4 (r_pol.gr g) n_pol)
  generalize hb0 : (withinB wi 0 1800 : Bool) = b0 at HO C0
  generalize hb1 : (withinB pk 0 2 : Bool) = b1 at HO C1
  generalize hb2 : ((withinB pol.length 0 4 && pol.all polB) : Bool) = b2 at HO C2
  clear hb0 hb1 hb2
  clear r_pol n_pol
  obtain ⟨g_0, d_0, d_1, d_2⟩ := HF.out _ (Gr.refl _)
  have G0 := Lib.hid g_0
  have K0 := Lib.hid (Gr.refl (w.alloc (.cells #[.int .i64 wi, .int .i64 pk, .slice q_pol pol.length k_pol] 46)))
  clear g_0
  go_enter Tryz.func125, Tryz.ntmps125
  go_wp2_with fail
  refine (C0.out _).mono ?_
  rintro e w1 ⟨rfl, rfl⟩
  cases b0 with
  | false =>
    go_wp2
    go_ret
    exact ⟨by rw [HO.out]; first | rfl | (simp [*]; done) | (simp_all; done), G0.out⟩
  | true =>
    go_wp2_with fail
    refine (C1.out _).mono ?_
    rintro e w1 ⟨rfl, rfl⟩
    cases b1 with
    | false =>
      go_wp2
      go_ret
      exact ⟨by rw [HO.out]; first | rfl | (simp [*]; done) | (simp_all; done), G0.out⟩
    | true =>
      go_wp2_with fail
      refine (C2.out _ G0.out).mono ?_
      rintro e w1 ⟨rfl, h_1⟩
      have K1 := Lib.hid (K0.out.trans h_1)
      have G1 := Lib.hid (HF.out _ K1.out).1
      clear h_1
      go_wp2
      go_ret
      exact ⟨by rw [HO.out]; first | rfl | (simp [*]; done) | (simp_all; done), G1.out⟩

set_option maxHeartbeats 4000000 in
theorem hpa_any (w : World) (tg : ByteArray) (t_tg : ftT tg = true) (mn : Int) (mx : Int) (q_met : Option Addr) (k_met : Nat) (met : List Met) (r_met : RowR 3 encM w q_met met) (n_met : met.length ≤ 9223372036854775807) (f_met : met.all ftM = true) (tol : Int) (uw : Int) (up : Int) (q_upol : Option Addr) (k_upol : Nat) (upol : List Pol) (r_upol : RowR 3 encP w q_upol upol) (n_upol : upol.length ≤ 9223372036854775807) (dw : Int) (dp : Int) (q_dpol : Option Addr) (k_dpol : Nat) (dpol : List Pol) (r_dpol : RowR 3 encP w q_dpol dpol) (n_dpol : dpol.length ≤ 9223372036854775807) (q_past : Option Addr) (k_past : Nat) (past : List Sca) (r_past : RowR 3 encS w q_past past) (n_past : past.length ≤ 9223372036854775807) :
    Calls Tryz.prog 92 #[.agg #[.string tg, .int .i64 mn, .int .i64 mx, .slice q_met met.length k_met, .int .i64 tol, .int .i64 uw, .int .i64 up, .slice q_upol upol.length k_upol, .int .i64 dw, .int .i64 dp, .slice q_dpol dpol.length k_dpol, .slice q_past past.length k_past]] w fun e w' => e = .returned (.bool (hpC tg mn mx met tol uw up upol dw dp dpol past)) ∧ Gr w w' := by
  have mixed : Tryz.prog.follows .mixedOrders = true := by kernel_rfl
  have HO : Hid (hpC tg mn mx met tol uw up upol dw dp dpol past = (nameB tg && withinB mx 1 1000000 && withinB mn 1 mx && (withinB met.length 1 4 && met.all metB) && withinB tol 0 1000 && behC uw up upol && behC dw dp dpol && pastB past)) := rfl
  have HF : Hid (∀ (W : World), Gr (w.alloc (.cells #[.string tg, .int .i64 mn, .int .i64 mx, .slice q_met met.length k_met, .int .i64 tol, .int .i64 uw, .int .i64 up, .slice q_upol upol.length k_upol, .int .i64 dw, .int .i64 dp, .slice q_dpol dpol.length k_dpol, .slice q_past past.length k_past] 49)) W → Gr w W ∧ W.cell? ⟨w.heap.size, 0, none⟩ = some (.string tg) ∧ W.cell? ⟨w.heap.size, 1, none⟩ = some (.int .i64 mn) ∧ W.cell? ⟨w.heap.size, 2, none⟩ = some (.int .i64 mx) ∧ W.cell? ⟨w.heap.size, 3, none⟩ = some (.slice q_met met.length k_met) ∧ W.cell? ⟨w.heap.size, 4, none⟩ = some (.int .i64 tol) ∧ W.cell? ⟨w.heap.size, 5, none⟩ = some (.int .i64 uw) ∧ W.cell? ⟨w.heap.size, 6, none⟩ = some (.int .i64 up) ∧ W.cell? ⟨w.heap.size, 7, none⟩ = some (.slice q_upol upol.length k_upol) ∧ W.cell? ⟨w.heap.size, 8, none⟩ = some (.int .i64 dw) ∧ W.cell? ⟨w.heap.size, 9, none⟩ = some (.int .i64 dp) ∧ W.cell? ⟨w.heap.size, 10, none⟩ = some (.slice q_dpol dpol.length k_dpol) ∧ W.cell? ⟨w.heap.size, 11, none⟩ = some (.slice q_past past.length k_past)) := fun W g => ⟨((Gr.refl w).alloc _).trans g, g.cell (by simp), g.cell (by simp), g.cell (by simp), g.cell (by simp), g.cell (by simp), g.cell (by simp), g.cell (by simp), g.cell (by simp), g.cell (by simp), g.cell (by simp), g.cell (by simp), g.cell (by simp)⟩
  have C0 := Lib.hid (fun (W : World) => name_any W tg (by have := ftT_iff.1 t_tg; omega))
  have C1 := Lib.hid (fun (W : World) => within_any W mx 1 1000000)
  have C2 := Lib.hid (fun (W : World) => within_any W mn 1 mx)
  have C3 := Lib.hid (fun (W : World) (g : Gr w W) => met_every W q_met k_met met 1 4 (r_met.gr g) n_met f_met)
  have C4 := Lib.hid (fun (W : World) => within_any W tol 0 1000)
  have C5 := Lib.hid (fun (W : World) (g : Gr w W) => behavior_any W uw up q_upol k_upol upol (r_upol.gr g) n_upol)
  have C6 := Lib.hid (fun (W : World) (g : Gr w W) => behavior_any W dw dp q_dpol k_dpol dpol (r_dpol.gr g) n_dpol)
  have C7 := Lib.hid (fun (W : World) (g : Gr w W) => past_any W q_past k_past past (r_past.gr g) n_past)
  generalize hb0 : (nameB tg : Bool) = b0 at HO C0
  generalize hb1 : (withinB mx 1 1000000 : Bool) = b1 at HO C1
  generalize hb2 : (withinB mn 1 mx : Bool) = b2 at HO C2
  generalize hb3 : ((withinB met.length 1 4 && met.all metB) : Bool) = b3 at HO C3
  generalize hb4 : (withinB tol 0 1000 : Bool) = b4 at HO C4
  generalize hb5 : (behC uw up upol : Bool) = b5 at HO C5
  generalize hb6 : (behC dw dp dpol : Bool) = b6 at HO C6
  generalize hb7 : (pastB past : Bool) = b7 at HO C7
  clear hb0 hb1 hb2 hb3 hb4 hb5 hb6 hb7
  clear r_met n_met f_met r_upol n_upol r_dpol n_dpol r_past n_past
  obtain ⟨g_0, d_0, d_1, d_2, d_3, d_4, d_5, d_6, d_7, d_8, d_9, d_10, d_11⟩ := HF.out _ (Gr.refl _)
  have G0 := Lib.hid g_0
  have K0 := Lib.hid (Gr.refl (w.alloc (.cells #[.string tg, .int .i64 mn, .int .i64 mx, .slice q_met met.length k_met, .int .i64 tol, .int .i64 uw, .int .i64 up, .slice q_upol upol.length k_upol, .int .i64 dw, .int .i64 dp, .slice q_dpol dpol.length k_dpol, .slice q_past past.length k_past] 49)))
  clear g_0
  go_enter Tryz.func92, Tryz.ntmps92
  go_wp2_with fail
  refine (C0.out _).mono ?_
  rintro e w1 ⟨rfl, rfl⟩
  cases b0 with
  | false =>
    go_wp2
    go_ret
    exact ⟨by rw [HO.out]; first | rfl | (simp [*]; done) | (simp_all; done), G0.out⟩
  | true =>
    go_wp2_with fail
    refine (C1.out _).mono ?_
    rintro e w1 ⟨rfl, rfl⟩
    cases b1 with
    | false =>
      go_wp2
      go_ret
      exact ⟨by rw [HO.out]; first | rfl | (simp [*]; done) | (simp_all; done), G0.out⟩
    | true =>
      go_wp2_with fail
      refine (C2.out _).mono ?_
      rintro e w1 ⟨rfl, rfl⟩
      cases b2 with
      | false =>
        go_wp2
        go_ret
        exact ⟨by rw [HO.out]; first | rfl | (simp [*]; done) | (simp_all; done), G0.out⟩
      | true =>
        go_wp2_with fail
        refine (C3.out _ G0.out).mono ?_
        rintro e w1 ⟨rfl, h_1⟩
        have K1 := Lib.hid (K0.out.trans h_1)
        have G1 := Lib.hid (HF.out _ K1.out).1
        obtain ⟨_, d1_0, d1_1, d1_2, d1_3, d1_4, d1_5, d1_6, d1_7, d1_8, d1_9, d1_10, d1_11⟩ := HF.out _ K1.out
        clear h_1
        cases b3 with
        | false =>
          go_wp2
          go_ret
          exact ⟨by rw [HO.out]; first | rfl | (simp [*]; done) | (simp_all; done), G1.out⟩
        | true =>
          go_wp2_with fail
          refine (C4.out _).mono ?_
          rintro e w1 ⟨rfl, rfl⟩
          cases b4 with
          | false =>
            go_wp2
            go_ret
            exact ⟨by rw [HO.out]; first | rfl | (simp [*]; done) | (simp_all; done), G1.out⟩
          | true =>
            go_wp2_with fail
            refine (C5.out _ G1.out).mono ?_
            rintro e w2 ⟨rfl, h_2⟩
            have K2 := Lib.hid (K1.out.trans h_2)
            have G2 := Lib.hid (HF.out _ K2.out).1
            obtain ⟨_, d2_0, d2_1, d2_2, d2_3, d2_4, d2_5, d2_6, d2_7, d2_8, d2_9, d2_10, d2_11⟩ := HF.out _ K2.out
            clear h_2
            cases b5 with
            | false =>
              go_wp2
              go_ret
              exact ⟨by rw [HO.out]; first | rfl | (simp [*]; done) | (simp_all; done), G2.out⟩
            | true =>
              go_wp2_with fail
              refine (C6.out _ G2.out).mono ?_
              rintro e w3 ⟨rfl, h_3⟩
              have K3 := Lib.hid (K2.out.trans h_3)
              have G3 := Lib.hid (HF.out _ K3.out).1
              obtain ⟨_, d3_0, d3_1, d3_2, d3_3, d3_4, d3_5, d3_6, d3_7, d3_8, d3_9, d3_10, d3_11⟩ := HF.out _ K3.out
              clear h_3
              cases b6 with
              | false =>
                go_wp2
                go_ret
                exact ⟨by rw [HO.out]; first | rfl | (simp [*]; done) | (simp_all; done), G3.out⟩
              | true =>
                go_wp2_with fail
                refine (C7.out _ G3.out).mono ?_
                rintro e w4 ⟨rfl, h_4⟩
                have K4 := Lib.hid (K3.out.trans h_4)
                have G4 := Lib.hid (HF.out _ K4.out).1
                clear h_4
                go_wp2
                go_ret
                exact ⟨by rw [HO.out]; first | rfl | (simp [*]; done) | (simp_all; done), G4.out⟩

set_option maxHeartbeats 2000000 in
theorem noBehavior_any (w : World) (wi : Int) (pk : Int) (q_pol : Option Addr) (k_pol : Nat) (pol : List Pol) :
    Calls Tryz.prog 116 #[.agg #[.int .i64 wi, .int .i64 pk, .slice q_pol pol.length k_pol]] w fun e w' => e = .returned (.bool (zBh wi pk pol)) ∧ Gr w w' := by
  have HZ : Hid (zBh wi pk pol = (decide (wi = 0) && decide (pk = 0) && decide (pol.length = 0))) := rfl
  have eb_wi : (wi == 0) = decide (wi = 0) := by rw [Bool.eq_iff_iff]; simp
  generalize hb_wi : (decide (wi = 0) : Bool) = b_wi at HZ eb_wi
  have eb_pk : (pk == 0) = decide (pk = 0) := by rw [Bool.eq_iff_iff]; simp
  generalize hb_pk : (decide (pk = 0) : Bool) = b_pk at HZ eb_pk
  have eb_pol : ((pol.length : Int) == 0) = decide (pol.length = 0) := by rw [Bool.eq_iff_iff]; simp
  generalize hb_pol : (decide (pol.length = 0) : Bool) = b_pol at HZ eb_pol
  clear hb_wi hb_pk hb_pol
  generalize pol.length = n_pol at *
  go_enter Tryz.func116, Tryz.ntmps116
  go_wp2
  all_goals
    go_ret
    refine ⟨ret_b ?_, (Gr.refl _).alloc _⟩
    rw [HZ.out]
    go_light
    first | (simp [*]; done) | (simp_all; done)

set_option maxHeartbeats 4000000 in
theorem noHpa_any (w : World) (tg : ByteArray) (t_tg : ftT tg = true) (mn : Int) (mx : Int) (q_met : Option Addr) (k_met : Nat) (met : List Met) (r_met : RowR 3 encM w q_met met) (n_met : met.length ≤ 9223372036854775807) (f_met : met.all ftM = true) (tol : Int) (uw : Int) (up : Int) (q_upol : Option Addr) (k_upol : Nat) (upol : List Pol) (r_upol : RowR 3 encP w q_upol upol) (n_upol : upol.length ≤ 9223372036854775807) (dw : Int) (dp : Int) (q_dpol : Option Addr) (k_dpol : Nat) (dpol : List Pol) (r_dpol : RowR 3 encP w q_dpol dpol) (n_dpol : dpol.length ≤ 9223372036854775807) (q_past : Option Addr) (k_past : Nat) (past : List Sca) (r_past : RowR 3 encS w q_past past) (n_past : past.length ≤ 9223372036854775807) :
    Calls Tryz.prog 87 #[.agg #[.string tg, .int .i64 mn, .int .i64 mx, .slice q_met met.length k_met, .int .i64 tol, .int .i64 uw, .int .i64 up, .slice q_upol upol.length k_upol, .int .i64 dw, .int .i64 dp, .slice q_dpol dpol.length k_dpol, .slice q_past past.length k_past]] w fun e w' => e = .returned (.bool (zHp tg mn mx met tol uw up upol dw dp dpol past)) ∧ Gr w w' := by
  have mixed : Tryz.prog.follows .mixedOrders = true := by kernel_rfl
  have HO : Hid (zHp tg mn mx met tol uw up upol dw dp dpol past = (decide (tg.size = 0) && decide (mn = 0) && decide (mx = 0) && decide (met.length = 0) && decide (tol = 0) && zBh uw up upol && zBh dw dp dpol && decide (past.length = 0))) := rfl
  have HF : Hid (∀ (W : World), Gr (w.alloc (.cells #[.string tg, .int .i64 mn, .int .i64 mx, .slice q_met met.length k_met, .int .i64 tol, .int .i64 uw, .int .i64 up, .slice q_upol upol.length k_upol, .int .i64 dw, .int .i64 dp, .slice q_dpol dpol.length k_dpol, .slice q_past past.length k_past] 49)) W → Gr w W ∧ W.cell? ⟨w.heap.size, 0, none⟩ = some (.string tg) ∧ W.cell? ⟨w.heap.size, 1, none⟩ = some (.int .i64 mn) ∧ W.cell? ⟨w.heap.size, 2, none⟩ = some (.int .i64 mx) ∧ W.cell? ⟨w.heap.size, 3, none⟩ = some (.slice q_met met.length k_met) ∧ W.cell? ⟨w.heap.size, 4, none⟩ = some (.int .i64 tol) ∧ W.cell? ⟨w.heap.size, 5, none⟩ = some (.int .i64 uw) ∧ W.cell? ⟨w.heap.size, 6, none⟩ = some (.int .i64 up) ∧ W.cell? ⟨w.heap.size, 7, none⟩ = some (.slice q_upol upol.length k_upol) ∧ W.cell? ⟨w.heap.size, 8, none⟩ = some (.int .i64 dw) ∧ W.cell? ⟨w.heap.size, 9, none⟩ = some (.int .i64 dp) ∧ W.cell? ⟨w.heap.size, 10, none⟩ = some (.slice q_dpol dpol.length k_dpol) ∧ W.cell? ⟨w.heap.size, 11, none⟩ = some (.slice q_past past.length k_past)) := fun W g => ⟨((Gr.refl w).alloc _).trans g, g.cell (by simp), g.cell (by simp), g.cell (by simp), g.cell (by simp), g.cell (by simp), g.cell (by simp), g.cell (by simp), g.cell (by simp), g.cell (by simp), g.cell (by simp), g.cell (by simp), g.cell (by simp)⟩
  have C0 : (tg.toList == ([] : List UInt8)) = decide (tg.size = 0) := empty_test tg
  have C1 : (mn == 0) = decide (mn = 0) := by rw [Bool.eq_iff_iff]; simp
  have C2 : (mx == 0) = decide (mx = 0) := by rw [Bool.eq_iff_iff]; simp
  have C3 : ((met.length : Int) == 0) = decide (met.length = 0) := by rw [Bool.eq_iff_iff]; simp
  have C4 : (tol == 0) = decide (tol = 0) := by rw [Bool.eq_iff_iff]; simp
  have C5 := Lib.hid (fun (W : World) (g : Gr w W) => noBehavior_any W uw up q_upol k_upol upol)
  have C6 := Lib.hid (fun (W : World) (g : Gr w W) => noBehavior_any W dw dp q_dpol k_dpol dpol)
  have C7 : ((past.length : Int) == 0) = decide (past.length = 0) := by rw [Bool.eq_iff_iff]; simp
  generalize hb0 : (decide (tg.size = 0) : Bool) = b0 at HO C0
  generalize hb1 : (decide (mn = 0) : Bool) = b1 at HO C1
  generalize hb2 : (decide (mx = 0) : Bool) = b2 at HO C2
  generalize hb3 : (decide (met.length = 0) : Bool) = b3 at HO C3
  generalize hb4 : (decide (tol = 0) : Bool) = b4 at HO C4
  generalize hb5 : (zBh uw up upol : Bool) = b5 at HO C5
  generalize hb6 : (zBh dw dp dpol : Bool) = b6 at HO C6
  generalize hb7 : (decide (past.length = 0) : Bool) = b7 at HO C7
  clear hb0 hb1 hb2 hb3 hb4 hb5 hb6 hb7
  clear r_met n_met f_met r_upol n_upol r_dpol n_dpol r_past n_past
  obtain ⟨g_0, d_0, d_1, d_2, d_3, d_4, d_5, d_6, d_7, d_8, d_9, d_10, d_11⟩ := HF.out _ (Gr.refl _)
  have G0 := Lib.hid g_0
  have K0 := Lib.hid (Gr.refl (w.alloc (.cells #[.string tg, .int .i64 mn, .int .i64 mx, .slice q_met met.length k_met, .int .i64 tol, .int .i64 uw, .int .i64 up, .slice q_upol upol.length k_upol, .int .i64 dw, .int .i64 dp, .slice q_dpol dpol.length k_dpol, .slice q_past past.length k_past] 49)))
  clear g_0
  go_enter Tryz.func87, Tryz.ntmps87
  go_wp2_with fail
  any_goals (go_ret; refine ⟨ret_b ?_, G0.out⟩; go_light; rw [HO.out]; first | rfl | (simp [*]; done) | (simp_all; done))
  refine (C5.out _ G0.out).mono ?_
  rintro e w1 ⟨rfl, h_1⟩
  have K1 := Lib.hid (K0.out.trans h_1)
  have G1 := Lib.hid (HF.out _ K1.out).1
  obtain ⟨_, d1_0, d1_1, d1_2, d1_3, d1_4, d1_5, d1_6, d1_7, d1_8, d1_9, d1_10, d1_11⟩ := HF.out _ K1.out
  clear h_1
  cases b5 with
  | false =>
    go_wp2
    go_ret
    exact ⟨by rw [HO.out]; first | rfl | (simp [*]; done) | (simp_all; done), G1.out⟩
  | true =>
    go_wp2_with fail
    refine (C6.out _ G1.out).mono ?_
    rintro e w2 ⟨rfl, h_2⟩
    have K2 := Lib.hid (K1.out.trans h_2)
    have G2 := Lib.hid (HF.out _ K2.out).1
    obtain ⟨_, d2_0, d2_1, d2_2, d2_3, d2_4, d2_5, d2_6, d2_7, d2_8, d2_9, d2_10, d2_11⟩ := HF.out _ K2.out
    clear h_2
    cases b6 with
    | false =>
      go_wp2
      go_ret
      exact ⟨by rw [HO.out]; first | rfl | (simp [*]; done) | (simp_all; done), G2.out⟩
    | true =>
      go_wp2
      all_goals (go_ret; refine ⟨ret_b ?_, G2.out⟩; go_light; rw [HO.out]; first | rfl | (simp [*]; done) | (simp_all; done))

set_option maxHeartbeats 2000000 in
theorem phase_any (w : World) (own node : ByteArray) (ph since cpu mem : Int) (v6 v7 v8 : Value) (warm : Int) :
    Calls Tryz.prog 121 #[.agg #[.string own, .string node, .int .i64 ph, .int .i64 since, .int .i64 cpu, .int .i64 mem, v6, v7, v8, .int .i64 warm]] w fun e w' => e = .returned (.bool (phaseB node ph)) ∧ Gr w w' := by
  have G := Lib.hid ((Gr.refl w).alloc (.cells #[.string own, .string node, .int .i64 ph, .int .i64 since, .int .i64 cpu, .int .i64 mem, v6, v7, v8, .int .i64 warm] 38))
  have C := Lib.hid (fun (W : World) => within_any W ph 1 3)
  by_cases h : node.size = 0
  · have HO : Hid (phaseB node ph = ((ph == 0) || (ph == 3))) := by show _ = _; rw [phaseB, if_pos h]
    obtain rfl := empty_of h
    clear h C
    obtain ⟨b0, h0⟩ : ∃ b, (ph == 0) = b := ⟨_, rfl⟩
    obtain ⟨b3, h3⟩ : ∃ b, (ph == 3) = b := ⟨_, rfl⟩
    rw [h0, h3] at HO
    cases b0 <;> cases b3 <;>
    · go_enter Tryz.func121, Tryz.ntmps121
      go_wp2
      go_ret
      exact ⟨by rw [HO.out]; rfl, (Gr.refl _).alloc _⟩
  · have HO : Hid (phaseB node ph = withinB ph 1 3) := by show _ = _; rw [phaseB, if_neg h]
    have t := bne_empty h
    clear h
    generalize withinB ph 1 3 = b at C HO
    go_enter Tryz.func121, Tryz.ntmps121
    go_wp2_with fail
    refine (C.out _).mono ?_
    rintro e w1 ⟨rfl, rfl⟩
    go_wp2
    go_ret
    exact ⟨by rw [HO.out]; rfl, G.out⟩

set_option maxHeartbeats 4000000 in
theorem pod_any (w : World) (own : ByteArray) (t_own : ftT own = true) (node : ByteArray) (t_node : ftT node = true) (ph : Int) (since : Int) (cpu : Int) (mem : Int) (q_lab : Option Addr) (k_lab : Nat) (lab : List Lab) (r_lab : RowR 2 encL w q_lab lab) (n_lab : lab.length ≤ 9223372036854775807) (f_lab : lab.all ftL = true) (q_sel : Option Addr) (k_sel : Nat) (sel : List Req) (r_sel : RowR 3 encR w q_sel sel) (n_sel : sel.length ≤ 9223372036854775807) (f_sel : sel.all ftR = true) (q_tol_ : Option Addr) (k_tol_ : Nat) (tol_ : List Lab) (r_tol_ : RowR 2 encL w q_tol_ tol_) (n_tol_ : tol_.length ≤ 9223372036854775807) (f_tol_ : tol_.all ftL = true) (warm : Int) :
    Calls Tryz.prog 89 #[.agg #[.string own, .string node, .int .i64 ph, .int .i64 since, .int .i64 cpu, .int .i64 mem, .slice q_lab lab.length k_lab, .slice q_sel sel.length k_sel, .slice q_tol_ tol_.length k_tol_, .int .i64 warm]] w fun e w' => e = .returned (.bool (pdC own node ph since cpu mem lab sel tol_ warm)) ∧ Gr w w' := by
  have mixed : Tryz.prog.follows .mixedOrders = true := by kernel_rfl
  have HO : Hid (pdC own node ph since cpu mem lab sel tol_ warm = (nameB own && mayB node && phaseB node ph && withinB since 0 4611686018427387904 && wlC 0 cpu mem lab sel tol_ warm)) := rfl
  have HF : Hid (∀ (W : World), Gr ((w.alloc (.cells #[.string own, .string node, .int .i64 ph, .int .i64 since, .int .i64 cpu, .int .i64 mem, .slice q_lab lab.length k_lab, .slice q_sel sel.length k_sel, .slice q_tol_ tol_.length k_tol_, .int .i64 warm] 38)).alloc (.cells #[.int .i64 0, .int .i64 cpu, .int .i64 mem, .slice q_lab lab.length k_lab, .slice q_sel sel.length k_sel, .slice q_tol_ tol_.length k_tol_, .int .i64 warm] 36)) W → Gr w W ∧ W.cell? ⟨w.heap.size, 0, none⟩ = some (.string own) ∧ W.cell? ⟨w.heap.size, 1, none⟩ = some (.string node) ∧ W.cell? ⟨w.heap.size, 2, none⟩ = some (.int .i64 ph) ∧ W.cell? ⟨w.heap.size, 3, none⟩ = some (.int .i64 since) ∧ W.cell? ⟨w.heap.size, 4, none⟩ = some (.int .i64 cpu) ∧ W.cell? ⟨w.heap.size, 5, none⟩ = some (.int .i64 mem) ∧ W.cell? ⟨w.heap.size, 6, none⟩ = some (.slice q_lab lab.length k_lab) ∧ W.cell? ⟨w.heap.size, 7, none⟩ = some (.slice q_sel sel.length k_sel) ∧ W.cell? ⟨w.heap.size, 8, none⟩ = some (.slice q_tol_ tol_.length k_tol_) ∧ W.cell? ⟨w.heap.size, 9, none⟩ = some (.int .i64 warm) ∧ W.cell? ⟨w.heap.size + 1, 0, none⟩ = some (.int .i64 0) ∧ W.cell? ⟨w.heap.size + 1, 1, none⟩ = some (.int .i64 cpu) ∧ W.cell? ⟨w.heap.size + 1, 2, none⟩ = some (.int .i64 mem) ∧ W.cell? ⟨w.heap.size + 1, 3, none⟩ = some (.slice q_lab lab.length k_lab) ∧ W.cell? ⟨w.heap.size + 1, 4, none⟩ = some (.slice q_sel sel.length k_sel) ∧ W.cell? ⟨w.heap.size + 1, 5, none⟩ = some (.slice q_tol_ tol_.length k_tol_) ∧ W.cell? ⟨w.heap.size + 1, 6, none⟩ = some (.int .i64 warm)) := fun W g => ⟨(((Gr.refl w).alloc _).alloc _).trans g, g.cell (((Gr.refl _).alloc _).cell (by simp)), g.cell (((Gr.refl _).alloc _).cell (by simp)), g.cell (((Gr.refl _).alloc _).cell (by simp)), g.cell (((Gr.refl _).alloc _).cell (by simp)), g.cell (((Gr.refl _).alloc _).cell (by simp)), g.cell (((Gr.refl _).alloc _).cell (by simp)), g.cell (((Gr.refl _).alloc _).cell (by simp)), g.cell (((Gr.refl _).alloc _).cell (by simp)), g.cell (((Gr.refl _).alloc _).cell (by simp)), g.cell (((Gr.refl _).alloc _).cell (by simp)), g.cell (cell_two w _ _ (by simp)), g.cell (cell_two w _ _ (by simp)), g.cell (cell_two w _ _ (by simp)), g.cell (cell_two w _ _ (by simp)), g.cell (cell_two w _ _ (by simp)), g.cell (cell_two w _ _ (by simp)), g.cell (cell_two w _ _ (by simp))⟩
  have C0 := Lib.hid (fun (W : World) => name_any W own (by have := ftT_iff.1 t_own; omega))
  have C1 := Lib.hid (fun (W : World) => may_any W node (by have := ftT_iff.1 t_node; omega))
  have C2 := Lib.hid (fun (W : World) (g : Gr w W) => phase_any W own node ph since cpu mem (.slice q_lab lab.length k_lab) (.slice q_sel sel.length k_sel) (.slice q_tol_ tol_.length k_tol_) warm)
  have C3 := Lib.hid (fun (W : World) => within64_any W since 0 4611686018427387904)
  have C4 := Lib.hid (fun (W : World) (g : Gr w W) => workload_any W 0 cpu mem q_lab k_lab lab (r_lab.gr g) n_lab f_lab q_sel k_sel sel (r_sel.gr g) n_sel f_sel q_tol_ k_tol_ tol_ (r_tol_.gr g) n_tol_ f_tol_ warm)
  generalize hb0 : (nameB own : Bool) = b0 at HO C0
  generalize hb1 : (mayB node : Bool) = b1 at HO C1
  generalize hb2 : (phaseB node ph : Bool) = b2 at HO C2
  generalize hb3 : (withinB since 0 4611686018427387904 : Bool) = b3 at HO C3
  generalize hb4 : (wlC 0 cpu mem lab sel tol_ warm : Bool) = b4 at HO C4
  clear hb0 hb1 hb2 hb3 hb4
  clear r_lab n_lab f_lab r_sel n_sel f_sel r_tol_ n_tol_ f_tol_
  obtain ⟨g_0, d_0, d_1, d_2, d_3, d_4, d_5, d_6, d_7, d_8, d_9, d_10, d_11, d_12, d_13, d_14, d_15, d_16⟩ := HF.out _ (Gr.refl _)
  have G0 := Lib.hid g_0
  have K0 := Lib.hid (Gr.refl ((w.alloc (.cells #[.string own, .string node, .int .i64 ph, .int .i64 since, .int .i64 cpu, .int .i64 mem, .slice q_lab lab.length k_lab, .slice q_sel sel.length k_sel, .slice q_tol_ tol_.length k_tol_, .int .i64 warm] 38)).alloc (.cells #[.int .i64 0, .int .i64 cpu, .int .i64 mem, .slice q_lab lab.length k_lab, .slice q_sel sel.length k_sel, .slice q_tol_ tol_.length k_tol_, .int .i64 warm] 36)))
  clear g_0
  go_enter Tryz.func89, Tryz.ntmps89
  go_wp2_with fail
  refine (C0.out _).mono ?_
  rintro e w1 ⟨rfl, rfl⟩
  cases b0 with
  | false =>
    go_wp2
    go_ret
    exact ⟨by rw [HO.out]; first | rfl | (simp [*]; done) | (simp_all; done), G0.out⟩
  | true =>
    go_wp2_with fail
    refine (C1.out _).mono ?_
    rintro e w1 ⟨rfl, rfl⟩
    cases b1 with
    | false =>
      go_wp2
      go_ret
      exact ⟨by rw [HO.out]; first | rfl | (simp [*]; done) | (simp_all; done), G0.out⟩
    | true =>
      go_wp2_with fail
      refine (C2.out _ G0.out).mono ?_
      rintro e w1 ⟨rfl, h_1⟩
      have K1 := Lib.hid (K0.out.trans h_1)
      have G1 := Lib.hid (HF.out _ K1.out).1
      obtain ⟨_, d1_0, d1_1, d1_2, d1_3, d1_4, d1_5, d1_6, d1_7, d1_8, d1_9, d1_10, d1_11, d1_12, d1_13, d1_14, d1_15, d1_16⟩ := HF.out _ K1.out
      clear h_1
      cases b2 with
      | false =>
        go_wp2
        go_ret
        exact ⟨by rw [HO.out]; first | rfl | (simp [*]; done) | (simp_all; done), G1.out⟩
      | true =>
        go_wp2_with fail
        refine (C3.out _).mono ?_
        rintro e w1 ⟨rfl, rfl⟩
        cases b3 with
        | false =>
          go_wp2
          go_ret
          exact ⟨by rw [HO.out]; first | rfl | (simp [*]; done) | (simp_all; done), G1.out⟩
        | true =>
          go_wp2_with fail
          refine (C4.out _ G1.out).mono ?_
          rintro e w2 ⟨rfl, h_2⟩
          have K2 := Lib.hid (K1.out.trans h_2)
          have G2 := Lib.hid (HF.out _ K2.out).1
          clear h_2
          go_wp2
          go_ret
          exact ⟨by rw [HO.out]; first | rfl | (simp [*]; done) | (simp_all; done), G2.out⟩
end Go.Proofs.YtbkoepghmcdnhaaGreatDoor
