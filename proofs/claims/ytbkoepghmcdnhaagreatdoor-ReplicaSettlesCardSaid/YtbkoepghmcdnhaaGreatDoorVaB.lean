/- Which workloads, nodes, groups may be: the program. -/
import Derived.Test.YtbkoepghmcdnhaaGreatDoorVaA
import Derived.Deep.DeepCutAuto
namespace Go.Proofs.YtbkoepghmcdnhaaGreatDoor
open Go.RowKit Go.Shelf Go.Lib Go.Sort
set_option linter.unusedVariables false
set_option linter.unusedSimpArgs false
set_option maxRecDepth 20000

def wlC (rep cpu mem : Int) (lab : List Lab) (sel : List Req) (tol_ : List Lab) (warm : Int) : Bool := withinB rep 0 1000000 && resB cpu mem && rightB lab && asksB sel && rightB tol_ && withinB warm 0 1800
def ndC (grp : ByteArray) (cpu mem : Int) (lab tnt : List Lab) (since : Int) : Bool := mayB grp && resB cpu mem && rightB lab && rightB tnt && withinB since 0 4611686018427387904
def gpC (mn mx tgt cpu mem : Int) (lab tnt : List Lab) (prio : Int) : Bool := withinB mx 0 64 && withinB mn 0 mx && withinB tgt mn mx && resB cpu mem && rightB lab && rightB tnt && withinB prio 0 1000

theorem may_any (w : World) (s : ByteArray) (hs : s.size ≤ 9223372036854775807) : Calls Tryz.prog 120 #[.string s] w fun e w' => e = .returned (.bool (mayB s)) ∧ w = w' := by
  have C := Lib.hid (name_any w s hs)
  by_cases h : s.size = 0
  · obtain rfl : s = ⟨#[]⟩ := empty_of h
    clear h C
    go_enter Tryz.func120, Tryz.ntmps120
    go_wp2
    go_ret
    exact ⟨rfl, rfl⟩
  · have e : Hid (mayB s = nameB s) := by show _ = _; rw [mayB, decide_eq_false h, Bool.false_or]
    have ht := bne_empty h
    generalize nameB s = b at C e
    clear h
    go_enter Tryz.func120, Tryz.ntmps120
    go_wp2_with fail
    refine C.out.mono ?_
    rintro e1 w1 ⟨rfl, rfl⟩
    go_wp2
    go_ret
    exact ⟨by rw [e.out]; rfl, rfl⟩

set_option maxHeartbeats 2000000 in
theorem workload_any (w : World) (rep : Int) (cpu : Int) (mem : Int) (q_lab : Option Addr) (k_lab : Nat) (lab : List Lab) (r_lab : RowR 2 encL w q_lab lab) (n_lab : lab.length ≤ 9223372036854775807) (f_lab : lab.all ftL = true) (q_sel : Option Addr) (k_sel : Nat) (sel : List Req) (r_sel : RowR 3 encR w q_sel sel) (n_sel : sel.length ≤ 9223372036854775807) (f_sel : sel.all ftR = true) (q_tol_ : Option Addr) (k_tol_ : Nat) (tol_ : List Lab) (r_tol_ : RowR 2 encL w q_tol_ tol_) (n_tol_ : tol_.length ≤ 9223372036854775807) (f_tol_ : tol_.all ftL = true) (warm : Int) :
    Calls Tryz.prog 88 #[.agg #[.int .i64 rep, .int .i64 cpu, .int .i64 mem, .slice q_lab lab.length k_lab, .slice q_sel sel.length k_sel, .slice q_tol_ tol_.length k_tol_, .int .i64 warm]] w fun e w' => e = .returned (.bool (wlC rep cpu mem lab sel tol_ warm)) ∧ Gr w w' := by
  have mixed : Tryz.prog.follows .mixedOrders = true := by kernel_rfl
  have HO : Hid (wlC rep cpu mem lab sel tol_ warm = (withinB rep 0 1000000 && resB cpu mem && rightB lab && asksB sel && rightB tol_ && withinB warm 0 1800)) := rfl
  have HF : Hid (∀ (W : World), Gr (w.alloc (.cells #[.int .i64 rep, .int .i64 cpu, .int .i64 mem, .slice q_lab lab.length k_lab, .slice q_sel sel.length k_sel, .slice q_tol_ tol_.length k_tol_, .int .i64 warm] 36)) W → Gr w W ∧ W.cell? ⟨w.heap.size, 0, none⟩ = some (.int .i64 rep) ∧ W.cell? ⟨w.heap.size, 1, none⟩ = some (.int .i64 cpu) ∧ W.cell? ⟨w.heap.size, 2, none⟩ = some (.int .i64 mem) ∧ W.cell? ⟨w.heap.size, 3, none⟩ = some (.slice q_lab lab.length k_lab) ∧ W.cell? ⟨w.heap.size, 4, none⟩ = some (.slice q_sel sel.length k_sel) ∧ W.cell? ⟨w.heap.size, 5, none⟩ = some (.slice q_tol_ tol_.length k_tol_) ∧ W.cell? ⟨w.heap.size, 6, none⟩ = some (.int .i64 warm)) := fun W g => ⟨((Gr.refl w).alloc _).trans g, g.cell (by simp), g.cell (by simp), g.cell (by simp), g.cell (by simp), g.cell (by simp), g.cell (by simp), g.cell (by simp)⟩
  have C0 := Lib.hid (fun (W : World) => within_any W rep 0 1000000)
  have C1 := Lib.hid (fun (W : World) (g : Gr w W) => res_any W cpu mem)
  have C2 := Lib.hid (fun (W : World) (g : Gr w W) => right_any W q_lab k_lab lab (r_lab.gr g) n_lab f_lab)
  have C3 := Lib.hid (fun (W : World) (g : Gr w W) => asks_any W q_sel k_sel sel (r_sel.gr g) n_sel f_sel)
  have C4 := Lib.hid (fun (W : World) (g : Gr w W) => right_any W q_tol_ k_tol_ tol_ (r_tol_.gr g) n_tol_ f_tol_)
  have C5 := Lib.hid (fun (W : World) => within_any W warm 0 1800)
  generalize hb0 : (withinB rep 0 1000000 : Bool) = b0 at HO C0
  generalize hb1 : (resB cpu mem : Bool) = b1 at HO C1
  generalize hb2 : (rightB lab : Bool) = b2 at HO C2
  generalize hb3 : (asksB sel : Bool) = b3 at HO C3
  generalize hb4 : (rightB tol_ : Bool) = b4 at HO C4
  generalize hb5 : (withinB warm 0 1800 : Bool) = b5 at HO C5
  clear hb0 hb1 hb2 hb3 hb4 hb5
  clear r_lab n_lab f_lab r_sel n_sel f_sel r_tol_ n_tol_ f_tol_
  obtain ⟨g_0, d_0, d_1, d_2, d_3, d_4, d_5, d_6⟩ := HF.out _ (Gr.refl _)
  have G0 := Lib.hid g_0
  have K0 := Lib.hid (Gr.refl (w.alloc (.cells #[.int .i64 rep, .int .i64 cpu, .int .i64 mem, .slice q_lab lab.length k_lab, .slice q_sel sel.length k_sel, .slice q_tol_ tol_.length k_tol_, .int .i64 warm] 36)))
  clear g_0
  go_enter Tryz.func88, Tryz.ntmps88
  go_wp2_with fail
  refine (C0.out _).mono ?_
  rintro e w1 ⟨rfl, rfl⟩
  cases b0 with
  | false =>
    go_wp2
    go_ret
    exact ⟨by rw [HO.out]; first | rfl | (simp [*]; done) | (simp_all; done), G0.out⟩
  | true =>
    go_wp2_with fail
    refine (C1.out _ G0.out).mono ?_
    rintro e w1 ⟨rfl, h_1⟩
    have K1 := Lib.hid (K0.out.trans h_1)
    have G1 := Lib.hid (HF.out _ K1.out).1
    obtain ⟨_, d1_0, d1_1, d1_2, d1_3, d1_4, d1_5, d1_6⟩ := HF.out _ K1.out
    clear h_1
    cases b1 with
    | false =>
      go_wp2
      go_ret
      exact ⟨by rw [HO.out]; first | rfl | (simp [*]; done) | (simp_all; done), G1.out⟩
    | true =>
      go_wp2_with fail
      refine (C2.out _ G1.out).mono ?_
      rintro e w2 ⟨rfl, h_2⟩
      have K2 := Lib.hid (K1.out.trans h_2)
      have G2 := Lib.hid (HF.out _ K2.out).1
      obtain ⟨_, d2_0, d2_1, d2_2, d2_3, d2_4, d2_5, d2_6⟩ := HF.out _ K2.out
      clear h_2
      cases b2 with
      | false =>
        go_wp2
        go_ret
        exact ⟨by rw [HO.out]; first | rfl | (simp [*]; done) | (simp_all; done), G2.out⟩
      | true =>
        go_wp2_with fail
        refine (C3.out _ G2.out).mono ?_
        rintro e w3 ⟨rfl, h_3⟩
        have K3 := Lib.hid (K2.out.trans h_3)
        have G3 := Lib.hid (HF.out _ K3.out).1
        obtain ⟨_, d3_0, d3_1, d3_2, d3_3, d3_4, d3_5, d3_6⟩ := HF.out _ K3.out
        clear h_3
        cases b3 with
        | false =>
          go_wp2
          go_ret
          exact ⟨by rw [HO.out]; first | rfl | (simp [*]; done) | (simp_all; done), G3.out⟩
        | true =>
          go_wp2_with fail
          refine (C4.out _ G3.out).mono ?_
          rintro e w4 ⟨rfl, h_4⟩
          have K4 := Lib.hid (K3.out.trans h_4)
          have G4 := Lib.hid (HF.out _ K4.out).1
          obtain ⟨_, d4_0, d4_1, d4_2, d4_3, d4_4, d4_5, d4_6⟩ := HF.out _ K4.out
          clear h_4
          cases b4 with
          | false =>
            go_wp2
            go_ret
            exact ⟨by rw [HO.out]; first | rfl | (simp [*]; done) | (simp_all; done), G4.out⟩
          | true =>
            go_wp2_with fail
            refine (C5.out _).mono ?_
            rintro e w1 ⟨rfl, rfl⟩
            go_wp2
            go_ret
            exact ⟨by rw [HO.out]; first | rfl | (simp [*]; done) | (simp_all; done), G4.out⟩

set_option maxHeartbeats 2000000 in
theorem node_any (w : World) (grp : ByteArray) (t_grp : ftT grp = true) (cpu : Int) (mem : Int) (q_lab : Option Addr) (k_lab : Nat) (lab : List Lab) (r_lab : RowR 2 encL w q_lab lab) (n_lab : lab.length ≤ 9223372036854775807) (f_lab : lab.all ftL = true) (q_tnt : Option Addr) (k_tnt : Nat) (tnt : List Lab) (r_tnt : RowR 2 encL w q_tnt tnt) (n_tnt : tnt.length ≤ 9223372036854775807) (f_tnt : tnt.all ftL = true) (since : Int) (closed : Bool) :
    Calls Tryz.prog 90 #[.agg #[.string grp, .int .i64 cpu, .int .i64 mem, .slice q_lab lab.length k_lab, .slice q_tnt tnt.length k_tnt, .int .i64 since, .bool closed]] w fun e w' => e = .returned (.bool (ndC grp cpu mem lab tnt since)) ∧ Gr w w' := by
  have mixed : Tryz.prog.follows .mixedOrders = true := by kernel_rfl
  have HO : Hid (ndC grp cpu mem lab tnt since = (mayB grp && resB cpu mem && rightB lab && rightB tnt && withinB since 0 4611686018427387904)) := rfl
  have HF : Hid (∀ (W : World), Gr (w.alloc (.cells #[.string grp, .int .i64 cpu, .int .i64 mem, .slice q_lab lab.length k_lab, .slice q_tnt tnt.length k_tnt, .int .i64 since, .bool closed] 40)) W → Gr w W ∧ W.cell? ⟨w.heap.size, 0, none⟩ = some (.string grp) ∧ W.cell? ⟨w.heap.size, 1, none⟩ = some (.int .i64 cpu) ∧ W.cell? ⟨w.heap.size, 2, none⟩ = some (.int .i64 mem) ∧ W.cell? ⟨w.heap.size, 3, none⟩ = some (.slice q_lab lab.length k_lab) ∧ W.cell? ⟨w.heap.size, 4, none⟩ = some (.slice q_tnt tnt.length k_tnt) ∧ W.cell? ⟨w.heap.size, 5, none⟩ = some (.int .i64 since) ∧ W.cell? ⟨w.heap.size, 6, none⟩ = some (.bool closed)) := fun W g => ⟨((Gr.refl w).alloc _).trans g, g.cell (by simp), g.cell (by simp), g.cell (by simp), g.cell (by simp), g.cell (by simp), g.cell (by simp), g.cell (by simp)⟩
  have C0 := Lib.hid (fun (W : World) => may_any W grp (by have := ftT_iff.1 t_grp; omega))
  have C1 := Lib.hid (fun (W : World) (g : Gr w W) => res_any W cpu mem)
  have C2 := Lib.hid (fun (W : World) (g : Gr w W) => right_any W q_lab k_lab lab (r_lab.gr g) n_lab f_lab)
  have C3 := Lib.hid (fun (W : World) (g : Gr w W) => right_any W q_tnt k_tnt tnt (r_tnt.gr g) n_tnt f_tnt)
  have C4 := Lib.hid (fun (W : World) => within64_any W since 0 4611686018427387904)
  generalize hb0 : (mayB grp : Bool) = b0 at HO C0
  generalize hb1 : (resB cpu mem : Bool) = b1 at HO C1
  generalize hb2 : (rightB lab : Bool) = b2 at HO C2
  generalize hb3 : (rightB tnt : Bool) = b3 at HO C3
  generalize hb4 : (withinB since 0 4611686018427387904 : Bool) = b4 at HO C4
  clear hb0 hb1 hb2 hb3 hb4
  clear r_lab n_lab f_lab r_tnt n_tnt f_tnt
  obtain ⟨g_0, d_0, d_1, d_2, d_3, d_4, d_5, d_6⟩ := HF.out _ (Gr.refl _)
  have G0 := Lib.hid g_0
  have K0 := Lib.hid (Gr.refl (w.alloc (.cells #[.string grp, .int .i64 cpu, .int .i64 mem, .slice q_lab lab.length k_lab, .slice q_tnt tnt.length k_tnt, .int .i64 since, .bool closed] 40)))
  clear g_0
  go_enter Tryz.func90, Tryz.ntmps90
  go_wp2_with fail
  refine (C0.out _).mono ?_
  rintro e w1 ⟨rfl, rfl⟩
  cases b0 with
  | false =>
    go_wp2
    go_ret
    exact ⟨by rw [HO.out]; first | rfl | (simp [*]; done) | (simp_all; done), G0.out⟩
  | true =>
    go_wp2_with fail
    refine (C1.out _ G0.out).mono ?_
    rintro e w1 ⟨rfl, h_1⟩
    have K1 := Lib.hid (K0.out.trans h_1)
    have G1 := Lib.hid (HF.out _ K1.out).1
    obtain ⟨_, d1_0, d1_1, d1_2, d1_3, d1_4, d1_5, d1_6⟩ := HF.out _ K1.out
    clear h_1
    cases b1 with
    | false =>
      go_wp2
      go_ret
      exact ⟨by rw [HO.out]; first | rfl | (simp [*]; done) | (simp_all; done), G1.out⟩
    | true =>
      go_wp2_with fail
      refine (C2.out _ G1.out).mono ?_
      rintro e w2 ⟨rfl, h_2⟩
      have K2 := Lib.hid (K1.out.trans h_2)
      have G2 := Lib.hid (HF.out _ K2.out).1
      obtain ⟨_, d2_0, d2_1, d2_2, d2_3, d2_4, d2_5, d2_6⟩ := HF.out _ K2.out
      clear h_2
      cases b2 with
      | false =>
        go_wp2
        go_ret
        exact ⟨by rw [HO.out]; first | rfl | (simp [*]; done) | (simp_all; done), G2.out⟩
      | true =>
        go_wp2_with fail
        refine (C3.out _ G2.out).mono ?_
        rintro e w3 ⟨rfl, h_3⟩
        have K3 := Lib.hid (K2.out.trans h_3)
        have G3 := Lib.hid (HF.out _ K3.out).1
        obtain ⟨_, d3_0, d3_1, d3_2, d3_3, d3_4, d3_5, d3_6⟩ := HF.out _ K3.out
        clear h_3
        cases b3 with
        | false =>
          go_wp2
          go_ret
          exact ⟨by rw [HO.out]; first | rfl | (simp [*]; done) | (simp_all; done), G3.out⟩
        | true =>
          go_wp2_with fail
          refine (C4.out _).mono ?_
          rintro e w1 ⟨rfl, rfl⟩
          go_wp2
          go_ret
          exact ⟨by rw [HO.out]; first | rfl | (simp [*]; done) | (simp_all; done), G3.out⟩

set_option maxHeartbeats 2000000 in
theorem group_any (w : World) (mn : Int) (mx : Int) (tgt : Int) (cpu : Int) (mem : Int) (q_lab : Option Addr) (k_lab : Nat) (lab : List Lab) (r_lab : RowR 2 encL w q_lab lab) (n_lab : lab.length ≤ 9223372036854775807) (f_lab : lab.all ftL = true) (q_tnt : Option Addr) (k_tnt : Nat) (tnt : List Lab) (r_tnt : RowR 2 encL w q_tnt tnt) (n_tnt : tnt.length ≤ 9223372036854775807) (f_tnt : tnt.all ftL = true) (prio : Int) :
    Calls Tryz.prog 91 #[.agg #[.int .i64 mn, .int .i64 mx, .int .i64 tgt, .int .i64 cpu, .int .i64 mem, .slice q_lab lab.length k_lab, .slice q_tnt tnt.length k_tnt, .int .i64 prio]] w fun e w' => e = .returned (.bool (gpC mn mx tgt cpu mem lab tnt prio)) ∧ Gr w w' := by
  have mixed : Tryz.prog.follows .mixedOrders = true := by kernel_rfl
  have HO : Hid (gpC mn mx tgt cpu mem lab tnt prio = (withinB mx 0 64 && withinB mn 0 mx && withinB tgt mn mx && resB cpu mem && rightB lab && rightB tnt && withinB prio 0 1000)) := rfl
  have HF : Hid (∀ (W : World), Gr (w.alloc (.cells #[.int .i64 mn, .int .i64 mx, .int .i64 tgt, .int .i64 cpu, .int .i64 mem, .slice q_lab lab.length k_lab, .slice q_tnt tnt.length k_tnt, .int .i64 prio] 42)) W → Gr w W ∧ W.cell? ⟨w.heap.size, 0, none⟩ = some (.int .i64 mn) ∧ W.cell? ⟨w.heap.size, 1, none⟩ = some (.int .i64 mx) ∧ W.cell? ⟨w.heap.size, 2, none⟩ = some (.int .i64 tgt) ∧ W.cell? ⟨w.heap.size, 3, none⟩ = some (.int .i64 cpu) ∧ W.cell? ⟨w.heap.size, 4, none⟩ = some (.int .i64 mem) ∧ W.cell? ⟨w.heap.size, 5, none⟩ = some (.slice q_lab lab.length k_lab) ∧ W.cell? ⟨w.heap.size, 6, none⟩ = some (.slice q_tnt tnt.length k_tnt) ∧ W.cell? ⟨w.heap.size, 7, none⟩ = some (.int .i64 prio)) := fun W g => ⟨((Gr.refl w).alloc _).trans g, g.cell (by simp), g.cell (by simp), g.cell (by simp), g.cell (by simp), g.cell (by simp), g.cell (by simp), g.cell (by simp), g.cell (by simp)⟩
  have C0 := Lib.hid (fun (W : World) => within_any W mx 0 64)
  have C1 := Lib.hid (fun (W : World) => within_any W mn 0 mx)
  have C2 := Lib.hid (fun (W : World) => within_any W tgt mn mx)
  have C3 := Lib.hid (fun (W : World) (g : Gr w W) => res_any W cpu mem)
  have C4 := Lib.hid (fun (W : World) (g : Gr w W) => right_any W q_lab k_lab lab (r_lab.gr g) n_lab f_lab)
  have C5 := Lib.hid (fun (W : World) (g : Gr w W) => right_any W q_tnt k_tnt tnt (r_tnt.gr g) n_tnt f_tnt)
  have C6 := Lib.hid (fun (W : World) => within_any W prio 0 1000)
  generalize hb0 : (withinB mx 0 64 : Bool) = b0 at HO C0
  generalize hb1 : (withinB mn 0 mx : Bool) = b1 at HO C1
  generalize hb2 : (withinB tgt mn mx : Bool) = b2 at HO C2
  generalize hb3 : (resB cpu mem : Bool) = b3 at HO C3
  generalize hb4 : (rightB lab : Bool) = b4 at HO C4
  generalize hb5 : (rightB tnt : Bool) = b5 at HO C5
  generalize hb6 : (withinB prio 0 1000 : Bool) = b6 at HO C6
  clear hb0 hb1 hb2 hb3 hb4 hb5 hb6
  clear r_lab n_lab f_lab r_tnt n_tnt f_tnt
  obtain ⟨g_0, d_0, d_1, d_2, d_3, d_4, d_5, d_6, d_7⟩ := HF.out _ (Gr.refl _)
  have G0 := Lib.hid g_0
  have K0 := Lib.hid (Gr.refl (w.alloc (.cells #[.int .i64 mn, .int .i64 mx, .int .i64 tgt, .int .i64 cpu, .int .i64 mem, .slice q_lab lab.length k_lab, .slice q_tnt tnt.length k_tnt, .int .i64 prio] 42)))
  clear g_0
  go_enter Tryz.func91, Tryz.ntmps91
  go_wp2_with fail
  refine (C0.out _).mono ?_
  rintro e w1 ⟨rfl, rfl⟩
  cases b0 with
  | false =>
    go_wp2
    go_ret
    exact ⟨by rw [HO.out]; first | rfl | (simp [*]; done) | (simp_all; done), G0.out⟩
  | true =>
    go_wp2_with fail
    refine (C1.out _).mono ?_
    rintro e w1 ⟨rfl, rfl⟩
    cases b1 with
    | false =>
      go_wp2
      go_ret
      exact ⟨by rw [HO.out]; first | rfl | (simp [*]; done) | (simp_all; done), G0.out⟩
    | true =>
      go_wp2_with fail
      refine (C2.out _).mono ?_
      rintro e w1 ⟨rfl, rfl⟩
      cases b2 with
      | false =>
        go_wp2
        go_ret
        exact ⟨by rw [HO.out]; first | rfl | (simp [*]; done) | (simp_all; done), G0.out⟩
      | true =>
        go_wp2_with fail
        refine (C3.out _ G0.out).mono ?_
        rintro e w1 ⟨rfl, h_1⟩
        have K1 := Lib.hid (K0.out.trans h_1)
        have G1 := Lib.hid (HF.out _ K1.out).1
        obtain ⟨_, d1_0, d1_1, d1_2, d1_3, d1_4, d1_5, d1_6, d1_7⟩ := HF.out _ K1.out
        clear h_1
        cases b3 with
        | false =>
          go_wp2
          go_ret
          exact ⟨by rw [HO.out]; first | rfl | (simp [*]; done) | (simp_all; done), G1.out⟩
        | true =>
          go_wp2_with fail
          refine (C4.out _ G1.out).mono ?_
          rintro e w2 ⟨rfl, h_2⟩
          have K2 := Lib.hid (K1.out.trans h_2)
          have G2 := Lib.hid (HF.out _ K2.out).1
          obtain ⟨_, d2_0, d2_1, d2_2, d2_3, d2_4, d2_5, d2_6, d2_7⟩ := HF.out _ K2.out
          clear h_2
          cases b4 with
          | false =>
            go_wp2
            go_ret
            exact ⟨by rw [HO.out]; first | rfl | (simp [*]; done) | (simp_all; done), G2.out⟩
          | true =>
            go_wp2_with fail
            refine (C5.out _ G2.out).mono ?_
            rintro e w3 ⟨rfl, h_3⟩
            have K3 := Lib.hid (K2.out.trans h_3)
            have G3 := Lib.hid (HF.out _ K3.out).1
            obtain ⟨_, d3_0, d3_1, d3_2, d3_3, d3_4, d3_5, d3_6, d3_7⟩ := HF.out _ K3.out
            clear h_3
            cases b5 with
            | false =>
              go_wp2
              go_ret
              exact ⟨by rw [HO.out]; first | rfl | (simp [*]; done) | (simp_all; done), G3.out⟩
            | true =>
              go_wp2_with fail
              refine (C6.out _).mono ?_
              rintro e w1 ⟨rfl, rfl⟩
              go_wp2
              go_ret
              exact ⟨by rw [HO.out]; first | rfl | (simp [*]; done) | (simp_all; done), G3.out⟩
end Go.Proofs.YtbkoepghmcdnhaaGreatDoor
