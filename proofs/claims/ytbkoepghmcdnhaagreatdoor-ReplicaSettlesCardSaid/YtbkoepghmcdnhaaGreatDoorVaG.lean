/- Which objects may be: the program's alone, right, Check. -/
import Derived.Test.YtbkoepghmcdnhaaGreatDoorVaF
import Derived.Test.YtbkoepghmcdnhaaGreatDoorObS
import Derived.Test.YtbkoepghmcdnhaaGreatDoorObX
import Derived.BigRegion
import Derived.Deep.DeepCutAuto
namespace Go.Proofs.YtbkoepghmcdnhaaGreatDoor
open Go.RowKit Go.Shelf Go.Lib Go.Sort
open Go.Joins (cell_of_block unfrozen_of_block block_setCell)
set_option linter.unusedVariables false
set_option linter.unusedSimpArgs false
set_option maxRecDepth 20000

def z_w (o : Ob) : Bool := zWl o.w.rep o.w.cpu o.w.mem o.w.lab o.w.sel o.w.tol o.w.warm
def c_w (o : Ob) : Bool := wlC o.w.rep o.w.cpu o.w.mem o.w.lab o.w.sel o.w.tol o.w.warm
def z_p (o : Ob) : Bool := zPd o.p.own o.p.node o.p.ph o.p.since o.p.cpu o.p.mem o.p.lab o.p.sel o.p.tol o.p.warm
def c_p (o : Ob) : Bool := pdC o.p.own o.p.node o.p.ph o.p.since o.p.cpu o.p.mem o.p.lab o.p.sel o.p.tol o.p.warm
def z_n (o : Ob) : Bool := zNd o.n.grp o.n.cpu o.n.mem o.n.lab o.n.tnt o.n.since o.n.closed
def c_n (o : Ob) : Bool := ndC o.n.grp o.n.cpu o.n.mem o.n.lab o.n.tnt o.n.since
def z_g (o : Ob) : Bool := zGp o.g.mn o.g.mx o.g.tg o.g.cpu o.g.mem o.g.lab o.g.tnt o.g.prio
def c_g (o : Ob) : Bool := gpC o.g.mn o.g.mx o.g.tg o.g.cpu o.g.mem o.g.lab o.g.tnt o.g.prio
def z_h (o : Ob) : Bool := zHp o.h.tg o.h.mn o.h.mx o.h.met o.h.tol o.h.uw o.h.up o.h.upol o.h.dw o.h.dp o.h.dpol o.h.past
def c_h (o : Ob) : Bool := hpC o.h.tg o.h.mn o.h.mx o.h.met o.h.tol o.h.uw o.h.up o.h.upol o.h.dw o.h.dp o.h.dpol o.h.past
def alC (o : Ob) : Bool := (decide (o.kind = 0) || z_w o) && (decide (o.kind = 1) || z_p o) && (decide (o.kind = 2) || z_n o) && (decide (o.kind = 3) || z_g o) && (decide (o.kind = 4) || z_h o)
def shC (o : Ob) : Bool := if o.kind = 0 then c_w o else if o.kind = 1 then c_p o else if o.kind = 2 then c_n o else if o.kind = 3 then c_g o else c_h o
def chkE (o : Ob) : Int := if withinB o.kind 0 4 = false then 17 else if nameB o.name = false then 6 else if alC o = false ∨ shC o = false then 2 else 0

theorem load_at {w : World} {B : Nat} {cs : Array Value} {T : TypeId} {fz : Nat × Nat} {o : Ob} (h : w.heap[B]? = some (.cells cs T fz)) (hv : HdV cs o) : w.cell? ⟨B, 0, none⟩ = some (.int .i64 o.kind) := (cell_of_block h 0).trans hv.1
theorem load_nm {w : World} {B : Nat} {cs : Array Value} {T : TypeId} {fz : Nat × Nat} {o : Ob} (h : w.heap[B]? = some (.cells cs T fz)) (hv : HdV cs o) : w.cell? ⟨B, 1, none⟩ = some (.string o.name) := (cell_of_block h 1).trans hv.2.1

set_option maxHeartbeats 4000000 in
theorem alone0 (w : World) (cs : Array Value) (o : Ob) (hv : ObjV w cs o) (F : FitsO o) (hk : o.kind = 0) :
    Calls Tryz.prog 62 #[.agg cs] w fun e w' => e = .returned (.bool (alC o)) ∧ Gr w w' := by
  have mixed : Tryz.prog.follows .mixedOrders = true := by kernel_rfl
  obtain ⟨B, hB⟩ : ∃ B, B = w.heap.size := ⟨_, rfl⟩
  obtain ⟨wb, hwb⟩ : ∃ wb, wb = w.alloc (.cells cs 51) := ⟨_, rfl⟩
  have G0 : Gr w wb := hwb ▸ (Gr.refl w).alloc _
  have b0 : wb.heap[B]? = some (.cells cs 51 (0, 0)) := by rw [hwb, hB]; exact heap_alloc_new w _
  have HB : Hid (∀ W, Gr wb W → Gr w W ∧ W.heap[B]? = some (.cells cs 51 (0, 0)) ∧ W.cell? ⟨B, 0, none⟩ = some (.int .i64 o.kind)) := fun W g => ⟨G0.trans g, (g.heap (Array.getElem?_eq_some_iff.1 b0).1).trans b0, load_at ((g.heap (Array.getElem?_eq_some_iff.1 b0).1).trans b0) hv.2.1⟩
  obtain ⟨qp_lab, kp_lab, qp_sel, kp_sel, qp_tol, kp_tol, rp_lab, rp_sel, rp_tol, Lp⟩ := load_p hv
  have Cp := Lib.hid (fun (W : World) (g : Gr w W) => noPod_any W o.p.own o.p.node o.p.ph o.p.since o.p.cpu o.p.mem o.p.warm qp_lab kp_lab o.p.lab qp_sel kp_sel o.p.sel qp_tol kp_tol o.p.tol)
  have LLp := Lib.hid Lp
  clear Lp rp_lab rp_sel rp_tol
  obtain ⟨qn_lab, kn_lab, qn_tnt, kn_tnt, rn_lab, rn_tnt, Ln⟩ := load_n hv
  have Cn := Lib.hid (fun (W : World) (g : Gr w W) => noNode_any W o.n.grp o.n.cpu o.n.mem o.n.since o.n.closed qn_lab kn_lab o.n.lab qn_tnt kn_tnt o.n.tnt)
  have LLn := Lib.hid Ln
  clear Ln rn_lab rn_tnt
  obtain ⟨qg_lab, kg_lab, qg_tnt, kg_tnt, rg_lab, rg_tnt, Lg⟩ := load_g hv
  have Cg := Lib.hid (fun (W : World) (g : Gr w W) => noGroup_any W o.g.mn o.g.mx o.g.tg o.g.cpu o.g.mem o.g.prio qg_lab kg_lab o.g.lab qg_tnt kg_tnt o.g.tnt)
  have LLg := Lib.hid Lg
  clear Lg rg_lab rg_tnt
  obtain ⟨qh_met, kh_met, qh_upol, kh_upol, qh_dpol, kh_dpol, qh_past, kh_past, rh_met, rh_upol, rh_dpol, rh_past, Lh⟩ := load_h hv
  have Ch := Lib.hid (fun (W : World) (g : Gr w W) => noHpa_any W o.h.tg F.h_tg o.h.mn o.h.mx qh_met kh_met o.h.met (rh_met.gr g) F.h_met_n F.h_met o.h.tol o.h.uw o.h.up qh_upol kh_upol o.h.upol (rh_upol.gr g) F.h_upol_n o.h.dw o.h.dp qh_dpol kh_dpol o.h.dpol (rh_dpol.gr g) F.h_dpol_n qh_past kh_past o.h.past (rh_past.gr g) F.h_past_n)
  have LLh := Lib.hid Lh
  clear Lh rh_met rh_upol rh_dpol rh_past
  have HW := Lib.hid (And.intro hwb hB)
  have HO : Hid (alC o = (z_p o && z_n o && z_g o && z_h o)) := by show _ = _; simp [alC, hk]
  unfold z_p at HO
  generalize hzp : zPd o.p.own o.p.node o.p.ph o.p.since o.p.cpu o.p.mem o.p.lab o.p.sel o.p.tol o.p.warm = zp at HO Cp
  unfold z_n at HO
  generalize hzn : zNd o.n.grp o.n.cpu o.n.mem o.n.lab o.n.tnt o.n.since o.n.closed = zn at HO Cn
  unfold z_g at HO
  generalize hzg : zGp o.g.mn o.g.mx o.g.tg o.g.cpu o.g.mem o.g.lab o.g.tnt o.g.prio = zg at HO Cg
  unfold z_h at HO
  generalize hzh : zHp o.h.tg o.h.mn o.h.mx o.h.met o.h.tol o.h.uw o.h.up o.h.upol o.h.dw o.h.dp o.h.dpol o.h.past = zh at HO Ch
  clear hzp hzn hzg hzh
  obtain ⟨g0, B0, d0⟩ := HB.out _ (Gr.refl _)
  have K0 := Lib.hid (Gr.refl wb)
  have HG0 := Lib.hid g0
  have HB0 := Lib.hid B0
  rw [hk] at HB d0
  clear hv F g0 B0 hwb hB b0 G0
  go_enter Tryz.func62, Tryz.ntmps62
  go_upto_region 1 with fail
  rw [← HW.out.1, ← HW.out.2]
  go_wp2_with (refine wpList_load_by (by kernel_rfl) 38 _ rfl (.pointer (some ⟨B, 10, none⟩)) (.agg #[.string o.p.own, .string o.p.node, .int .i64 o.p.ph, .int .i64 o.p.since, .int .i64 o.p.cpu, .int .i64 o.p.mem, .slice qp_lab o.p.lab.length kp_lab, .slice qp_sel o.p.sel.length kp_sel, .slice qp_tol o.p.tol.length kp_tol, .int .i64 o.p.warm]) (by rfl) (LLp.out _ _ _ _ HB0.out) ?_)
  refine (Cp.out _ HG0.out).mono ?_
  rintro e w1 ⟨rfl, h1⟩
  have K1 := Lib.hid (K0.out.trans h1)
  obtain ⟨g1, B1, d1⟩ := HB.out _ K1.out
  have HG1 := Lib.hid g1
  have HB1 := Lib.hid B1
  clear g1 B1 h1
  cases zp with
  | false =>
    go_wp2
    go_ret
    exact ⟨by rw [HO.out]; rfl, HG1.out⟩
  | true =>
    go_wp2_with (refine wpList_load_by (by kernel_rfl) 40 _ rfl (.pointer (some ⟨B, 20, none⟩)) (.agg #[.string o.n.grp, .int .i64 o.n.cpu, .int .i64 o.n.mem, .slice qn_lab o.n.lab.length kn_lab, .slice qn_tnt o.n.tnt.length kn_tnt, .int .i64 o.n.since, .bool o.n.closed]) (by rfl) (LLn.out _ _ _ _ HB1.out) ?_)
    refine (Cn.out _ HG1.out).mono ?_
    rintro e w2 ⟨rfl, h2⟩
    have K2 := Lib.hid (K1.out.trans h2)
    obtain ⟨g2, B2, d2⟩ := HB.out _ K2.out
    have HG2 := Lib.hid g2
    have HB2 := Lib.hid B2
    clear g2 B2 h2
    cases zn with
    | false =>
      go_wp2
      go_ret
      exact ⟨by rw [HO.out]; rfl, HG2.out⟩
    | true =>
      go_wp2_with (refine wpList_load_by (by kernel_rfl) 42 _ rfl (.pointer (some ⟨B, 27, none⟩)) (.agg #[.int .i64 o.g.mn, .int .i64 o.g.mx, .int .i64 o.g.tg, .int .i64 o.g.cpu, .int .i64 o.g.mem, .slice qg_lab o.g.lab.length kg_lab, .slice qg_tnt o.g.tnt.length kg_tnt, .int .i64 o.g.prio]) (by rfl) (LLg.out _ _ _ _ HB2.out) ?_)
      refine (Cg.out _ HG2.out).mono ?_
      rintro e w3 ⟨rfl, h3⟩
      have K3 := Lib.hid (K2.out.trans h3)
      obtain ⟨g3, B3, d3⟩ := HB.out _ K3.out
      have HG3 := Lib.hid g3
      have HB3 := Lib.hid B3
      clear g3 B3 h3
      cases zg with
      | false =>
        go_wp2
        go_ret
        exact ⟨by rw [HO.out]; rfl, HG3.out⟩
      | true =>
        go_wp2_with (refine wpList_load_by (by kernel_rfl) 49 _ rfl (.pointer (some ⟨B, 35, none⟩)) (.agg #[.string o.h.tg, .int .i64 o.h.mn, .int .i64 o.h.mx, .slice qh_met o.h.met.length kh_met, .int .i64 o.h.tol, .int .i64 o.h.uw, .int .i64 o.h.up, .slice qh_upol o.h.upol.length kh_upol, .int .i64 o.h.dw, .int .i64 o.h.dp, .slice qh_dpol o.h.dpol.length kh_dpol, .slice qh_past o.h.past.length kh_past]) (by rfl) (LLh.out _ _ _ _ HB3.out) ?_)
        refine (Ch.out _ HG3.out).mono ?_
        rintro e w4 ⟨rfl, h4⟩
        have K4 := Lib.hid (K3.out.trans h4)
        obtain ⟨g4, B4, d4⟩ := HB.out _ K4.out
        have HG4 := Lib.hid g4
        have HB4 := Lib.hid B4
        clear g4 B4 h4
        cases zh <;>
        · go_wp2
          go_ret
          exact ⟨by rw [HO.out]; rfl, HG4.out⟩

set_option maxHeartbeats 4000000 in
theorem alone1 (w : World) (cs : Array Value) (o : Ob) (hv : ObjV w cs o) (F : FitsO o) (hk : o.kind = 1) :
    Calls Tryz.prog 62 #[.agg cs] w fun e w' => e = .returned (.bool (alC o)) ∧ Gr w w' := by
  have mixed : Tryz.prog.follows .mixedOrders = true := by kernel_rfl
  obtain ⟨B, hB⟩ : ∃ B, B = w.heap.size := ⟨_, rfl⟩
  obtain ⟨wb, hwb⟩ : ∃ wb, wb = w.alloc (.cells cs 51) := ⟨_, rfl⟩
  have G0 : Gr w wb := hwb ▸ (Gr.refl w).alloc _
  have b0 : wb.heap[B]? = some (.cells cs 51 (0, 0)) := by rw [hwb, hB]; exact heap_alloc_new w _
  have HB : Hid (∀ W, Gr wb W → Gr w W ∧ W.heap[B]? = some (.cells cs 51 (0, 0)) ∧ W.cell? ⟨B, 0, none⟩ = some (.int .i64 o.kind)) := fun W g => ⟨G0.trans g, (g.heap (Array.getElem?_eq_some_iff.1 b0).1).trans b0, load_at ((g.heap (Array.getElem?_eq_some_iff.1 b0).1).trans b0) hv.2.1⟩
  obtain ⟨qw_lab, kw_lab, qw_sel, kw_sel, qw_tol, kw_tol, rw_lab, rw_sel, rw_tol, Lw⟩ := load_w hv
  have Cw := Lib.hid (fun (W : World) (g : Gr w W) => noWorkload_any W o.w.rep o.w.cpu o.w.mem o.w.warm qw_lab kw_lab o.w.lab qw_sel kw_sel o.w.sel qw_tol kw_tol o.w.tol)
  have LLw := Lib.hid Lw
  clear Lw rw_lab rw_sel rw_tol
  obtain ⟨qn_lab, kn_lab, qn_tnt, kn_tnt, rn_lab, rn_tnt, Ln⟩ := load_n hv
  have Cn := Lib.hid (fun (W : World) (g : Gr w W) => noNode_any W o.n.grp o.n.cpu o.n.mem o.n.since o.n.closed qn_lab kn_lab o.n.lab qn_tnt kn_tnt o.n.tnt)
  have LLn := Lib.hid Ln
  clear Ln rn_lab rn_tnt
  obtain ⟨qg_lab, kg_lab, qg_tnt, kg_tnt, rg_lab, rg_tnt, Lg⟩ := load_g hv
  have Cg := Lib.hid (fun (W : World) (g : Gr w W) => noGroup_any W o.g.mn o.g.mx o.g.tg o.g.cpu o.g.mem o.g.prio qg_lab kg_lab o.g.lab qg_tnt kg_tnt o.g.tnt)
  have LLg := Lib.hid Lg
  clear Lg rg_lab rg_tnt
  obtain ⟨qh_met, kh_met, qh_upol, kh_upol, qh_dpol, kh_dpol, qh_past, kh_past, rh_met, rh_upol, rh_dpol, rh_past, Lh⟩ := load_h hv
  have Ch := Lib.hid (fun (W : World) (g : Gr w W) => noHpa_any W o.h.tg F.h_tg o.h.mn o.h.mx qh_met kh_met o.h.met (rh_met.gr g) F.h_met_n F.h_met o.h.tol o.h.uw o.h.up qh_upol kh_upol o.h.upol (rh_upol.gr g) F.h_upol_n o.h.dw o.h.dp qh_dpol kh_dpol o.h.dpol (rh_dpol.gr g) F.h_dpol_n qh_past kh_past o.h.past (rh_past.gr g) F.h_past_n)
  have LLh := Lib.hid Lh
  clear Lh rh_met rh_upol rh_dpol rh_past
  have HW := Lib.hid (And.intro hwb hB)
  have HO : Hid (alC o = (z_w o && z_n o && z_g o && z_h o)) := by show _ = _; simp [alC, hk]
  unfold z_w at HO
  generalize hzw : zWl o.w.rep o.w.cpu o.w.mem o.w.lab o.w.sel o.w.tol o.w.warm = zw at HO Cw
  unfold z_n at HO
  generalize hzn : zNd o.n.grp o.n.cpu o.n.mem o.n.lab o.n.tnt o.n.since o.n.closed = zn at HO Cn
  unfold z_g at HO
  generalize hzg : zGp o.g.mn o.g.mx o.g.tg o.g.cpu o.g.mem o.g.lab o.g.tnt o.g.prio = zg at HO Cg
  unfold z_h at HO
  generalize hzh : zHp o.h.tg o.h.mn o.h.mx o.h.met o.h.tol o.h.uw o.h.up o.h.upol o.h.dw o.h.dp o.h.dpol o.h.past = zh at HO Ch
  clear hzw hzn hzg hzh
  obtain ⟨g0, B0, d0⟩ := HB.out _ (Gr.refl _)
  have K0 := Lib.hid (Gr.refl wb)
  have HG0 := Lib.hid g0
  have HB0 := Lib.hid B0
  rw [hk] at HB d0
  clear hv F g0 B0 hwb hB b0 G0
  go_enter Tryz.func62, Tryz.ntmps62
  go_upto_region 1 with fail
  rw [← HW.out.1, ← HW.out.2]
  go_wp2_with (refine wpList_load_by (by kernel_rfl) 36 _ rfl (.pointer (some ⟨B, 3, none⟩)) (.agg #[.int .i64 o.w.rep, .int .i64 o.w.cpu, .int .i64 o.w.mem, .slice qw_lab o.w.lab.length kw_lab, .slice qw_sel o.w.sel.length kw_sel, .slice qw_tol o.w.tol.length kw_tol, .int .i64 o.w.warm]) (by rfl) (LLw.out _ _ _ _ HB0.out) ?_)
  refine (Cw.out _ HG0.out).mono ?_
  rintro e w1 ⟨rfl, h1⟩
  have K1 := Lib.hid (K0.out.trans h1)
  obtain ⟨g1, B1, d1⟩ := HB.out _ K1.out
  have HG1 := Lib.hid g1
  have HB1 := Lib.hid B1
  clear g1 B1 h1
  cases zw with
  | false =>
    go_wp2
    go_ret
    exact ⟨by rw [HO.out]; rfl, HG1.out⟩
  | true =>
    go_wp2_with (refine wpList_load_by (by kernel_rfl) 40 _ rfl (.pointer (some ⟨B, 20, none⟩)) (.agg #[.string o.n.grp, .int .i64 o.n.cpu, .int .i64 o.n.mem, .slice qn_lab o.n.lab.length kn_lab, .slice qn_tnt o.n.tnt.length kn_tnt, .int .i64 o.n.since, .bool o.n.closed]) (by rfl) (LLn.out _ _ _ _ HB1.out) ?_)
    refine (Cn.out _ HG1.out).mono ?_
    rintro e w2 ⟨rfl, h2⟩
    have K2 := Lib.hid (K1.out.trans h2)
    obtain ⟨g2, B2, d2⟩ := HB.out _ K2.out
    have HG2 := Lib.hid g2
    have HB2 := Lib.hid B2
    clear g2 B2 h2
    cases zn with
    | false =>
      go_wp2
      go_ret
      exact ⟨by rw [HO.out]; rfl, HG2.out⟩
    | true =>
      go_wp2_with (refine wpList_load_by (by kernel_rfl) 42 _ rfl (.pointer (some ⟨B, 27, none⟩)) (.agg #[.int .i64 o.g.mn, .int .i64 o.g.mx, .int .i64 o.g.tg, .int .i64 o.g.cpu, .int .i64 o.g.mem, .slice qg_lab o.g.lab.length kg_lab, .slice qg_tnt o.g.tnt.length kg_tnt, .int .i64 o.g.prio]) (by rfl) (LLg.out _ _ _ _ HB2.out) ?_)
      refine (Cg.out _ HG2.out).mono ?_
      rintro e w3 ⟨rfl, h3⟩
      have K3 := Lib.hid (K2.out.trans h3)
      obtain ⟨g3, B3, d3⟩ := HB.out _ K3.out
      have HG3 := Lib.hid g3
      have HB3 := Lib.hid B3
      clear g3 B3 h3
      cases zg with
      | false =>
        go_wp2
        go_ret
        exact ⟨by rw [HO.out]; rfl, HG3.out⟩
      | true =>
        go_wp2_with (refine wpList_load_by (by kernel_rfl) 49 _ rfl (.pointer (some ⟨B, 35, none⟩)) (.agg #[.string o.h.tg, .int .i64 o.h.mn, .int .i64 o.h.mx, .slice qh_met o.h.met.length kh_met, .int .i64 o.h.tol, .int .i64 o.h.uw, .int .i64 o.h.up, .slice qh_upol o.h.upol.length kh_upol, .int .i64 o.h.dw, .int .i64 o.h.dp, .slice qh_dpol o.h.dpol.length kh_dpol, .slice qh_past o.h.past.length kh_past]) (by rfl) (LLh.out _ _ _ _ HB3.out) ?_)
        refine (Ch.out _ HG3.out).mono ?_
        rintro e w4 ⟨rfl, h4⟩
        have K4 := Lib.hid (K3.out.trans h4)
        obtain ⟨g4, B4, d4⟩ := HB.out _ K4.out
        have HG4 := Lib.hid g4
        have HB4 := Lib.hid B4
        clear g4 B4 h4
        cases zh <;>
        · go_wp2
          go_ret
          exact ⟨by rw [HO.out]; rfl, HG4.out⟩

set_option maxHeartbeats 4000000 in
theorem alone2 (w : World) (cs : Array Value) (o : Ob) (hv : ObjV w cs o) (F : FitsO o) (hk : o.kind = 2) :
    Calls Tryz.prog 62 #[.agg cs] w fun e w' => e = .returned (.bool (alC o)) ∧ Gr w w' := by
  have mixed : Tryz.prog.follows .mixedOrders = true := by kernel_rfl
  obtain ⟨B, hB⟩ : ∃ B, B = w.heap.size := ⟨_, rfl⟩
  obtain ⟨wb, hwb⟩ : ∃ wb, wb = w.alloc (.cells cs 51) := ⟨_, rfl⟩
  have G0 : Gr w wb := hwb ▸ (Gr.refl w).alloc _
  have b0 : wb.heap[B]? = some (.cells cs 51 (0, 0)) := by rw [hwb, hB]; exact heap_alloc_new w _
  have HB : Hid (∀ W, Gr wb W → Gr w W ∧ W.heap[B]? = some (.cells cs 51 (0, 0)) ∧ W.cell? ⟨B, 0, none⟩ = some (.int .i64 o.kind)) := fun W g => ⟨G0.trans g, (g.heap (Array.getElem?_eq_some_iff.1 b0).1).trans b0, load_at ((g.heap (Array.getElem?_eq_some_iff.1 b0).1).trans b0) hv.2.1⟩
  obtain ⟨qw_lab, kw_lab, qw_sel, kw_sel, qw_tol, kw_tol, rw_lab, rw_sel, rw_tol, Lw⟩ := load_w hv
  have Cw := Lib.hid (fun (W : World) (g : Gr w W) => noWorkload_any W o.w.rep o.w.cpu o.w.mem o.w.warm qw_lab kw_lab o.w.lab qw_sel kw_sel o.w.sel qw_tol kw_tol o.w.tol)
  have LLw := Lib.hid Lw
  clear Lw rw_lab rw_sel rw_tol
  obtain ⟨qp_lab, kp_lab, qp_sel, kp_sel, qp_tol, kp_tol, rp_lab, rp_sel, rp_tol, Lp⟩ := load_p hv
  have Cp := Lib.hid (fun (W : World) (g : Gr w W) => noPod_any W o.p.own o.p.node o.p.ph o.p.since o.p.cpu o.p.mem o.p.warm qp_lab kp_lab o.p.lab qp_sel kp_sel o.p.sel qp_tol kp_tol o.p.tol)
  have LLp := Lib.hid Lp
  clear Lp rp_lab rp_sel rp_tol
  obtain ⟨qg_lab, kg_lab, qg_tnt, kg_tnt, rg_lab, rg_tnt, Lg⟩ := load_g hv
  have Cg := Lib.hid (fun (W : World) (g : Gr w W) => noGroup_any W o.g.mn o.g.mx o.g.tg o.g.cpu o.g.mem o.g.prio qg_lab kg_lab o.g.lab qg_tnt kg_tnt o.g.tnt)
  have LLg := Lib.hid Lg
  clear Lg rg_lab rg_tnt
  obtain ⟨qh_met, kh_met, qh_upol, kh_upol, qh_dpol, kh_dpol, qh_past, kh_past, rh_met, rh_upol, rh_dpol, rh_past, Lh⟩ := load_h hv
  have Ch := Lib.hid (fun (W : World) (g : Gr w W) => noHpa_any W o.h.tg F.h_tg o.h.mn o.h.mx qh_met kh_met o.h.met (rh_met.gr g) F.h_met_n F.h_met o.h.tol o.h.uw o.h.up qh_upol kh_upol o.h.upol (rh_upol.gr g) F.h_upol_n o.h.dw o.h.dp qh_dpol kh_dpol o.h.dpol (rh_dpol.gr g) F.h_dpol_n qh_past kh_past o.h.past (rh_past.gr g) F.h_past_n)
  have LLh := Lib.hid Lh
  clear Lh rh_met rh_upol rh_dpol rh_past
  have HW := Lib.hid (And.intro hwb hB)
  have HO : Hid (alC o = (z_w o && z_p o && z_g o && z_h o)) := by show _ = _; simp [alC, hk]
  unfold z_w at HO
  generalize hzw : zWl o.w.rep o.w.cpu o.w.mem o.w.lab o.w.sel o.w.tol o.w.warm = zw at HO Cw
  unfold z_p at HO
  generalize hzp : zPd o.p.own o.p.node o.p.ph o.p.since o.p.cpu o.p.mem o.p.lab o.p.sel o.p.tol o.p.warm = zp at HO Cp
  unfold z_g at HO
  generalize hzg : zGp o.g.mn o.g.mx o.g.tg o.g.cpu o.g.mem o.g.lab o.g.tnt o.g.prio = zg at HO Cg
  unfold z_h at HO
  generalize hzh : zHp o.h.tg o.h.mn o.h.mx o.h.met o.h.tol o.h.uw o.h.up o.h.upol o.h.dw o.h.dp o.h.dpol o.h.past = zh at HO Ch
  clear hzw hzp hzg hzh
  obtain ⟨g0, B0, d0⟩ := HB.out _ (Gr.refl _)
  have K0 := Lib.hid (Gr.refl wb)
  have HG0 := Lib.hid g0
  have HB0 := Lib.hid B0
  rw [hk] at HB d0
  clear hv F g0 B0 hwb hB b0 G0
  go_enter Tryz.func62, Tryz.ntmps62
  go_upto_region 1 with fail
  rw [← HW.out.1, ← HW.out.2]
  go_wp2_with (refine wpList_load_by (by kernel_rfl) 36 _ rfl (.pointer (some ⟨B, 3, none⟩)) (.agg #[.int .i64 o.w.rep, .int .i64 o.w.cpu, .int .i64 o.w.mem, .slice qw_lab o.w.lab.length kw_lab, .slice qw_sel o.w.sel.length kw_sel, .slice qw_tol o.w.tol.length kw_tol, .int .i64 o.w.warm]) (by rfl) (LLw.out _ _ _ _ HB0.out) ?_)
  refine (Cw.out _ HG0.out).mono ?_
  rintro e w1 ⟨rfl, h1⟩
  have K1 := Lib.hid (K0.out.trans h1)
  obtain ⟨g1, B1, d1⟩ := HB.out _ K1.out
  have HG1 := Lib.hid g1
  have HB1 := Lib.hid B1
  clear g1 B1 h1
  cases zw with
  | false =>
    go_wp2
    go_ret
    exact ⟨by rw [HO.out]; rfl, HG1.out⟩
  | true =>
    go_wp2_with (refine wpList_load_by (by kernel_rfl) 38 _ rfl (.pointer (some ⟨B, 10, none⟩)) (.agg #[.string o.p.own, .string o.p.node, .int .i64 o.p.ph, .int .i64 o.p.since, .int .i64 o.p.cpu, .int .i64 o.p.mem, .slice qp_lab o.p.lab.length kp_lab, .slice qp_sel o.p.sel.length kp_sel, .slice qp_tol o.p.tol.length kp_tol, .int .i64 o.p.warm]) (by rfl) (LLp.out _ _ _ _ HB1.out) ?_)
    refine (Cp.out _ HG1.out).mono ?_
    rintro e w2 ⟨rfl, h2⟩
    have K2 := Lib.hid (K1.out.trans h2)
    obtain ⟨g2, B2, d2⟩ := HB.out _ K2.out
    have HG2 := Lib.hid g2
    have HB2 := Lib.hid B2
    clear g2 B2 h2
    cases zp with
    | false =>
      go_wp2
      go_ret
      exact ⟨by rw [HO.out]; rfl, HG2.out⟩
    | true =>
      go_wp2_with (refine wpList_load_by (by kernel_rfl) 42 _ rfl (.pointer (some ⟨B, 27, none⟩)) (.agg #[.int .i64 o.g.mn, .int .i64 o.g.mx, .int .i64 o.g.tg, .int .i64 o.g.cpu, .int .i64 o.g.mem, .slice qg_lab o.g.lab.length kg_lab, .slice qg_tnt o.g.tnt.length kg_tnt, .int .i64 o.g.prio]) (by rfl) (LLg.out _ _ _ _ HB2.out) ?_)
      refine (Cg.out _ HG2.out).mono ?_
      rintro e w3 ⟨rfl, h3⟩
      have K3 := Lib.hid (K2.out.trans h3)
      obtain ⟨g3, B3, d3⟩ := HB.out _ K3.out
      have HG3 := Lib.hid g3
      have HB3 := Lib.hid B3
      clear g3 B3 h3
      cases zg with
      | false =>
        go_wp2
        go_ret
        exact ⟨by rw [HO.out]; rfl, HG3.out⟩
      | true =>
        go_wp2_with (refine wpList_load_by (by kernel_rfl) 49 _ rfl (.pointer (some ⟨B, 35, none⟩)) (.agg #[.string o.h.tg, .int .i64 o.h.mn, .int .i64 o.h.mx, .slice qh_met o.h.met.length kh_met, .int .i64 o.h.tol, .int .i64 o.h.uw, .int .i64 o.h.up, .slice qh_upol o.h.upol.length kh_upol, .int .i64 o.h.dw, .int .i64 o.h.dp, .slice qh_dpol o.h.dpol.length kh_dpol, .slice qh_past o.h.past.length kh_past]) (by rfl) (LLh.out _ _ _ _ HB3.out) ?_)
        refine (Ch.out _ HG3.out).mono ?_
        rintro e w4 ⟨rfl, h4⟩
        have K4 := Lib.hid (K3.out.trans h4)
        obtain ⟨g4, B4, d4⟩ := HB.out _ K4.out
        have HG4 := Lib.hid g4
        have HB4 := Lib.hid B4
        clear g4 B4 h4
        cases zh <;>
        · go_wp2
          go_ret
          exact ⟨by rw [HO.out]; rfl, HG4.out⟩

set_option maxHeartbeats 4000000 in
theorem alone3 (w : World) (cs : Array Value) (o : Ob) (hv : ObjV w cs o) (F : FitsO o) (hk : o.kind = 3) :
    Calls Tryz.prog 62 #[.agg cs] w fun e w' => e = .returned (.bool (alC o)) ∧ Gr w w' := by
  have mixed : Tryz.prog.follows .mixedOrders = true := by kernel_rfl
  obtain ⟨B, hB⟩ : ∃ B, B = w.heap.size := ⟨_, rfl⟩
  obtain ⟨wb, hwb⟩ : ∃ wb, wb = w.alloc (.cells cs 51) := ⟨_, rfl⟩
  have G0 : Gr w wb := hwb ▸ (Gr.refl w).alloc _
  have b0 : wb.heap[B]? = some (.cells cs 51 (0, 0)) := by rw [hwb, hB]; exact heap_alloc_new w _
  have HB : Hid (∀ W, Gr wb W → Gr w W ∧ W.heap[B]? = some (.cells cs 51 (0, 0)) ∧ W.cell? ⟨B, 0, none⟩ = some (.int .i64 o.kind)) := fun W g => ⟨G0.trans g, (g.heap (Array.getElem?_eq_some_iff.1 b0).1).trans b0, load_at ((g.heap (Array.getElem?_eq_some_iff.1 b0).1).trans b0) hv.2.1⟩
  obtain ⟨qw_lab, kw_lab, qw_sel, kw_sel, qw_tol, kw_tol, rw_lab, rw_sel, rw_tol, Lw⟩ := load_w hv
  have Cw := Lib.hid (fun (W : World) (g : Gr w W) => noWorkload_any W o.w.rep o.w.cpu o.w.mem o.w.warm qw_lab kw_lab o.w.lab qw_sel kw_sel o.w.sel qw_tol kw_tol o.w.tol)
  have LLw := Lib.hid Lw
  clear Lw rw_lab rw_sel rw_tol
  obtain ⟨qp_lab, kp_lab, qp_sel, kp_sel, qp_tol, kp_tol, rp_lab, rp_sel, rp_tol, Lp⟩ := load_p hv
  have Cp := Lib.hid (fun (W : World) (g : Gr w W) => noPod_any W o.p.own o.p.node o.p.ph o.p.since o.p.cpu o.p.mem o.p.warm qp_lab kp_lab o.p.lab qp_sel kp_sel o.p.sel qp_tol kp_tol o.p.tol)
  have LLp := Lib.hid Lp
  clear Lp rp_lab rp_sel rp_tol
  obtain ⟨qn_lab, kn_lab, qn_tnt, kn_tnt, rn_lab, rn_tnt, Ln⟩ := load_n hv
  have Cn := Lib.hid (fun (W : World) (g : Gr w W) => noNode_any W o.n.grp o.n.cpu o.n.mem o.n.since o.n.closed qn_lab kn_lab o.n.lab qn_tnt kn_tnt o.n.tnt)
  have LLn := Lib.hid Ln
  clear Ln rn_lab rn_tnt
  obtain ⟨qh_met, kh_met, qh_upol, kh_upol, qh_dpol, kh_dpol, qh_past, kh_past, rh_met, rh_upol, rh_dpol, rh_past, Lh⟩ := load_h hv
  have Ch := Lib.hid (fun (W : World) (g : Gr w W) => noHpa_any W o.h.tg F.h_tg o.h.mn o.h.mx qh_met kh_met o.h.met (rh_met.gr g) F.h_met_n F.h_met o.h.tol o.h.uw o.h.up qh_upol kh_upol o.h.upol (rh_upol.gr g) F.h_upol_n o.h.dw o.h.dp qh_dpol kh_dpol o.h.dpol (rh_dpol.gr g) F.h_dpol_n qh_past kh_past o.h.past (rh_past.gr g) F.h_past_n)
  have LLh := Lib.hid Lh
  clear Lh rh_met rh_upol rh_dpol rh_past
  have HW := Lib.hid (And.intro hwb hB)
  have HO : Hid (alC o = (z_w o && z_p o && z_n o && z_h o)) := by show _ = _; simp [alC, hk]
  unfold z_w at HO
  generalize hzw : zWl o.w.rep o.w.cpu o.w.mem o.w.lab o.w.sel o.w.tol o.w.warm = zw at HO Cw
  unfold z_p at HO
  generalize hzp : zPd o.p.own o.p.node o.p.ph o.p.since o.p.cpu o.p.mem o.p.lab o.p.sel o.p.tol o.p.warm = zp at HO Cp
  unfold z_n at HO
  generalize hzn : zNd o.n.grp o.n.cpu o.n.mem o.n.lab o.n.tnt o.n.since o.n.closed = zn at HO Cn
  unfold z_h at HO
  generalize hzh : zHp o.h.tg o.h.mn o.h.mx o.h.met o.h.tol o.h.uw o.h.up o.h.upol o.h.dw o.h.dp o.h.dpol o.h.past = zh at HO Ch
  clear hzw hzp hzn hzh
  obtain ⟨g0, B0, d0⟩ := HB.out _ (Gr.refl _)
  have K0 := Lib.hid (Gr.refl wb)
  have HG0 := Lib.hid g0
  have HB0 := Lib.hid B0
  rw [hk] at HB d0
  clear hv F g0 B0 hwb hB b0 G0
  go_enter Tryz.func62, Tryz.ntmps62
  go_upto_region 1 with fail
  rw [← HW.out.1, ← HW.out.2]
  go_wp2_with (refine wpList_load_by (by kernel_rfl) 36 _ rfl (.pointer (some ⟨B, 3, none⟩)) (.agg #[.int .i64 o.w.rep, .int .i64 o.w.cpu, .int .i64 o.w.mem, .slice qw_lab o.w.lab.length kw_lab, .slice qw_sel o.w.sel.length kw_sel, .slice qw_tol o.w.tol.length kw_tol, .int .i64 o.w.warm]) (by rfl) (LLw.out _ _ _ _ HB0.out) ?_)
  refine (Cw.out _ HG0.out).mono ?_
  rintro e w1 ⟨rfl, h1⟩
  have K1 := Lib.hid (K0.out.trans h1)
  obtain ⟨g1, B1, d1⟩ := HB.out _ K1.out
  have HG1 := Lib.hid g1
  have HB1 := Lib.hid B1
  clear g1 B1 h1
  cases zw with
  | false =>
    go_wp2
    go_ret
    exact ⟨by rw [HO.out]; rfl, HG1.out⟩
  | true =>
    go_wp2_with (refine wpList_load_by (by kernel_rfl) 38 _ rfl (.pointer (some ⟨B, 10, none⟩)) (.agg #[.string o.p.own, .string o.p.node, .int .i64 o.p.ph, .int .i64 o.p.since, .int .i64 o.p.cpu, .int .i64 o.p.mem, .slice qp_lab o.p.lab.length kp_lab, .slice qp_sel o.p.sel.length kp_sel, .slice qp_tol o.p.tol.length kp_tol, .int .i64 o.p.warm]) (by rfl) (LLp.out _ _ _ _ HB1.out) ?_)
    refine (Cp.out _ HG1.out).mono ?_
    rintro e w2 ⟨rfl, h2⟩
    have K2 := Lib.hid (K1.out.trans h2)
    obtain ⟨g2, B2, d2⟩ := HB.out _ K2.out
    have HG2 := Lib.hid g2
    have HB2 := Lib.hid B2
    clear g2 B2 h2
    cases zp with
    | false =>
      go_wp2
      go_ret
      exact ⟨by rw [HO.out]; rfl, HG2.out⟩
    | true =>
      go_wp2_with (refine wpList_load_by (by kernel_rfl) 40 _ rfl (.pointer (some ⟨B, 20, none⟩)) (.agg #[.string o.n.grp, .int .i64 o.n.cpu, .int .i64 o.n.mem, .slice qn_lab o.n.lab.length kn_lab, .slice qn_tnt o.n.tnt.length kn_tnt, .int .i64 o.n.since, .bool o.n.closed]) (by rfl) (LLn.out _ _ _ _ HB2.out) ?_)
      refine (Cn.out _ HG2.out).mono ?_
      rintro e w3 ⟨rfl, h3⟩
      have K3 := Lib.hid (K2.out.trans h3)
      obtain ⟨g3, B3, d3⟩ := HB.out _ K3.out
      have HG3 := Lib.hid g3
      have HB3 := Lib.hid B3
      clear g3 B3 h3
      cases zn with
      | false =>
        go_wp2
        go_ret
        exact ⟨by rw [HO.out]; rfl, HG3.out⟩
      | true =>
        go_wp2_with (refine wpList_load_by (by kernel_rfl) 49 _ rfl (.pointer (some ⟨B, 35, none⟩)) (.agg #[.string o.h.tg, .int .i64 o.h.mn, .int .i64 o.h.mx, .slice qh_met o.h.met.length kh_met, .int .i64 o.h.tol, .int .i64 o.h.uw, .int .i64 o.h.up, .slice qh_upol o.h.upol.length kh_upol, .int .i64 o.h.dw, .int .i64 o.h.dp, .slice qh_dpol o.h.dpol.length kh_dpol, .slice qh_past o.h.past.length kh_past]) (by rfl) (LLh.out _ _ _ _ HB3.out) ?_)
        refine (Ch.out _ HG3.out).mono ?_
        rintro e w4 ⟨rfl, h4⟩
        have K4 := Lib.hid (K3.out.trans h4)
        obtain ⟨g4, B4, d4⟩ := HB.out _ K4.out
        have HG4 := Lib.hid g4
        have HB4 := Lib.hid B4
        clear g4 B4 h4
        cases zh <;>
        · go_wp2
          go_ret
          exact ⟨by rw [HO.out]; rfl, HG4.out⟩

set_option maxHeartbeats 4000000 in
theorem alone4 (w : World) (cs : Array Value) (o : Ob) (hv : ObjV w cs o) (F : FitsO o) (hk : o.kind = 4) :
    Calls Tryz.prog 62 #[.agg cs] w fun e w' => e = .returned (.bool (alC o)) ∧ Gr w w' := by
  have mixed : Tryz.prog.follows .mixedOrders = true := by kernel_rfl
  obtain ⟨B, hB⟩ : ∃ B, B = w.heap.size := ⟨_, rfl⟩
  obtain ⟨wb, hwb⟩ : ∃ wb, wb = w.alloc (.cells cs 51) := ⟨_, rfl⟩
  have G0 : Gr w wb := hwb ▸ (Gr.refl w).alloc _
  have b0 : wb.heap[B]? = some (.cells cs 51 (0, 0)) := by rw [hwb, hB]; exact heap_alloc_new w _
  have HB : Hid (∀ W, Gr wb W → Gr w W ∧ W.heap[B]? = some (.cells cs 51 (0, 0)) ∧ W.cell? ⟨B, 0, none⟩ = some (.int .i64 o.kind)) := fun W g => ⟨G0.trans g, (g.heap (Array.getElem?_eq_some_iff.1 b0).1).trans b0, load_at ((g.heap (Array.getElem?_eq_some_iff.1 b0).1).trans b0) hv.2.1⟩
  obtain ⟨qw_lab, kw_lab, qw_sel, kw_sel, qw_tol, kw_tol, rw_lab, rw_sel, rw_tol, Lw⟩ := load_w hv
  have Cw := Lib.hid (fun (W : World) (g : Gr w W) => noWorkload_any W o.w.rep o.w.cpu o.w.mem o.w.warm qw_lab kw_lab o.w.lab qw_sel kw_sel o.w.sel qw_tol kw_tol o.w.tol)
  have LLw := Lib.hid Lw
  clear Lw rw_lab rw_sel rw_tol
  obtain ⟨qp_lab, kp_lab, qp_sel, kp_sel, qp_tol, kp_tol, rp_lab, rp_sel, rp_tol, Lp⟩ := load_p hv
  have Cp := Lib.hid (fun (W : World) (g : Gr w W) => noPod_any W o.p.own o.p.node o.p.ph o.p.since o.p.cpu o.p.mem o.p.warm qp_lab kp_lab o.p.lab qp_sel kp_sel o.p.sel qp_tol kp_tol o.p.tol)
  have LLp := Lib.hid Lp
  clear Lp rp_lab rp_sel rp_tol
  obtain ⟨qn_lab, kn_lab, qn_tnt, kn_tnt, rn_lab, rn_tnt, Ln⟩ := load_n hv
  have Cn := Lib.hid (fun (W : World) (g : Gr w W) => noNode_any W o.n.grp o.n.cpu o.n.mem o.n.since o.n.closed qn_lab kn_lab o.n.lab qn_tnt kn_tnt o.n.tnt)
  have LLn := Lib.hid Ln
  clear Ln rn_lab rn_tnt
  obtain ⟨qg_lab, kg_lab, qg_tnt, kg_tnt, rg_lab, rg_tnt, Lg⟩ := load_g hv
  have Cg := Lib.hid (fun (W : World) (g : Gr w W) => noGroup_any W o.g.mn o.g.mx o.g.tg o.g.cpu o.g.mem o.g.prio qg_lab kg_lab o.g.lab qg_tnt kg_tnt o.g.tnt)
  have LLg := Lib.hid Lg
  clear Lg rg_lab rg_tnt
  have HW := Lib.hid (And.intro hwb hB)
  have HO : Hid (alC o = (z_w o && z_p o && z_n o && z_g o)) := by show _ = _; simp [alC, hk]
  unfold z_w at HO
  generalize hzw : zWl o.w.rep o.w.cpu o.w.mem o.w.lab o.w.sel o.w.tol o.w.warm = zw at HO Cw
  unfold z_p at HO
  generalize hzp : zPd o.p.own o.p.node o.p.ph o.p.since o.p.cpu o.p.mem o.p.lab o.p.sel o.p.tol o.p.warm = zp at HO Cp
  unfold z_n at HO
  generalize hzn : zNd o.n.grp o.n.cpu o.n.mem o.n.lab o.n.tnt o.n.since o.n.closed = zn at HO Cn
  unfold z_g at HO
  generalize hzg : zGp o.g.mn o.g.mx o.g.tg o.g.cpu o.g.mem o.g.lab o.g.tnt o.g.prio = zg at HO Cg
  clear hzw hzp hzn hzg
  obtain ⟨g0, B0, d0⟩ := HB.out _ (Gr.refl _)
  have K0 := Lib.hid (Gr.refl wb)
  have HG0 := Lib.hid g0
  have HB0 := Lib.hid B0
  rw [hk] at HB d0
  clear hv F g0 B0 hwb hB b0 G0
  go_enter Tryz.func62, Tryz.ntmps62
  go_upto_region 1 with fail
  rw [← HW.out.1, ← HW.out.2]
  go_wp2_with (refine wpList_load_by (by kernel_rfl) 36 _ rfl (.pointer (some ⟨B, 3, none⟩)) (.agg #[.int .i64 o.w.rep, .int .i64 o.w.cpu, .int .i64 o.w.mem, .slice qw_lab o.w.lab.length kw_lab, .slice qw_sel o.w.sel.length kw_sel, .slice qw_tol o.w.tol.length kw_tol, .int .i64 o.w.warm]) (by rfl) (LLw.out _ _ _ _ HB0.out) ?_)
  refine (Cw.out _ HG0.out).mono ?_
  rintro e w1 ⟨rfl, h1⟩
  have K1 := Lib.hid (K0.out.trans h1)
  obtain ⟨g1, B1, d1⟩ := HB.out _ K1.out
  have HG1 := Lib.hid g1
  have HB1 := Lib.hid B1
  clear g1 B1 h1
  cases zw with
  | false =>
    go_wp2
    go_ret
    exact ⟨by rw [HO.out]; rfl, HG1.out⟩
  | true =>
    go_wp2_with (refine wpList_load_by (by kernel_rfl) 38 _ rfl (.pointer (some ⟨B, 10, none⟩)) (.agg #[.string o.p.own, .string o.p.node, .int .i64 o.p.ph, .int .i64 o.p.since, .int .i64 o.p.cpu, .int .i64 o.p.mem, .slice qp_lab o.p.lab.length kp_lab, .slice qp_sel o.p.sel.length kp_sel, .slice qp_tol o.p.tol.length kp_tol, .int .i64 o.p.warm]) (by rfl) (LLp.out _ _ _ _ HB1.out) ?_)
    refine (Cp.out _ HG1.out).mono ?_
    rintro e w2 ⟨rfl, h2⟩
    have K2 := Lib.hid (K1.out.trans h2)
    obtain ⟨g2, B2, d2⟩ := HB.out _ K2.out
    have HG2 := Lib.hid g2
    have HB2 := Lib.hid B2
    clear g2 B2 h2
    cases zp with
    | false =>
      go_wp2
      go_ret
      exact ⟨by rw [HO.out]; rfl, HG2.out⟩
    | true =>
      go_wp2_with (refine wpList_load_by (by kernel_rfl) 40 _ rfl (.pointer (some ⟨B, 20, none⟩)) (.agg #[.string o.n.grp, .int .i64 o.n.cpu, .int .i64 o.n.mem, .slice qn_lab o.n.lab.length kn_lab, .slice qn_tnt o.n.tnt.length kn_tnt, .int .i64 o.n.since, .bool o.n.closed]) (by rfl) (LLn.out _ _ _ _ HB2.out) ?_)
      refine (Cn.out _ HG2.out).mono ?_
      rintro e w3 ⟨rfl, h3⟩
      have K3 := Lib.hid (K2.out.trans h3)
      obtain ⟨g3, B3, d3⟩ := HB.out _ K3.out
      have HG3 := Lib.hid g3
      have HB3 := Lib.hid B3
      clear g3 B3 h3
      cases zn with
      | false =>
        go_wp2
        go_ret
        exact ⟨by rw [HO.out]; rfl, HG3.out⟩
      | true =>
        go_wp2_with (refine wpList_load_by (by kernel_rfl) 42 _ rfl (.pointer (some ⟨B, 27, none⟩)) (.agg #[.int .i64 o.g.mn, .int .i64 o.g.mx, .int .i64 o.g.tg, .int .i64 o.g.cpu, .int .i64 o.g.mem, .slice qg_lab o.g.lab.length kg_lab, .slice qg_tnt o.g.tnt.length kg_tnt, .int .i64 o.g.prio]) (by rfl) (LLg.out _ _ _ _ HB3.out) ?_)
        refine (Cg.out _ HG3.out).mono ?_
        rintro e w4 ⟨rfl, h4⟩
        have K4 := Lib.hid (K3.out.trans h4)
        obtain ⟨g4, B4, d4⟩ := HB.out _ K4.out
        have HG4 := Lib.hid g4
        have HB4 := Lib.hid B4
        clear g4 B4 h4
        cases zg <;>
        · go_wp2
          go_ret
          exact ⟨by rw [HO.out]; rfl, HG4.out⟩

set_option maxHeartbeats 4000000 in
theorem right0 (w : World) (cs : Array Value) (o : Ob) (hv : ObjV w cs o) (F : FitsO o) (hk : o.kind = 0) :
    Calls Tryz.prog 63 #[.agg cs] w fun e w' => e = .returned (.bool (shC o)) ∧ Gr w w' := by
  have mixed : Tryz.prog.follows .mixedOrders = true := by kernel_rfl
  obtain ⟨B, hB⟩ : ∃ B, B = w.heap.size := ⟨_, rfl⟩
  obtain ⟨wb, hwb⟩ : ∃ wb, wb = w.alloc (.cells cs 51) := ⟨_, rfl⟩
  have G0 : Gr w wb := hwb ▸ (Gr.refl w).alloc _
  have b0 : wb.heap[B]? = some (.cells cs 51 (0, 0)) := by rw [hwb, hB]; exact heap_alloc_new w _
  have HB : Hid (∀ W, Gr wb W → Gr w W ∧ W.heap[B]? = some (.cells cs 51 (0, 0)) ∧ W.cell? ⟨B, 0, none⟩ = some (.int .i64 o.kind)) := fun W g => ⟨G0.trans g, (g.heap (Array.getElem?_eq_some_iff.1 b0).1).trans b0, load_at ((g.heap (Array.getElem?_eq_some_iff.1 b0).1).trans b0) hv.2.1⟩
  obtain ⟨qw_lab, kw_lab, qw_sel, kw_sel, qw_tol, kw_tol, rw_lab, rw_sel, rw_tol, Lw⟩ := load_w hv
  have Cw := Lib.hid (fun (W : World) (g : Gr w W) => workload_any W o.w.rep o.w.cpu o.w.mem qw_lab kw_lab o.w.lab (rw_lab.gr g) F.w_lab_n F.w_lab qw_sel kw_sel o.w.sel (rw_sel.gr g) F.w_sel_n F.w_sel qw_tol kw_tol o.w.tol (rw_tol.gr g) F.w_tol_n F.w_tol o.w.warm)
  have LLw := Lib.hid Lw
  clear Lw rw_lab rw_sel rw_tol
  have HW := Lib.hid (And.intro hwb hB)
  have HO : Hid (shC o = c_w o) := by show _ = _; simp [shC, hk]
  unfold c_w at HO
  generalize hzw : wlC o.w.rep o.w.cpu o.w.mem o.w.lab o.w.sel o.w.tol o.w.warm = zw at HO Cw
  clear hzw
  obtain ⟨g0, B0, d0⟩ := HB.out _ (Gr.refl _)
  have HG0 := Lib.hid g0
  have HB0 := Lib.hid B0
  rw [hk] at d0
  clear hv F g0 B0 hwb hB b0 G0 hk
  go_enter Tryz.func63, Tryz.ntmps63
  go_upto_region 1 with fail
  rw [← HW.out.1, ← HW.out.2]
  go_wp2_with (refine wpList_load_by (by kernel_rfl) 36 _ rfl (.pointer (some ⟨B, 3, none⟩)) (.agg #[.int .i64 o.w.rep, .int .i64 o.w.cpu, .int .i64 o.w.mem, .slice qw_lab o.w.lab.length kw_lab, .slice qw_sel o.w.sel.length kw_sel, .slice qw_tol o.w.tol.length kw_tol, .int .i64 o.w.warm]) (by rfl) (LLw.out _ _ _ _ HB0.out) ?_)
  refine (Cw.out _ HG0.out).mono ?_
  rintro e w1 ⟨rfl, h1⟩
  have HG1 := Lib.hid (HG0.out.trans h1)
  clear h1
  go_wp2
  go_ret
  exact ⟨by rw [HO.out]; rfl, HG1.out⟩

set_option maxHeartbeats 4000000 in
theorem right1 (w : World) (cs : Array Value) (o : Ob) (hv : ObjV w cs o) (F : FitsO o) (hk : o.kind = 1) :
    Calls Tryz.prog 63 #[.agg cs] w fun e w' => e = .returned (.bool (shC o)) ∧ Gr w w' := by
  have mixed : Tryz.prog.follows .mixedOrders = true := by kernel_rfl
  obtain ⟨B, hB⟩ : ∃ B, B = w.heap.size := ⟨_, rfl⟩
  obtain ⟨wb, hwb⟩ : ∃ wb, wb = w.alloc (.cells cs 51) := ⟨_, rfl⟩
  have G0 : Gr w wb := hwb ▸ (Gr.refl w).alloc _
  have b0 : wb.heap[B]? = some (.cells cs 51 (0, 0)) := by rw [hwb, hB]; exact heap_alloc_new w _
  have HB : Hid (∀ W, Gr wb W → Gr w W ∧ W.heap[B]? = some (.cells cs 51 (0, 0)) ∧ W.cell? ⟨B, 0, none⟩ = some (.int .i64 o.kind)) := fun W g => ⟨G0.trans g, (g.heap (Array.getElem?_eq_some_iff.1 b0).1).trans b0, load_at ((g.heap (Array.getElem?_eq_some_iff.1 b0).1).trans b0) hv.2.1⟩
  obtain ⟨qp_lab, kp_lab, qp_sel, kp_sel, qp_tol, kp_tol, rp_lab, rp_sel, rp_tol, Lp⟩ := load_p hv
  have Cp := Lib.hid (fun (W : World) (g : Gr w W) => pod_any W o.p.own F.p_own o.p.node F.p_node o.p.ph o.p.since o.p.cpu o.p.mem qp_lab kp_lab o.p.lab (rp_lab.gr g) F.p_lab_n F.p_lab qp_sel kp_sel o.p.sel (rp_sel.gr g) F.p_sel_n F.p_sel qp_tol kp_tol o.p.tol (rp_tol.gr g) F.p_tol_n F.p_tol o.p.warm)
  have LLp := Lib.hid Lp
  clear Lp rp_lab rp_sel rp_tol
  have HW := Lib.hid (And.intro hwb hB)
  have HO : Hid (shC o = c_p o) := by show _ = _; simp [shC, hk]
  unfold c_p at HO
  generalize hzp : pdC o.p.own o.p.node o.p.ph o.p.since o.p.cpu o.p.mem o.p.lab o.p.sel o.p.tol o.p.warm = zp at HO Cp
  clear hzp
  obtain ⟨g0, B0, d0⟩ := HB.out _ (Gr.refl _)
  have HG0 := Lib.hid g0
  have HB0 := Lib.hid B0
  rw [hk] at d0
  clear hv F g0 B0 hwb hB b0 G0 hk
  go_enter Tryz.func63, Tryz.ntmps63
  go_upto_region 1 with fail
  rw [← HW.out.1, ← HW.out.2]
  go_wp2_with (refine wpList_load_by (by kernel_rfl) 38 _ rfl (.pointer (some ⟨B, 10, none⟩)) (.agg #[.string o.p.own, .string o.p.node, .int .i64 o.p.ph, .int .i64 o.p.since, .int .i64 o.p.cpu, .int .i64 o.p.mem, .slice qp_lab o.p.lab.length kp_lab, .slice qp_sel o.p.sel.length kp_sel, .slice qp_tol o.p.tol.length kp_tol, .int .i64 o.p.warm]) (by rfl) (LLp.out _ _ _ _ HB0.out) ?_)
  refine (Cp.out _ HG0.out).mono ?_
  rintro e w1 ⟨rfl, h1⟩
  have HG1 := Lib.hid (HG0.out.trans h1)
  clear h1
  go_wp2
  go_ret
  exact ⟨by rw [HO.out]; rfl, HG1.out⟩

set_option maxHeartbeats 4000000 in
theorem right2 (w : World) (cs : Array Value) (o : Ob) (hv : ObjV w cs o) (F : FitsO o) (hk : o.kind = 2) :
    Calls Tryz.prog 63 #[.agg cs] w fun e w' => e = .returned (.bool (shC o)) ∧ Gr w w' := by
  have mixed : Tryz.prog.follows .mixedOrders = true := by kernel_rfl
  obtain ⟨B, hB⟩ : ∃ B, B = w.heap.size := ⟨_, rfl⟩
  obtain ⟨wb, hwb⟩ : ∃ wb, wb = w.alloc (.cells cs 51) := ⟨_, rfl⟩
  have G0 : Gr w wb := hwb ▸ (Gr.refl w).alloc _
  have b0 : wb.heap[B]? = some (.cells cs 51 (0, 0)) := by rw [hwb, hB]; exact heap_alloc_new w _
  have HB : Hid (∀ W, Gr wb W → Gr w W ∧ W.heap[B]? = some (.cells cs 51 (0, 0)) ∧ W.cell? ⟨B, 0, none⟩ = some (.int .i64 o.kind)) := fun W g => ⟨G0.trans g, (g.heap (Array.getElem?_eq_some_iff.1 b0).1).trans b0, load_at ((g.heap (Array.getElem?_eq_some_iff.1 b0).1).trans b0) hv.2.1⟩
  obtain ⟨qn_lab, kn_lab, qn_tnt, kn_tnt, rn_lab, rn_tnt, Ln⟩ := load_n hv
  have Cn := Lib.hid (fun (W : World) (g : Gr w W) => node_any W o.n.grp F.n_grp o.n.cpu o.n.mem qn_lab kn_lab o.n.lab (rn_lab.gr g) F.n_lab_n F.n_lab qn_tnt kn_tnt o.n.tnt (rn_tnt.gr g) F.n_tnt_n F.n_tnt o.n.since o.n.closed)
  have LLn := Lib.hid Ln
  clear Ln rn_lab rn_tnt
  have HW := Lib.hid (And.intro hwb hB)
  have HO : Hid (shC o = c_n o) := by show _ = _; simp [shC, hk]
  unfold c_n at HO
  generalize hzn : ndC o.n.grp o.n.cpu o.n.mem o.n.lab o.n.tnt o.n.since = zn at HO Cn
  clear hzn
  obtain ⟨g0, B0, d0⟩ := HB.out _ (Gr.refl _)
  have HG0 := Lib.hid g0
  have HB0 := Lib.hid B0
  rw [hk] at d0
  clear hv F g0 B0 hwb hB b0 G0 hk
  go_enter Tryz.func63, Tryz.ntmps63
  go_upto_region 1 with fail
  rw [← HW.out.1, ← HW.out.2]
  go_wp2_with (refine wpList_load_by (by kernel_rfl) 40 _ rfl (.pointer (some ⟨B, 20, none⟩)) (.agg #[.string o.n.grp, .int .i64 o.n.cpu, .int .i64 o.n.mem, .slice qn_lab o.n.lab.length kn_lab, .slice qn_tnt o.n.tnt.length kn_tnt, .int .i64 o.n.since, .bool o.n.closed]) (by rfl) (LLn.out _ _ _ _ HB0.out) ?_)
  refine (Cn.out _ HG0.out).mono ?_
  rintro e w1 ⟨rfl, h1⟩
  have HG1 := Lib.hid (HG0.out.trans h1)
  clear h1
  go_wp2
  go_ret
  exact ⟨by rw [HO.out]; rfl, HG1.out⟩

set_option maxHeartbeats 4000000 in
theorem right3 (w : World) (cs : Array Value) (o : Ob) (hv : ObjV w cs o) (F : FitsO o) (hk : o.kind = 3) :
    Calls Tryz.prog 63 #[.agg cs] w fun e w' => e = .returned (.bool (shC o)) ∧ Gr w w' := by
  have mixed : Tryz.prog.follows .mixedOrders = true := by kernel_rfl
  obtain ⟨B, hB⟩ : ∃ B, B = w.heap.size := ⟨_, rfl⟩
  obtain ⟨wb, hwb⟩ : ∃ wb, wb = w.alloc (.cells cs 51) := ⟨_, rfl⟩
  have G0 : Gr w wb := hwb ▸ (Gr.refl w).alloc _
  have b0 : wb.heap[B]? = some (.cells cs 51 (0, 0)) := by rw [hwb, hB]; exact heap_alloc_new w _
  have HB : Hid (∀ W, Gr wb W → Gr w W ∧ W.heap[B]? = some (.cells cs 51 (0, 0)) ∧ W.cell? ⟨B, 0, none⟩ = some (.int .i64 o.kind)) := fun W g => ⟨G0.trans g, (g.heap (Array.getElem?_eq_some_iff.1 b0).1).trans b0, load_at ((g.heap (Array.getElem?_eq_some_iff.1 b0).1).trans b0) hv.2.1⟩
  obtain ⟨qg_lab, kg_lab, qg_tnt, kg_tnt, rg_lab, rg_tnt, Lg⟩ := load_g hv
  have Cg := Lib.hid (fun (W : World) (g : Gr w W) => group_any W o.g.mn o.g.mx o.g.tg o.g.cpu o.g.mem qg_lab kg_lab o.g.lab (rg_lab.gr g) F.g_lab_n F.g_lab qg_tnt kg_tnt o.g.tnt (rg_tnt.gr g) F.g_tnt_n F.g_tnt o.g.prio)
  have LLg := Lib.hid Lg
  clear Lg rg_lab rg_tnt
  have HW := Lib.hid (And.intro hwb hB)
  have HO : Hid (shC o = c_g o) := by show _ = _; simp [shC, hk]
  unfold c_g at HO
  generalize hzg : gpC o.g.mn o.g.mx o.g.tg o.g.cpu o.g.mem o.g.lab o.g.tnt o.g.prio = zg at HO Cg
  clear hzg
  obtain ⟨g0, B0, d0⟩ := HB.out _ (Gr.refl _)
  have HG0 := Lib.hid g0
  have HB0 := Lib.hid B0
  rw [hk] at d0
  clear hv F g0 B0 hwb hB b0 G0 hk
  go_enter Tryz.func63, Tryz.ntmps63
  go_upto_region 1 with fail
  rw [← HW.out.1, ← HW.out.2]
  go_wp2_with (refine wpList_load_by (by kernel_rfl) 42 _ rfl (.pointer (some ⟨B, 27, none⟩)) (.agg #[.int .i64 o.g.mn, .int .i64 o.g.mx, .int .i64 o.g.tg, .int .i64 o.g.cpu, .int .i64 o.g.mem, .slice qg_lab o.g.lab.length kg_lab, .slice qg_tnt o.g.tnt.length kg_tnt, .int .i64 o.g.prio]) (by rfl) (LLg.out _ _ _ _ HB0.out) ?_)
  refine (Cg.out _ HG0.out).mono ?_
  rintro e w1 ⟨rfl, h1⟩
  have HG1 := Lib.hid (HG0.out.trans h1)
  clear h1
  go_wp2
  go_ret
  exact ⟨by rw [HO.out]; rfl, HG1.out⟩

set_option maxHeartbeats 4000000 in
theorem right4 (w : World) (cs : Array Value) (o : Ob) (hv : ObjV w cs o) (F : FitsO o) (hk : o.kind = 4) :
    Calls Tryz.prog 63 #[.agg cs] w fun e w' => e = .returned (.bool (shC o)) ∧ Gr w w' := by
  have mixed : Tryz.prog.follows .mixedOrders = true := by kernel_rfl
  obtain ⟨B, hB⟩ : ∃ B, B = w.heap.size := ⟨_, rfl⟩
  obtain ⟨wb, hwb⟩ : ∃ wb, wb = w.alloc (.cells cs 51) := ⟨_, rfl⟩
  have G0 : Gr w wb := hwb ▸ (Gr.refl w).alloc _
  have b0 : wb.heap[B]? = some (.cells cs 51 (0, 0)) := by rw [hwb, hB]; exact heap_alloc_new w _
  have HB : Hid (∀ W, Gr wb W → Gr w W ∧ W.heap[B]? = some (.cells cs 51 (0, 0)) ∧ W.cell? ⟨B, 0, none⟩ = some (.int .i64 o.kind)) := fun W g => ⟨G0.trans g, (g.heap (Array.getElem?_eq_some_iff.1 b0).1).trans b0, load_at ((g.heap (Array.getElem?_eq_some_iff.1 b0).1).trans b0) hv.2.1⟩
  obtain ⟨qh_met, kh_met, qh_upol, kh_upol, qh_dpol, kh_dpol, qh_past, kh_past, rh_met, rh_upol, rh_dpol, rh_past, Lh⟩ := load_h hv
  have Ch := Lib.hid (fun (W : World) (g : Gr w W) => hpa_any W o.h.tg F.h_tg o.h.mn o.h.mx qh_met kh_met o.h.met (rh_met.gr g) F.h_met_n F.h_met o.h.tol o.h.uw o.h.up qh_upol kh_upol o.h.upol (rh_upol.gr g) F.h_upol_n o.h.dw o.h.dp qh_dpol kh_dpol o.h.dpol (rh_dpol.gr g) F.h_dpol_n qh_past kh_past o.h.past (rh_past.gr g) F.h_past_n)
  have LLh := Lib.hid Lh
  clear Lh rh_met rh_upol rh_dpol rh_past
  have HW := Lib.hid (And.intro hwb hB)
  have HO : Hid (shC o = c_h o) := by show _ = _; simp [shC, hk]
  unfold c_h at HO
  generalize hzh : hpC o.h.tg o.h.mn o.h.mx o.h.met o.h.tol o.h.uw o.h.up o.h.upol o.h.dw o.h.dp o.h.dpol o.h.past = zh at HO Ch
  clear hzh
  obtain ⟨g0, B0, d0⟩ := HB.out _ (Gr.refl _)
  have HG0 := Lib.hid g0
  have HB0 := Lib.hid B0
  rw [hk] at d0
  clear hv F g0 B0 hwb hB b0 G0 hk
  go_enter Tryz.func63, Tryz.ntmps63
  go_upto_region 1 with fail
  rw [← HW.out.1, ← HW.out.2]
  go_wp2_with (refine wpList_load_by (by kernel_rfl) 49 _ rfl (.pointer (some ⟨B, 35, none⟩)) (.agg #[.string o.h.tg, .int .i64 o.h.mn, .int .i64 o.h.mx, .slice qh_met o.h.met.length kh_met, .int .i64 o.h.tol, .int .i64 o.h.uw, .int .i64 o.h.up, .slice qh_upol o.h.upol.length kh_upol, .int .i64 o.h.dw, .int .i64 o.h.dp, .slice qh_dpol o.h.dpol.length kh_dpol, .slice qh_past o.h.past.length kh_past]) (by rfl) (LLh.out _ _ _ _ HB0.out) ?_)
  refine (Ch.out _ HG0.out).mono ?_
  rintro e w1 ⟨rfl, h1⟩
  have HG1 := Lib.hid (HG0.out.trans h1)
  clear h1
  go_wp2
  go_ret
  exact ⟨by rw [HO.out]; rfl, HG1.out⟩

end Go.Proofs.YtbkoepghmcdnhaaGreatDoor
