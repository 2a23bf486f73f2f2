/- The law's Right: Hpas. -/
import Derived.Test.YtdphooobgbminaaVaR
import Derived.IntWalk
import Derived.BigRegion
import Derived.Deep.DeepCutAuto
import Derived.Deep.CutRange
import Derived.Deep.Light
namespace Go.Proofs.Ytdphooobgbminaa
open Go.RowKit Go.Shelf Go.Lib Go.Sort
open Go.Joins (cell_of_block unfrozen_of_block block_setCell)
set_option linter.unusedVariables false
set_option linter.unusedSimpArgs false
set_option maxRecDepth 20000

theorem met_law (k : Int) (s : ByteArray) (m : Int) : metB (k, s, m) = (decide (0 ≤ k) && decide (k ≤ 3) && nameB s && milB m && (m != 0) && ((k != 0) || (s.toList == [99, 112, 117]) || (s.toList == [109, 101, 109]))) := by
  have e : (m != 0) = decide (m ≠ 0) := by rw [Bool.eq_iff_iff]; simp
  have h0 : metB (k, s, m) = (!((k == 0) && !(s.toList == [99, 112, 117]) && !(s.toList == [109, 101, 109])) && ((decide (0 ≤ k) && decide (k ≤ 3)) && nameB s && (milB m && (m != 0)))) := by
    rw [e, ← some_eq]
    rfl
  have e2 : (k != 0) = !(k == 0) := rfl
  rw [h0, e2]
  cases (k == 0) <;> cases (s.toList == [99, 112, 117]) <;> cases (s.toList == [109, 101, 109]) <;> cases decide (0 ≤ k) <;> cases decide (k ≤ 3) <;> cases nameB s <;> cases milB m <;> cases (m != 0) <;> rfl
theorem lawC_at {l : List Sca} {k : Nat} {x : Sca} (hx : l[k]? = some x) : lawC l k = (decide (0 ≤ x.1) && decide (x.1 ≤ 4611686018427387904) && decide (0 ≤ x.2.1) && decide (x.2.1 ≤ 1000000) && decide (0 ≤ x.2.2) && decide (x.2.2 ≤ 1000000) && (decide (k = 0) || decide (lastAt 0 l k ≤ x.1))) := by
  simp only [lawC, hx]
theorem take_all {l : List Met} {k : Nat} {x : Met} (hx : l[k]? = some x) : (l.take (k + 1)).all metB = ((l.take k).all metB && metB x) := by
  rw [List.take_add_one, List.all_append, hx]
  simp

set_option maxHeartbeats 16000000 in
theorem law4 (w : World) (cs : Array Value) (o : Ob) (hv : ObjV w cs o) (F : FitsO o) (hk : o.kind = 4) :
    Calls Try.prog 13 #[.agg cs] w fun e w' => e = .returned (.int .i64 (rgtE o)) ∧ Gr w w' := by
  have mixed : Try.prog.follows .mixedOrders = true := by kernel_rfl
  obtain ⟨B, hB⟩ : ∃ B, B = w.heap.size := ⟨_, rfl⟩
  obtain ⟨wb, hwb⟩ : ∃ wb, wb = w.alloc (.cells cs 44) := ⟨_, rfl⟩
  have G0 : Gr w wb := hwb ▸ (Gr.refl w).alloc _
  have b0 : wb.heap[B]? = some (.cells cs 44 (0, 0)) := by rw [hwb, hB]; exact heap_alloc_new w _
  have HB : Hid (∀ W, Gr wb W → Gr w W ∧ W.heap[B]? = some (.cells cs 44 (0, 0)) ∧ W.cell? ⟨B, 0, none⟩ = some (.int .i64 4)) := fun W g => ⟨G0.trans g, (g.heap (Array.getElem?_eq_some_iff.1 b0).1).trans b0, hk ▸ load_at ((g.heap (Array.getElem?_eq_some_iff.1 b0).1).trans b0) hv.2.1⟩
  obtain ⟨qh_met, kh_met, qh_upol, kh_upol, qh_dpol, kh_dpol, qh_past, kh_past, rh_met, rh_upol, rh_dpol, rh_past, Lh⟩ := load_h hv
  have d1 : wb.cell? ⟨B, 1, none⟩ = some (.string o.name) := load_nm b0 hv.2.1
  have CN := Lib.hid (fun (W : World) => rname_any W o.name (by have := ftT_iff.1 F.name; omega))
  have CE := Lib.hid (fun (W : World) (g : Gr w W) => rempty_any W cs o (hv.below g.below) (by omega) F.lens)
  have LO : Hid ((Instr.loadAt 44 (.pointer (some ⟨B, 0, none⟩))).run Try.prog wb = .ok (.agg cs) wb) := load_ob b0 hv.1
  have HO : Hid (rgtE o = if nameB o.name = false then 6 else if (empE o && l_h o) = false then 2 else 0) := by show _ = _; simp [rgtE, lawS, hk]
  have HH0 : Hid (h0B o = (nameB o.h.tg && decide (1 ≤ o.h.mn) && decide (o.h.mn ≤ o.h.mx) && decide (o.h.mx ≤ 1000000) && decide (1 ≤ (o.h.met.length : Int)) && decide ((o.h.met.length : Int) ≤ 4) && decide (0 ≤ o.h.tol) && decide (o.h.tol ≤ 1000) && behC o.h.uw o.h.up o.h.upol && behC o.h.dw o.h.dp o.h.dpol)) := rfl
  unfold l_h at HO
  have C0 := Lib.hid (fun (W : World) => rname_any W o.h.tg (by have := ftT_iff.1 F.h_tg; omega))
  have C1 := Lib.hid (fun (W : World) (g : Gr w W) => goes_any W o.h.uw o.h.up qh_upol kh_upol o.h.upol (rh_upol.gr g) F.h_upol_n)
  have C2 := Lib.hid (fun (W : World) (g : Gr w W) => goes_any W o.h.dw o.h.dp qh_dpol kh_dpol o.h.dpol (rh_dpol.gr g) F.h_dpol_n)
  obtain ⟨p0, t0⟩ : ∃ p, decide (1 ≤ o.h.mn) = p := ⟨_, rfl⟩
  obtain ⟨p1, t1⟩ : ∃ p, decide (o.h.mn ≤ o.h.mx) = p := ⟨_, rfl⟩
  obtain ⟨p2, t2⟩ : ∃ p, decide (o.h.mx ≤ 1000000) = p := ⟨_, rfl⟩
  obtain ⟨p3, t3⟩ : ∃ p, decide (1 ≤ (o.h.met.length : Int)) = p := ⟨_, rfl⟩
  obtain ⟨p4, t4⟩ : ∃ p, decide ((o.h.met.length : Int) ≤ 4) = p := ⟨_, rfl⟩
  obtain ⟨p5, t5⟩ : ∃ p, decide (0 ≤ o.h.tol) = p := ⟨_, rfl⟩
  obtain ⟨p6, t6⟩ : ∃ p, decide (o.h.tol ≤ 1000) = p := ⟨_, rfl⟩
  rw [t0, t1, t2, t3, t4, t5, t6] at HH0
  generalize hb0 : nameB o.h.tg = c0 at HH0 C0
  generalize hb1 : behC o.h.uw o.h.up o.h.upol = c1 at HH0 C1
  generalize hb2 : behC o.h.dw o.h.dp o.h.dpol = c2 at HH0 C2
  generalize hbn : nameB o.name = bn at HO CN
  generalize hbe : empE o = be at HO CE
  generalize hbh : h0B o = bh at HO HH0
  obtain ⟨hb, HBB⟩ : ∃ hb, hb = (be && bh) := ⟨_, rfl⟩
  have HHB := Lib.hid HBB
  have LLh := Lib.hid Lh
  have HFM := Lib.hid (List.all_eq_true.1 F.h_met)
  have HNP := Lib.hid F.h_past_r
  have HNM := Lib.hid F.h_met_r
  have RP := Lib.hid rh_past
  have RM := Lib.hid rh_met
  have HW := Lib.hid (And.intro hwb (And.intro hB G0))
  clear hb0 hb1 hb2 hbn hbe hbh HBB hv F hwb hB b0 G0 hk Lh rh_met rh_upol rh_dpol rh_past
  have TP : Hid (decide (1 ≤ o.h.mn) = p0 ∧ decide (o.h.mn ≤ o.h.mx) = p1 ∧ decide (o.h.mx ≤ 1000000) = p2 ∧ decide (1 ≤ (o.h.met.length : Int)) = p3 ∧ decide ((o.h.met.length : Int) ≤ 4) = p4 ∧ decide (0 ≤ o.h.tol) = p5 ∧ decide (o.h.tol ≤ 1000) = p6) := ⟨t0, t1, t2, t3, t4, t5, t6⟩
  clear t0 t1 t2 t3 t4 t5 t6
  obtain ⟨_, _, d0⟩ := HB.out _ (Gr.refl _)
  go_enter Try.func13, Try.ntmps13
  go_upto_region 1 with fail
  rw [← HW.out.1, ← HW.out.2.1]
  go_wp2_with fail
  refine (CN.out _).mono ?_
  rintro e w1 ⟨rfl, rfl⟩
  cases bn with
  | false => (go_wp2; go_ret; exact ⟨by rw [HO.out]; rfl, HW.out.2.2⟩)
  | true =>
    go_wp2_with (refine wpList_load_by (by kernel_rfl) 44 _ rfl (.pointer (some ⟨B, 0, none⟩)) (.agg cs) (by kernel_rfl) LO.out ?_)
    refine (CE.out _ HW.out.2.2).mono ?_
    rintro e w1 ⟨rfl, h1⟩
    have K1 := Lib.hid h1
    obtain ⟨g1, B1, d1'⟩ := HB.out _ K1.out
    have HB1 := Lib.hid B1
    have G1 := Lib.hid g1
    clear h1 B1 g1 d0 d1 LO
    obtain ⟨X, hX⟩ : ∃ X, X = w1.heap.size := ⟨_, rfl⟩
    obtain ⟨wx, hwx⟩ : ∃ wx, wx = w1.alloc (.cells #[.string o.h.tg, .int .i64 o.h.mn, .int .i64 o.h.mx, .slice qh_met o.h.met.length kh_met, .int .i64 o.h.tol, .int .i64 o.h.uw, .int .i64 o.h.up, .slice qh_upol o.h.upol.length kh_upol, .int .i64 o.h.dw, .int .i64 o.h.dp, .slice qh_dpol o.h.dpol.length kh_dpol, .slice qh_past o.h.past.length kh_past] 42) := ⟨_, rfl⟩
    have HXX := Lib.hid (And.intro hwx hX)
    have HX : Hid (∀ (W : World), Gr wx W → Gr w W ∧ W.cell? ⟨X, 0, none⟩ = some (.string o.h.tg) ∧ W.cell? ⟨X, 1, none⟩ = some (.int .i64 o.h.mn) ∧ W.cell? ⟨X, 2, none⟩ = some (.int .i64 o.h.mx) ∧ W.cell? ⟨X, 3, none⟩ = some (.slice qh_met o.h.met.length kh_met) ∧ W.cell? ⟨X, 4, none⟩ = some (.int .i64 o.h.tol) ∧ W.cell? ⟨X, 5, none⟩ = some (.int .i64 o.h.uw) ∧ W.cell? ⟨X, 6, none⟩ = some (.int .i64 o.h.up) ∧ W.cell? ⟨X, 7, none⟩ = some (.slice qh_upol o.h.upol.length kh_upol) ∧ W.cell? ⟨X, 8, none⟩ = some (.int .i64 o.h.dw) ∧ W.cell? ⟨X, 9, none⟩ = some (.int .i64 o.h.dp) ∧ W.cell? ⟨X, 10, none⟩ = some (.slice qh_dpol o.h.dpol.length kh_dpol) ∧ W.cell? ⟨X, 11, none⟩ = some (.slice qh_past o.h.past.length kh_past)) := fun W g => ⟨(hwx ▸ G1.out.trans ((Gr.refl w1).alloc _) : Gr w wx).trans g, g.cell (by rw [hwx, hX]; simp), g.cell (by rw [hwx, hX]; simp), g.cell (by rw [hwx, hX]; simp), g.cell (by rw [hwx, hX]; simp), g.cell (by rw [hwx, hX]; simp), g.cell (by rw [hwx, hX]; simp), g.cell (by rw [hwx, hX]; simp), g.cell (by rw [hwx, hX]; simp), g.cell (by rw [hwx, hX]; simp), g.cell (by rw [hwx, hX]; simp), g.cell (by rw [hwx, hX]; simp), g.cell (by rw [hwx, hX]; simp)⟩
    obtain ⟨g2, e0_0, e0_1, e0_2, e0_3, e0_4, e0_5, e0_6, e0_7, e0_8, e0_9, e0_10, e0_11⟩ := HX.out _ (Gr.refl _)
    have G2 := Lib.hid g2
    have E0 : Hid (wx.cell? ⟨X, 0, none⟩ = some (.string o.h.tg) ∧ wx.cell? ⟨X, 1, none⟩ = some (.int .i64 o.h.mn) ∧ wx.cell? ⟨X, 2, none⟩ = some (.int .i64 o.h.mx) ∧ wx.cell? ⟨X, 3, none⟩ = some (.slice qh_met o.h.met.length kh_met) ∧ wx.cell? ⟨X, 4, none⟩ = some (.int .i64 o.h.tol) ∧ wx.cell? ⟨X, 5, none⟩ = some (.int .i64 o.h.uw) ∧ wx.cell? ⟨X, 6, none⟩ = some (.int .i64 o.h.up) ∧ wx.cell? ⟨X, 7, none⟩ = some (.slice qh_upol o.h.upol.length kh_upol) ∧ wx.cell? ⟨X, 8, none⟩ = some (.int .i64 o.h.dw) ∧ wx.cell? ⟨X, 9, none⟩ = some (.int .i64 o.h.dp) ∧ wx.cell? ⟨X, 10, none⟩ = some (.slice qh_dpol o.h.dpol.length kh_dpol) ∧ wx.cell? ⟨X, 11, none⟩ = some (.slice qh_past o.h.past.length kh_past)) := ⟨e0_0, e0_1, e0_2, e0_3, e0_4, e0_5, e0_6, e0_7, e0_8, e0_9, e0_10, e0_11⟩
    clear g2 hX hwx e0_0 e0_1 e0_2 e0_3 e0_4 e0_5 e0_6 e0_7 e0_8 e0_9 e0_10 e0_11
    go_upto_region 22 with (refine wpList_load_by (by kernel_rfl) 42 _ rfl (.pointer (some ⟨B, 35, none⟩)) (.agg #[.string o.h.tg, .int .i64 o.h.mn, .int .i64 o.h.mx, .slice qh_met o.h.met.length kh_met, .int .i64 o.h.tol, .int .i64 o.h.uw, .int .i64 o.h.up, .slice qh_upol o.h.upol.length kh_upol, .int .i64 o.h.dw, .int .i64 o.h.dp, .slice qh_dpol o.h.dpol.length kh_dpol, .slice qh_past o.h.past.length kh_past]) (by rfl) (LLh.out _ _ _ _ HB1.out) ?_)
    rw [← HXX.out.1, ← HXX.out.2]
    go_cut [3] from 223 to 277 (fun v wy => v = .bool hb ∧ Hid (Gr wx wy))
    case first =>
      obtain ⟨e0_0, e0_1, e0_2, e0_3, e0_4, e0_5, e0_6, e0_7, e0_8, e0_9, e0_10, e0_11⟩ := E0.out
      cases be with
      | false =>
        go_wp2
        go_meet
        case rel => exact ⟨congrArg Value.bool (by rw [HHB.out]; rfl), Gr.refl _⟩
      | true =>
        go_wp2_with fail
        refine (C0.out _).mono ?_
        rintro e w2 ⟨rfl, rfl⟩
        cases c0 with
        | false =>
          go_wp2
          go_meet
          case rel => exact ⟨congrArg Value.bool (by rw [HHB.out, HH0.out]; rfl), Gr.refl _⟩
        | true =>
          obtain ⟨t0, t1, t2, t3, t4, t5, t6⟩ := TP.out
          go_wp2_with fail
          any_goals (go_meet; case rel => (refine ⟨congrArg Value.bool ?_, Gr.refl _⟩; go_light; rw [HHB.out, HH0.out]; first | rfl | (simp [*]; done) | (simp_all; done)))
          refine (C1.out _ G2.out).mono ?_
          rintro e w3 ⟨rfl, h3⟩
          have K3 := Lib.hid h3
          have G3 := Lib.hid (HX.out _ K3.out).1
          obtain ⟨_, e3_0, e3_1, e3_2, e3_3, e3_4, e3_5, e3_6, e3_7, e3_8, e3_9, e3_10, e3_11⟩ := HX.out _ K3.out
          clear h3 e0_0 e0_1 e0_2 e0_3 e0_4 e0_5 e0_6 e0_7 e0_8 e0_9 e0_10 e0_11
          cases c1 with
          | false =>
            go_wp2
            any_goals (go_meet; case rel => (refine ⟨congrArg Value.bool ?_, K3.out⟩; go_light; rw [HHB.out, HH0.out]; first | rfl | (simp [*]; done) | (simp_all; done)))
          | true =>
            go_wp2_with fail
            refine (C2.out _ G3.out).mono ?_
            rintro e w4 ⟨rfl, h4⟩
            have K4 := Lib.hid (K3.out.trans h4)
            clear h4
            go_wp2
            any_goals (go_meet; case rel => (refine ⟨congrArg Value.bool ?_, K4.out⟩; go_light; rw [HHB.out, HH0.out]; first | rfl | (simp [*]; done) | (simp_all; done)))
    obtain ⟨rfl, hG3⟩ := hcut
    have K3 := hG3
    clear hG3 TP C0 C1 C2 HH0 G2 E0 HB1 K1 LLh HB CE CN

    obtain ⟨_, _, _, _, _, _, _, _, _, _, _, _, ep⟩ := HX.out _ K3.out
    go_wp2_with fail
    clear ep
    have HU : Hid (rgtE o = if (be && (bh && lawU o.h.past o.h.past.length && decide ((o.h.past.length : Int) ≤ 32) && o.h.met.all metB)) = false then 2 else 0) := by show _ = _; rw [HO.out]; simp
    clear HO
    obtain ⟨ps, hps⟩ : ∃ ps, o.h.past = ps := ⟨_, rfl⟩
    obtain ⟨ms, hms⟩ : ∃ ms, o.h.met = ms := ⟨_, rfl⟩
    rw [hps] at HX HNP RP HU ⊢
    rw [hms] at HX HNM RM HU HFM
    clear hps hms
    go_loopg [3, 281] ps.length (fun g vm vi wr => ∃ (k : Nat) (b : Bool), k ≤ ps.length ∧ ps.length - k ≤ g ∧ vm = .bool b ∧ vi = .int .i64 (k : Int) ∧ Hid (b = (hb && lawU ps k)) ∧ Hid (Gr wx wr))
    case atStart => exact ⟨0, hb, Nat.zero_le _, by omega, rfl, rfl, (by show _ = _; simp [lawU]), K3.out⟩
    case round =>
     as_aux_lemma =>
      obtain ⟨k, b, hk, hg, rfl, rfl, HS, HG⟩ := hrel
      by_cases hlt : k < ps.length
      · obtain ⟨x, hx⟩ : ∃ x, ps[k]? = some x := ⟨ps[k], List.getElem?_eq_getElem hlt⟩
        have GW : Gr w wr := (HX.out _ HG.out).1
        obtain ⟨bq, off, rfl, hbl, hc⟩ := (RP.out.gr GW) k x hx
        have c1 := hc 0 _ rfl
        have c2 := hc 1 _ rfl
        have c3 := hc 2 _ rfl
        rw [Nat.add_zero] at c1
        have HL : Hid (lawU ps (k + 1) = (lawU ps k && (decide (0 ≤ x.1) && decide (x.1 ≤ 4611686018427387904) && decide (0 ≤ x.2.1) && decide (x.2.1 ≤ 1000000) && decide (0 ≤ x.2.2) && decide (x.2.2 ≤ 1000000) && (decide (k = 0) || decide (lastAt 0 ps k ≤ x.1))))) := by show _ = _; rw [lawU, lawC_at hx]
        -- the one ahead
        have HY : Hid (k = 0 ∨ ∃ (m : Nat) (y : Int), k = m + 1 ∧ lastAt 0 ps k = y ∧ (wr.alloc (.cells #[.int .i64 x.1, .int .i64 x.2.1, .int .i64 x.2.2] 83)).cell? ⟨bq, off + m * 3, none⟩ = some (.int .i64 y)) := by
          rcases Nat.eq_zero_or_pos k with h0 | h0
          · exact .inl h0
          · right
            obtain ⟨m, rfl⟩ : ∃ m, k = m + 1 := ⟨k - 1, by omega⟩
            obtain ⟨y, hy⟩ : ∃ y, ps[m]? = some y := ⟨ps[m], List.getElem?_eq_getElem (by omega)⟩
            obtain ⟨b', o', e', _, hc'⟩ := (RP.out.gr GW) m y hy
            cases e'
            refine ⟨m, y.1, rfl, lastAt_step hy, ((Gr.refl wr).alloc _).cell ?_⟩
            have := hc' 0 _ rfl
            rwa [Nat.add_zero] at this
        obtain ⟨x1, x2, x3⟩ := x
        dsimp only at *
        have GA := Lib.hid (HG.out.alloc (.cells #[.int .i64 x1, .int .i64 x2, .int .i64 x3] 83))
        obtain ⟨_, _, _, _, _, _, _, _, _, _, _, _, ep⟩ := HX.out _ GA.out
        obtain ⟨wa, hwa⟩ : ∃ wa, wa = wr.alloc (.cells #[.int .i64 x1, .int .i64 x2, .int .i64 x3] 83) := ⟨_, rfl⟩
        have f1 : wa.cell? ⟨wr.heap.size, 0, none⟩ = some (.int .i64 x1) := by rw [hwa]; simp
        have f2 : wa.cell? ⟨wr.heap.size, 1, none⟩ = some (.int .i64 x2) := by rw [hwa]; simp
        have f3 : wa.cell? ⟨wr.heap.size, 2, none⟩ = some (.int .i64 x3) := by rw [hwa]; simp
        rw [← hwa] at GA ep HY
        have HWA := Lib.hid hwa
        have HLT := Lib.hid hlt
        have hkb : k ≤ 140737488351232 := by have := HNP.out; omega
        have HNX : Hid (b = (hb && lawU ps k)) := HS.out
        clear hx hc hbl GW hwa HS
        go_upto_region 26 with fail
        rw [← HWA.out]
        clear c1 c2 c3
        cases b with
        | false =>
          have HN2 : Hid (false = (hb && lawU ps (k + 1))) := by show _ = _; rw [HL.out, ← Bool.and_assoc, ← HNX.out]; rfl
          go_quiet (fail)
          go_wp2
          go_roundg (ps.length - (k + 1))
          case measure => (go_light; have := HLT.out; omega)
          case rel => exact ⟨k + 1, false, HLT.out, Nat.le_refl _, rfl, by go_num, HN2, GA.out.drewN _⟩
        | true =>
          by_cases hd1 : 0 ≤ x1
          case neg =>
            have d1 : decide (0 ≤ x1) = false := decide_eq_false hd1
            have HN2 : Hid (false = (hb && lawU ps (k + 1))) := by show _ = _; rw [HL.out, ← Bool.and_assoc, ← HNX.out]; simp [d1]
            go_quiet (fail)
            go_wp2
            go_roundg (ps.length - (k + 1))
            case measure => (go_light; have := HLT.out; omega)
            case rel => exact ⟨k + 1, false, HLT.out, Nat.le_refl _, rfl, by go_num, HN2, GA.out.drewN _⟩
          have d1 : decide (0 ≤ x1) = true := decide_eq_true hd1
          clear hd1
          by_cases hd2 : x1 ≤ 4611686018427387904
          case neg =>
            have d2 : decide (x1 ≤ 4611686018427387904) = false := decide_eq_false hd2
            have HN2 : Hid (false = (hb && lawU ps (k + 1))) := by show _ = _; rw [HL.out, ← Bool.and_assoc, ← HNX.out]; simp [d1, d2]
            go_quiet (fail)
            go_wp2
            go_roundg (ps.length - (k + 1))
            case measure => (go_light; have := HLT.out; omega)
            case rel => exact ⟨k + 1, false, HLT.out, Nat.le_refl _, rfl, by go_num, HN2, GA.out.drewN _⟩
          have d2 : decide (x1 ≤ 4611686018427387904) = true := decide_eq_true hd2
          clear hd2
          by_cases hd3 : 0 ≤ x2
          case neg =>
            have d3 : decide (0 ≤ x2) = false := decide_eq_false hd3
            have HN2 : Hid (false = (hb && lawU ps (k + 1))) := by show _ = _; rw [HL.out, ← Bool.and_assoc, ← HNX.out]; simp [d1, d2, d3]
            go_quiet (fail)
            go_wp2
            go_roundg (ps.length - (k + 1))
            case measure => (go_light; have := HLT.out; omega)
            case rel => exact ⟨k + 1, false, HLT.out, Nat.le_refl _, rfl, by go_num, HN2, GA.out.drewN _⟩
          have d3 : decide (0 ≤ x2) = true := decide_eq_true hd3
          clear hd3
          by_cases hd4 : x2 ≤ 1000000
          case neg =>
            have d4 : decide (x2 ≤ 1000000) = false := decide_eq_false hd4
            have HN2 : Hid (false = (hb && lawU ps (k + 1))) := by show _ = _; rw [HL.out, ← Bool.and_assoc, ← HNX.out]; simp [d1, d2, d3, d4]
            go_quiet (fail)
            go_wp2
            go_roundg (ps.length - (k + 1))
            case measure => (go_light; have := HLT.out; omega)
            case rel => exact ⟨k + 1, false, HLT.out, Nat.le_refl _, rfl, by go_num, HN2, GA.out.drewN _⟩
          have d4 : decide (x2 ≤ 1000000) = true := decide_eq_true hd4
          clear hd4
          by_cases hd5 : 0 ≤ x3
          case neg =>
            have d5 : decide (0 ≤ x3) = false := decide_eq_false hd5
            have HN2 : Hid (false = (hb && lawU ps (k + 1))) := by show _ = _; rw [HL.out, ← Bool.and_assoc, ← HNX.out]; simp [d1, d2, d3, d4, d5]
            go_quiet (fail)
            go_wp2
            go_roundg (ps.length - (k + 1))
            case measure => (go_light; have := HLT.out; omega)
            case rel => exact ⟨k + 1, false, HLT.out, Nat.le_refl _, rfl, by go_num, HN2, GA.out.drewN _⟩
          have d5 : decide (0 ≤ x3) = true := decide_eq_true hd5
          clear hd5
          by_cases hd6 : x3 ≤ 1000000
          case neg =>
            have d6 : decide (x3 ≤ 1000000) = false := decide_eq_false hd6
            have HN2 : Hid (false = (hb && lawU ps (k + 1))) := by show _ = _; rw [HL.out, ← Bool.and_assoc, ← HNX.out]; simp [d1, d2, d3, d4, d5, d6]
            go_quiet (fail)
            go_wp2
            go_roundg (ps.length - (k + 1))
            case measure => (go_light; have := HLT.out; omega)
            case rel => exact ⟨k + 1, false, HLT.out, Nat.le_refl _, rfl, by go_num, HN2, GA.out.drewN _⟩
          have d6 : decide (x3 ≤ 1000000) = true := decide_eq_true hd6
          clear hd6
          rcases HY.out with h0 | ⟨m, y, hm, hy, cy⟩
          · have hk0 : ((k : Int) == 0) = true := by rw [h0]; rfl
            have hkd : decide (k = 0) = true := decide_eq_true h0
            clear h0
            have HN2 : Hid (true = (hb && lawU ps (k + 1))) := by show _ = _; rw [HL.out, ← Bool.and_assoc, ← HNX.out]; simp [d1, d2, d3, d4, d5, d6, hkd]
            go_quiet (fail)
            go_wp2
            go_roundg (ps.length - (k + 1))
            case measure => (go_light; have := HLT.out; omega)
            case rel => exact ⟨k + 1, true, HLT.out, Nat.le_refl _, rfl, by go_num, HN2, GA.out.drewN _⟩
          · have hk0 : ((k : Int) == 0) = false := by rw [beq_eq_false_iff_ne]; omega
            have hkd : decide (k = 0) = false := decide_eq_false (by omega)
            have e1 : IntKind.i64.wrap ((k : Int) - 1) = (m : Int) := by rw [IntWalk.i64_in _ (by have := HNP.out; have := HLT.out; omega)]; omega
            have e2 : (m : Int) < (ps.length : Int) := by have := HLT.out; omega
            have e3 : (k : Int) - 1 = (m : Int) := by omega
            have HM := Lib.hid hm
            have HYY := Lib.hid hy
            clear hm hy
            by_cases hyx : y ≤ x1
            · have dy : decide (y ≤ x1) = true := decide_eq_true hyx
              clear hyx
              have HN2 : Hid (true = (hb && lawU ps (k + 1))) := by show _ = _; rw [HL.out, ← Bool.and_assoc, ← HNX.out]; rw [HYY.out]; simp [d1, d2, d3, d4, d5, d6, dy]
              go_quiet (fail)
              go_wp2
              go_roundg (ps.length - (k + 1))
              case measure => (go_light; have := HLT.out; omega)
              case rel => exact ⟨k + 1, true, HLT.out, Nat.le_refl _, rfl, by go_num, HN2, GA.out.drewN _⟩
            · have dy : decide (y ≤ x1) = false := decide_eq_false hyx
              clear hyx
              have HN2 : Hid (false = (hb && lawU ps (k + 1))) := by show _ = _; rw [HL.out, ← Bool.and_assoc, ← HNX.out]; rw [HYY.out]; simp [d1, d2, d3, d4, d5, d6, dy, hkd]
              go_quiet (fail)
              go_wp2
              go_roundg (ps.length - (k + 1))
              case measure => (go_light; have := HLT.out; omega)
              case rel => exact ⟨k + 1, false, HLT.out, Nat.le_refl _, rfl, by go_num, HN2, GA.out.drewN _⟩
      · obtain rfl : k = ps.length := by omega
        obtain ⟨_, _, _, _, em, _, _, _, _, _, _, _, ep⟩ := HX.out _ HG.out
        clear hlt hg hk
        obtain ⟨bU, hU⟩ : ∃ bU, bU = lawU ps ps.length := ⟨_, rfl⟩
        rw [← hU] at HS HU
        clear hU
        have HNP2 := HNP.out
        obtain ⟨n, hn⟩ : ∃ n, ps.length = n := ⟨_, rfl⟩
        rw [hn] at ep HU HNP2
        obtain ⟨p32, t32⟩ : ∃ p, decide ((n : Int) ≤ 32) = p := ⟨_, rfl⟩
        rw [t32] at HU
        obtain ⟨b2, hb2⟩ : ∃ b2, b2 = (b && p32) := ⟨_, rfl⟩
        have HB2 : Hid (b2 = (be && (bh && bU && p32))) := by show _ = _; rw [hb2, HS.out, HHB.out]; cases be <;> cases bh <;> cases bU <;> cases p32 <;> rfl
        have HB3 := Lib.hid hb2
        clear hb2 HS HHB
        have HN := Lib.hid hn
        clear RP HNP hn
        obtain ⟨wy, hwy⟩ : ∃ wy, wy = wr := ⟨_, rfl⟩
        rw [← hwy] at HG ep em ⊢
        clear hwy
        go_upto_region 28 with fail
        go_cut [3] from 334 to 340 (fun v wz => v = .bool b2 ∧ wz = wy)
        case first =>
          cases b with
          | false =>
            have HE : Hid (b2 = false) := HB3.out
            go_wp2_with fail
            go_meet
            case rel => exact ⟨by rw [HE.out], rfl⟩
          | true =>
            have HE : Hid (b2 = p32) := HB3.out
            go_wp2_with fail
            go_meet
            case rel => exact ⟨by rw [HE.out], rfl⟩
        obtain ⟨rfl, hwz⟩ := hcut
        replace hwz := hwz.symm
        subst hwz
        clear t32 ep HB3
        go_wp2_with fail
        clear em
        go_loopg [3, 344] ms.length (fun g vm vi wr => ∃ (k : Nat) (b : Bool), k ≤ ms.length ∧ ms.length - k ≤ g ∧ vm = .bool b ∧ vi = .int .i64 (k : Int) ∧ Hid (b = (b2 && (ms.take k).all metB)) ∧ Hid (Gr wy wr))
        case atStart => exact ⟨0, b2, Nat.zero_le _, by omega, rfl, rfl, (by show _ = _; simp), Gr.refl _⟩
        case round =>
         as_aux_lemma =>
          obtain ⟨k, b, hk, hg, rfl, rfl, HS, HK⟩ := hrel
          have GX := Lib.hid (HG.out.trans HK.out)
          by_cases hlt : k < ms.length
          · obtain ⟨x, hx⟩ : ∃ x, ms[k]? = some x := ⟨ms[k], List.getElem?_eq_getElem hlt⟩
            obtain ⟨bq, off, hq, hbl, hc⟩ := (RM.out.gr (HX.out _ GX.out).1) k x hx
            have c1 := hc 0 _ rfl
            have c2 := hc 1 _ rfl
            have c3 := hc 2 _ rfl
            rw [Nat.add_zero] at c1
            have hft := HFM.out x (List.mem_of_getElem? hx)
            have HL : Hid ((ms.take (k + 1)).all metB = ((ms.take k).all metB && metB x)) := take_all hx
            obtain ⟨x1, x2, x3⟩ := x
            have hs : x2.size ≤ 9223372036854775807 := by have : x2.size ≤ 140737488351232 := of_decide_eq_true hft; omega
            have C0 := Lib.hid (fun (W : World) => rname_any W x2 hs)
            have C1 := Lib.hid (fun (W : World) => whole_any W x3)
            have HMB := Lib.hid (met_law x1 x2 x3)
            obtain ⟨y1, s1⟩ : ∃ p, decide (0 ≤ x1) = p := ⟨_, rfl⟩
            obtain ⟨y2, s2⟩ : ∃ p, decide (x1 ≤ 3) = p := ⟨_, rfl⟩
            obtain ⟨y3, s3⟩ : ∃ p, (x3 == 0) = p := ⟨_, rfl⟩
            obtain ⟨y4, s4⟩ : ∃ p, (x1 == 0) = p := ⟨_, rfl⟩
            obtain ⟨y5, s5⟩ : ∃ p, (x2.toList == [99, 112, 117]) = p := ⟨_, rfl⟩
            obtain ⟨y6, s6⟩ : ∃ p, (x2.toList == [109, 101, 109]) = p := ⟨_, rfl⟩
            have HMB2 : Hid (metB (x1, x2, x3) = (y1 && y2 && nameB x2 && milB x3 && !y3 && (!y4 || y5 || y6))) := by show _ = _; rw [HMB.out, s1, s2, s5, s6, bne, bne, s3, s4]
            generalize nameB x2 = n1 at C0 HMB2
            generalize milB x3 = n2 at C1 HMB2
            generalize metB (x1, x2, x3) = mb at HL HMB2
            have HNX : Hid (mb = (y1 && y2 && n1 && n2 && !y3 && (!y4 || y5 || y6))) := HMB2.out
            dsimp only at *
            have GA := Lib.hid (HK.out.alloc (.cells #[.int .i64 x1, .string x2, .int .i64 x3] 85))
            have HLT := Lib.hid hlt
            have hkb : k ≤ 140737488351232 := by have := HNM.out; omega
            have HSS := Lib.hid HS.out
            subst hq
            clear hx hc hbl hft hs HMB HMB2 HS
            have SS : Hid (decide (0 ≤ x1) = y1 ∧ decide (x1 ≤ 3) = y2 ∧ (x3 == 0) = y3 ∧ (x1 == 0) = y4 ∧ (x2.toList == [99, 112, 117]) = y5 ∧ (x2.toList == [109, 101, 109]) = y6) := ⟨s1, s2, s3, s4, s5, s6⟩
            clear s1 s2 s3 s4 s5 s6
            cases b with
            | false =>
              go_wp2
              go_roundg (ms.length - (k + 1))
              case measure => (go_light; have := HLT.out; omega)
              case rel => exact ⟨k + 1, false, HLT.out, Nat.le_refl _, rfl, by go_num, (by show _ = _; rw [HL.out, ← Bool.and_assoc, ← HSS.out]; rfl), GA.out⟩
            | true =>
              obtain ⟨s1, s2, s3, s4, s5, s6⟩ := SS.out
              clear SS
              cases y1 with
              | false =>
                go_wp2
                (go_roundg (ms.length - (k + 1)); (case measure => (go_light; have := HLT.out; omega)); (case rel => (refine ⟨k + 1, mb, HLT.out, Nat.le_refl _, congrArg Value.bool ?_, by go_num, (by show _ = _; rw [HL.out, ← Bool.and_assoc, ← HSS.out, Bool.true_and]), HK.out.alloc _⟩; rw [HNX.out]; first | rfl | exact T3.out.trans rfl)))
              | true =>
              cases y2 with
              | false =>
                go_wp2
                (go_roundg (ms.length - (k + 1)); (case measure => (go_light; have := HLT.out; omega)); (case rel => (refine ⟨k + 1, mb, HLT.out, Nat.le_refl _, congrArg Value.bool ?_, by go_num, (by show _ = _; rw [HL.out, ← Bool.and_assoc, ← HSS.out, Bool.true_and]), HK.out.alloc _⟩; rw [HNX.out]; first | rfl | exact T3.out.trans rfl)))
              | true =>
              go_wp2_with fail
              refine (C0.out _).mono ?_
              rintro e w5 ⟨rfl, rfl⟩
              cases n1 with
              | false =>
                go_wp2
                (go_roundg (ms.length - (k + 1)); (case measure => (go_light; have := HLT.out; omega)); (case rel => (refine ⟨k + 1, mb, HLT.out, Nat.le_refl _, congrArg Value.bool ?_, by go_num, (by show _ = _; rw [HL.out, ← Bool.and_assoc, ← HSS.out, Bool.true_and]), HK.out.alloc _⟩; rw [HNX.out]; first | rfl | exact T3.out.trans rfl)))
              | true =>
              go_wp2_with fail
              refine (C1.out _).mono ?_
              rintro e w6 ⟨rfl, rfl⟩
              cases n2 with
              | false =>
                go_wp2
                (go_roundg (ms.length - (k + 1)); (case measure => (go_light; have := HLT.out; omega)); (case rel => (refine ⟨k + 1, mb, HLT.out, Nat.le_refl _, congrArg Value.bool ?_, by go_num, (by show _ = _; rw [HL.out, ← Bool.and_assoc, ← HSS.out, Bool.true_and]), HK.out.alloc _⟩; rw [HNX.out]; first | rfl | exact T3.out.trans rfl)))
              | true =>
              cases y3 with
              | true =>
                have hx3 : x3 = 0 := by simpa using s3
                subst hx3
                clear s3
                go_wp2
                (go_roundg (ms.length - (k + 1)); (case measure => (go_light; have := HLT.out; omega)); (case rel => (refine ⟨k + 1, mb, HLT.out, Nat.le_refl _, congrArg Value.bool ?_, by go_num, (by show _ = _; rw [HL.out, ← Bool.and_assoc, ← HSS.out, Bool.true_and]), HK.out.alloc _⟩; rw [HNX.out]; first | rfl | exact T3.out.trans rfl)))
              | false =>
              have hx3 : ¬ x3 = 0 := by simpa using s3
              have T3 : Hid ((x3 != 0) = true) := by show _ = _; simpa using s3
              clear s3
              cases y4 with
              | false =>
                have hx1 : ¬ x1 = 0 := by simpa using s4
                clear s4
                go_wp2
                (go_roundg (ms.length - (k + 1)); (case measure => (go_light; have := HLT.out; omega)); (case rel => (refine ⟨k + 1, mb, HLT.out, Nat.le_refl _, congrArg Value.bool ?_, by go_num, (by show _ = _; rw [HL.out, ← Bool.and_assoc, ← HSS.out, Bool.true_and]), HK.out.alloc _⟩; rw [HNX.out]; first | rfl | exact T3.out.trans rfl)))
              | true =>
              have hx1 : x1 = 0 := by simpa using s4
              subst hx1
              clear s4
              cases y5 with
              | true =>
                go_wp2
                (go_roundg (ms.length - (k + 1)); (case measure => (go_light; have := HLT.out; omega)); (case rel => (refine ⟨k + 1, mb, HLT.out, Nat.le_refl _, congrArg Value.bool ?_, by go_num, (by show _ = _; rw [HL.out, ← Bool.and_assoc, ← HSS.out, Bool.true_and]), HK.out.alloc _⟩; rw [HNX.out]; first | rfl | exact T3.out.trans rfl)))
              | false =>
              cases y6 with
              | true =>
                go_wp2
                (go_roundg (ms.length - (k + 1)); (case measure => (go_light; have := HLT.out; omega)); (case rel => (refine ⟨k + 1, mb, HLT.out, Nat.le_refl _, congrArg Value.bool ?_, by go_num, (by show _ = _; rw [HL.out, ← Bool.and_assoc, ← HSS.out, Bool.true_and]), HK.out.alloc _⟩; rw [HNX.out]; first | rfl | exact T3.out.trans rfl)))
              | false =>
                go_wp2
                (go_roundg (ms.length - (k + 1)); (case measure => (go_light; have := HLT.out; omega)); (case rel => (refine ⟨k + 1, mb, HLT.out, Nat.le_refl _, congrArg Value.bool ?_, by go_num, (by show _ = _; rw [HL.out, ← Bool.and_assoc, ← HSS.out, Bool.true_and]), HK.out.alloc _⟩; rw [HNX.out]; first | rfl | exact T3.out.trans rfl)))
          · obtain rfl : k = ms.length := by omega
            rw [List.take_length] at HS
            have HF2 : Hid (rgtE o = if b = false then 2 else 0) := by
              show _ = _
              have e : (be && (bh && bU && p32 && ms.all metB)) = b := by rw [HS.out, HB2.out]; cases be <;> rfl
              rw [HU.out, e]
            have GF := Lib.hid (HX.out _ GX.out).1
            cases b <;>
            · go_wp2
              go_ret
              exact ⟨by rw [HF2.out]; rfl, GF.out⟩
end Go.Proofs.Ytdphooobgbminaa
