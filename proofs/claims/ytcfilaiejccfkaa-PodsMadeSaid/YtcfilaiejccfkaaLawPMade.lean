/- Proved here: the law PodsMade of layer 14 holds for every input: a workload's pod may be, and has what that asks for; what is changed of it doesn't change the workload. No conditions. -/
import Derived.Test.YtcfilaiejccfkaaPoM
import Derived.Test.YtcfilaiejccfkaaVaW
import Derived.Test.YtcfilaiejccfkaaVaIn
import Derived.Test.YtcfilaiejccfkaaVaRt
import Derived.Test.YtcfilaiejccfkaaVLawBase
import Derived.Test.YtcfilaiejccfkaaPost
import Derived.Test.YtcfilaiejccfkaaArgs
namespace Go.Proofs.Ytcfilaiejccfkaa.podsMade
open Go.ChangeShapes Go.WideShapes Go.ChangeAt Go.RowKit Go.Lib Go.Shelf Go.Sort Go.Deep
open Go.Joins (cell_of_block unfrozen_of_block block_setCell)
open Go.Proofs.Ytcfilaiejccfkaa.Po
set_option linter.unusedVariables false
set_option linter.unusedSimpArgs false
set_option maxRecDepth 100000

abbrev nW : ByteArray := ⟨#[119]⟩
abbrev nX : ByteArray := ⟨#[119, 45, 48, 48, 48, 48]⟩
/-- A workload that came in. -/
theorem open_wk {H : Type} {enc : TypeId × Value → H} {W : World} {base : Nat} {v : Value} {d : DataW H} {p : List MemPlace} (ok : Value.okWide Try.prog W .any base WT v)
    (h : DataW.Trod enc Try.prog W 0 (fun _ => true) true WT v d p) (wt : Wt WT d) : ∃ P x, v = .agg P ∧ WlS W P x ∧ NilW P ∧ FitsO (wkO nW x) := by
  obtain ⟨cs, rfl, hs⟩ := okWide_struct Try.underlying33 ok
  obtain ⟨fuel, hf⟩ := h
  have hf : DataW.trod enc Try.prog W 0 (fun _ => true) true fuel WT cs.toList = some (d, p) := hf
  obtain ⟨x, ⟨r2, r3, r4⟩, ⟨m0, m1, m2⟩, f0, f1, f2, f3, f4, f5, f6⟩ := open_wl hf wt
  obtain ⟨_, _, t6, _⟩ := fld (F := 25) (off := 3) (k := 1) 2 Try.underlying33 (by kernel_rfl) hf wt
  obtain ⟨_, _, t7, _⟩ := fld (F := 26) (off := 4) (k := 1) 3 Try.underlying33 (by kernel_rfl) hf wt
  obtain ⟨_, _, t8, _⟩ := fld (F := 25) (off := 5) (k := 1) 4 Try.underlying33 (by kernel_rfl) hf wt
  have g : ∀ {j : Nat} {u : Value}, cs.toList[j]? = some u → cs[j]? = some u := fun h => by rwa [Array.getElem?_toList] at h
  have gs : ∀ {α : Type} {k j : Nat} {e : α → List Value} {l : List α}, SlR k e W cs.toList[j]? l → SlR k e W cs[j]? l := fun h => by rwa [Array.getElem?_toList] at h
  refine ⟨cs, x, rfl, ⟨by rw [hs]; kernel_rfl, g f0, g f1, g f2, gs f3, gs f4, gs f5, g f6⟩, ?_, ?_⟩
  · intro i n c hi hc
    simp only [List.mem_cons, List.not_mem_nil, or_false] at hi
    rw [← Array.getElem?_toList] at hc
    rcases hi with rfl | rfl | rfl
    · exact nil_leaf Try.underlying25 t6 n c hc
    · exact nil_leaf Try.underlying26 t7 n c hc
    · exact nil_leaf Try.underlying25 t8 n c hc
  · constructor <;> first | rfl | exact Nat.zero_le _ | exact m0 | exact m1 | exact m2 | exact List.all_eq_true.2 r2 | exact List.all_eq_true.2 r3 | exact List.all_eq_true.2 r4
theorem fits_made {x : Wl} {now : Int} (F : FitsO (wkO nW x)) : FitsO (podO 1 nX 0 (mdP x nW now)) := by
  constructor <;> first | rfl | exact Nat.zero_le _ | exact F.w_lab_r | exact F.w_sel_r | exact F.w_tol_r | exact F.w_lab | exact F.w_sel | exact F.w_tol

set_option maxHeartbeats 16000000 in
theorem walk_at (W : World) (P0 : Array Value) (x : Wl) (now : Int) (hv : WlS W P0 x) (hn : NilW P0) (F : FitsO (wkO nW x)) :
    Calls Try.prog 4 #[.agg P0, .int .i64 now] W fun e w' => e = .returned (.bool true) ∧ Below W.heap.size W w' := by
  have mixed : Try.prog.follows .mixedOrders = true := by kernel_rfl
  have V := Lib.hid plives_any
  obtain ⟨B, hB⟩ : ∃ B, B = W.heap.size := ⟨_, rfl⟩
  obtain ⟨wa, hwa⟩ : ∃ w, w = W.alloc (.cells P0 WT) := ⟨_, rfl⟩
  have Ga : Gr W wa := hwa ▸ (Gr.refl W).alloc _
  have a0 : wa.heap[B]? = some (.cells P0 WT (0, 0)) := by rw [hwa, hB]; exact heap_alloc_new W _
  have za : wa.heap.size = B + 1 := by rw [hwa, hB]; simp
  obtain ⟨ob, hob⟩ : ∃ o, o = wkO nW x := ⟨_, rfl⟩
  have oa : ObjV wa (wkC nW P0) ob := by rw [hob]; exact obj_wl (hv.below Ga.below) nW
  have RB := Lib.hid (built3 nW hv.1)
  obtain ⟨C, hC⟩ : ∃ C, C = wkC nW P0 := ⟨_, rfl⟩
  rw [← hC] at oa RB
  have LW := Lib.hid (load_wl a0 hv.1)
  obtain ⟨l1, g1⟩ := laid_ob wa oa.1
  have TH : Hid ((wa.alloc (.cells zerC OT)).there wa.heap.size 0 C.size) := zer_there wa oa.1
  have IN : Hid ((Try.prog.info? OT).map (·.size) = some C.size) := by show _ = _; rw [oa.1]; exact info_ob47
  have ON := Lib.hid (objV_one oa)
  obtain ⟨wb, hwb⟩ : ∃ w, w = (wa.alloc (.cells zerC OT)).setCells wa.heap.size 0 C.toList := ⟨_, rfl⟩
  rw [← hwb] at l1 g1
  rw [za] at l1
  have b0 : wb.heap[B]? = some (.cells P0 WT (0, 0)) := (g1.heap (by omega)).trans a0
  have zb : B + 2 ≤ wb.heap.size := (Array.getElem?_eq_some_iff.1 l1).1
  have HB : Hid (∀ w, Below wb.heap.size wb w → w.heap[B]? = some (.cells P0 WT (0, 0)) ∧ w.heap[B + 1]? = some (.cells C OT (0, 0)) ∧ WlS w P0 x ∧ ObjV w C ob) := fun w g => ⟨(g.block B (by omega)).trans b0, (g.block (B + 1) (by omega)).trans l1, hv.below (Ga.below.trans ((g1.below.trans (g.mono g1.size)).mono Ga.size)), oa.below (g1.below.trans (g.mono g1.size))⟩
  have HW := Lib.hid (And.intro hwa (And.intro hwb (And.intro hB (And.intro za (And.intro (Ga.below.trans (g1.below.mono Ga.size)) (And.intro hn zb))))))
  have HF : Hid (FitsO ob) := by rw [hob]; exact F
  have HOB := Lib.hid hob
  have EARLY : Hid (∀ w, Below wb.heap.size wb w → Below W.heap.size W w) := fun w g => HW.out.2.2.2.2.1.trans (g.mono HW.out.2.2.2.2.1.size)
  clear hv hn F hB hwa Ga a0 za hob oa hC l1 g1 hwb b0 zb
  obtain ⟨d1, e1⟩ : ∃ b, decide (now < 0) = b := ⟨_, rfl⟩
  obtain ⟨d2, e2⟩ : ∃ b, decide (4611686018427387904 < now) = b := ⟨_, rfl⟩
  go_enter Try.func4, Try.ntmps4
  go_upto_region 1 with fail
  rw [← HW.out.1, ← HW.out.2.2.1]
  go_upto_region 2 with (first | (refine wpList_load_by (by kernel_rfl) WT _ rfl (.pointer (some ⟨B, 0, none⟩)) (.agg P0) (by kernel_rfl) LW.out ?_) | (refine wpList_known (by kernel_rfl) (run_built rfl (by kernel_rfl) RB.out _) ?_) | (refine wpList_store_mid rfl _ _ _ rfl wa.heap.size 0 C (by rfl) (by rfl) TH.out IN.out ON.out ?_))
  rw [← HW.out.2.1, HW.out.2.2.2.1]
  clear TH IN ON RB LW
  go_wp2_with fail
  refine (V.out _).mono ?_
  rintro e w1 ⟨rfl, g1⟩
  have K1 := Lib.hid g1
  have L1 := Lib.hid (load_ob (HB.out _ g1).2.1 (HB.out _ g1).2.2.2.1)
  have CF := Lib.hid (few_any w1 C ob (HB.out _ g1).2.2.2 HF.out)
  obtain ⟨fw, hfw⟩ : ∃ f, f = fewB ob := ⟨_, rfl⟩
  rw [← hfw] at CF
  have HFW := Lib.hid hfw
  clear g1 hfw
  go_wp2_with (refine wpList_load_by (by kernel_rfl) OT _ rfl (.pointer (some ⟨B + 1, 0, none⟩)) (.agg C) (by kernel_rfl) L1.out ?_)
  refine CF.out.mono ?_
  rintro e w2 ⟨rfl, g2⟩
  have K2 := Lib.hid (K1.out.trans (g2.below.mono K1.out.size))
  clear g2 CF
  cases fw with
  | false =>
    clear e1 e2
    go_wp2_with fail
    refine (V.out _).mono ?_
    rintro e w9 ⟨rfl, g9⟩
    have K9 := Lib.hid (EARLY.out _ (K2.out.trans (g9.mono K2.out.size)))
    clear g9
    go_wp2
    go_ret
    exact ⟨rfl, K9.out⟩
  | true =>
    have L2 := Lib.hid (load_ob (HB.out _ K2.out).2.1 (HB.out _ K2.out).2.2.2.1)
    have CR := Lib.hid (lawO_any w2 C ob (HB.out _ K2.out).2.2.2 HF.out)
    obtain ⟨rg, hrg⟩ : ∃ f, f = rgtE ob := ⟨_, rfl⟩
    rw [← hrg] at CR
    have HRG := Lib.hid hrg
    clear hrg
    go_wp2_with (refine wpList_load_by (by kernel_rfl) OT _ rfl (.pointer (some ⟨B + 1, 0, none⟩)) (.agg C) (by kernel_rfl) L2.out ?_)
    refine CR.out.mono ?_
    rintro e w3 ⟨rfl, g3⟩
    have K3 := Lib.hid (K2.out.trans (g3.below.mono K2.out.size))
    clear g3 CR
    by_cases hr : rg = 0
    case neg =>
      have t1 : (rg != 0) = true := by simp [hr]
      clear hr e1 e2
      go_wp2_with fail
      refine (V.out _).mono ?_
      rintro e w9 ⟨rfl, g9⟩
      have K9 := Lib.hid (EARLY.out _ (K3.out.trans (g9.mono K3.out.size)))
      clear g9
      go_wp2
      go_ret
      exact ⟨rfl, K9.out⟩
    have t1 : (rg != 0) = false := by simp [hr]
    cases d1 with
    | true =>
      clear hr e2
      go_wp2_with fail
      refine (V.out _).mono ?_
      rintro e w9 ⟨rfl, g9⟩
      have K9 := Lib.hid (EARLY.out _ (K3.out.trans (g9.mono K3.out.size)))
      clear g9
      go_wp2
      go_ret
      exact ⟨rfl, K9.out⟩
    | false =>
      cases d2 with
      | true =>
        clear hr
        go_wp2_with fail
        refine (V.out _).mono ?_
        rintro e w9 ⟨rfl, g9⟩
        have K9 := Lib.hid (EARLY.out _ (K3.out.trans (g9.mono K3.out.size)))
        clear g9
        go_wp2
        go_ret
        exact ⟨rfl, K9.out⟩
      | false =>
        have HNW : Hid (0 ≤ now ∧ now ≤ 4611686018427387904) := ⟨Int.not_lt.1 (of_decide_eq_false e1), Int.not_lt.1 (of_decide_eq_false e2)⟩
        have TI := Lib.hid (tiny_few HFW.out.symm)
        have L3 := Lib.hid (load_ob (HB.out _ K3.out).2.1 (HB.out _ K3.out).2.2.2.1)
        have HKK : Hid (0 ≤ ob.kind ∧ ob.kind ≤ 4) := by rw [HOB.out]; exact ⟨by show (0 : Int) ≤ 0; decide, by show (0 : Int) ≤ 4; decide⟩
        have FT := Lib.hid (fto_of HF.out TI.out)
        have CO := Lib.hid (robj_any w3 C ob (HB.out _ K3.out).2.2.2 HKK.out FT.out)
        obtain ⟨s, hs⟩ : ∃ s, s = mk (objB ob) := ⟨_, rfl⟩
        rw [← hs] at CO
        have HS := Lib.hid hs
        have HRT : Hid (rgtE (wkO nW x) = 0) := by show _ = _; rw [← HOB.out, ← HRG.out]; exact hr
        clear hs hr
        go_wp2_with (refine wpList_load_by (by kernel_rfl) OT _ rfl (.pointer (some ⟨B + 1, 0, none⟩)) (.agg C) (by kernel_rfl) L3.out ?_)
        refine CO.out.mono ?_
        rintro e w4 ⟨rfl, g4⟩
        have K4 := Lib.hid (K3.out.trans (g4.below.mono K3.out.size))
        have SM : Hid (x.lab.length ≤ 255 ∧ x.sel.length ≤ 255 ∧ x.tol.length ≤ 255) := by
          have h := TI.out
          rw [HOB.out] at h
          exact ⟨h.1, h.2.1, h.2.2.1⟩
        have L4 := Lib.hid (load_wl (HB.out _ K4.out).1 (HB.out _ K4.out).2.2.1.1)
        have CM := Lib.hid (made_any w4 P0 x nW now (HB.out _ K4.out).2.2.1 HW.out.2.2.2.2.2.1 ⟨by have := SM.out.1; omega, by have := SM.out.2.1; omega, by have := SM.out.2.2; omega⟩)
        obtain ⟨y, hy⟩ : ∃ y, y = mdP x nW now := ⟨_, rfl⟩
        rw [← hy] at CM
        have HY := Lib.hid hy
        clear g4 CO L3 hy t1 e1 e2
        go_wp2_with (refine wpList_load_by (by kernel_rfl) WT _ rfl (.pointer (some ⟨B, 0, none⟩)) (.agg P0) (by kernel_rfl) L4.out ?_)
        refine CM.out.mono ?_
        rintro e w5 ⟨⟨P, rfl, pd, po⟩, b5⟩
        have K5 := Lib.hid (K4.out.trans (b5.mono K4.out.size))
        obtain ⟨TH, IN, ON, w6, hw6, b6, l6, z6⟩ := new_pd pd po.nil
        obtain ⟨T, hT⟩ : ∃ T, T = w5.heap.size := ⟨_, rfl⟩
        have K6 := Lib.hid (K5.out.trans (l6.mono K5.out.size))
        have pd6 : PdS w6 P y := pd.below l6
        have LP := Lib.hid (load_pd b6 pd.1)
        have RX := Lib.hid (built2 nX pd.1)
        have od : ObjV w6 (podC 1 nX 0 P) (podO 1 nX 0 y) := obj_pod pd6 1 nX 0 (by decide)
        obtain ⟨D, hD⟩ : ∃ D, D = podC 1 nX 0 P := ⟨_, rfl⟩
        obtain ⟨ox, hox⟩ : ∃ o, o = podO 1 nX 0 y := ⟨_, rfl⟩
        rw [← hD] at od RX
        rw [← hox] at od
        obtain ⟨l7, g7⟩ := laid_ob w6 od.1
        have TH7 : Hid ((w6.alloc (.cells zerC OT)).there w6.heap.size 0 D.size) := zer_there w6 od.1
        have IN7 : Hid ((Try.prog.info? OT).map (·.size) = some D.size) := by show _ = _; rw [od.1]; exact info_ob47
        have ON7 := Lib.hid (objV_one od)
        obtain ⟨w7, hw7⟩ : ∃ w, w = (w6.alloc (.cells zerC OT)).setCells w6.heap.size 0 D.toList := ⟨_, rfl⟩
        obtain ⟨U, hU⟩ : ∃ T, T = w6.heap.size := ⟨_, rfl⟩
        rw [← hw7] at l7 g7
        rw [← hU] at l7
        rw [← hT] at b6 LP
        have K7 := Lib.hid (K6.out.trans (g7.below.mono K6.out.size))
        have RG : rgtE ox = 0 := by rw [hox, HY.out]; exact rgt_made x now HRT.out HNW.out.1 HNW.out.2
        have CX := Lib.hid (lawO_any w7 D ox (od.below g7.below) (by rw [hox, HY.out]; have h := HF.out; rw [HOB.out] at h; exact fits_made h))
        rw [RG] at CX
        have LX := Lib.hid (load_ob l7 od.1)
        have H6 := Lib.hid (And.intro hw6 (And.intro hT (And.intro hw7 (And.intro hU (And.intro b5 (And.intro l6 (And.intro g7 (And.intro b6 (And.intro pd6 po)))))))))
        clear pd po b5 hw6 b6 l6 z6 hT pd6 od hD hox l7 g7 hw7 hU RG CM L4
        go_upto_region 6 with (refine wpList_store_mid rfl _ _ _ rfl w5.heap.size 0 P (by rfl) (by rfl) TH.out IN.out ON.out ?_)
        rw [H6.out.1, ← H6.out.2.1]
        clear TH IN ON
        go_upto_region 7 with (first | (refine wpList_load_by (by kernel_rfl) PT _ rfl (.pointer (some ⟨T, 0, none⟩)) (.agg P) (by kernel_rfl) LP.out ?_) | (refine wpList_known (by kernel_rfl) (run_built rfl (by kernel_rfl) RX.out _) ?_) | (refine wpList_store_mid rfl _ _ _ rfl w6.heap.size 0 D (by rfl) (by rfl) TH7.out IN7.out ON7.out ?_))
        rw [← H6.out.2.2.1, ← H6.out.2.2.2.1]
        clear TH7 IN7 ON7 RX LP
        go_wp2_with (refine wpList_load_by (by kernel_rfl) OT _ rfl (.pointer (some ⟨U, 0, none⟩)) (.agg D) (by kernel_rfl) LX.out ?_)
        refine CX.out.mono ?_
        rintro e w8 ⟨rfl, g8⟩
        have GG8 := Lib.hid g8
        have K8 := Lib.hid (K7.out.trans (g8.below.mono K7.out.size))
        have b68 : Below w6.heap.size w6 w8 := H6.out.2.2.2.2.2.2.1.below.trans (g8.below.mono H6.out.2.2.2.2.2.2.1.size)
        have bT : w8.heap[T]? = some (.cells P PT (0, 0)) := (b68.block T (Array.getElem?_eq_some_iff.1 H6.out.2.2.2.2.2.2.2.1).1).trans H6.out.2.2.2.2.2.2.2.1
        have bB : w8.heap[B]? = some (.cells P0 WT (0, 0)) := (HB.out _ K8.out).1
        have pd8 : PdS w8 P y := H6.out.2.2.2.2.2.2.2.2.1.below b68
        rw [HY.out] at pd8
        obtain ⟨p0, p1, p2, p3, p4, p5, p6, ⟨q7, k7, p7, r7⟩, ⟨q8, k8, p8, r8⟩, ⟨q9, k9, p9, r9⟩, p10⟩ := pd8
        obtain ⟨a0, a1, a2, a3, ⟨u4, h4, a4, s4⟩, ⟨u5, h5, a5, s5⟩, ⟨u6, h6, a6, s6⟩, a7⟩ := (HB.out _ K8.out).2.2.1
        have x2 : w8.cell? ⟨T, 2, none⟩ = some (.int .i64 0) := (cell_of_block bT 2).trans p3
        have x3 : w8.cell? ⟨T, 3, none⟩ = some (.int .i64 now) := (cell_of_block bT 3).trans p4
        have x4 : w8.cell? ⟨T, 4, none⟩ = some (.int .i64 x.cpu) := (cell_of_block bT 4).trans p5
        have x5 : w8.cell? ⟨T, 5, none⟩ = some (.int .i64 x.mem) := (cell_of_block bT 5).trans p6
        have x6 : w8.cell? ⟨T, 6, none⟩ = some (.slice q7 x.lab.length k7) := (cell_of_block bT 6).trans p7
        have x7 : w8.cell? ⟨T, 7, none⟩ = some (.slice q8 x.sel.length k8) := (cell_of_block bT 7).trans p8
        have x8 : w8.cell? ⟨T, 8, none⟩ = some (.slice q9 x.tol.length k9) := (cell_of_block bT 8).trans p9
        have x9 : w8.cell? ⟨T, 9, none⟩ = some (.int .i64 x.warm) := (cell_of_block bT 9).trans p10
        have y1 : w8.cell? ⟨B, 1, none⟩ = some (.int .i64 x.cpu) := (cell_of_block bB 1).trans a2
        have y2 : w8.cell? ⟨B, 2, none⟩ = some (.int .i64 x.mem) := (cell_of_block bB 2).trans a3
        have y3 : w8.cell? ⟨B, 3, none⟩ = some (.slice u4 x.lab.length h4) := (cell_of_block bB 3).trans a4
        have y4 : w8.cell? ⟨B, 4, none⟩ = some (.slice u5 x.sel.length h5) := (cell_of_block bB 4).trans a5
        have y5 : w8.cell? ⟨B, 5, none⟩ = some (.slice u6 x.tol.length h6) := (cell_of_block bB 5).trans a6
        have y6 : w8.cell? ⟨B, 6, none⟩ = some (.int .i64 x.warm) := (cell_of_block bB 6).trans a7
        have CS1 := Lib.hid (same05_any w8 q7 u4 k7 h4 x.lab r7 s4 (by have := SM.out.1; omega))
        have ST := Lib.hid (And.intro r9 (And.intro s6 (And.intro bT (And.intro bB (And.intro p7 (And.intro p8 p9))))))
        have hn := fun (w : World) => neq_ask (x.cpu, x.mem) w
        have hg : Try.prog.eqGuardType Try.prog.depth 24 = false := by kernel_rfl
        have tn : (now != now) = false := by simp
        obtain ⟨wm, hwm⟩ : ∃ m, m = x.warm := ⟨_, rfl⟩
        rw [← hwm] at x9 y6
        have tw : (wm != wm) = false := by simp
        obtain ⟨n7, hn7⟩ : ∃ n, n = x.lab.length := ⟨_, rfl⟩
        obtain ⟨n8, hn8⟩ : ∃ n, n = x.sel.length := ⟨_, rfl⟩
        obtain ⟨n9, hn9⟩ : ∃ n, n = x.tol.length := ⟨_, rfl⟩
        rw [← hn7] at x6 y3 CS1
        rw [← hn8] at x7 y4
        rw [← hn9] at x8 y5
        have tl : ((n8 : Int) != (n8 : Int)) = false := by simp
        have HN := Lib.hid (And.intro hn7 (And.intro hn8 hn9))
        obtain ⟨cp, hcp⟩ : ∃ m, m = x.cpu := ⟨_, rfl⟩
        obtain ⟨mm, hmm⟩ : ∃ m, m = x.mem := ⟨_, rfl⟩
        rw [← hcp] at x4 y1 hn
        rw [← hmm] at x5 y2 hn
        clear bT bB p0 p1 p2 p3 p4 p5 p6 p7 p8 p9 p10 r7 r8 r9 a0 a1 a2 a3 a4 a5 a6 a7 s4 s5 s6 b68 g8 hwm hn7 hn8 hn9 hcp hmm CX LX
        go_wp2_with fail
        refine CS1.out.mono ?_
        rintro e w9 ⟨rfl, g9⟩
        have K9 := Lib.hid (K8.out.trans (g9.mono K8.out.size))
        have KC : ∀ {b i : Nat} {v : Value}, w8.cell? ⟨b, i, none⟩ = some v → w9.cell? ⟨b, i, none⟩ = some v := fun hp => (World.cell?_of_block (g9.block _ (World.block_lt_of_cell? w8 _ hp))).trans hp
        have z7 := KC x7
        have z8 := KC x8
        have v4 := KC y4
        have v5 := KC y5
        have CS2 := Lib.hid (same05_any w9 q9 u6 k9 h6 x.tol (ST.out.1.below g9) (ST.out.2.1.below g9) (by have := SM.out.2.2; omega))
        rw [← HN.out.2.2] at CS2
        have bT9 : Hid (w9.heap[T]? = some (.cells P PT (0, 0))) := (g9.block T (Array.getElem?_eq_some_iff.1 ST.out.2.2.1).1).trans ST.out.2.2.1
        have K79 : Hid (Below w7.heap.size w7 w9) := (GG8.out.below.trans (g9.mono GG8.out.size))
        have Z94 : Hid (w4.heap.size ≤ w9.heap.size) := Nat.le_trans (Nat.le_trans H6.out.2.2.2.2.1.size H6.out.2.2.2.2.2.1.size) (Nat.le_trans H6.out.2.2.2.2.2.2.1.size K79.out.size)
        clear KC g9 x2 x3 x4 x5 x6 x7 x8 x9 y1 y2 y3 y4 y5 y6 hn hg tn tw CS1
        go_wp2_with fail
        refine CS2.out.mono ?_
        rintro e w10 ⟨rfl, g10⟩
        clear z7 z8 v4 v5 tl CS2
        have K10 := Lib.hid (K9.out.trans (g10.mono K9.out.size))
        have b10 : w10.heap[T]? = some (.cells P PT (0, 0)) := (g10.block T (Array.getElem?_eq_some_iff.1 bT9.out).1).trans bT9.out
        obtain ⟨N, hN⟩ : ∃ N, N = w4.heap.size := ⟨_, rfl⟩
        have p7 : P[6]? = some (.slice q7 n7 k7) := by rw [HN.out.1]; exact ST.out.2.2.2.2.1
        have p8 : P[7]? = some (.slice q8 n8 k8) := by rw [HN.out.2.1]; exact ST.out.2.2.2.2.2.1
        have p9 : P[8]? = some (.slice q9 n9 k9) := by rw [HN.out.2.2]; exact ST.out.2.2.2.2.2.2
        have po := H6.out.2.2.2.2.2.2.2.2.2
        have l510 : Below w5.heap.size w5 w10 := H6.out.2.2.2.2.2.1.trans ((H6.out.2.2.2.2.2.2.1.below.trans ((K79.out.trans (g10.mono K79.out.size)).mono H6.out.2.2.2.2.2.2.1.size)).mono H6.out.2.2.2.2.2.1.size)
        have I5 : In N T w5 w10 := In.ofBelow l510
        have LY := Lib.hid (And.intro ((lies_own lenL (hN ▸ po.1) p7 (by rw [H6.out.2.1]; exact Nat.le_refl _) : Lies N T w5 q7 n7 2).in I5) (And.intro ((lies_own lenR (hN ▸ po.2.1) p8 (by rw [H6.out.2.1]; exact Nat.le_refl _) : Lies N T w5 q8 n8 3).in I5) ((lies_own lenL (hN ▸ po.2.2) p9 (by rw [H6.out.2.1]; exact Nat.le_refl _) : Lies N T w5 q9 n9 2).in I5)))
        have SN : Hid (n7 ≤ 255 ∧ n8 ≤ 255 ∧ n9 ≤ 255) := ⟨by rw [HN.out.1]; exact SM.out.1, by rw [HN.out.2.1]; exact SM.out.2.1, by rw [HN.out.2.2]; exact SM.out.2.2⟩
        have s7 : n7 ≤ 255 := SN.out.1
        have c7 : w10.cell? ⟨T, 6, none⟩ = some (.slice q7 n7 k7) := (cell_of_block b10 6).trans p7
        have CL := Lib.hid (And.intro c7 (And.intro ((cell_of_block b10 7).trans p8) ((cell_of_block b10 8).trans p9)))
        have HNN := Lib.hid (And.intro hN (Nat.le_trans Z94.out g10.size))
        clear hN p7 p8 p9 po l510 I5 b10 g10
        go_wp2_with fail
        clear c7
        go_loopg [98] n7 (fun g vi wr => ∃ (i : Nat), i ≤ n7 ∧ n7 - i ≤ g ∧ vi = .int .i64 (i : Int) ∧ Hid (In N T w10 wr))
        case atStart => exact ⟨0, by omega, by omega, rfl, In.refl _ _ _⟩
        case round =>
          obtain ⟨i, hi, hgg, rfl, HI⟩ := hrel
          by_cases hlt : i < n7
          · have d := HI.out.cell (Nat.le_refl _) CL.out.1
            obtain ⟨g, off, v, rfl, h1, h2, h3, h4⟩ := (LY.out.1.in HI.out).at hlt (t := 0) (by decide)
            have HG := Lib.hid (And.intro h1 h2)
            clear h1 h2
            rw [Nat.add_zero] at h3 h4
            go_wp2
            go_roundg (n7 - (i + 1))
            case measure => omega
            case rel => exact ⟨i + 1, hlt, Nat.le_refl _, by go_num, HI.out.setCell _ _ HG.out.1 HG.out.2⟩
          · obtain rfl : i = n7 := by omega
            have IX := HI
            have c8 := IX.out.cell (Nat.le_refl _) CL.out.2.1
            have s8 : n8 ≤ 255 := SN.out.2.1
            clear HI hi hgg hlt s7
            go_wp2_with fail
            clear c8
            go_loopg [110] n8 (fun g vi wr2 => ∃ (i : Nat), i ≤ n8 ∧ n8 - i ≤ g ∧ vi = .int .i64 (i : Int) ∧ Hid (In N T w10 wr2))
            case atStart => exact ⟨0, by omega, by omega, rfl, IX.out⟩
            case round =>
              clear IX
              obtain ⟨i, hi, hgg, rfl, HI⟩ := hrel
              by_cases hlt : i < n8
              · have d := HI.out.cell (Nat.le_refl _) CL.out.2.1
                obtain ⟨g, off, v, rfl, h1, h2, h3, h4⟩ := (LY.out.2.1.in HI.out).at hlt (t := 0) (by decide)
                have HG := Lib.hid (And.intro h1 h2)
                clear h1 h2
                rw [Nat.add_zero] at h3 h4
                go_wp2
                go_roundg (n8 - (i + 1))
                case measure => omega
                case rel => exact ⟨i + 1, hlt, Nat.le_refl _, by go_num, HI.out.setCell _ _ HG.out.1 HG.out.2⟩
              · obtain rfl : i = n8 := by omega
                have IX := HI
                have c9 := IX.out.cell (Nat.le_refl _) CL.out.2.2
                have s9 : n9 ≤ 255 := SN.out.2.2
                clear HI hi hgg hlt s8
                go_wp2_with fail
                clear c9
                go_loopg [122] n9 (fun g vi wr2 => ∃ (i : Nat), i ≤ n9 ∧ n9 - i ≤ g ∧ vi = .int .i64 (i : Int) ∧ Hid (In N T w10 wr2))
                case atStart => exact ⟨0, by omega, by omega, rfl, IX.out⟩
                case round =>
                  clear IX
                  obtain ⟨i, hi, hgg, rfl, HI⟩ := hrel
                  by_cases hlt : i < n9
                  · have d := HI.out.cell (Nat.le_refl _) CL.out.2.2
                    obtain ⟨g, off, v, rfl, h1, h2, h3, h4⟩ := (LY.out.2.2.in HI.out).at hlt (t := 0) (by decide)
                    have HG := Lib.hid (And.intro h1 h2)
                    clear h1 h2
                    rw [Nat.add_zero] at h3 h4
                    go_wp2
                    go_roundg (n9 - (i + 1))
                    case measure => omega
                    case rel => exact ⟨i + 1, hlt, Nat.le_refl _, by go_num, HI.out.setCell _ _ HG.out.1 HG.out.2⟩
                  · obtain rfl : i = n9 := by omega
                    have hz : N ≤ w10.heap.size := by rw [HNN.out.1]; exact HNN.out.2
                    have KE := Lib.hid (K10.out.trans ((HI.out.below hz).mono (by rw [HNN.out.1]; exact K4.out.size)))
                    have LE := Lib.hid (load_ob (HB.out _ KE.out).2.1 (HB.out _ KE.out).2.2.2.1)
                    have CE := Lib.hid (robj_any wr C ob (HB.out _ KE.out).2.2.2 HKK.out FT.out)
                    rw [← HS.out] at CE
                    clear HI hi hgg hlt s9 hz
                    go_wp2_with (refine wpList_load_by (by kernel_rfl) OT _ rfl (.pointer (some ⟨B + 1, 0, none⟩)) (.agg C) (by kernel_rfl) LE.out ?_)
                    refine CE.out.mono ?_
                    rintro e we ⟨rfl, ge⟩
                    have K9 := Lib.hid (EARLY.out _ (KE.out.trans (ge.below.mono KE.out.size)))
                    clear ge
                    go_wp2
                    go_ret
                    exact ⟨by first | rfl | (simp; done) | (congr 2; exact beq_self_eq_true _), K9.out⟩

/-- A workload of zeros. -/
abbrev zerW : Array Value := #[.int .i64 0, .int .i64 0, .int .i64 0, .slice none 0 0, .slice none 0 0, .slice none 0 0, .int .i64 0]
theorem walk {H : Type} {enc : TypeId × Value → H} {base : Nat} (W : World) (v0 : Value) (d0 : DataW H) (p0 : List MemPlace) (o0 : Value.okWide Try.prog W .any base WT v0) (h0 : DataW.Trod enc Try.prog W 0 (fun _ => true) true WT v0 d0 p0)
    (v1 : Value) (d1 : DataW H) (p1 : List MemPlace) (o1 : Value.okWide Try.prog W .any base 2 v1) (h1 : DataW.Trod enc Try.prog W 0 (fun _ => true) true 2 v1 d1 p1) (wt : Wt WT d0) (_ : Wt 2 d1) :
    Calls Try.prog 4 #[v0, v1] W fun e W' => e = .returned (.bool true) ∧ Below W.heap.size W W' := by
  obtain ⟨P, x, rfl, hv, hn, F⟩ := open_wk o0 h0 wt
  obtain ⟨n, rfl, rfl, rfl, _⟩ := open_int Try.underlying2 o1 h1
  exact walk_at W P x n hv hn F

/-! ### THE ROW's STEP -/
set_option maxRecDepth 100000 in
theorem lifted (os : Os) (started : os.Started) (H : Type) (enc : TypeId × Value → H) :
    ReturnsInHanded {} Try.checked os 4 .any (Rows.podsMadeSpec.pre6 enc Try.prog Try.f4 Rows.podsMadeRow.domain false) (Rows.podsMadeSpec.post enc Try.prog Try.f4 false true false false) := by
  refine returnsInHanded_of_change_sized (C := Try.checked) own started (by kernel_rfl) Try.func4
    (ChangeSpec.witness6 (enc := enc) (C := Try.checked) false ⟨#[], #[.agg zerW, .int .i64 0], []⟩ 8 (by kernel_rfl) (by kernel_rfl) (by kernel_rfl) (by kernel_rfl)) ?_
  intro W base args ds gs before hval0 hW hcnd hsz0 _
  have hval : ∀ (j : Nat) t v, Try.f4.params[j]? = some t → args[j]? = some v → Value.okWide Try.prog W .any base t v := hval0
  have hW' := hW
  obtain ⟨p, q, hA0, hV, rfl, hfz, hnd⟩ := hW
  have hA : DataW.TrodAll enc Try.prog W 0 (fun _ => true) true Try.f4.params.toList args.toList ds p := hA0
  have hlt : ∀ x ∈ p, x.block < W.heap.size := fun x hx => hW'.lt x (List.mem_append_left _ hx)
  rw [Try.params4] at hA hval
  have hread : ∀ t ∈ [33, 2], Try.prog.readableRec t = true ∧ t < Try.prog.types.size := by
    intro t ht
    simp only [List.mem_cons, List.not_mem_nil, or_false] at ht
    rcases ht with rfl | rfl <;> exact ⟨by kernel_rfl, of_decide_eq_true (by kernel_rfl)⟩
  have again : ∀ (W' : World), Below W.heap.size W W' → ∀ sp : Nat → Bool, (∀ x ∈ p, sp x.block = true) → DataW.TrodAll enc Try.prog W' 0 sp true [33, 2] args.toList ds p :=
    fun W' hb sp hsp => all_again (by kernel_rfl) hb [33, 2] args.toList ds p hread hA hlt hsp
  obtain ⟨v0, v1, d0, d1, p0, p1, rfl, rfl, rfl, h0, h1⟩ := trodAll_two hA
  obtain ⟨rfl, rfl⟩ := trodVars_none hV
  have wt0 : Wt 33 d0 := fun n hn => by
    have := List.all_eq_true.1 hsz0 n (DataW.weights_mem_each (j := 0) (t := 33) (d := d0) (by kernel_rfl) rfl n hn)
    simpa using this
  have wt1 : Wt 2 d1 := fun n hn => by
    have := List.all_eq_true.1 hsz0 n (DataW.weights_mem_each (j := 1) (t := 2) (d := d1) (by kernel_rfl) rfl n hn)
    simpa using this
  clear hA0 hval0
  simp only [List.append_nil] at hW' again
  refine (walk W v0 d0 p0 (hval 0 33 v0 rfl rfl) h0 v1 d1 p1 (hval 1 2 v1 rfl rfl) h1 wt0 wt1).mono fun e W' ⟨he, hg⟩ => ?_
  subst he
  exact ⟨_, rfl, post_below hW' hg (fun _ _ _ => trodAll_mk1 (shut_bool Try.underlying4 _)) (fun sp hsp => again W' hg sp hsp) (fun _ => rfl) (ok_one (by kernel_rfl) rfl (okWide_bool_mk Try.underlying4 _))⟩

theorem over : Rows.podsMadeRow.holds Try.pinned (OpenSpec.ofChange Rows.podsMadeSpec) :=
  OpenClaim.holds_of_wide 4 Try.f4 rfl rfl rfl rfl rfl rfl rfl ⟨rfl, rfl, rfl, rfl, rfl⟩ rfl rfl rfl rfl rfl (by kernel_rfl) Try.func4 (by kernel_rfl)
    (of_decide_eq_true (by kernel_rfl)) (by unfold Func.isWrapper; first | (rw [if_pos (by decide +kernel)]; kernel_rfl) | (rw [if_neg (by decide +kernel)]; exact ⟨rfl, rfl⟩))
    (fun os started H enc _ => lifted os started H enc)

/-- The statement. -/
theorem proved : Rows.PodsMadeSaid :=
  over
#print axioms proved
end Go.Proofs.Ytcfilaiejccfkaa.podsMade


