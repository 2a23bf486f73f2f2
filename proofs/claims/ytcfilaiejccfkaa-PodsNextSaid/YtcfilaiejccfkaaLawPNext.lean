/- Proved here: the law PodsNext of layer 14 holds for every input: any pod gets on as the document says, nothing else of it changes, and behind that it stays. No conditions. -/
import Derived.Test.YtcfilaiejccfkaaPoC
import Derived.Test.YtcfilaiejccfkaaVaW
import Derived.Test.YtcfilaiejccfkaaObH
import Derived.Test.YtcfilaiejccfkaaVLawBase
import Derived.Test.YtcfilaiejccfkaaPost
import Derived.Test.YtcfilaiejccfkaaArgs
import Derived.RegionTactic
import Derived.ChangeAlike
namespace Go.Proofs.Ytcfilaiejccfkaa.podsNext
open Go.ChangeShapes Go.WideShapes Go.ChangeAt Go.RowKit Go.Lib Go.Shelf Go.Sort Go.Deep
open Go.Joins (cell_of_block unfrozen_of_block block_setCell)
open Go.Proofs.Ytcfilaiejccfkaa.Po
set_option linter.unusedVariables false
set_option linter.unusedSimpArgs false
set_option maxRecDepth 20000

/-- A pod that came in. -/
theorem open_pod {H : Type} {enc : TypeId × Value → H} {W : World} {base : Nat} {v : Value} {d : DataW H} {p : List MemPlace} (ok : Value.okWide Try.prog W .any base PT v)
    (h : DataW.Trod enc Try.prog W 0 (fun _ => true) true PT v d p) (wt : Wt PT d) : ∃ P x, v = .agg P ∧ PdS W P x ∧ NilP P ∧ FitsO (podO 1 ⟨#[]⟩ 0 x) ∧ I64 x.since ∧ I64 x.warm := by
  obtain ⟨cs, rfl, hs⟩ := okWide_struct Try.underlying28 ok
  obtain ⟨fuel, hf⟩ := h
  have hf : DataW.trod enc Try.prog W 0 (fun _ => true) true fuel PT cs.toList = some (d, p) := hf
  obtain ⟨x, ⟨r0, r1, r2, r3, r4⟩, ⟨m0, m1, m2⟩, f0, f1, f2, f3, f4, f5, f6, f7, f8, f9⟩ := open_pd hf wt
  obtain ⟨_, _, t6, _⟩ := fld (F := 25) (off := 6) (k := 1) 5 Try.underlying28 (by kernel_rfl) hf wt
  obtain ⟨_, _, t7, _⟩ := fld (F := 26) (off := 7) (k := 1) 6 Try.underlying28 (by kernel_rfl) hf wt
  obtain ⟨_, _, t8, _⟩ := fld (F := 25) (off := 8) (k := 1) 7 Try.underlying28 (by kernel_rfl) hf wt
  obtain ⟨_, _, t3, _⟩ := fld (F := 2) (off := 3) (k := 1) 3 Try.underlying28 (by kernel_rfl) hf wt
  obtain ⟨s3, a3, w3⟩ := leaf_i Try.underlying2 t3
  obtain ⟨_, _, t9, _⟩ := fld (F := 3) (off := 9) (k := 1) 8 Try.underlying28 (by kernel_rfl) hf wt
  obtain ⟨s9, a9, w9⟩ := leaf_i Try.underlying3 t9
  rw [f3] at a3
  rw [f9] at a9
  injection a3 with a3
  injection a3 with _ a3
  injection a9 with a9
  injection a9 with _ a9
  have g : ∀ {j : Nat} {u : Value}, cs.toList[j]? = some u → cs[j]? = some u := fun h => by rwa [Array.getElem?_toList] at h
  have gs : ∀ {α : Type} {k j : Nat} {e : α → List Value} {l : List α}, SlR k e W cs.toList[j]? l → SlR k e W cs[j]? l := fun h => by rwa [Array.getElem?_toList] at h
  refine ⟨cs, x, rfl, ⟨by rw [hs]; kernel_rfl, g f0, g f1, g f2, g f3, g f4, g f5, gs f6, gs f7, gs f8, g f9⟩, ?_, ?_, by rw [a3]; exact w3, by rw [a9]; exact w9⟩
  · intro i n c hi hc
    simp only [List.mem_cons, List.not_mem_nil, or_false] at hi
    rw [← Array.getElem?_toList] at hc
    rcases hi with rfl | rfl | rfl
    · exact nil_leaf Try.underlying25 t6 n c hc
    · exact nil_leaf Try.underlying26 t7 n c hc
    · exact nil_leaf Try.underlying25 t8 n c hc
  · constructor <;> first | rfl | exact Nat.zero_le _ | exact r0 | exact r1 | exact m0 | exact m1 | exact m2 | exact List.all_eq_true.2 r2 | exact List.all_eq_true.2 r3 | exact List.all_eq_true.2 r4
theorem podO_fits {x : Pd} {k : Int} (F : FitsO (podO 1 ⟨#[]⟩ 0 x)) : FitsO (podO k ⟨#[]⟩ 0 x) := ⟨F.name, F.w_lab_r, F.w_lab, F.w_sel_r, F.w_sel, F.w_tol_r, F.w_tol, F.p_own, F.p_node, F.p_lab_r, F.p_lab, F.p_sel_r, F.p_sel, F.p_tol_r, F.p_tol, F.n_grp, F.n_lab_r, F.n_lab, F.n_tnt_r, F.n_tnt, F.g_lab_r, F.g_lab, F.g_tnt_r, F.g_tnt, F.h_tg, F.h_met_r, F.h_met, F.h_upol_r, F.h_dpol_r, F.h_past_r⟩

theorem set_back (x : Pd) (now : Int) (there : Bool) : setPh (nxt x now there) x.ph x.since = x := by
  unfold nxt
  split
  · rfl
  · split
    · rfl
    · split <;> rfl
theorem lens_fit {o : Ob} (F : FitsO o) : lenO o := ⟨by have := F.w_lab_r; omega, by have := F.w_sel_r; omega, by have := F.w_tol_r; omega, by have := F.p_lab_r; omega, by have := F.p_sel_r; omega, by have := F.p_tol_r; omega, by have := F.n_lab_r; omega, by have := F.n_tnt_r; omega, by have := F.g_lab_r; omega, by have := F.g_tnt_r; omega, by have := F.h_met_r; omega, by have := F.h_upol_r; omega, by have := F.h_dpol_r; omega, by have := F.h_past_r; omega⟩
theorem set_end {w3 w8 : World} {N T : Nat} {Q : Array Value} {x yy : Pd} {now : Int} {there : Bool} (b : w8.heap[T]? = some (.cells Q PT (0, 0))) (q : PdS w8 Q yy) (hy : yy = nxt x now there) (o : OwnP N w3 (nxt x now there) Q) (k : ∀ g, g < w3.heap.size → w8.heap[g]? = w3.heap[g]?) (lt : w3.heap.size ≤ T) :
    Hid (∃ X, ((w8.setCell ⟨T, 2, none⟩ (.int .i64 x.ph)).setCell ⟨T, 3, none⟩ (.int .i64 x.since)).drew.heap[T]? = some (.cells X PT (0, 0)) ∧ PdS ((w8.setCell ⟨T, 2, none⟩ (.int .i64 x.ph)).setCell ⟨T, 3, none⟩ (.int .i64 x.since)).drew X x) ∧ Hid (Xb T w8 ((w8.setCell ⟨T, 2, none⟩ (.int .i64 x.ph)).setCell ⟨T, 3, none⟩ (.int .i64 x.since)).drew) := by
  have xx := (((Xb.refl T w8).setCell 2 (.int .i64 x.ph)).setCell 3 (.int .i64 x.since)).trans (Xb.ofGr ((Gr.refl _).drew) T)
  have h := set_pd q x.ph x.since
  have h2 := set_own (o.keep (w' := ((w8.setCell ⟨T, 2, none⟩ (.int .i64 x.ph)).setCell ⟨T, 3, none⟩ (.int .i64 x.since)).drew) (fun g _ hg => by
    have hg8 : g < w8.heap.size := by have := (Array.getElem?_eq_some_iff.1 b).1; omega
    rw [xx.block g hg8 (by omega)]
    exact k g hg)) x.ph x.since
  rw [hy, set_back] at h
  rw [set_back] at h2
  exact ⟨⟨_, block_setCell (block_setCell b _) _, h.own h2⟩, xx⟩
theorem oneA {w : World} {L : Array Value} {o : Ob} (h : ObjV w L o) : ∀ v ∈ L.toList, v.oneCell' = true := by
  have h := objV_one h
  rw [← Array.all_toList] at h
  exact List.all_eq_true.1 h

set_option maxHeartbeats 16000000 in
theorem walk_at (W : World) (P0 : Array Value) (x : Pd) (now : Int) (there : Bool) (hv : PdS W P0 x) (hn : NilP P0) (F : FitsO (podO 1 ⟨#[]⟩ 0 x)) :
    Calls Try.prog 3 #[.agg P0, .int .i64 now, .bool there] W fun e w' => e = .returned (.bool true) ∧ Below W.heap.size W w' := by
  have mixed : Try.prog.follows .mixedOrders = true := by kernel_rfl
  have V := Lib.hid plives_any
  obtain ⟨B, hB⟩ : ∃ B, B = W.heap.size := ⟨_, rfl⟩
  obtain ⟨wb, hwb⟩ : ∃ w, w = W.alloc (.cells P0 PT) := ⟨_, rfl⟩
  have G0 : Gr W wb := hwb ▸ (Gr.refl W).alloc _
  have b0 : wb.heap[B]? = some (.cells P0 PT (0, 0)) := by rw [hwb, hB]; exact heap_alloc_new W _
  have z0 : wb.heap.size = B + 1 := by rw [hwb, hB]; simp
  have HB : Hid (∀ w, Below wb.heap.size wb w → w.heap[B]? = some (.cells P0 PT (0, 0))) := fun w g => (g.block B (by omega)).trans b0
  have HV : Hid (∀ w, Below wb.heap.size wb w → PdS w P0 x) := fun w g => hv.below (G0.below.trans (g.mono G0.size))
  have HW := Lib.hid (And.intro hwb (And.intro hB (And.intro z0 (And.intro G0 (And.intro hn (And.intro F (hv.below G0.below)))))))
  clear hv hn F hB hwb G0 b0 z0
  obtain ⟨c1, e1⟩ : ∃ b, decide (now < 0) = b := ⟨_, rfl⟩
  obtain ⟨c2, e2⟩ : ∃ b, decide (4611686018427387904 < now) = b := ⟨_, rfl⟩
  obtain ⟨c3, e3⟩ : ∃ b, decide (x.since < 0) = b := ⟨_, rfl⟩
  obtain ⟨c4, e4⟩ : ∃ b, decide (4611686018427387904 < x.since) = b := ⟨_, rfl⟩
  obtain ⟨c5, e5⟩ : ∃ b, decide (x.warm < 0) = b := ⟨_, rfl⟩
  obtain ⟨c6, e6⟩ : ∃ b, decide (1800 < x.warm) = b := ⟨_, rfl⟩
  cases c1 with
  | true =>
    clear e2 e3 e4 e5 e6
    go_enter Try.func3, Try.ntmps3
    go_upto_region 1 with fail
    rw [← HW.out.1, ← HW.out.2.1]
    go_wp2_with fail
    refine (V.out _).mono ?_
    rintro e w1 ⟨rfl, g1⟩
    have K1 := Lib.hid g1
    have d3 : w1.cell? ⟨B, 3, none⟩ = some (.int .i64 x.since) := by rw [cell_of_block (HB.out _ g1)]; exact (HV.out _ g1).2.2.2.2.1
    have d9 : w1.cell? ⟨B, 9, none⟩ = some (.int .i64 x.warm) := by rw [cell_of_block (HB.out _ g1)]; exact (HV.out _ g1).2.2.2.2.2.2.2.2.2.2
    clear g1
    go_wp2_with fail
    refine (V.out _).mono ?_
    rintro e w2 ⟨rfl, g2⟩
    have K2 := Lib.hid (HW.out.2.2.2.1.below.trans ((K1.out.trans (g2.mono K1.out.size)).mono HW.out.2.2.2.1.size))
    clear g2
    go_wp2
    go_ret
    exact ⟨rfl, K2.out⟩
  | false =>
    cases c2 with
    | true =>
      clear e3 e4 e5 e6
      go_enter Try.func3, Try.ntmps3
      go_upto_region 1 with fail
      rw [← HW.out.1, ← HW.out.2.1]
      go_wp2_with fail
      refine (V.out _).mono ?_
      rintro e w1 ⟨rfl, g1⟩
      have K1 := Lib.hid g1
      have d3 : w1.cell? ⟨B, 3, none⟩ = some (.int .i64 x.since) := by rw [cell_of_block (HB.out _ g1)]; exact (HV.out _ g1).2.2.2.2.1
      have d9 : w1.cell? ⟨B, 9, none⟩ = some (.int .i64 x.warm) := by rw [cell_of_block (HB.out _ g1)]; exact (HV.out _ g1).2.2.2.2.2.2.2.2.2.2
      clear g1
      go_wp2_with fail
      refine (V.out _).mono ?_
      rintro e w2 ⟨rfl, g2⟩
      have K2 := Lib.hid (HW.out.2.2.2.1.below.trans ((K1.out.trans (g2.mono K1.out.size)).mono HW.out.2.2.2.1.size))
      clear g2
      go_wp2
      go_ret
      exact ⟨rfl, K2.out⟩
    | false =>
      cases c3 with
      | true =>
        clear e4 e5 e6
        go_enter Try.func3, Try.ntmps3
        go_upto_region 1 with fail
        rw [← HW.out.1, ← HW.out.2.1]
        go_wp2_with fail
        refine (V.out _).mono ?_
        rintro e w1 ⟨rfl, g1⟩
        have K1 := Lib.hid g1
        have d3 : w1.cell? ⟨B, 3, none⟩ = some (.int .i64 x.since) := by rw [cell_of_block (HB.out _ g1)]; exact (HV.out _ g1).2.2.2.2.1
        have d9 : w1.cell? ⟨B, 9, none⟩ = some (.int .i64 x.warm) := by rw [cell_of_block (HB.out _ g1)]; exact (HV.out _ g1).2.2.2.2.2.2.2.2.2.2
        clear g1
        go_wp2_with fail
        refine (V.out _).mono ?_
        rintro e w2 ⟨rfl, g2⟩
        have K2 := Lib.hid (HW.out.2.2.2.1.below.trans ((K1.out.trans (g2.mono K1.out.size)).mono HW.out.2.2.2.1.size))
        clear g2
        go_wp2
        go_ret
        exact ⟨rfl, K2.out⟩
      | false =>
        cases c4 with
        | true =>
          clear e5 e6
          go_enter Try.func3, Try.ntmps3
          go_upto_region 1 with fail
          rw [← HW.out.1, ← HW.out.2.1]
          go_wp2_with fail
          refine (V.out _).mono ?_
          rintro e w1 ⟨rfl, g1⟩
          have K1 := Lib.hid g1
          have d3 : w1.cell? ⟨B, 3, none⟩ = some (.int .i64 x.since) := by rw [cell_of_block (HB.out _ g1)]; exact (HV.out _ g1).2.2.2.2.1
          have d9 : w1.cell? ⟨B, 9, none⟩ = some (.int .i64 x.warm) := by rw [cell_of_block (HB.out _ g1)]; exact (HV.out _ g1).2.2.2.2.2.2.2.2.2.2
          clear g1
          go_wp2_with fail
          refine (V.out _).mono ?_
          rintro e w2 ⟨rfl, g2⟩
          have K2 := Lib.hid (HW.out.2.2.2.1.below.trans ((K1.out.trans (g2.mono K1.out.size)).mono HW.out.2.2.2.1.size))
          clear g2
          go_wp2
          go_ret
          exact ⟨rfl, K2.out⟩
        | false =>
          cases c5 with
          | true =>
            clear e6
            go_enter Try.func3, Try.ntmps3
            go_upto_region 1 with fail
            rw [← HW.out.1, ← HW.out.2.1]
            go_wp2_with fail
            refine (V.out _).mono ?_
            rintro e w1 ⟨rfl, g1⟩
            have K1 := Lib.hid g1
            have d3 : w1.cell? ⟨B, 3, none⟩ = some (.int .i64 x.since) := by rw [cell_of_block (HB.out _ g1)]; exact (HV.out _ g1).2.2.2.2.1
            have d9 : w1.cell? ⟨B, 9, none⟩ = some (.int .i64 x.warm) := by rw [cell_of_block (HB.out _ g1)]; exact (HV.out _ g1).2.2.2.2.2.2.2.2.2.2
            clear g1
            go_wp2_with fail
            refine (V.out _).mono ?_
            rintro e w2 ⟨rfl, g2⟩
            have K2 := Lib.hid (HW.out.2.2.2.1.below.trans ((K1.out.trans (g2.mono K1.out.size)).mono HW.out.2.2.2.1.size))
            clear g2
            go_wp2
            go_ret
            exact ⟨rfl, K2.out⟩
          | false =>
            cases c6 with
            | true =>
              go_enter Try.func3, Try.ntmps3
              go_upto_region 1 with fail
              rw [← HW.out.1, ← HW.out.2.1]
              go_wp2_with fail
              refine (V.out _).mono ?_
              rintro e w1 ⟨rfl, g1⟩
              have K1 := Lib.hid g1
              have d3 : w1.cell? ⟨B, 3, none⟩ = some (.int .i64 x.since) := by rw [cell_of_block (HB.out _ g1)]; exact (HV.out _ g1).2.2.2.2.1
              have d9 : w1.cell? ⟨B, 9, none⟩ = some (.int .i64 x.warm) := by rw [cell_of_block (HB.out _ g1)]; exact (HV.out _ g1).2.2.2.2.2.2.2.2.2.2
              clear g1
              go_wp2_with fail
              refine (V.out _).mono ?_
              rintro e w2 ⟨rfl, g2⟩
              have K2 := Lib.hid (HW.out.2.2.2.1.below.trans ((K1.out.trans (g2.mono K1.out.size)).mono HW.out.2.2.2.1.size))
              clear g2
              go_wp2
              go_ret
              exact ⟨rfl, K2.out⟩
            | false =>
              go_enter Try.func3, Try.ntmps3
              go_upto_region 1 with fail
              rw [← HW.out.1, ← HW.out.2.1]
              go_wp2_with fail
              refine (V.out _).mono ?_
              rintro e w1 ⟨rfl, g1⟩
              have K1 := Lib.hid g1
              have d3 : w1.cell? ⟨B, 3, none⟩ = some (.int .i64 x.since) := by rw [cell_of_block (HB.out _ g1)]; exact (HV.out _ g1).2.2.2.2.1
              have d9 : w1.cell? ⟨B, 9, none⟩ = some (.int .i64 x.warm) := by rw [cell_of_block (HB.out _ g1)]; exact (HV.out _ g1).2.2.2.2.2.2.2.2.2.2
              clear g1
              have LD := Lib.hid (load_pd (HB.out _ K1.out) (HV.out _ K1.out).1)
              have RB := Lib.hid (built0 (HV.out _ K1.out).1)
              have CF := Lib.hid (few_any w1 (podC 0 ⟨#[]⟩ 0 P0) (podO 0 ⟨#[]⟩ 0 x) (obj_pod (HV.out _ K1.out) 0 ⟨#[]⟩ 0 (by decide)) (podO_fits HW.out.2.2.2.2.2.1))
              obtain ⟨fw, hfw⟩ : ∃ f, f = fewB (podO 0 ⟨#[]⟩ 0 x) := ⟨_, rfl⟩
              obtain ⟨PC, hPC⟩ : ∃ C, C = podC 0 ⟨#[]⟩ 0 P0 := ⟨_, rfl⟩
              rw [← hPC] at RB CF
              rw [← hfw] at CF
              have HFW := Lib.hid hfw
              have TK : Hid (Tk x ∧ 0 ≤ now ∧ now ≤ 4611686018427387904) := by
                have h1 := of_decide_eq_false e1
                have h2 := of_decide_eq_false e2
                have h3 := of_decide_eq_false e3
                have h4 := of_decide_eq_false e4
                have h5 := of_decide_eq_false e5
                have h6 := of_decide_eq_false e6
                exact ⟨⟨Int.not_lt.1 h3, Int.not_lt.1 h4, Int.not_lt.1 h5, Int.not_lt.1 h6⟩, Int.not_lt.1 h1, Int.not_lt.1 h2⟩
              clear hPC hfw
              go_wp2_with (first | (refine wpList_load_by (by kernel_rfl) PT _ rfl (.pointer (some ⟨B, 0, none⟩)) (.agg P0) (by kernel_rfl) LD.out ?_) | (refine wpList_known (by kernel_rfl) (run_built rfl (by kernel_rfl) RB.out _) ?_))
              refine CF.out.mono ?_
              rintro e w2 ⟨rfl, g2⟩
              have K2 := Lib.hid (K1.out.trans (g2.below.mono K1.out.size))
              clear g2 CF RB LD d3 d9 e1 e2 e3 e4 e5 e6
              cases fw with
              | false =>
                go_wp2_with fail
                refine (V.out _).mono ?_
                rintro e w3 ⟨rfl, g3⟩
                have K3 := Lib.hid (HW.out.2.2.2.1.below.trans ((K2.out.trans (g3.mono K2.out.size)).mono HW.out.2.2.2.1.size))
                clear g3
                go_wp2
                go_ret
                exact ⟨rfl, K3.out⟩
              | true =>
                obtain ⟨hwb, hB, z0, G0, hn, F, hv0⟩ := HW.out
                have ht := TK.out.1
                have few := HFW.out
                have small : x.lab.length ≤ 1000 ∧ x.sel.length ≤ 1000 ∧ x.tol.length ≤ 1000 := by
                  have := small_few few.symm
                  exact ⟨this.2.2.2.1, this.2.2.2.2.1, this.2.2.2.2.2.1⟩
                have LD := Lib.hid (load_pd (HB.out _ K2.out) hv0.1)
                have CN := Lib.hid (next_any w2 P0 x now there (HV.out _ K2.out) hn small ht)
                have SM := Lib.hid small
                clear hwb hB z0 G0 hn F hv0 ht few small K1
                go_wp2_with (refine wpList_load_by (by kernel_rfl) PT _ rfl (.pointer (some ⟨B, 0, none⟩)) (.agg P0) (by kernel_rfl) LD.out ?_)
                refine CN.out.mono ?_
                rintro e w3 ⟨⟨Q, rfl, qd, qo⟩, hb3⟩
                have K3 := Lib.hid (K2.out.trans (hb3.mono K2.out.size))
                obtain ⟨TH, IN, ON, w4, hw4, b4, l4, z4⟩ := new_pd qd qo.nil
                obtain ⟨T7, hT7⟩ : ∃ T, T = w3.heap.size := ⟨_, rfl⟩
                have K4 := Lib.hid (K3.out.trans (l4.mono K3.out.size))
                have LD4 := Lib.hid (load_pd (HB.out _ K4.out) HW.out.2.2.2.2.2.2.1)
                have CL := Lib.hid (lnext_any w4 P0 x now there (HV.out _ K4.out) TK.out.1)
                have H4 := Lib.hid (And.intro hw4 (And.intro hT7 (And.intro (show w4.heap[T7]? = some (.cells Q PT (0, 0)) by rw [hT7]; exact b4) (And.intro (qd.below l4) qo.nil))))
                have OQ3 := Lib.hid (And.intro qo (And.intro l4 (show w3.heap.size < w4.heap.size by omega)))
                clear hb3 qd qo hw4 b4 l4 z4 hT7 CN LD
                go_upto_region 4 with (refine wpList_store_mid rfl _ _ _ rfl w3.heap.size 0 Q (by rfl) (by rfl) TH.out IN.out ON.out ?_)
                rw [H4.out.1, ← H4.out.2.1]
                clear TH IN ON
                go_wp2_with (refine wpList_load_by (by kernel_rfl) PT _ rfl (.pointer (some ⟨B, 0, none⟩)) (.agg P0) (by kernel_rfl) LD4.out ?_)
                refine CL.out.mono ?_
                rintro e w5 ⟨rfl, g5⟩
                obtain ⟨yy, hy⟩ : ∃ y, y = nxt x now there := ⟨_, rfl⟩
                have K5 := Lib.hid (K4.out.trans (g5.below.mono K4.out.size))
                have K45 := Lib.hid g5.below
                have t5 : w5.heap[T7]? = some (.cells Q PT (0, 0)) := (g5.heap (Array.getElem?_eq_some_iff.1 H4.out.2.2.1).1).trans H4.out.2.2.1
                have q5 : PdS w5 Q yy := by rw [hy]; exact H4.out.2.2.2.1.below g5.below
                have k2 : w5.cell? ⟨T7, 2, none⟩ = some (.int .i64 yy.ph) := by rw [cell_of_block t5]; exact q5.2.2.2.1
                have k3 : w5.cell? ⟨T7, 3, none⟩ = some (.int .i64 yy.since) := by rw [cell_of_block t5]; exact q5.2.2.2.2.1
                have LQ := Lib.hid (load_pd t5 q5.1)
                have HY := Lib.hid hy
                have nr := nxt_rows x now there
                have CM := Lib.hid (next_any w5 Q yy now there q5 H4.out.2.2.2.2 (by rw [hy, nr.1, nr.2.1, nr.2.2.1]; exact SM.out) (by rw [hy]; exact nxt_tk TK.out.1 TK.out.2.1 TK.out.2.2 there))
                have ag : nxt yy now there = yy := by rw [hy]; exact nxt_again x now there
                rw [ag] at CM
                rw [← hy]
                have HQ5 := Lib.hid (And.intro t5 q5)
                clear nr ag t5 q5 g5 hy CL LD4
                go_wp2_with (refine wpList_load_by (by kernel_rfl) PT _ rfl (.pointer (some ⟨T7, 0, none⟩)) (.agg Q) (by kernel_rfl) LQ.out ?_)
                refine CM.out.mono ?_
                rintro e w6 ⟨⟨R, rfl, rd, ro⟩, hb6⟩
                have K6 := Lib.hid (K5.out.trans (hb6.mono K5.out.size))
                obtain ⟨TH, IN, ON, w7, hw7, b7, l7, z7⟩ := new_pd rd ro.nil
                obtain ⟨T10, hT10⟩ : ∃ T, T = w6.heap.size := ⟨_, rfl⟩
                have K7 := Lib.hid (K6.out.trans (l7.mono K6.out.size))
                have t7 : w7.heap[T7]? = some (.cells Q PT (0, 0)) := by
                  have h := (Array.getElem?_eq_some_iff.1 HQ5.out.1).1
                  exact (l7.block T7 (Nat.lt_of_lt_of_le h hb6.size)).trans ((hb6.block T7 h).trans HQ5.out.1)
                have q7 : PdS w7 Q yy := (HQ5.out.2.below hb6).below l7
                have LQ7 := Lib.hid (load_pd t7 q7.1)
                obtain ⟨TH2, IN2, ON2, w8, hw8, b8, l8, z8⟩ := new_pd q7 H4.out.2.2.2.2
                have K8 := Lib.hid (K7.out.trans (l8.mono K7.out.size))
                obtain ⟨T11, hT11⟩ : ∃ T, T = w7.heap.size := ⟨_, rfl⟩
                have H8 := Lib.hid (And.intro hw7 (And.intro hT10 (And.intro hw8 (And.intro hT11 (And.intro (show w8.heap[T10]? = some (.cells R PT (0, 0)) by rw [hT10]; exact (l8.block _ (by omega)).trans b7) (And.intro (show w8.heap[T11]? = some (.cells Q PT (0, 0)) by rw [hT11]; exact b8) (And.intro ((l8.block T7 (Array.getElem?_eq_some_iff.1 t7).1).trans t7) (And.intro (q7.below l8) (And.intro ((rd.below l7).below l8) (And.intro (show B < T11 ∧ T11 < w8.heap.size by have := K7.out.size; have := HW.out.2.2.1; omega) (show T7 < T11 ∧ T10 < T11 by have := (Array.getElem?_eq_some_iff.1 t7).1; omega)))))))))))
                have OQ : Hid (OwnP w2.heap.size w3 (nxt x now there) Q ∧ (∀ g, g < w3.heap.size → w8.heap[g]? = w3.heap[g]?) ∧ w3.heap.size ≤ T11) := by
                  obtain ⟨qo, l4, z4⟩ := OQ3.out
                  have k45 := K45.out
                  have e5 := k45.size
                  have e6 := hb6.size
                  have e7 := l7.size
                  exact ⟨qo, fun g hg => by rw [l8.block g (by omega), l7.block g (by omega), hb6.block g (by omega), k45.block g (by omega), l4.block g hg], by omega⟩
                clear hb6 rd ro hw7 b7 l7 z7 hT10 t7 q7 hw8 b8 l8 z8 hT11 CM LQ k2 k3 OQ3 K45
                go_upto_region 8 with (refine wpList_store_mid rfl _ _ _ rfl w6.heap.size 0 R (by rfl) (by rfl) TH.out IN.out ON.out ?_)
                rw [H8.out.1, ← H8.out.2.1]
                clear TH IN ON
                go_upto_region 9 with (first | (refine wpList_load_by (by kernel_rfl) PT _ rfl (.pointer (some ⟨T7, 0, none⟩)) (.agg Q) (by kernel_rfl) LQ7.out ?_) | (refine wpList_store_mid rfl _ _ _ rfl w7.heap.size 0 Q (by rfl) (by rfl) TH2.out IN2.out ON2.out ?_))
                rw [H8.out.2.2.1, ← H8.out.2.2.2.1]
                clear TH2 IN2 ON2 LQ7 HQ5
                obtain ⟨-, -, -, -, b10, b11, t8, q8, r8, hlt, hlt2⟩ := H8.out
                have s2 : w8.cell? ⟨B, 2, none⟩ = some (.int .i64 x.ph) := by rw [cell_of_block (HB.out _ K8.out)]; exact (HV.out _ K8.out).2.2.2.1
                have s3 : w8.cell? ⟨B, 3, none⟩ = some (.int .i64 x.since) := by rw [cell_of_block (HB.out _ K8.out)]; exact (HV.out _ K8.out).2.2.2.2.1
                have y2 : w8.cell? ⟨T11, 2, none⟩ = some (.int .i64 yy.ph) := by rw [cell_of_block b11]; exact q8.2.2.2.1
                have y3 : w8.cell? ⟨T11, 3, none⟩ = some (.int .i64 yy.since) := by rw [cell_of_block b11]; exact q8.2.2.2.2.1
                have u2 := unfrozen_of_block b11 2
                have u3 := unfrozen_of_block b11 3
                have ne : B ≠ T11 := by omega
                clear b10 b11 t8 q8 r8 hlt hlt2
                (try simp only [Act.put])
                go_cut [] from 77 to 82 (fun wx => Hid (∃ X, wx.heap[T11]? = some (.cells X PT (0, 0)) ∧ PdS wx X x) ∧ Hid (Xb T11 w8 wx))
                case first =>
                  go_region
                  all_goals
                    go_wp2_with fail
                    go_meet
                    case rel =>
                      obtain ⟨-, -, -, -, b10, b11, t8, q8, r8, hlt, hlt2⟩ := H8.out
                      exact set_end b11 q8 HY.out OQ.out.1 OQ.out.2.1 OQ.out.2.2
                case rest =>
                  obtain ⟨HX9, HB9⟩ := hcut
                  obtain ⟨w9, hw9⟩ : ∃ w9, w9 = wc := ⟨_, rfl⟩
                  rw [← hw9] at HX9 HB9 ⊢
                  clear s2 s3 y2 y3 u2 u3 ne hw9
                  go_upto_region 10 with fail
                  go_cut [12, 13] from 83 to 86 (fun va vb wx => ∃ ia ib, va = .pointer (some ⟨ia, 0, none⟩) ∧ vb = .pointer (some ⟨ib, 0, none⟩) ∧ Hid (∃ CA CB, wx.heap[ia]? = some (.cells CA OT (0, 0)) ∧ wx.heap[ib]? = some (.cells CB OT (0, 0)) ∧ ObjV wx CA (podO 1 ⟨#[]⟩ 0 x) ∧ ObjV wx CB (podO 1 ⟨#[]⟩ 0 x)) ∧ Hid (Below w9.heap.size w9 wx))
                  case first =>
                    obtain ⟨-, -, -, -, b10, b11, t8, q8, r8, hlt, hlt2⟩ := H8.out
                    obtain ⟨X, c11, vX⟩ := HX9.out
                    have cB : w9.heap[B]? = some (.cells P0 PT (0, 0)) := (HB9.out.block B (by omega) (by omega)).trans (HB.out _ K8.out)
                    have z9 := HB9.out.size
                    have vP : PdS w9 P0 x := HW.out.2.2.2.2.2.2.below ((K8.out.trans (HB9.out.below (N := wb.heap.size) (by have := HW.out.2.2.1; omega) K8.out.size)))
                    have RX : Hid (Try.prog.built OT [(0, .int .i64 1), (4, .agg X.toList.toArray)] = some (podC 1 ⟨#[]⟩ 0 X)) := by show _ = _; rw [Array.toArray_toList]; exact built1 vX.1
                    have RP : Hid (Try.prog.built OT [(0, .int .i64 1), (4, .agg P0.toList.toArray)] = some (podC 1 ⟨#[]⟩ 0 P0)) := by show _ = _; rw [Array.toArray_toList]; exact built1 vP.1
                    have OX : Hid (∀ w, Below w9.heap.size w9 w → ObjV w (podC 1 ⟨#[]⟩ 0 X) (podO 1 ⟨#[]⟩ 0 x)) := fun w b => obj_pod (vX.below b) 1 ⟨#[]⟩ 0 (by decide)
                    have OP : Hid (∀ w, Below w9.heap.size w9 w → ObjV w (podC 1 ⟨#[]⟩ 0 P0) (podO 1 ⟨#[]⟩ 0 x)) := fun w b => obj_pod (vP.below b) 1 ⟨#[]⟩ 0 (by decide)
                    have KX : Hid (∀ ws, Below w9.heap.size w9 ws → ws.rangeAt T11 0 X.toList) := fun ws b => Ld.rangeAt_block ((b.block T11 (by omega)).trans c11)
                    have KP : Hid (∀ ws, Below w9.heap.size w9 ws → ws.rangeAt B 0 P0.toList) := fun ws b => Ld.rangeAt_block ((b.block B (by omega)).trans cB)
                    have iX : (Try.prog.info? PT).map (·.size) = some X.toList.length := by rw [Array.length_toList, vX.1]; exact info_pt
                    have iP : (Try.prog.info? PT).map (·.size) = some P0.toList.length := by rw [Array.length_toList, vP.1]; exact info_pt
                    obtain ⟨CA, hCA⟩ : ∃ C, C = podC 1 ⟨#[]⟩ 0 X := ⟨_, rfl⟩
                    obtain ⟨CB, hCB⟩ : ∃ C, C = podC 1 ⟨#[]⟩ 0 P0 := ⟨_, rfl⟩
                    rw [← hCA] at RX OX
                    rw [← hCB] at RP OP
                    have zA : CA.size = 47 := (OX.out w9 (Below.refl _ _)).1
                    have zB : CB.size = 47 := (OP.out w9 (Below.refl _ _)).1
                    have oA : ∀ v ∈ CA.toList, v.oneCell' = true := oneA (OX.out w9 (Below.refl _ _))
                    have oB : ∀ v ∈ CB.toList, v.oneCell' = true := oneA (OP.out w9 (Below.refl _ _))
                    have lA : CA.toList.length = 47 := by rw [Array.length_toList]; exact zA
                    have lB : CB.toList.length = 47 := by rw [Array.length_toList]; exact zB
                    have huP := Try.underlying28
                    clear c11 cB hCA hCB vX vP b10 b11 t8 q8 r8 hlt hlt2 z9
                    generalize X.toList = XL at RX KX iX
                    generalize P0.toList = PL at RP KP iP
                    refine wp_region_held_drew (S := fun w' => Below w9.heap.size w9 w') mixed (((Gr.refl w9).drewN 1).below) (fun hS => ?_)
                    refine wpAnyH_takeD (i := 0) (d := 83) (v := .agg XL.toArray) _ rfl rfl (by kernel_rfl) (by kernel_rfl) (by kernel_rfl) (fun _ _ _ h => h) (yieldsIf_load_mid (by kernel_rfl) _ _ rfl T11 0 (by kernel_rfl) XL _ (fun ws hSw => KX.out ws hSw) huP rfl iX) hS ?_
                    simp only [Act.put, List.setIfInBounds_toArray, List.set_cons_zero, List.set_cons_succ]
                    refine wpAnyH_takeD (i := 1) (d := 84) (v := .agg CA) _ rfl rfl (by kernel_rfl) (by kernel_rfl) (by kernel_rfl) (fun _ _ _ h => h) (Or.inl ⟨by kernel_rfl, fun ws hSw => run_built rfl (by kernel_rfl) RX.out ws⟩) hS ?_
                    simp only [Act.put, List.setIfInBounds_toArray, List.set_cons_zero, List.set_cons_succ]
                    refine wpAnyH_takeD (i := 2) (d := 85) (v := .agg PL.toArray) _ rfl rfl (by kernel_rfl) (by kernel_rfl) (by kernel_rfl) (fun _ _ _ h => h) (yieldsIf_load_mid (by kernel_rfl) _ _ rfl B 0 (by kernel_rfl) PL _ (fun ws hSw => KP.out ws hSw) huP rfl iP) hS ?_
                    simp only [Act.put, List.setIfInBounds_toArray, List.set_cons_zero, List.set_cons_succ]
                    refine wpAnyH_takeD (i := 3) (d := 86) (v := .agg CB) _ rfl rfl (by kernel_rfl) (by kernel_rfl) (by kernel_rfl) (fun _ _ _ h => h) (Or.inl ⟨by kernel_rfl, fun ws hSw => run_built rfl (by kernel_rfl) RP.out ws⟩) hS ?_
                    simp only [Act.put, List.setIfInBounds_toArray, List.set_cons_zero, List.set_cons_succ]
                    refine wpAnyH_ready (rs := [4, 5]) (by kernel_rfl) (by simp) ?_
                    refine AllReadyH.cons rfl (fun K hK => ?_) (AllReadyH.cons rfl (fun K hK => ?_) AllReadyH.nil)
                    · go_simp
                      obtain ⟨wa, hwa⟩ : ∃ wa, wa = (w9.alloc (.cells zerC OT)).drew := ⟨_, rfl⟩
                      rw [← hwa]
                      have Ba : Below w9.heap.size w9 wa := by rw [hwa]; exact ((Below.refl _ _).alloc (Nat.le_refl _) _).drew
                      have ha : wa.heap[w9.heap.size]? = some (.cells zerC OT (0, 0)) := by rw [hwa]; exact heap_alloc_new w9 _
                      clear hwa
                      refine hK _ _ Ba (fun _ => ?_)
                      try (simp only [Act.put, List.setIfInBounds_toArray, List.set_cons_zero, List.set_cons_succ])
                      have Gb : Gr wa (wa.alloc (.cells zerC OT)) := (Gr.refl wa).alloc _
                      have hlt := (Array.getElem?_eq_some_iff.1 ha).1
                      have TW := two_ob (CA := CA) (CB := CB) (Ba.trans (Gb.below.mono Ba.size)) ((Gb.heap hlt).trans ha) (heap_alloc_new wa _) (by omega) (Nat.le_refl _) Ba.size zA zB
                      have HT := Lib.hid TW
                      clear TW Gb ha
                      refine wpAnyH_one (i := 5) (by kernel_rfl) ?_
                      refine Mk5.step (d := 13) (Z := .cells zerC OT) ⟨⟨_, rfl, rfl, fun _ => rfl, fun a ws => by first | (go_simp; done) | (go_simp; rfl)⟩⟩ ⟨Ba.alloc Ba.size _, ?_⟩
                      simp only [Act.put, List.setIfInBounds_toArray, List.set_cons_zero, List.set_cons_succ]
                      refine wpAnyH_one (i := 6) (by kernel_rfl) ?_
                      refine St5.step (d := 12) (t := 84) (n := 47) (b := w9.heap.size) (l := CA.toList) ⟨⟨_, _, rfl, rfl, fun _ => rfl, rfl, by kernel_rfl⟩⟩ (by kernel_rfl) (by first | kernel_rfl | rfl) lA HT.out.1 oA ⟨HT.out.2.2.1, ?_⟩
                      try (simp only [Act.put, List.setIfInBounds_toArray, List.set_cons_zero, List.set_cons_succ])
                      refine wpAnyH_one (i := 7) (by kernel_rfl) ?_
                      refine St5.step (d := 13) (t := 86) (n := 47) (b := wa.heap.size) (l := CB.toList) ⟨⟨_, _, rfl, rfl, fun _ => rfl, rfl, by kernel_rfl⟩⟩ (by kernel_rfl) (by first | kernel_rfl | rfl) lB HT.out.2.1 oB ⟨HT.out.2.2.2.2.2, ?_⟩
                      refine wpAnyH_done (by kernel_rfl) ?_ _
                      go_wp2_with fail
                      go_meet
                      case rel => exact ⟨_, _, rfl, rfl, ⟨CA, CB, HT.out.2.2.2.1, HT.out.2.2.2.2.1, OX.out _ HT.out.2.2.2.2.2, OP.out _ HT.out.2.2.2.2.2⟩, HT.out.2.2.2.2.2⟩
                    · go_simp
                      obtain ⟨wa, hwa⟩ : ∃ wa, wa = (w9.alloc (.cells zerC OT)).drew := ⟨_, rfl⟩
                      rw [← hwa]
                      have Ba : Below w9.heap.size w9 wa := by rw [hwa]; exact ((Below.refl _ _).alloc (Nat.le_refl _) _).drew
                      have ha : wa.heap[w9.heap.size]? = some (.cells zerC OT (0, 0)) := by rw [hwa]; exact heap_alloc_new w9 _
                      clear hwa
                      refine hK _ _ Ba (fun _ => ?_)
                      try (simp only [Act.put, List.setIfInBounds_toArray, List.set_cons_zero, List.set_cons_succ])
                      have Gb : Gr wa (wa.alloc (.cells zerC OT)) := (Gr.refl wa).alloc _
                      have hlt := (Array.getElem?_eq_some_iff.1 ha).1
                      have TW := two_ob (CA := CA) (CB := CB) (Ba.trans (Gb.below.mono Ba.size)) (heap_alloc_new wa _) ((Gb.heap hlt).trans ha) (by omega) Ba.size (Nat.le_refl _) zA zB
                      have HT := Lib.hid TW
                      clear TW Gb ha
                      refine wpAnyH_one (i := 4) (by kernel_rfl) ?_
                      refine Mk5.step (d := 12) (Z := .cells zerC OT) ⟨⟨_, rfl, rfl, fun _ => rfl, fun a ws => by first | (go_simp; done) | (go_simp; rfl)⟩⟩ ⟨Ba.alloc Ba.size _, ?_⟩
                      simp only [Act.put, List.setIfInBounds_toArray, List.set_cons_zero, List.set_cons_succ]
                      refine wpAnyH_one (i := 6) (by kernel_rfl) ?_
                      refine St5.step (d := 12) (t := 84) (n := 47) (b := wa.heap.size) (l := CA.toList) ⟨⟨_, _, rfl, rfl, fun _ => rfl, rfl, by kernel_rfl⟩⟩ (by kernel_rfl) (by first | kernel_rfl | rfl) lA HT.out.1 oA ⟨HT.out.2.2.1, ?_⟩
                      try (simp only [Act.put, List.setIfInBounds_toArray, List.set_cons_zero, List.set_cons_succ])
                      refine wpAnyH_one (i := 7) (by kernel_rfl) ?_
                      refine St5.step (d := 13) (t := 86) (n := 47) (b := w9.heap.size) (l := CB.toList) ⟨⟨_, _, rfl, rfl, fun _ => rfl, rfl, by kernel_rfl⟩⟩ (by kernel_rfl) (by first | kernel_rfl | rfl) lB HT.out.2.1 oB ⟨HT.out.2.2.2.2.2, ?_⟩
                      refine wpAnyH_done (by kernel_rfl) ?_ _
                      go_wp2_with fail
                      go_meet
                      case rel => exact ⟨_, _, rfl, rfl, ⟨CA, CB, HT.out.2.2.2.1, HT.out.2.2.2.2.1, OX.out _ HT.out.2.2.2.2.2, OP.out _ HT.out.2.2.2.2.2⟩, HT.out.2.2.2.2.2⟩
                  case rest =>
                    obtain ⟨ia, ib, rfl, rfl, HC, HWC⟩ := hcut
                    obtain ⟨-, -, -, -, b10, b11, t8, q8, r8, hlt, hlt2⟩ := H8.out
                    obtain ⟨CA, CB, ca, cb, va, vb⟩ := HC.out
                    have z9 := HB9.out.size
                    have j10 : wc.heap[T10]? = some (.cells R PT (0, 0)) := (HWC.out.block T10 (by omega)).trans ((HB9.out.block T10 (by omega) (by omega)).trans b10)
                    have j7 : wc.heap[T7]? = some (.cells Q PT (0, 0)) := (HWC.out.block T7 (by omega)).trans ((HB9.out.block T7 (by omega) (by omega)).trans t8)
                    have d1 : wc.cell? ⟨T10, 2, none⟩ = some (.int .i64 yy.ph) := by rw [cell_of_block j10]; exact r8.2.2.2.1
                    have d2 : wc.cell? ⟨T10, 3, none⟩ = some (.int .i64 yy.since) := by rw [cell_of_block j10]; exact r8.2.2.2.2.1
                    have d3 : wc.cell? ⟨T7, 2, none⟩ = some (.int .i64 yy.ph) := by rw [cell_of_block j7]; exact q8.2.2.2.1
                    have d4 : wc.cell? ⟨T7, 3, none⟩ = some (.int .i64 yy.since) := by rw [cell_of_block j7]; exact q8.2.2.2.2.1
                    have KW : Hid (Below W.heap.size W wc) := HW.out.2.2.2.1.below.trans (((K8.out.trans (HB9.out.below (N := wb.heap.size) (by have := HW.out.2.2.1; omega) K8.out.size)).trans (HWC.out.mono (Nat.le_trans K8.out.size z9))).mono HW.out.2.2.2.1.size)
                    have FF := HW.out.2.2.2.2.2.1
                    have TT : TinyO (podO 1 ⟨#[]⟩ 0 x) := by
                      have h := tiny_few (o := podO 0 ⟨#[]⟩ 0 x) HFW.out.symm
                      exact h
                    have LA := Lib.hid (load_ob ca va.1)
                    have LB := Lib.hid (load_ob cb vb.1)
                    have CS := Lib.hid (rshort_any wc CB (podO 1 ⟨#[]⟩ 0 x) vb (lens_fit FF) ⟨by show (0 : Int) ≤ 1; decide, by show (1 : Int) ≤ 4; decide⟩)
                    have CE : Hid (∀ w, Below wc.heap.size wc w → Calls Try.prog 10 #[.agg CA, .agg CB] w fun e w' => e = .returned (.bool true) ∧ Gr w w') := fun w b => same_any w CA CB (podO 1 ⟨#[]⟩ 0 x) (va.below b) (vb.below b) FF TT
                    have LL : Hid (∀ w, Below wc.heap.size wc w → (Instr.loadAt OT (.pointer (some ⟨ia, 0, none⟩))).run Try.prog w = .ok (.agg CA) w ∧ (Instr.loadAt OT (.pointer (some ⟨ib, 0, none⟩))).run Try.prog w = .ok (.agg CB) w) := fun w b => ⟨load_ob ((b.block ia (Array.getElem?_eq_some_iff.1 ca).1).trans ca) va.1, load_ob ((b.block ib (Array.getElem?_eq_some_iff.1 cb).1).trans cb) vb.1⟩
                    obtain ⟨pp, hpp⟩ : ∃ p, p = yy.ph := ⟨_, rfl⟩
                    obtain ⟨ss, hss⟩ : ∃ s, s = yy.since := ⟨_, rfl⟩
                    rw [← hpp] at d1 d3
                    rw [← hss] at d2 d4
                    obtain ⟨sh, hsh⟩ : ∃ s, s = okO (podO 1 ⟨#[]⟩ 0 x) := ⟨_, rfl⟩
                    rw [← hsh] at CS
                    clear b10 b11 t8 q8 r8 hlt hlt2 ca cb va vb z9 j10 j7 FF TT hpp hss hsh
                    go_wp2_with (refine wpList_load_by (by kernel_rfl) OT _ rfl (.pointer (some ⟨ib, 0, none⟩)) (.agg CB) (by kernel_rfl) LB.out ?_)
                    refine CS.out.mono ?_
                    rintro e wd ⟨rfl, gd⟩
                    have KD := Lib.hid gd.below
                    obtain ⟨la, lb⟩ := LL.out wd gd.below
                    have LA2 := Lib.hid la
                    have LB2 := Lib.hid lb
                    have CD := Lib.hid (CE.out wd gd.below)
                    clear gd la lb LA LB LL CS CE
                    cases sh with
                    | false =>
                      go_wp2
                      go_ret
                      exact ⟨rfl, KW.out.trans (KD.out.mono KW.out.size)⟩
                    | true =>
                      go_wp2_with (first | (refine wpList_load_by (by kernel_rfl) OT _ rfl (.pointer (some ⟨ia, 0, none⟩)) (.agg CA) (by rfl) LA2.out ?_) | (refine wpList_load_by (by kernel_rfl) OT _ rfl (.pointer (some ⟨ib, 0, none⟩)) (.agg CB) (by rfl) LB2.out ?_))
                      refine CD.out.mono ?_
                      rintro e we ⟨rfl, ge⟩
                      have KE := Lib.hid (KW.out.trans ((KD.out.trans (ge.below.mono KD.out.size)).mono KW.out.size))
                      clear ge
                      go_wp2
                      go_ret
                      exact ⟨rfl, KE.out⟩

theorem walk {H : Type} {enc : TypeId × Value → H} {base : Nat} (W : World) (v0 : Value) (d0 : DataW H) (p0 : List MemPlace) (o0 : Value.okWide Try.prog W .any base PT v0) (h0 : DataW.Trod enc Try.prog W 0 (fun _ => true) true PT v0 d0 p0)
    (v1 : Value) (d1 : DataW H) (p1 : List MemPlace) (o1 : Value.okWide Try.prog W .any base 2 v1) (h1 : DataW.Trod enc Try.prog W 0 (fun _ => true) true 2 v1 d1 p1)
    (v2 : Value) (d2 : DataW H) (p2 : List MemPlace) (o2 : Value.okWide Try.prog W .any base 4 v2) (h2 : DataW.Trod enc Try.prog W 0 (fun _ => true) true 4 v2 d2 p2) (wt : Wt PT d0) (_ : Wt 2 d1) (_ : Wt 4 d2) :
    Calls Try.prog 3 #[v0, v1, v2] W fun e W' => e = .returned (.bool true) ∧ Below W.heap.size W W' := by
  obtain ⟨P, x, rfl, hv, hn, F, _⟩ := open_pod o0 h0 wt
  obtain ⟨n, rfl, rfl, rfl, _⟩ := open_int Try.underlying2 o1 h1
  obtain ⟨b, rfl, rfl, rfl⟩ := open_bool Try.underlying4 o2 h2
  exact walk_at W P x n b hv hn F

/-! ### THE ROW's STEP -/
set_option maxRecDepth 100000 in
theorem lifted (os : Os) (started : os.Started) (H : Type) (enc : TypeId × Value → H) :
    ReturnsInHanded {} Try.checked os 3 .any (Rows.podsNextSpec.pre6 enc Try.prog Try.f3 Rows.podsNextRow.domain false) (Rows.podsNextSpec.post enc Try.prog Try.f3 false true false false) := by
  refine returnsInHanded_of_change_sized (C := Try.checked) own started (by kernel_rfl) Try.func3
    (ChangeSpec.witness6 (enc := enc) (C := Try.checked) false ⟨#[], #[.agg zerP, .int .i64 0, .bool false], []⟩ 8 (by kernel_rfl) (by kernel_rfl) (by kernel_rfl) (by kernel_rfl)) ?_
  intro W base args ds gs before hval0 hW hcnd hsz0 _
  have hval : ∀ (j : Nat) t v, Try.f3.params[j]? = some t → args[j]? = some v → Value.okWide Try.prog W .any base t v := hval0
  have hW' := hW
  obtain ⟨p, q, hA0, hV, rfl, hfz, hnd⟩ := hW
  have hA : DataW.TrodAll enc Try.prog W 0 (fun _ => true) true Try.f3.params.toList args.toList ds p := hA0
  have hlt : ∀ x ∈ p, x.block < W.heap.size := fun x hx => hW'.lt x (List.mem_append_left _ hx)
  rw [Try.params3] at hA hval
  have hread : ∀ t ∈ [28, 2, 4], Try.prog.readableRec t = true ∧ t < Try.prog.types.size := by
    intro t ht
    simp only [List.mem_cons, List.not_mem_nil, or_false] at ht
    rcases ht with rfl | rfl | rfl <;> exact ⟨by kernel_rfl, of_decide_eq_true (by kernel_rfl)⟩
  have again : ∀ (W' : World), Below W.heap.size W W' → ∀ sp : Nat → Bool, (∀ x ∈ p, sp x.block = true) → DataW.TrodAll enc Try.prog W' 0 sp true [28, 2, 4] args.toList ds p :=
    fun W' hb sp hsp => all_again (by kernel_rfl) hb [28, 2, 4] args.toList ds p hread hA hlt hsp
  obtain ⟨v0, v1, v2, d0, d1, d2, p0, p1, p2, rfl, rfl, rfl, h0, h1, h2⟩ := trodAll_three hA
  obtain ⟨rfl, rfl⟩ := trodVars_none hV
  have wt0 : Wt 28 d0 := fun n hn => by
    have := List.all_eq_true.1 hsz0 n (DataW.weights_mem_each (j := 0) (t := 28) (d := d0) (by kernel_rfl) rfl n hn)
    simpa using this
  have wt1 : Wt 2 d1 := fun n hn => by
    have := List.all_eq_true.1 hsz0 n (DataW.weights_mem_each (j := 1) (t := 2) (d := d1) (by kernel_rfl) rfl n hn)
    simpa using this
  have wt2 : Wt 4 d2 := fun n hn => by
    have := List.all_eq_true.1 hsz0 n (DataW.weights_mem_each (j := 2) (t := 4) (d := d2) (by kernel_rfl) rfl n hn)
    simpa using this
  clear hA0 hval0
  simp only [List.append_nil] at hW' again
  refine (walk W v0 d0 p0 (hval 0 28 v0 rfl rfl) h0 v1 d1 p1 (hval 1 2 v1 rfl rfl) h1 v2 d2 p2 (hval 2 4 v2 rfl rfl) h2 wt0 wt1 wt2).mono fun e W' ⟨he, hg⟩ => ?_
  subst he
  exact ⟨_, rfl, post_below hW' hg (fun _ _ _ => trodAll_mk1 (shut_bool Try.underlying4 _)) (fun sp hsp => again W' hg sp hsp) (fun _ => rfl) (ok_one (by kernel_rfl) rfl (okWide_bool_mk Try.underlying4 _))⟩

theorem over : Rows.podsNextRow.holds Try.pinned (OpenSpec.ofChange Rows.podsNextSpec) :=
  OpenClaim.holds_of_wide 3 Try.f3 rfl rfl rfl rfl rfl rfl rfl ⟨rfl, rfl, rfl, rfl, rfl⟩ rfl rfl rfl rfl rfl (by kernel_rfl) Try.func3 (by kernel_rfl)
    (of_decide_eq_true (by kernel_rfl)) (by unfold Func.isWrapper; first | (rw [if_pos (by decide +kernel)]; kernel_rfl) | (rw [if_neg (by decide +kernel)]; exact ⟨rfl, rfl⟩))
    (fun os started H enc _ => lifted os started H enc)

/-- The statement. -/
theorem proved : Rows.PodsNextSaid :=
  over
#print axioms proved
end Go.Proofs.Ytcfilaiejccfkaa.podsNext


