/- Layer 20: a load with the pods of which nobody knows what they use. -/
import Derived.Test.YtajkhbdniadkkaaPpS
import Derived.Test.YtajkhbdniadkkaaHeldF
namespace Go.Proofs.Ytajkhbdniadkkaa.Pp
open Go.RowKit Go.Shelf Go.Lib Go.Sort Go.Deep
open Go.Joins (cell_of_block unfrozen_of_block block_setCell)
open Go.Proofs.Ytajkhbdniadkkaa.Ow Go.Proofs.Ytajkhbdniadkkaa.Ld
set_option linter.unusedVariables false
set_option linter.unusedSimpArgs false
set_option maxRecDepth 20000

/-- Three boxes: a load's, a metric's, the answer's. -/
theorem box3 (w : World) (D M : Array Value) : ∃ w1, Hid (((w.alloc (.cells D LT)).alloc (.cells M MT)).alloc (.cells zerL LT) = w1) ∧ Below w.heap.size w w1 ∧ w1.heap[w.heap.size]? = some (.cells D LT (0, 0)) ∧ w1.heap[w.heap.size + 1]? = some (.cells M MT (0, 0)) ∧ w1.heap[w.heap.size + 2]? = some (.cells zerL LT (0, 0)) := by
  obtain ⟨wa, hwa⟩ : ∃ x, x = w.alloc (.cells D LT) := ⟨_, rfl⟩
  obtain ⟨wb, hwb⟩ : ∃ x, x = wa.alloc (.cells M MT) := ⟨_, rfl⟩
  obtain ⟨wc, hwc⟩ : ∃ x, x = wb.alloc (.cells zerL LT) := ⟨_, rfl⟩
  have z1 : wa.heap.size = w.heap.size + 1 := by rw [hwa]; simp
  have z2 : wb.heap.size = w.heap.size + 2 := by rw [hwb]; simp; omega
  have Ba : Below w.heap.size w wc := by rw [hwc, hwb, hwa]; exact ((((Gr.refl w).alloc _).alloc _).alloc _).below
  have x0 : wa.heap[w.heap.size]? = some (.cells D LT (0, 0)) := by rw [hwa]; exact heap_alloc_new w _
  have x1 : wb.heap[w.heap.size]? = some (.cells D LT (0, 0)) := by rw [hwb]; exact (Below.heap_alloc wa _ _ (by omega)).trans x0
  have x2 : wb.heap[w.heap.size + 1]? = some (.cells M MT (0, 0)) := by rw [hwb, ← z1]; exact heap_alloc_new wa _
  refine ⟨wc, ?_, Ba, ?_, ?_, ?_⟩
  · show _ = _; rw [hwc, hwb, hwa]
  · rw [hwc]; exact (Below.heap_alloc wb _ _ (by omega)).trans x1
  · rw [hwc]; exact (Below.heap_alloc wb _ _ (by omega)).trans x2
  · rw [hwc, ← z2]; exact heap_alloc_new wb _
theorem ld_range {w : World} {B : Nat} {D : Array Value} {T : TypeId} (h : w.heap[B]? = some (.cells D T (0, 0))) : w.rangeAt B 0 D.toList := Ld.rangeAt_block h

set_option maxHeartbeats 8000000 in
theorem guessed_even (w : World) (u n : Nat) (M : Array Value) (V1 V2 : Value) :
    Calls Try.prog 35 #[.agg (loadC (u : Int) (u : Int) (n : Int)), .agg M, V1, V2] w fun e w' => e = .returned (.tuple #[.agg (loadC (u : Int) (u : Int) (n : Int)), .int .i64 0]) ∧ Below w.heap.size w w' := by
  obtain ⟨D, hD⟩ : ∃ D, D = loadC (u : Int) (u : Int) (n : Int) := ⟨_, rfl⟩
  rw [← hD]
  obtain ⟨w1, HW, Ba, y0, _, y2⟩ := box3 w D M
  obtain ⟨B, hB⟩ : ∃ B, B = w.heap.size := ⟨_, rfl⟩
  rw [← hB] at y0 y2
  have HB : Hid (w.heap.size = B) := hB.symm
  have c0 : w1.cell? ⟨B, 0, none⟩ = some (.int .i64 (u : Int)) := (cell_of_block y0 0).trans (by rw [hD]; rfl)
  have c1 : w1.cell? ⟨B, 1, none⟩ = some (.int .i64 (u : Int)) := (cell_of_block y0 1).trans (by rw [hD]; rfl)
  have sD : D.size = 3 := by rw [hD]; rfl
  have oD : Hid (D.all (·.oneCell') = true) := by rw [hD]; exact loadC_all _ _ _
  have LL := Lib.hid (load_ld y0 sD)
  obtain ⟨th, blk, blw⟩ := put_ld (D := D) y2 rfl sD Ba (by omega)
  have TH := Lib.hid th
  have RES := Lib.hid (And.intro blk blw)
  have IN : Hid ((Try.prog.info? LT).map (·.size) = some D.size) := by show _ = _; rw [sD]; exact info_LT
  clear Ba y0 y2 hB hD th blk blw sD
  go_enter Try.func35, Try.ntmps35
  go_upto_region 1 with fail
  rw [HW.out, HB.out]
  go_wp2_with (first | (refine wpList_load_by (by kernel_rfl) LT _ rfl (.pointer (some ⟨B, 0, none⟩)) (.agg D) (by rfl) LL.out ?_) | (refine wpList_store_mid rfl _ _ _ rfl (B + 2) 0 D (by rfl) (by rfl) TH.out IN.out oD.out ?_))
  refine bodyPost_ret (res_two rfl _ _ (B + 2) LT D (0, 0) _ (by rfl) RES.out.1 Try.underlying74 rfl IN.out) rfl ?_
  exact ⟨rfl, RES.out.2⟩

set_option maxHeartbeats 8000000 in
theorem guessed_less (w : World) (u g n : Nat) (hu : u ≤ 9007199254740992) (hg : g ≤ 9007199254740992) (hn : n ≤ 1000000000) (hlt : u < g) (k : Int) (s : ByteArray) (t : Nat) (ht : t ≤ 9007199254740992) (q : Option Addr) (c : Nat) (l : List Ut) (hr : RowR 5 encT w q l) (hlen : l.length ≤ 1000000) (hok : ∀ x ∈ l, okU x = true) (V2 : Value) :
    Calls Try.prog 35 #[.agg (loadC (u : Int) (g : Int) (n : Int)), .agg (metC k s (t : Int)), .slice q l.length c, V2] w fun e w' => (∃ D, e = .returned (.tuple #[.agg D, .int .i64 (capE (g + sumG k t l))]) ∧ LdTold D (capE (g + sumG k t l)) (u + sumG k t l) (g + sumG k t l) (n + l.length)) ∧ Below w.heap.size w w' := by
  have CW0 := fun (W : World) (b : Below w.heap.size w W) => pp_with W u g n hu hg hn k s t ht q c l (hr.below b) hlen hok true
  simp only [if_true] at CW0
  obtain ⟨ge, hge⟩ : ∃ x, x = capE (g + sumG k t l) := ⟨_, rfl⟩
  obtain ⟨us, hus⟩ : ∃ x, x = u + sumG k t l := ⟨_, rfl⟩
  obtain ⟨gs, hgs⟩ : ∃ x, x = g + sumG k t l := ⟨_, rfl⟩
  rw [← hgs] at hge
  rw [← hus, ← hgs, ← hge]
  rw [← hus, ← hgs, ← hge] at CW0
  obtain ⟨D, hD⟩ : ∃ D, D = loadC (u : Int) (g : Int) (n : Int) := ⟨_, rfl⟩
  obtain ⟨M, hM⟩ : ∃ M, M = metC k s (t : Int) := ⟨_, rfl⟩
  have sM : M.size = 3 := by rw [hM]; rfl
  obtain ⟨nm, hnm⟩ : ∃ x, x = n + l.length := ⟨_, rfl⟩
  rw [← hnm] at CW0
  rw [← hnm]
  obtain ⟨m, hm⟩ : ∃ x, x = l.length := ⟨_, rfl⟩
  rw [← hD, ← hM, ← hm] at CW0
  rw [← hD, ← hM, ← hm]
  obtain ⟨w1, HW, Ba, y0, y1, y2⟩ := box3 w D M
  obtain ⟨B, hB⟩ : ∃ B, B = w.heap.size := ⟨_, rfl⟩
  rw [← hB] at y0 y1 y2
  have HB : Hid (w.heap.size = B) := hB.symm
  have c0 : w1.cell? ⟨B, 0, none⟩ = some (.int .i64 (u : Int)) := (cell_of_block y0 0).trans (by rw [hD]; rfl)
  have c1 : w1.cell? ⟨B, 1, none⟩ = some (.int .i64 (g : Int)) := (cell_of_block y0 1).trans (by rw [hD]; rfl)
  have sD : D.size = 3 := by rw [hD]; rfl
  have LL := Lib.hid (load_ld y0 sD)
  have LM := Lib.hid (load_met y1 sM)
  have CW := Lib.hid (CW0 w1 Ba)
  have HH := Lib.hid (And.intro Ba y2)
  have t1 : ¬ g < u := by omega
  have t2 : u < g := hlt
  clear Ba y0 y1 y2 hB hD hM sD sM hge hus hgs hnm hm hr hok CW0
  go_enter Try.func35, Try.ntmps35
  go_upto_region 1 with fail
  rw [HW.out, HB.out]
  go_wp2_with (first | (refine wpList_load_by (by kernel_rfl) LT _ rfl (.pointer (some ⟨B, 0, none⟩)) (.agg D) (by rfl) LL.out ?_) | (refine wpList_load_by (by kernel_rfl) MT _ rfl (.pointer (some ⟨B + 1, 0, none⟩)) (.agg M) (by rfl) LM.out ?_))
  refine CW.out.mono ?_
  rintro e w2 ⟨⟨D2, rfl, sD2, oD2, eD2⟩, b2⟩
  obtain ⟨Ba, y2⟩ := HH.out
  obtain ⟨th, blk, blw⟩ := put_ld (D := D2) ((b2.block (B + 2) (Array.getElem?_eq_some_iff.1 y2).1).trans y2) rfl sD2 (Ba.trans (b2.mono Ba.size)) (by have := HB.out; omega)
  have TH := Lib.hid th
  have RES := Lib.hid (And.intro blk blw)
  have IN : Hid ((Try.prog.info? LT).map (·.size) = some D2.size) := by show _ = _; rw [sD2]; exact info_LT
  have OD := Lib.hid oD2
  have TOLD : Hid (LdTold D2 ge us gs nm) := ⟨sD2, oD2, eD2⟩
  clear Ba y2 th blk blw sD2 oD2 eD2 b2 HH CW LL LM
  go_wp2_with (refine wpList_store_mid rfl _ _ _ rfl (B + 2) 0 D2 (by rfl) (by rfl) TH.out IN.out OD.out ?_)
  refine bodyPost_ret (res_two rfl _ _ (B + 2) LT D2 (0, 0) _ (by rfl) RES.out.1 Try.underlying74 rfl IN.out) rfl ?_
  exact ⟨⟨D2, rfl, TOLD.out⟩, RES.out.2⟩

set_option maxHeartbeats 8000000 in
theorem guessed_more (w : World) (u g n : Nat) (hu : u ≤ 9007199254740992) (hg : g ≤ 9007199254740992) (hn : n ≤ 1000000000) (hlt : g < u) (k : Int) (s : ByteArray) (t : Nat) (ht : t ≤ 9007199254740992)
    (q : Option Addr) (c : Nat) (l : List Ut) (hr : RowR 5 encT w q l) (hq : q = none → c = 0 ∧ l = []) (q2 : Option Addr) (c2 : Nat) (l2 : List Ut) (hr2 : RowR 5 encT w q2 l2) (hq2 : q2 = none → c2 = 0 ∧ l2 = []) (hlen : l.length + l2.length ≤ 1000000) (hok : ∀ x ∈ l ++ l2, okU x = true) :
    Calls Try.prog 35 #[.agg (loadC (u : Int) (g : Int) (n : Int)), .agg (metC k s (t : Int)), .slice q l.length c, .slice q2 l2.length c2] w fun e w' => (∃ D, e = .returned (.tuple #[.agg D, .int .i64 (capE (g + sumG k t (l ++ l2)))]) ∧ LdTold D (capE (g + sumG k t (l ++ l2))) u (g + sumG k t (l ++ l2)) (n + (l ++ l2).length)) ∧ Below w.heap.size w w' := by
  have mixed : Try.prog.follows .mixedOrders = true := by kernel_rfl
  have CW0 := fun (W : World) (Q : Option Addr) (C : Nat) (r : RowR 5 encT W Q (l ++ l2)) => pp_with W u g n hu hg hn k s t ht Q C (l ++ l2) r (by rw [List.length_append]; omega) hok false
  simp only [Bool.false_eq_true, if_false] at CW0
  have CC0 := fun (W : World) (B o : Nat) (h : TRows W B o [(q, c, l), (q2, c2, l2)]) => concat_uts W B o [(q, c, l), (q2, c2, l2)] h (by simp [catT]; omega) (by simp)
  have ec : catT [(q, c, l), (q2, c2, l2)] = l ++ l2 := by simp [catT]
  rw [ec] at CC0
  obtain ⟨L, hL⟩ : ∃ L, L = l ++ l2 := ⟨_, rfl⟩
  rw [← hL] at CW0 CC0
  rw [← hL]
  obtain ⟨ge, hge⟩ : ∃ x, x = capE (g + sumG k t L) := ⟨_, rfl⟩
  obtain ⟨gs, hgs⟩ : ∃ x, x = g + sumG k t L := ⟨_, rfl⟩
  rw [← hgs] at hge
  rw [← hgs, ← hge]
  rw [← hgs, ← hge] at CW0
  obtain ⟨D, hD⟩ : ∃ D, D = loadC (u : Int) (g : Int) (n : Int) := ⟨_, rfl⟩
  obtain ⟨M, hM⟩ : ∃ M, M = metC k s (t : Int) := ⟨_, rfl⟩
  have sM : M.size = 3 := by rw [hM]; rfl
  obtain ⟨nm, hnm⟩ : ∃ x, x = n + L.length := ⟨_, rfl⟩
  rw [← hnm] at CW0
  rw [← hnm]
  obtain ⟨m, hm⟩ : ∃ x, x = l.length := ⟨_, rfl⟩
  obtain ⟨m2, hm2⟩ : ∃ x, x = l2.length := ⟨_, rfl⟩
  rw [← hD, ← hM] at CW0
  rw [← hD, ← hM, ← hm, ← hm2]
  obtain ⟨w1, HW, Ba, y0, y1, y2⟩ := box3 w D M
  obtain ⟨B, hB⟩ : ∃ B, B = w.heap.size := ⟨_, rfl⟩
  rw [← hB] at y0 y1 y2
  have HB : Hid (w.heap.size = B) := hB.symm
  have c0 : w1.cell? ⟨B, 0, none⟩ = some (.int .i64 (u : Int)) := (cell_of_block y0 0).trans (by rw [hD]; rfl)
  have c1 : w1.cell? ⟨B, 1, none⟩ = some (.int .i64 (g : Int)) := (cell_of_block y0 1).trans (by rw [hD]; rfl)
  have sD : D.size = 3 := by rw [hD]; rfl
  have t1 : g < u := hlt
  have iD : (Try.prog.info? LT).map (·.size) = some D.toList.length := by rw [Array.length_toList, sD]; exact info_LT
  have iM : (Try.prog.info? MT).map (·.size) = some M.toList.length := by rw [Array.length_toList, sM]; kernel_rfl
  have SK : Hid (∀ ws : World, Below w1.heap.size w1 ws → ws.heap[B]? = some (.cells D LT (0, 0)) ∧ ws.heap[B + 1]? = some (.cells M MT (0, 0))) := fun ws bb => ⟨(bb.block B (Array.getElem?_eq_some_iff.1 y0).1).trans y0, (bb.block (B + 1) (Array.getElem?_eq_some_iff.1 y1).1).trans y1⟩
  have KD : Hid (∀ ws : World, (ws.heap[B]? = some (.cells D LT (0, 0)) ∧ ws.heap[B + 1]? = some (.cells M MT (0, 0))) → ws.rangeAt B 0 D.toList) := fun ws h => ld_range h.1
  have KM : Hid (∀ ws : World, (ws.heap[B]? = some (.cells D LT (0, 0)) ∧ ws.heap[B + 1]? = some (.cells M MT (0, 0))) → ws.rangeAt (B + 1) 0 M.toList) := fun ws h => ld_range h.2
  have HH := Lib.hid (And.intro Ba (And.intro y2 (And.intro hr (And.intro hr2 (And.intro hq (And.intro hq2 (And.intro hm hm2)))))))
  have CC := Lib.hid CC0
  have CW := Lib.hid CW0
  clear Ba y0 y1 y2 hB hD hM sD sM hge hgs hnm hm hm2 hr hr2 hq hq2 hok CW0 CC0 hL ec
  go_enter Try.func35, Try.ntmps35
  go_upto_region 1 with fail
  rw [HW.out, HB.out]
  go_upto_region 2 with fail
  refine wp_region_E (f := 9) (S := fun ws => ws.heap[B]? = some (.cells D LT (0, 0)) ∧ ws.heap[B + 1]? = some (.cells M MT (0, 0))) mixed (SK.out _ ((Below.refl _ w1).drew)) (fun hS => ?_)
  refine wpAnyE_takeD (i := 0) (d := 16) (v := .agg D.toList.toArray) _ rfl rfl (by kernel_rfl) (by kernel_rfl) (by kernel_rfl) (by kernel_rfl) (fun _ _ _ h => h) (yieldsIf_load_mid (by kernel_rfl) _ _ rfl B 0 (by kernel_rfl) D.toList _ (fun ws hSw => KD.out ws hSw) Try.underlying74 rfl iD) hS ?_
  simp only [Act.put, List.setIfInBounds_toArray, List.set_cons_zero, List.set_cons_succ]
  refine wpAnyE_takeD (i := 1) (d := 17) (v := .agg M.toList.toArray) _ rfl rfl (by kernel_rfl) (by kernel_rfl) (by kernel_rfl) (by kernel_rfl) (fun _ _ _ h => h) (yieldsIf_load_mid (by kernel_rfl) _ _ rfl (B+1) 0 (by kernel_rfl) M.toList _ (fun ws hSw => KM.out ws hSw) Try.underlying24 rfl iM) hS ?_
  simp only [Act.put, List.setIfInBounds_toArray, List.set_cons_zero, List.set_cons_succ]
  refine wpAnyE_takeP (i := 2) (d := 18) (v := .slice q m c) _ rfl rfl (by kernel_rfl) (by kernel_rfl) (by kernel_rfl) (by kernel_rfl) (fun _ _ _ h => h) (Or.inl ⟨by kernel_rfl, fun ws => by first | (go_simp; done) | (go_simp; with_reducible rfl) | (go_simp; rfl)⟩) hS ?_
  simp only [Act.put, List.setIfInBounds_toArray, List.set_cons_zero, List.set_cons_succ]
  refine wpAnyE_takeP (i := 3) (d := 19) (v := .slice q2 m2 c2) _ rfl rfl (by kernel_rfl) (by kernel_rfl) (by kernel_rfl) (by kernel_rfl) (fun _ _ _ h => h) (Or.inl ⟨by kernel_rfl, fun ws => by first | (go_simp; done) | (go_simp; with_reducible rfl) | (go_simp; rfl)⟩) hS ?_
  simp only [Act.put, List.setIfInBounds_toArray, List.set_cons_zero, List.set_cons_succ]
  refine wpAnyE_one (i := 4) rfl (by kernel_rfl) (by kernel_rfl) (fun K hK => ?_)
  go_simp
  obtain ⟨wd, hwd⟩ : ∃ x, x = (w1.alloc (.cells #[.slice q m c, .slice q2 m2 c2] SlT)).drew := ⟨_, rfl⟩
  rw [← hwd]
  have bd : Below w1.heap.size w1 wd := by rw [hwd]; exact (((Gr.refl w1).alloc _).below).drew
  have kd : wd.heap[w1.heap.size]? = some (.cells #[.slice q m c, .slice q2 m2 c2] SlT (0, 0)) := by rw [hwd]; exact heap_alloc_new w1 _
  obtain ⟨O, hO⟩ : ∃ x, x = w1.heap.size := ⟨_, rfl⟩
  rw [← hO] at kd
  rw [← hO]
  have TR : Hid (TRows wd O 0 [(q, c, l), (q2, c2, l2)]) := by
    obtain ⟨Ba, y2, hr, hr2, hq, hq2, hm, hm2⟩ := HH.out
    have b0 : Below w.heap.size w wd := Ba.trans (bd.mono Ba.size)
    refine ⟨(Array.getElem?_eq_some_iff.1 kd).1, fun j r hj => ?_⟩
    match j, hj with
    | 0, hj =>
      cases hj
      exact ⟨by rw [cell_of_block kd, ← hm]; rfl, hr.below b0, hq⟩
    | 1, hj =>
      cases hj
      exact ⟨by rw [cell_of_block kd, ← hm2]; rfl, hr2.below b0, hq2⟩
  clear hwd hO kd
  refine hK _ _ (SK.out _ bd) (fun hS => ?_)
  have BD := Lib.hid bd
  clear bd
  try simp only [Act.put, List.setIfInBounds_toArray, List.set_cons_zero, List.set_cons_succ]
  refine wpAnyE_one (i := 5) rfl (by kernel_rfl) (by kernel_rfl) (fun K hK => ?_)
  go_simp
  refine (CC.out wd O 0 TR.out).mono ?_
  rintro e we ⟨v, rfl, ow, be⟩
  have b1e : Below w1.heap.size w1 we := BD.out.trans (be.mono BD.out.size)
  obtain ⟨q4, c4, rfl, r4, _⟩ := ow.row
  refine hK _ _ (SK.out _ b1e) (fun hS => ?_)
  try simp only [Act.put, List.setIfInBounds_toArray, List.set_cons_zero, List.set_cons_succ]
  have CX := Lib.hid (CW.out we q4 c4 r4)
  obtain ⟨m4, hm4⟩ : ∃ x, x = L.length := ⟨_, rfl⟩
  rw [← hm4] at CX
  rw [← hm4]
  have BE := Lib.hid b1e
  clear hm4 b1e be ow r4
  refine wpAnyE_one (i := 6) rfl (by kernel_rfl) (by kernel_rfl) (fun K hK => ?_)
  go_simp
  refine CX.out.mono ?_
  rintro e w2 ⟨⟨D2, rfl, sD2, oD2, eD2⟩, b2⟩
  have b12 : Below w1.heap.size w1 w2 := BE.out.trans (b2.mono BE.out.size)
  refine hK _ _ (SK.out _ b12) (fun hS => ?_)
  try simp only [Act.put, List.setIfInBounds_toArray, List.set_cons_zero, List.set_cons_succ]
  refine wpAnyE_takeP (i := 7) (d := 23) (v := .agg D2) _ rfl rfl (by kernel_rfl) (by kernel_rfl) (by kernel_rfl) (by kernel_rfl) (fun _ _ _ h => h) (Or.inl ⟨by kernel_rfl, fun ws => by first | (go_simp; done) | (go_simp; with_reducible rfl) | (go_simp; rfl)⟩) hS ?_
  simp only [Act.put, List.setIfInBounds_toArray, List.set_cons_zero, List.set_cons_succ]
  refine wpAnyE_takeP (i := 8) (d := 24) (v := .int .i64 ge) _ rfl rfl (by kernel_rfl) (by kernel_rfl) (by kernel_rfl) (by kernel_rfl) (fun _ _ _ h => h) (Or.inl ⟨by kernel_rfl, fun ws => by first | (go_simp; done) | (go_simp; with_reducible rfl) | (go_simp; rfl)⟩) hS ?_
  simp only [Act.put, List.setIfInBounds_toArray, List.set_cons_zero, List.set_cons_succ]
  obtain ⟨Ba, y2, _⟩ := HH.out
  obtain ⟨th, blk, blw⟩ := put_ld (D := D2) ((b12.block (B + 2) (Array.getElem?_eq_some_iff.1 y2).1).trans y2) rfl sD2 (Ba.trans (b12.mono Ba.size)) (by have := HB.out; omega)
  have TH := Lib.hid th
  have RES := Lib.hid (And.intro blk blw)
  have IN : Hid ((Try.prog.info? LT).map (·.size) = some D2.size) := by show _ = _; rw [sD2]; exact info_LT
  have OD := Lib.hid oD2
  have TOLD : Hid (LdTold D2 ge u gs nm) := ⟨sD2, oD2, eD2⟩
  clear Ba y2 th blk blw sD2 oD2 eD2 b2 HH CW CC TR CX b12 hS BE BD
  refine wpAnyE_write rfl (by kernel_rfl) (fun K hK => ?_)
  refine Ld.step_store (by rfl) _ _ _ rfl (B + 2) 0 D2 (by rfl) (by rfl) TH.out IN.out OD.out ?_
  refine hK _ _ ?_
  try simp only [Act.put, List.setIfInBounds_toArray, List.set_cons_zero, List.set_cons_succ]
  refine wpAny_one (i := 10) rfl (by kernel_rfl) (fun K hK => ?_)
  go_simp
  refine hK _ _ ?_
  try simp only [Act.put, List.setIfInBounds_toArray, List.set_cons_zero, List.set_cons_succ]
  refine wpAny_end (by kernel_rfl) ?_
  clear hK K TH OD
  go_wp2
  refine bodyPost_ret (res_two rfl _ _ (B + 2) LT D2 (0, 0) _ (by rfl) RES.out.1 Try.underlying74 rfl IN.out) rfl ?_
  exact ⟨⟨D2, rfl, TOLD.out⟩, RES.out.2⟩
end Go.Proofs.Ytajkhbdniadkkaa.Pp
