/- Layer 17 (room): whether a pod fits (Fits). -/
import Derived.Test.YtdphooobgbminaaPk3
namespace Go.Proofs.Ytdphooobgbminaa.Rm
open Go.RowKit Go.Shelf Go.Lib Go.Sort Go.Deep
open Go.Joins (cell_of_block unfrozen_of_block block_setCell)
open Go.Proofs.Ytdphooobgbminaa.Ow
set_option linter.unusedVariables false
set_option linter.unusedSimpArgs false
set_option maxRecDepth 20000

/-- What is left, and what is asked for, are numbers of 64 bits. -/
def Nums (r : Rmo) : Prop := I64 r.n.cpu ∧ I64 r.n.mem ∧ I64 r.cpu ∧ I64 r.mem
def FitsB (r : Rmo) (x : Pd) : Bool := mayB' r.n x && (Enough (r.n.cpu - r.cpu) x.cpu && Enough (r.n.mem - r.mem) x.mem)
theorem fair_three {a b c : Int} (ha : I64 a) (hb : I64 b) (hc : I64 c) : Fair (a - b) ∧ Fair (a - b - c) := by unfold I64 at ha hb hc; unfold Fair; omega

theorem two_new (w : World) (a b : Obj) : ((w.alloc a).alloc b).drew.heap[w.heap.size]? = some a ∧ ((w.alloc a).alloc b).drew.heap[w.heap.size + 1]? = some b ∧ Gr w ((w.alloc a).alloc b).drew := by
  refine ⟨?_, ?_, (((Gr.refl w).alloc _).alloc _).drewN 1⟩
  · show ((w.alloc a).alloc b).heap[w.heap.size]? = _
    rw [Below.heap_alloc _ _ _ (by simp)]
    exact heap_alloc_new w _
  · show ((w.alloc a).alloc b).heap[w.heap.size + 1]? = _
    have := heap_alloc_new (w.alloc a) b
    simpa using this

/-- What a walk of Fits reads. -/
def FitS (B D E : Nat) (R P : Array Value) (nc nm uc um : Int) (ws : World) : Prop := ws.heap[B]? = some (.cells R RT (0, 0)) ∧ ws.heap[B + 1]? = some (.cells P PTy (0, 0)) ∧ ws.heap[D]? = some (.cells #[.int .i64 nc, .int .i64 nm] 25 (0, 0)) ∧ ws.heap[E]? = some (.cells #[.int .i64 uc, .int .i64 um] 25 (0, 0))

set_option maxHeartbeats 8000000 in
theorem rm_fits (w : World) (R P : Array Value) (r : Rmo) (x : Pd) (hR : RmV w R r) (hP : PdS w P x) (hs : Short r.n x) (hn : Nums r) (hx : I64 x.cpu ∧ I64 x.mem) :
    Calls Try.prog 8 #[.agg R, .agg P] w fun e w' => e = .returned (.bool (FitsB r x)) ∧ Below w.heap.size w w' := by
  have mixed : Try.prog.follows .mixedOrders = true := by kernel_rfl
  have CM : Hid (∀ W, Below w.heap.size w W → Calls Try.prog 20 #[.agg R, .agg P] W fun e w' => e = .returned (.bool (mayB' r.n x)) ∧ Below W.heap.size W w') := fun W b => rm_may W R P r x (hR.below b) (hP.below b) hs
  have CL1 := Lib.hid (fun W => sum_left r.n.cpu r.cpu W hn.1 hn.2.2.1)
  have CL2 := Lib.hid (fun W => sum_left r.n.mem r.mem W hn.2.1 hn.2.2.2)
  have CE1 := Lib.hid (fun W => sum_enough (r.n.cpu - r.cpu) x.cpu W (fair_three hn.1 hn.2.2.1 hx.1).1 hx.1 (fair_three hn.1 hn.2.2.1 hx.1).2)
  have CE2 := Lib.hid (fun W => sum_enough (r.n.mem - r.mem) x.mem W (fair_three hn.2.1 hn.2.2.2 hx.2).1 hx.2 (fair_three hn.2.1 hn.2.2.2 hx.2).2)
  unfold FitsB
  generalize mayB' r.n x = b1 at CM ⊢
  generalize Enough (r.n.cpu - r.cpu) x.cpu = b2 at CE1 ⊢
  generalize Enough (r.n.mem - r.mem) x.mem = b3 at CE2 ⊢
  obtain ⟨V1, hV1⟩ : ∃ v, v = Sm (r.n.cpu - r.cpu) := ⟨_, rfl⟩
  obtain ⟨V2, hV2⟩ : ∃ v, v = Sm (r.n.mem - r.mem) := ⟨_, rfl⟩
  rw [← hV1] at CL1 CE1
  rw [← hV2] at CL2 CE2
  have sR := hR.one.1
  have oR := hR.one.2.1
  have sP := hP.1
  obtain ⟨N, hN, eR⟩ := hR
  obtain ⟨ql, cl, qt, ct, eN, _⟩ := hN.lit
  rw [eN, roomC_lit] at eR
  have r2 : R[2]? = some (.int .i64 r.n.cpu) := by rw [eR]; rfl
  have r3 : R[3]? = some (.int .i64 r.n.mem) := by rw [eR]; rfl
  have r8 : R[8]? = some (.int .i64 r.cpu) := by rw [eR]; rfl
  have r9 : R[9]? = some (.int .i64 r.mem) := by rw [eR]; rfl
  have p4 : P[4]? = some (.int .i64 x.cpu) := hP.2.2.2.2.2.1
  have p5 : P[5]? = some (.int .i64 x.mem) := hP.2.2.2.2.2.2.1
  obtain ⟨nc, hnc⟩ : ∃ v, v = r.n.cpu := ⟨_, rfl⟩
  obtain ⟨nm, hnm⟩ : ∃ v, v = r.n.mem := ⟨_, rfl⟩
  obtain ⟨uc, huc⟩ : ∃ v, v = r.cpu := ⟨_, rfl⟩
  obtain ⟨um, hum⟩ : ∃ v, v = r.mem := ⟨_, rfl⟩
  obtain ⟨ac, hac⟩ : ∃ v, v = x.cpu := ⟨_, rfl⟩
  obtain ⟨am, ham⟩ : ∃ v, v = x.mem := ⟨_, rfl⟩
  rw [← hnc] at r2 CL1
  rw [← huc] at r8 CL1
  rw [← hnm] at r3 CL2
  rw [← hum] at r9 CL2
  rw [← hac] at p4 CE1
  rw [← ham] at p5 CE2
  obtain ⟨B, hB⟩ : ∃ B, B = w.heap.size := ⟨_, rfl⟩
  obtain ⟨wa, hwa⟩ : ∃ x, x = (w.alloc (.cells R RT)).alloc (.cells P PTy) := ⟨_, rfl⟩
  have Ga : Gr w wa := hwa ▸ ((Gr.refl w).alloc _).alloc _
  have y0 : wa.heap[B]? = some (.cells R RT (0, 0)) := by
    rw [hwa, hB, Below.heap_alloc _ _ _ (by simp)]
    exact heap_alloc_new w _
  have y1 : wa.heap[B + 1]? = some (.cells P PTy (0, 0)) := by
    rw [hwa, hB]
    have := heap_alloc_new (w.alloc (.cells R RT)) (.cells P PTy)
    simpa using this
  have HW : Hid ((w.alloc (.cells R RT)).alloc (.cells P PTy) = wa ∧ w.heap.size = B) := ⟨hwa.symm, hB.symm⟩
  have HG := Lib.hid Ga
  have HX := Lib.hid (And.intro y0 (And.intro y1 (And.intro sR (And.intro oR sP))))
  have HC := Lib.hid (And.intro r2 (And.intro r3 (And.intro r8 (And.intro r9 (And.intro p4 p5)))))
  have c2 : wa.cell? ⟨B, 2, none⟩ = some (.int .i64 nc) := (cell_of_block y0 2).trans r2
  have c3 : wa.cell? ⟨B, 3, none⟩ = some (.int .i64 nm) := (cell_of_block y0 3).trans r3
  have c8 : wa.cell? ⟨B, 8, none⟩ = some (.int .i64 uc) := (cell_of_block y0 8).trans r8
  have c9 : wa.cell? ⟨B, 9, none⟩ = some (.int .i64 um) := (cell_of_block y0 9).trans r9
  have lB : B < wa.heap.size := (Array.getElem?_eq_some_iff.1 y0).1
  have k1 : ∀ (o : Obj) (i : Nat), (wa.alloc o).cell? ⟨B, i, none⟩ = wa.cell? ⟨B, i, none⟩ := fun o i => World.cell?_of_block (Below.heap_alloc wa o B lB)
  have k2 : ∀ (o o' : Obj) (i : Nat), ((wa.alloc o).alloc o').cell? ⟨B, i, none⟩ = wa.cell? ⟨B, i, none⟩ := fun o o' i => (World.cell?_of_block (Below.heap_alloc (wa.alloc o) o' B (by simp; omega))).trans (k1 o i)
  clear hwa hB Ga y0 y1 sR oR sP eR eN hN r2 r3 r8 r9 p4 p5 hV1 hV2 hs hn hx hP hnc hnm huc hum hac ham
  go_enter Try.func8, Try.ntmps8
  go_upto_region 1 with fail
  rw [HW.out.1, HW.out.2]
  go_cut [5, 6] from 7 to 11 (fun v5 v6 wx => ∃ D E, v5 = .pointer (some ⟨D, 0, none⟩) ∧ v6 = .pointer (some ⟨E, 0, none⟩) ∧ Hid (wx.heap[D]? = some (.cells #[.int .i64 nc, .int .i64 nm] 25 (0, 0)) ∧ wx.heap[E]? = some (.cells #[.int .i64 uc, .int .i64 um] 25 (0, 0)) ∧ Gr wa wx))
  case first =>
    go_region
    all_goals
      go_wp2_with fail
      go_meet
      case rel =>
        first
        | exact ⟨_, _, rfl, rfl, (two_new wa _ _).1, (two_new wa _ _).2.1, (two_new wa _ _).2.2⟩
        | exact ⟨_, _, rfl, rfl, (two_new wa _ _).2.1, (two_new wa _ _).1, (two_new wa _ _).2.2⟩
  case rest =>
    obtain ⟨D, E, rfl, rfl, HD⟩ := hcut
    obtain ⟨hD, hE, gc⟩ := HD.out
    have z0 : wc.heap[B]? = some (.cells R RT (0, 0)) := (gc.heap (Array.getElem?_eq_some_iff.1 HX.out.1).1).trans HX.out.1
    have z1 : wc.heap[B + 1]? = some (.cells P PTy (0, 0)) := (gc.heap (Array.getElem?_eq_some_iff.1 HX.out.2.1).1).trans HX.out.2.1
    have SS : Hid (∀ ws : World, Below wc.heap.size wc ws → FitS B D E R P nc nm uc um ws) := fun ws b =>
      ⟨(b.block _ (Array.getElem?_eq_some_iff.1 z0).1).trans z0, (b.block _ (Array.getElem?_eq_some_iff.1 z1).1).trans z1, (b.block _ (Array.getElem?_eq_some_iff.1 hD).1).trans hD, (b.block _ (Array.getElem?_eq_some_iff.1 hE).1).trans hE⟩
    have S0 : Hid (∀ ws : World, FitS B D E R P nc nm uc um ws →
        ws.cell? ⟨D, 0, none⟩ = some (.int .i64 nc) ∧ ws.cell? ⟨D, 1, none⟩ = some (.int .i64 nm) ∧ ws.cell? ⟨E, 0, none⟩ = some (.int .i64 uc) ∧ ws.cell? ⟨E, 1, none⟩ = some (.int .i64 um) ∧ ws.cell? ⟨B + 1, 4, none⟩ = some (.int .i64 ac) ∧ ws.cell? ⟨B + 1, 5, none⟩ = some (.int .i64 am)) := fun ws h =>
      ⟨cell_of_block h.2.2.1 0, cell_of_block h.2.2.1 1, cell_of_block h.2.2.2 0, cell_of_block h.2.2.2 1, (cell_of_block h.2.1 4).trans HC.out.2.2.2.2.1, (cell_of_block h.2.1 5).trans HC.out.2.2.2.2.2⟩
    have KR : Hid (∀ ws : World, FitS B D E R P nc nm uc um ws → ws.rangeAt B 0 R.toList) := fun ws h => Ld.rangeAt_block h.1
    have KP : Hid (∀ ws : World, FitS B D E R P nc nm uc um ws → ws.rangeAt (B + 1) 0 P.toList) := fun ws h => Ld.rangeAt_block h.2.1
    have iR : (Try.prog.info? RT).map (·.size) = some R.toList.length := by rw [Array.length_toList, HX.out.2.2.1]; kernel_rfl
    have iP : (Try.prog.info? PTy).map (·.size) = some P.toList.length := by rw [Array.length_toList, HX.out.2.2.2.2]; exact info_pt
    have CMc : Hid (Calls Try.prog 20 #[.agg R, .agg P] wc.drew fun e w' => e = .returned (.bool b1) ∧ Below wc.heap.size wc w') := (CM.out wc.drew ((HG.out.trans gc).drewN 1).below).mono fun e w' ⟨h1, h2⟩ => ⟨h1, (Below.refl _ wc).drew.trans h2⟩
    have HGc := Lib.hid ((HG.out.trans gc).below)
    clear c2 c3 c8 c9 lB k1 k2 hD hE gc z0 z1 HD CM
    go_wp2_with fail
    cases b1 with
    | false =>
      refine wp_region_held_drew (S := FitS B D E R P nc nm uc um) mixed (SS.out _ ((Below.refl _ wc).drew)) (fun hS => ?_)
      refine wpAnyH_takeD (i := 0) (d := 12) (v := .agg R.toList.toArray) _ rfl rfl (by kernel_rfl) (by kernel_rfl) (by kernel_rfl) (fun _ _ _ h => h) (yieldsIf_load_mid (by kernel_rfl) _ _ rfl B 0 (by kernel_rfl) R.toList _ (fun ws hSw => KR.out ws hSw) Try.underlying49 rfl iR) hS ?_
      simp only [Act.put, List.setIfInBounds_toArray, List.set_cons_zero, List.set_cons_succ]
      refine wpAnyH_takeD (i := 1) (d := 13) (v := .agg P.toList.toArray) _ rfl rfl (by kernel_rfl) (by kernel_rfl) (by kernel_rfl) (fun _ _ _ h => h) (yieldsIf_load_mid (by kernel_rfl) _ _ rfl (B+1) 0 (by kernel_rfl) P.toList _ (fun ws hSw => KP.out ws hSw) Try.underlying31 rfl iP) hS ?_
      simp only [Act.put, List.setIfInBounds_toArray, List.set_cons_zero, List.set_cons_succ]
      refine wpAnyH_ready (rs := [2]) (by kernel_rfl) (by simp) ?_
      refine AllReadyH.cons rfl (fun K hK => ?_) AllReadyH.nil
      go_simp
      refine CMc.out.mono ?_
      rintro e w1 ⟨rfl, bb1⟩
      refine hK _ _ (SS.out _ bb1) (fun hS => ?_)
      try simp only [Act.put, List.setIfInBounds_toArray, List.set_cons_zero, List.set_cons_succ]

      refine wpAnyH_takeD (i := 3) (d := 15) (v := .bool false) _ rfl rfl (by kernel_rfl) (by kernel_rfl) (by kernel_rfl) (fun _ _ _ h => h) (Or.inl ⟨by kernel_rfl, fun ws hSw => by first | (go_simp; done) | (go_simp; with_reducible rfl) | (go_simp; rfl)⟩) hS ?_
      simp only [Act.put, List.setIfInBounds_toArray, List.set_cons_zero, List.set_cons_succ]
      refine wpAnyH_takeD (i := 4) (d := 16) (v := undef) _ rfl rfl (by kernel_rfl) (by kernel_rfl) (by kernel_rfl) (fun _ _ _ h => h) (Or.inr ⟨by kernel_rfl, rfl⟩) hS ?_
      simp only [Act.put, List.setIfInBounds_toArray, List.set_cons_zero, List.set_cons_succ]
      refine wpAnyH_takeD (i := 5) (d := 17) (v := undef) _ rfl rfl (by kernel_rfl) (by kernel_rfl) (by kernel_rfl) (fun _ _ _ h => h) (Or.inr ⟨by kernel_rfl, rfl⟩) hS ?_
      simp only [Act.put, List.setIfInBounds_toArray, List.set_cons_zero, List.set_cons_succ]
      refine wpAnyH_takeD (i := 6) (d := 18) (v := undef) _ rfl rfl (by kernel_rfl) (by kernel_rfl) (by kernel_rfl) (fun _ _ _ h => h) (Or.inr ⟨by kernel_rfl, rfl⟩) hS ?_
      simp only [Act.put, List.setIfInBounds_toArray, List.set_cons_zero, List.set_cons_succ]
      refine wpAnyH_takeD (i := 7) (d := 19) (v := undef) _ rfl rfl (by kernel_rfl) (by kernel_rfl) (by kernel_rfl) (fun _ _ _ h => h) (Or.inr ⟨by kernel_rfl, rfl⟩) hS ?_
      simp only [Act.put, List.setIfInBounds_toArray, List.set_cons_zero, List.set_cons_succ]
      refine wpAnyH_takeD (i := 8) (d := 20) (v := undef) _ rfl rfl (by kernel_rfl) (by kernel_rfl) (by kernel_rfl) (fun _ _ _ h => h) (Or.inr ⟨by kernel_rfl, rfl⟩) hS ?_
      simp only [Act.put, List.setIfInBounds_toArray, List.set_cons_zero, List.set_cons_succ]
      refine wpAnyH_takeD (i := 9) (d := 21) (v := undef) _ rfl rfl (by kernel_rfl) (by kernel_rfl) (by kernel_rfl) (fun _ _ _ h => h) (Or.inr ⟨by kernel_rfl, rfl⟩) hS ?_
      simp only [Act.put, List.setIfInBounds_toArray, List.set_cons_zero, List.set_cons_succ]
      refine wpAnyH_takeD (i := 10) (d := 22) (v := undef) _ rfl rfl (by kernel_rfl) (by kernel_rfl) (by kernel_rfl) (fun _ _ _ h => h) (Or.inr ⟨by kernel_rfl, rfl⟩) hS ?_
      simp only [Act.put, List.setIfInBounds_toArray, List.set_cons_zero, List.set_cons_succ]
      refine wpAnyH_takeD (i := 11) (d := 23) (v := undef) _ rfl rfl (by kernel_rfl) (by kernel_rfl) (by kernel_rfl) (fun _ _ _ h => h) (Or.inr ⟨by kernel_rfl, rfl⟩) hS ?_
      simp only [Act.put, List.setIfInBounds_toArray, List.set_cons_zero, List.set_cons_succ]
      refine wpAnyH_takeD (i := 12) (d := 24) (v := undef) _ rfl rfl (by kernel_rfl) (by kernel_rfl) (by kernel_rfl) (fun _ _ _ h => h) (Or.inr ⟨by kernel_rfl, rfl⟩) hS ?_
      simp only [Act.put, List.setIfInBounds_toArray, List.set_cons_zero, List.set_cons_succ]
      refine wpAnyH_takeD (i := 13) (d := 25) (v := .bool false) _ rfl rfl (by kernel_rfl) (by kernel_rfl) (by kernel_rfl) (fun _ _ _ h => h) (Or.inl ⟨by kernel_rfl, fun ws hSw => by first | (go_simp; done) | (go_simp; with_reducible rfl) | (go_simp; rfl)⟩) hS ?_
      simp only [Act.put, List.setIfInBounds_toArray, List.set_cons_zero, List.set_cons_succ]
      refine wpAnyH_takeD (i := 14) (d := 26) (v := .bool false) _ rfl rfl (by kernel_rfl) (by kernel_rfl) (by kernel_rfl) (fun _ _ _ h => h) (Or.inl ⟨by kernel_rfl, fun ws hSw => by first | (go_simp; done) | (go_simp; with_reducible rfl) | (go_simp; rfl)⟩) hS ?_
      simp only [Act.put, List.setIfInBounds_toArray, List.set_cons_zero, List.set_cons_succ]
      refine wpAnyH_takeD (i := 15) (d := 27) (v := undef) _ rfl rfl (by kernel_rfl) (by kernel_rfl) (by kernel_rfl) (fun _ _ _ h => h) (Or.inr ⟨by kernel_rfl, rfl⟩) hS ?_
      simp only [Act.put, List.setIfInBounds_toArray, List.set_cons_zero, List.set_cons_succ]
      refine wpAnyH_takeD (i := 16) (d := 28) (v := undef) _ rfl rfl (by kernel_rfl) (by kernel_rfl) (by kernel_rfl) (fun _ _ _ h => h) (Or.inr ⟨by kernel_rfl, rfl⟩) hS ?_
      simp only [Act.put, List.setIfInBounds_toArray, List.set_cons_zero, List.set_cons_succ]
      refine wpAnyH_takeD (i := 17) (d := 29) (v := undef) _ rfl rfl (by kernel_rfl) (by kernel_rfl) (by kernel_rfl) (fun _ _ _ h => h) (Or.inr ⟨by kernel_rfl, rfl⟩) hS ?_
      simp only [Act.put, List.setIfInBounds_toArray, List.set_cons_zero, List.set_cons_succ]
      refine wpAnyH_takeD (i := 18) (d := 30) (v := undef) _ rfl rfl (by kernel_rfl) (by kernel_rfl) (by kernel_rfl) (fun _ _ _ h => h) (Or.inr ⟨by kernel_rfl, rfl⟩) hS ?_
      simp only [Act.put, List.setIfInBounds_toArray, List.set_cons_zero, List.set_cons_succ]
      refine wpAnyH_takeD (i := 19) (d := 31) (v := undef) _ rfl rfl (by kernel_rfl) (by kernel_rfl) (by kernel_rfl) (fun _ _ _ h => h) (Or.inr ⟨by kernel_rfl, rfl⟩) hS ?_
      simp only [Act.put, List.setIfInBounds_toArray, List.set_cons_zero, List.set_cons_succ]
      refine wpAnyH_takeD (i := 20) (d := 32) (v := undef) _ rfl rfl (by kernel_rfl) (by kernel_rfl) (by kernel_rfl) (fun _ _ _ h => h) (Or.inr ⟨by kernel_rfl, rfl⟩) hS ?_
      simp only [Act.put, List.setIfInBounds_toArray, List.set_cons_zero, List.set_cons_succ]
      refine wpAnyH_takeD (i := 21) (d := 33) (v := undef) _ rfl rfl (by kernel_rfl) (by kernel_rfl) (by kernel_rfl) (fun _ _ _ h => h) (Or.inr ⟨by kernel_rfl, rfl⟩) hS ?_
      simp only [Act.put, List.setIfInBounds_toArray, List.set_cons_zero, List.set_cons_succ]
      refine wpAnyH_takeD (i := 22) (d := 34) (v := undef) _ rfl rfl (by kernel_rfl) (by kernel_rfl) (by kernel_rfl) (fun _ _ _ h => h) (Or.inr ⟨by kernel_rfl, rfl⟩) hS ?_
      simp only [Act.put, List.setIfInBounds_toArray, List.set_cons_zero, List.set_cons_succ]
      refine wpAnyH_takeD (i := 23) (d := 35) (v := undef) _ rfl rfl (by kernel_rfl) (by kernel_rfl) (by kernel_rfl) (fun _ _ _ h => h) (Or.inr ⟨by kernel_rfl, rfl⟩) hS ?_
      simp only [Act.put, List.setIfInBounds_toArray, List.set_cons_zero, List.set_cons_succ]
      refine wpAnyH_takeD (i := 24) (d := 36) (v := .bool false) _ rfl rfl (by kernel_rfl) (by kernel_rfl) (by kernel_rfl) (fun _ _ _ h => h) (Or.inl ⟨by kernel_rfl, fun ws hSw => by first | (go_simp; done) | (go_simp; with_reducible rfl) | (go_simp; rfl)⟩) hS ?_
      simp only [Act.put, List.setIfInBounds_toArray, List.set_cons_zero, List.set_cons_succ]
      refine wpAnyH_takeD (i := 25) (d := 4) (v := .bool false) _ rfl rfl (by kernel_rfl) (by kernel_rfl) (by kernel_rfl) (fun _ _ _ h => h) (Or.inl ⟨by kernel_rfl, fun ws hSw => by first | (go_simp; done) | (go_simp; with_reducible rfl) | (go_simp; rfl)⟩) hS ?_
      simp only [Act.put, List.setIfInBounds_toArray, List.set_cons_zero, List.set_cons_succ]
      have FIN := Lib.hid (HGc.out.trans (bb1.mono HGc.out.size))
      clear bb1

      refine wpAnyH_done (by kernel_rfl) ?_ _
      go_wp2
      go_ret
      exact ⟨rfl, FIN.out⟩
    | true =>
      refine wp_region_held_drew (S := FitS B D E R P nc nm uc um) mixed (SS.out _ ((Below.refl _ wc).drew)) (fun hS => ?_)
      refine wpAnyH_takeD (i := 0) (d := 12) (v := .agg R.toList.toArray) _ rfl rfl (by kernel_rfl) (by kernel_rfl) (by kernel_rfl) (fun _ _ _ h => h) (yieldsIf_load_mid (by kernel_rfl) _ _ rfl B 0 (by kernel_rfl) R.toList _ (fun ws hSw => KR.out ws hSw) Try.underlying49 rfl iR) hS ?_
      simp only [Act.put, List.setIfInBounds_toArray, List.set_cons_zero, List.set_cons_succ]
      refine wpAnyH_takeD (i := 1) (d := 13) (v := .agg P.toList.toArray) _ rfl rfl (by kernel_rfl) (by kernel_rfl) (by kernel_rfl) (fun _ _ _ h => h) (yieldsIf_load_mid (by kernel_rfl) _ _ rfl (B+1) 0 (by kernel_rfl) P.toList _ (fun ws hSw => KP.out ws hSw) Try.underlying31 rfl iP) hS ?_
      simp only [Act.put, List.setIfInBounds_toArray, List.set_cons_zero, List.set_cons_succ]
      refine wpAnyH_ready (rs := [2]) (by kernel_rfl) (by simp) ?_
      refine AllReadyH.cons rfl (fun K hK => ?_) AllReadyH.nil
      go_simp
      refine CMc.out.mono ?_
      rintro e w1 ⟨rfl, bb1⟩
      refine hK _ _ (SS.out _ bb1) (fun hS => ?_)
      try simp only [Act.put, List.setIfInBounds_toArray, List.set_cons_zero, List.set_cons_succ]

      refine wpAnyH_takeD (i := 3) (d := 15) (v := .bool true) _ rfl rfl (by kernel_rfl) (by kernel_rfl) (by kernel_rfl) (fun _ _ _ h => h) (Or.inl ⟨by kernel_rfl, fun ws hSw => by first | (go_simp; done) | (go_simp; with_reducible rfl) | (go_simp; rfl)⟩) hS ?_
      simp only [Act.put, List.setIfInBounds_toArray, List.set_cons_zero, List.set_cons_succ]
      refine wpAnyH_takeD (i := 4) (d := 16) (v := .pointer (some ⟨D, 0, none⟩)) _ rfl rfl (by kernel_rfl) (by kernel_rfl) (by kernel_rfl) (fun _ _ _ h => h) (Or.inl ⟨by kernel_rfl, fun ws hSw => by first | (go_simp; done) | (go_simp; with_reducible rfl) | (go_simp; rfl)⟩) hS ?_
      simp only [Act.put, List.setIfInBounds_toArray, List.set_cons_zero, List.set_cons_succ]
      refine wpAnyH_takeD (i := 5) (d := 17) (v := .int .i64 nc) _ rfl rfl (by kernel_rfl) (by kernel_rfl) (by kernel_rfl) (fun _ _ _ h => h) (Or.inl ⟨by kernel_rfl, fun ws hSw => by have q := S0.out ws hSw; first | (go_simp; done) | (go_simp; with_reducible rfl) | (go_simp; rfl)⟩) hS ?_
      simp only [Act.put, List.setIfInBounds_toArray, List.set_cons_zero, List.set_cons_succ]
      refine wpAnyH_takeD (i := 6) (d := 18) (v := .pointer (some ⟨E, 0, none⟩)) _ rfl rfl (by kernel_rfl) (by kernel_rfl) (by kernel_rfl) (fun _ _ _ h => h) (Or.inl ⟨by kernel_rfl, fun ws hSw => by first | (go_simp; done) | (go_simp; with_reducible rfl) | (go_simp; rfl)⟩) hS ?_
      simp only [Act.put, List.setIfInBounds_toArray, List.set_cons_zero, List.set_cons_succ]
      refine wpAnyH_takeD (i := 7) (d := 19) (v := .int .i64 uc) _ rfl rfl (by kernel_rfl) (by kernel_rfl) (by kernel_rfl) (fun _ _ _ h => h) (Or.inl ⟨by kernel_rfl, fun ws hSw => by have q := S0.out ws hSw; first | (go_simp; done) | (go_simp; with_reducible rfl) | (go_simp; rfl)⟩) hS ?_
      simp only [Act.put, List.setIfInBounds_toArray, List.set_cons_zero, List.set_cons_succ]
      refine wpAnyH_takeD (i := 9) (d := 21) (v := .pointer (some ⟨B + 1, 4, none⟩)) _ rfl rfl (by kernel_rfl) (by kernel_rfl) (by kernel_rfl) (fun _ _ _ h => h) (Or.inl ⟨by kernel_rfl, fun ws hSw => by first | (go_simp; done) | (go_simp; with_reducible rfl) | (go_simp; rfl)⟩) hS ?_
      simp only [Act.put, List.setIfInBounds_toArray, List.set_cons_zero, List.set_cons_succ]
      refine wpAnyH_takeD (i := 10) (d := 22) (v := .pointer (some ⟨B + 1, 4, none⟩)) _ rfl rfl (by kernel_rfl) (by kernel_rfl) (by kernel_rfl) (fun _ _ _ h => h) (Or.inl ⟨by kernel_rfl, fun ws hSw => by first | (go_simp; done) | (go_simp; with_reducible rfl) | (go_simp; rfl)⟩) hS ?_
      simp only [Act.put, List.setIfInBounds_toArray, List.set_cons_zero, List.set_cons_succ]
      refine wpAnyH_takeD (i := 11) (d := 23) (v := .int .i64 ac) _ rfl rfl (by kernel_rfl) (by kernel_rfl) (by kernel_rfl) (fun _ _ _ h => h) (Or.inl ⟨by kernel_rfl, fun ws hSw => by have q := S0.out ws hSw; first | (go_simp; done) | (go_simp; with_reducible rfl) | (go_simp; rfl)⟩) hS ?_
      simp only [Act.put, List.setIfInBounds_toArray, List.set_cons_zero, List.set_cons_succ]
      refine wpAnyH_ready (rs := [8]) (by kernel_rfl) (by simp) ?_
      refine AllReadyH.cons rfl (fun K hK => ?_) AllReadyH.nil
      go_simp
      refine (CL1.out _).mono ?_
      rintro e w2 ⟨rfl, g2⟩
      have bb2 : Below wc.heap.size wc w2 := bb1.trans (g2.below.mono bb1.size)
      refine hK _ _ (SS.out _ bb2) (fun hS => ?_)
      try simp only [Act.put, List.setIfInBounds_toArray, List.set_cons_zero, List.set_cons_succ]
      refine wpAnyH_ready (rs := [12]) (by kernel_rfl) (by simp) ?_
      refine AllReadyH.cons rfl (fun K hK => ?_) AllReadyH.nil
      go_simp
      refine (CE1.out _).mono ?_
      rintro e w3 ⟨rfl, g3⟩
      have bb3 : Below wc.heap.size wc w3 := bb2.trans (g3.below.mono bb2.size)
      refine hK _ _ (SS.out _ bb3) (fun hS => ?_)
      try simp only [Act.put, List.setIfInBounds_toArray, List.set_cons_zero, List.set_cons_succ]
      cases b2 with
      | false =>
        refine wpAnyH_takeD (i := 13) (d := 25) (v := .bool false) _ rfl rfl (by kernel_rfl) (by kernel_rfl) (by kernel_rfl) (fun _ _ _ h => h) (Or.inl ⟨by kernel_rfl, fun ws hSw => by first | (go_simp; done) | (go_simp; with_reducible rfl) | (go_simp; rfl)⟩) hS ?_
        simp only [Act.put, List.setIfInBounds_toArray, List.set_cons_zero, List.set_cons_succ]
        refine wpAnyH_takeD (i := 14) (d := 26) (v := .bool false) _ rfl rfl (by kernel_rfl) (by kernel_rfl) (by kernel_rfl) (fun _ _ _ h => h) (Or.inl ⟨by kernel_rfl, fun ws hSw => by first | (go_simp; done) | (go_simp; with_reducible rfl) | (go_simp; rfl)⟩) hS ?_
        simp only [Act.put, List.setIfInBounds_toArray, List.set_cons_zero, List.set_cons_succ]
        refine wpAnyH_takeD (i := 15) (d := 27) (v := undef) _ rfl rfl (by kernel_rfl) (by kernel_rfl) (by kernel_rfl) (fun _ _ _ h => h) (Or.inr ⟨by kernel_rfl, rfl⟩) hS ?_
        simp only [Act.put, List.setIfInBounds_toArray, List.set_cons_zero, List.set_cons_succ]
        refine wpAnyH_takeD (i := 16) (d := 28) (v := undef) _ rfl rfl (by kernel_rfl) (by kernel_rfl) (by kernel_rfl) (fun _ _ _ h => h) (Or.inr ⟨by kernel_rfl, rfl⟩) hS ?_
        simp only [Act.put, List.setIfInBounds_toArray, List.set_cons_zero, List.set_cons_succ]
        refine wpAnyH_takeD (i := 17) (d := 29) (v := undef) _ rfl rfl (by kernel_rfl) (by kernel_rfl) (by kernel_rfl) (fun _ _ _ h => h) (Or.inr ⟨by kernel_rfl, rfl⟩) hS ?_
        simp only [Act.put, List.setIfInBounds_toArray, List.set_cons_zero, List.set_cons_succ]
        refine wpAnyH_takeD (i := 18) (d := 30) (v := undef) _ rfl rfl (by kernel_rfl) (by kernel_rfl) (by kernel_rfl) (fun _ _ _ h => h) (Or.inr ⟨by kernel_rfl, rfl⟩) hS ?_
        simp only [Act.put, List.setIfInBounds_toArray, List.set_cons_zero, List.set_cons_succ]
        refine wpAnyH_takeD (i := 19) (d := 31) (v := undef) _ rfl rfl (by kernel_rfl) (by kernel_rfl) (by kernel_rfl) (fun _ _ _ h => h) (Or.inr ⟨by kernel_rfl, rfl⟩) hS ?_
        simp only [Act.put, List.setIfInBounds_toArray, List.set_cons_zero, List.set_cons_succ]
        refine wpAnyH_takeD (i := 20) (d := 32) (v := undef) _ rfl rfl (by kernel_rfl) (by kernel_rfl) (by kernel_rfl) (fun _ _ _ h => h) (Or.inr ⟨by kernel_rfl, rfl⟩) hS ?_
        simp only [Act.put, List.setIfInBounds_toArray, List.set_cons_zero, List.set_cons_succ]
        refine wpAnyH_takeD (i := 21) (d := 33) (v := undef) _ rfl rfl (by kernel_rfl) (by kernel_rfl) (by kernel_rfl) (fun _ _ _ h => h) (Or.inr ⟨by kernel_rfl, rfl⟩) hS ?_
        simp only [Act.put, List.setIfInBounds_toArray, List.set_cons_zero, List.set_cons_succ]
        refine wpAnyH_takeD (i := 22) (d := 34) (v := undef) _ rfl rfl (by kernel_rfl) (by kernel_rfl) (by kernel_rfl) (fun _ _ _ h => h) (Or.inr ⟨by kernel_rfl, rfl⟩) hS ?_
        simp only [Act.put, List.setIfInBounds_toArray, List.set_cons_zero, List.set_cons_succ]
        refine wpAnyH_takeD (i := 23) (d := 35) (v := undef) _ rfl rfl (by kernel_rfl) (by kernel_rfl) (by kernel_rfl) (fun _ _ _ h => h) (Or.inr ⟨by kernel_rfl, rfl⟩) hS ?_
        simp only [Act.put, List.setIfInBounds_toArray, List.set_cons_zero, List.set_cons_succ]
        refine wpAnyH_takeD (i := 24) (d := 36) (v := .bool false) _ rfl rfl (by kernel_rfl) (by kernel_rfl) (by kernel_rfl) (fun _ _ _ h => h) (Or.inl ⟨by kernel_rfl, fun ws hSw => by first | (go_simp; done) | (go_simp; with_reducible rfl) | (go_simp; rfl)⟩) hS ?_
        simp only [Act.put, List.setIfInBounds_toArray, List.set_cons_zero, List.set_cons_succ]
        refine wpAnyH_takeD (i := 25) (d := 4) (v := .bool false) _ rfl rfl (by kernel_rfl) (by kernel_rfl) (by kernel_rfl) (fun _ _ _ h => h) (Or.inl ⟨by kernel_rfl, fun ws hSw => by first | (go_simp; done) | (go_simp; with_reducible rfl) | (go_simp; rfl)⟩) hS ?_
        simp only [Act.put, List.setIfInBounds_toArray, List.set_cons_zero, List.set_cons_succ]
        have FIN := Lib.hid (HGc.out.trans (bb3.mono HGc.out.size))
        clear bb1 bb2 bb3 g2 g3
        refine wpAnyH_done (by kernel_rfl) ?_ _
        go_wp2
        go_ret
        exact ⟨rfl, FIN.out⟩
      | true =>
        refine wpAnyH_takeD (i := 13) (d := 25) (v := .bool true) _ rfl rfl (by kernel_rfl) (by kernel_rfl) (by kernel_rfl) (fun _ _ _ h => h) (Or.inl ⟨by kernel_rfl, fun ws hSw => by first | (go_simp; done) | (go_simp; with_reducible rfl) | (go_simp; rfl)⟩) hS ?_
        simp only [Act.put, List.setIfInBounds_toArray, List.set_cons_zero, List.set_cons_succ]
        refine wpAnyH_takeD (i := 14) (d := 26) (v := .bool true) _ rfl rfl (by kernel_rfl) (by kernel_rfl) (by kernel_rfl) (fun _ _ _ h => h) (Or.inl ⟨by kernel_rfl, fun ws hSw => by first | (go_simp; done) | (go_simp; with_reducible rfl) | (go_simp; rfl)⟩) hS ?_
        simp only [Act.put, List.setIfInBounds_toArray, List.set_cons_zero, List.set_cons_succ]
        refine wpAnyH_takeD (i := 15) (d := 27) (v := .pointer (some ⟨D, 1, none⟩)) _ rfl rfl (by kernel_rfl) (by kernel_rfl) (by kernel_rfl) (fun _ _ _ h => h) (Or.inl ⟨by kernel_rfl, fun ws hSw => by first | (go_simp; done) | (go_simp; with_reducible rfl) | (go_simp; rfl)⟩) hS ?_
        simp only [Act.put, List.setIfInBounds_toArray, List.set_cons_zero, List.set_cons_succ]
        refine wpAnyH_takeD (i := 16) (d := 28) (v := .int .i64 nm) _ rfl rfl (by kernel_rfl) (by kernel_rfl) (by kernel_rfl) (fun _ _ _ h => h) (Or.inl ⟨by kernel_rfl, fun ws hSw => by have q := S0.out ws hSw; first | (go_simp; done) | (go_simp; with_reducible rfl) | (go_simp; rfl)⟩) hS ?_
        simp only [Act.put, List.setIfInBounds_toArray, List.set_cons_zero, List.set_cons_succ]
        refine wpAnyH_takeD (i := 17) (d := 29) (v := .pointer (some ⟨E, 1, none⟩)) _ rfl rfl (by kernel_rfl) (by kernel_rfl) (by kernel_rfl) (fun _ _ _ h => h) (Or.inl ⟨by kernel_rfl, fun ws hSw => by first | (go_simp; done) | (go_simp; with_reducible rfl) | (go_simp; rfl)⟩) hS ?_
        simp only [Act.put, List.setIfInBounds_toArray, List.set_cons_zero, List.set_cons_succ]
        refine wpAnyH_takeD (i := 18) (d := 30) (v := .int .i64 um) _ rfl rfl (by kernel_rfl) (by kernel_rfl) (by kernel_rfl) (fun _ _ _ h => h) (Or.inl ⟨by kernel_rfl, fun ws hSw => by have q := S0.out ws hSw; first | (go_simp; done) | (go_simp; with_reducible rfl) | (go_simp; rfl)⟩) hS ?_
        simp only [Act.put, List.setIfInBounds_toArray, List.set_cons_zero, List.set_cons_succ]
        refine wpAnyH_takeD (i := 20) (d := 32) (v := .pointer (some ⟨B + 1, 4, none⟩)) _ rfl rfl (by kernel_rfl) (by kernel_rfl) (by kernel_rfl) (fun _ _ _ h => h) (Or.inl ⟨by kernel_rfl, fun ws hSw => by first | (go_simp; done) | (go_simp; with_reducible rfl) | (go_simp; rfl)⟩) hS ?_
        simp only [Act.put, List.setIfInBounds_toArray, List.set_cons_zero, List.set_cons_succ]
        refine wpAnyH_takeD (i := 21) (d := 33) (v := .pointer (some ⟨B + 1, 5, none⟩)) _ rfl rfl (by kernel_rfl) (by kernel_rfl) (by kernel_rfl) (fun _ _ _ h => h) (Or.inl ⟨by kernel_rfl, fun ws hSw => by first | (go_simp; done) | (go_simp; with_reducible rfl) | (go_simp; rfl)⟩) hS ?_
        simp only [Act.put, List.setIfInBounds_toArray, List.set_cons_zero, List.set_cons_succ]
        refine wpAnyH_takeD (i := 22) (d := 34) (v := .int .i64 am) _ rfl rfl (by kernel_rfl) (by kernel_rfl) (by kernel_rfl) (fun _ _ _ h => h) (Or.inl ⟨by kernel_rfl, fun ws hSw => by have q := S0.out ws hSw; first | (go_simp; done) | (go_simp; with_reducible rfl) | (go_simp; rfl)⟩) hS ?_
        simp only [Act.put, List.setIfInBounds_toArray, List.set_cons_zero, List.set_cons_succ]
        refine wpAnyH_ready (rs := [19]) (by kernel_rfl) (by simp) ?_
        refine AllReadyH.cons rfl (fun K hK => ?_) AllReadyH.nil
        go_simp
        refine (CL2.out _).mono ?_
        rintro e w4 ⟨rfl, g4⟩
        have bb4 : Below wc.heap.size wc w4 := bb3.trans (g4.below.mono bb3.size)
        refine hK _ _ (SS.out _ bb4) (fun hS => ?_)
        try simp only [Act.put, List.setIfInBounds_toArray, List.set_cons_zero, List.set_cons_succ]
        refine wpAnyH_ready (rs := [23]) (by kernel_rfl) (by simp) ?_
        refine AllReadyH.cons rfl (fun K hK => ?_) AllReadyH.nil
        go_simp
        refine (CE2.out _).mono ?_
        rintro e w5 ⟨rfl, g5⟩
        have bb5 : Below wc.heap.size wc w5 := bb4.trans (g5.below.mono bb4.size)
        refine hK _ _ (SS.out _ bb5) (fun hS => ?_)
        try simp only [Act.put, List.setIfInBounds_toArray, List.set_cons_zero, List.set_cons_succ]
        refine wpAnyH_takeD (i := 24) (d := 36) (v := .bool b3) _ rfl rfl (by kernel_rfl) (by kernel_rfl) (by kernel_rfl) (fun _ _ _ h => h) (Or.inl ⟨by kernel_rfl, fun ws hSw => by first | (go_simp; done) | (go_simp; with_reducible rfl) | (go_simp; rfl)⟩) hS ?_
        simp only [Act.put, List.setIfInBounds_toArray, List.set_cons_zero, List.set_cons_succ]
        refine wpAnyH_takeD (i := 25) (d := 4) (v := .bool b3) _ rfl rfl (by kernel_rfl) (by kernel_rfl) (by kernel_rfl) (fun _ _ _ h => h) (Or.inl ⟨by kernel_rfl, fun ws hSw => by first | (go_simp; done) | (go_simp; with_reducible rfl) | (go_simp; rfl)⟩) hS ?_
        simp only [Act.put, List.setIfInBounds_toArray, List.set_cons_zero, List.set_cons_succ]
        have FIN := Lib.hid (HGc.out.trans (bb5.mono HGc.out.size))
        clear bb1 bb2 bb3 bb4 bb5 g2 g3 g4 g5
        refine wpAnyH_done (by kernel_rfl) ?_ _
        go_wp2
        go_ret
        exact ⟨rfl, FIN.out⟩
end Go.Proofs.Ytdphooobgbminaa.Rm
