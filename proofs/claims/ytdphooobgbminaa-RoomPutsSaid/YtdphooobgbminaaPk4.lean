/- Layer 17 (room): what is left (Left). -/
import Derived.Test.YtdphooobgbminaaPkRmF
namespace Go.Proofs.Ytdphooobgbminaa.Rm
open Go.RowKit Go.Shelf Go.Lib Go.Sort Go.Deep
open Go.Joins (cell_of_block unfrozen_of_block block_setCell)
open Go.Proofs.Ytdphooobgbminaa.Ow
set_option linter.unusedVariables false
set_option linter.unusedSimpArgs false
set_option maxRecDepth 20000

/-- What is left of one. -/
def leftI (a b : Int) : Int := max (clamp (a - b)) 0
theorem leftI_64 (a b : Int) : I64 (leftI a b) := by
  unfold leftI
  have := clamp_64 (a - b)
  unfold I64 at this ⊢
  omega
def LeftS (D E : Nat) (nc nm uc um : Int) (ws : World) : Prop := ws.heap[D]? = some (.cells #[.int .i64 nc, .int .i64 nm] ResT (0, 0)) ∧ ws.heap[E]? = some (.cells #[.int .i64 uc, .int .i64 um] ResT (0, 0))

theorem heap_setCells_other' : ∀ (vs : List Value) (w : World) (b o : Nat) {g : Nat}, g ≠ b → (w.setCells b o vs).heap[g]? = w.heap[g]?
  | [], w, b, o, g, h => rfl
  | v :: r, w, b, o, g, h => by
    rw [World.setCells, heap_setCells_other' r _ b (o + 1) h]
    exact heap_setCell_other _ _ _ _ h
set_option maxHeartbeats 8000000 in
theorem rm_left (w : World) (R : Array Value) (r : Rmo) (hR : RmV w R r) (hn : Nums r) :
    Calls Try.prog 9 #[.agg R] w fun e w' => e = .returned (.agg #[.int .i64 (leftI r.n.cpu r.cpu), .int .i64 (leftI r.n.mem r.mem)]) ∧ Gr w w' := by
  have mixed : Try.prog.follows .mixedOrders = true := by kernel_rfl
  obtain ⟨m1, hm1⟩ : ∃ v, v = clamp (r.n.cpu - r.cpu) := ⟨_, rfl⟩
  obtain ⟨m2, hm2⟩ : ∃ v, v = clamp (r.n.mem - r.mem) := ⟨_, rfl⟩
  have CL1 := Lib.hid (fun W => sum_left r.n.cpu r.cpu W hn.1 hn.2.2.1)
  have CL2 := Lib.hid (fun W => sum_left r.n.mem r.mem W hn.2.1 hn.2.2.2)
  have CM1 := Lib.hid (fun W => sum_milli (r.n.cpu - r.cpu) W (fair_two hn.1 hn.2.2.1).1)
  have CM2 := Lib.hid (fun W => sum_milli (r.n.mem - r.mem) W (fair_two hn.2.1 hn.2.2.2).1)
  obtain ⟨V1, hV1⟩ : ∃ v, v = Sm (r.n.cpu - r.cpu) := ⟨_, rfl⟩
  obtain ⟨V2, hV2⟩ : ∃ v, v = Sm (r.n.mem - r.mem) := ⟨_, rfl⟩
  rw [← hV1] at CL1 CM1
  rw [← hV2] at CL2 CM2
  rw [← hm1] at CM1
  rw [← hm2] at CM2
  unfold leftI
  rw [← hm1, ← hm2]
  obtain ⟨N, hN, eR⟩ := hR
  obtain ⟨ql, cl, qt, ct, eN, _⟩ := hN.lit
  rw [eN, roomC_lit] at eR
  have r2 : R[2]? = some (.int .i64 r.n.cpu) := by rw [eR]; rfl
  have r3 : R[3]? = some (.int .i64 r.n.mem) := by rw [eR]; rfl
  have r8 : R[8]? = some (.int .i64 r.cpu) := by rw [eR]; rfl
  have r9 : R[9]? = some (.int .i64 r.mem) := by rw [eR]; rfl
  obtain ⟨nc, hnc⟩ : ∃ v, v = r.n.cpu := ⟨_, rfl⟩
  obtain ⟨nm, hnm⟩ : ∃ v, v = r.n.mem := ⟨_, rfl⟩
  obtain ⟨uc, huc⟩ : ∃ v, v = r.cpu := ⟨_, rfl⟩
  obtain ⟨um, hum⟩ : ∃ v, v = r.mem := ⟨_, rfl⟩
  rw [← hnc] at r2 CL1
  rw [← huc] at r8 CL1
  rw [← hnm] at r3 CL2
  rw [← hum] at r9 CL2
  obtain ⟨B, hB⟩ : ∃ B, B = w.heap.size := ⟨_, rfl⟩
  obtain ⟨wa, hwa⟩ : ∃ x, x = (w.alloc (.cells R RT)).alloc (.cells #[.int .i64 0, .int .i64 0] ResT) := ⟨_, rfl⟩
  have Ga : Gr w wa := hwa ▸ ((Gr.refl w).alloc _).alloc _
  have y0 : wa.heap[B]? = some (.cells R RT (0, 0)) := by
    rw [hwa, hB, Below.heap_alloc _ _ _ (by simp)]
    exact heap_alloc_new w _
  have y1 : wa.heap[B + 1]? = some (.cells #[.int .i64 0, .int .i64 0] ResT (0, 0)) := by
    rw [hwa, hB]
    have := heap_alloc_new (w.alloc (.cells R RT)) (.cells #[.int .i64 0, .int .i64 0] ResT)
    simpa using this
  have HW : Hid ((w.alloc (.cells R RT)).alloc (.cells #[.int .i64 0, .int .i64 0] ResT) = wa ∧ w.heap.size = B) := ⟨hwa.symm, hB.symm⟩
  have HG := Lib.hid Ga
  have HX := Lib.hid y1
  have c2 : wa.cell? ⟨B, 2, none⟩ = some (.int .i64 nc) := (cell_of_block y0 2).trans r2
  have c3 : wa.cell? ⟨B, 3, none⟩ = some (.int .i64 nm) := (cell_of_block y0 3).trans r3
  have c8 : wa.cell? ⟨B, 8, none⟩ = some (.int .i64 uc) := (cell_of_block y0 8).trans r8
  have c9 : wa.cell? ⟨B, 9, none⟩ = some (.int .i64 um) := (cell_of_block y0 9).trans r9
  have lB2 : Hid (B + 1 < wa.heap.size) := (Array.getElem?_eq_some_iff.1 y1).1
  have lB : B < wa.heap.size := (Array.getElem?_eq_some_iff.1 y0).1
  have k1 : ∀ (o : Obj) (i : Nat), (wa.alloc o).cell? ⟨B, i, none⟩ = wa.cell? ⟨B, i, none⟩ := fun o i => World.cell?_of_block (Below.heap_alloc wa o B lB)
  have k2 : ∀ (o o' : Obj) (i : Nat), ((wa.alloc o).alloc o').cell? ⟨B, i, none⟩ = wa.cell? ⟨B, i, none⟩ := fun o o' i => (World.cell?_of_block (Below.heap_alloc (wa.alloc o) o' B (by simp; omega))).trans (k1 o i)
  clear hwa hB Ga y0 y1 eR eN hN r2 r3 r8 r9 hV1 hV2 hn hnc hnm huc hum hm1 hm2
  go_enter Try.func9, Try.ntmps9
  go_upto_region 1 with fail
  rw [HW.out.1, HW.out.2]
  go_cut [3, 4] from 5 to 9 (fun v5 v6 wx => ∃ D E, v5 = .pointer (some ⟨D, 0, none⟩) ∧ v6 = .pointer (some ⟨E, 0, none⟩) ∧ Hid (LeftS D E nc nm uc um wx ∧ Gr wa wx ∧ B + 1 < D ∧ B + 1 < E))
  case first =>
    go_region
    all_goals
      go_wp2_with fail
      go_meet
      case rel =>
        first
        | exact ⟨_, _, rfl, rfl, ⟨(two_new wa _ _).1, (two_new wa _ _).2.1⟩, (two_new wa _ _).2.2, lB2.out, Nat.lt_succ_of_lt lB2.out⟩
        | exact ⟨_, _, rfl, rfl, ⟨(two_new wa _ _).2.1, (two_new wa _ _).1⟩, (two_new wa _ _).2.2, Nat.lt_succ_of_lt lB2.out, lB2.out⟩
  case rest =>
    obtain ⟨D, E, rfl, rfl, HD⟩ := hcut
    obtain ⟨⟨hD, hE⟩, gc, hBD, hBE⟩ := HD.out
    have SS : Hid (∀ ws : World, Gr wc ws → LeftS D E nc nm uc um ws) := fun ws b => ⟨(b.heap (Array.getElem?_eq_some_iff.1 hD).1).trans hD, (b.heap (Array.getElem?_eq_some_iff.1 hE).1).trans hE⟩
    have S0 : Hid (∀ ws : World, LeftS D E nc nm uc um ws → ws.cell? ⟨D, 0, none⟩ = some (.int .i64 nc) ∧ ws.cell? ⟨D, 1, none⟩ = some (.int .i64 nm) ∧ ws.cell? ⟨E, 0, none⟩ = some (.int .i64 uc) ∧ ws.cell? ⟨E, 1, none⟩ = some (.int .i64 um)) := fun ws h => ⟨cell_of_block h.1 0, cell_of_block h.1 1, cell_of_block h.2 0, cell_of_block h.2 1⟩
    have HGc := Lib.hid (HG.out.trans gc)
    have HDE := Lib.hid (And.intro hBD hBE)
    have HXc : Hid (wc.heap[B + 1]? = some (.cells #[.int .i64 0, .int .i64 0] ResT (0, 0))) := (gc.heap (Array.getElem?_eq_some_iff.1 HX.out).1).trans HX.out
    clear c2 c3 c8 c9 lB k1 k2 hD hE gc hBD hBE HD HX
    go_wp2_with fail
    refine wp_region_held_drew (S := LeftS D E nc nm uc um) mixed (SS.out _ ((Gr.refl wc).drewN 1)) (fun hS => ?_)
    refine wpAnyH_takeD (i := 0) (d := 10) (v := .pointer (some ⟨D, 0, none⟩)) _ rfl rfl (by kernel_rfl) (by kernel_rfl) (by kernel_rfl) (fun _ _ _ h => h) (Or.inl ⟨by kernel_rfl, fun ws hSw => by first | (go_simp; done) | (go_simp; with_reducible rfl) | (go_simp; rfl)⟩) hS ?_
    simp only [Act.put, List.setIfInBounds_toArray, List.set_cons_zero, List.set_cons_succ]
    refine wpAnyH_takeD (i := 1) (d := 11) (v := .int .i64 nc) _ rfl rfl (by kernel_rfl) (by kernel_rfl) (by kernel_rfl) (fun _ _ _ h => h) (Or.inl ⟨by kernel_rfl, fun ws hSw => by have q := S0.out ws hSw; first | (go_simp; done) | (go_simp; with_reducible rfl) | (go_simp; rfl)⟩) hS ?_
    simp only [Act.put, List.setIfInBounds_toArray, List.set_cons_zero, List.set_cons_succ]
    refine wpAnyH_takeD (i := 2) (d := 12) (v := .pointer (some ⟨E, 0, none⟩)) _ rfl rfl (by kernel_rfl) (by kernel_rfl) (by kernel_rfl) (fun _ _ _ h => h) (Or.inl ⟨by kernel_rfl, fun ws hSw => by first | (go_simp; done) | (go_simp; with_reducible rfl) | (go_simp; rfl)⟩) hS ?_
    simp only [Act.put, List.setIfInBounds_toArray, List.set_cons_zero, List.set_cons_succ]
    refine wpAnyH_takeD (i := 3) (d := 13) (v := .int .i64 uc) _ rfl rfl (by kernel_rfl) (by kernel_rfl) (by kernel_rfl) (fun _ _ _ h => h) (Or.inl ⟨by kernel_rfl, fun ws hSw => by have q := S0.out ws hSw; first | (go_simp; done) | (go_simp; with_reducible rfl) | (go_simp; rfl)⟩) hS ?_
    simp only [Act.put, List.setIfInBounds_toArray, List.set_cons_zero, List.set_cons_succ]
    refine wpAnyH_takeD (i := 7) (d := 17) (v := .pointer (some ⟨D, 1, none⟩)) _ rfl rfl (by kernel_rfl) (by kernel_rfl) (by kernel_rfl) (fun _ _ _ h => h) (Or.inl ⟨by kernel_rfl, fun ws hSw => by first | (go_simp; done) | (go_simp; with_reducible rfl) | (go_simp; rfl)⟩) hS ?_
    simp only [Act.put, List.setIfInBounds_toArray, List.set_cons_zero, List.set_cons_succ]
    refine wpAnyH_takeD (i := 8) (d := 18) (v := .int .i64 nm) _ rfl rfl (by kernel_rfl) (by kernel_rfl) (by kernel_rfl) (fun _ _ _ h => h) (Or.inl ⟨by kernel_rfl, fun ws hSw => by have q := S0.out ws hSw; first | (go_simp; done) | (go_simp; with_reducible rfl) | (go_simp; rfl)⟩) hS ?_
    simp only [Act.put, List.setIfInBounds_toArray, List.set_cons_zero, List.set_cons_succ]
    refine wpAnyH_takeD (i := 9) (d := 19) (v := .pointer (some ⟨E, 1, none⟩)) _ rfl rfl (by kernel_rfl) (by kernel_rfl) (by kernel_rfl) (fun _ _ _ h => h) (Or.inl ⟨by kernel_rfl, fun ws hSw => by first | (go_simp; done) | (go_simp; with_reducible rfl) | (go_simp; rfl)⟩) hS ?_
    simp only [Act.put, List.setIfInBounds_toArray, List.set_cons_zero, List.set_cons_succ]
    refine wpAnyH_takeD (i := 10) (d := 20) (v := .int .i64 um) _ rfl rfl (by kernel_rfl) (by kernel_rfl) (by kernel_rfl) (fun _ _ _ h => h) (Or.inl ⟨by kernel_rfl, fun ws hSw => by have q := S0.out ws hSw; first | (go_simp; done) | (go_simp; with_reducible rfl) | (go_simp; rfl)⟩) hS ?_
    simp only [Act.put, List.setIfInBounds_toArray, List.set_cons_zero, List.set_cons_succ]
    refine wpAnyH_ready (rs := [4]) (by kernel_rfl) (by simp) ?_
    refine AllReadyH.cons rfl (fun K hK => ?_) AllReadyH.nil
    go_simp
    refine (CL1.out _).mono ?_
    rintro e w2 ⟨rfl, g2⟩
    have G2 : Gr wc w2 := ((Gr.refl wc).drewN 1).trans g2
    refine hK _ _ (SS.out _ G2) (fun hS => ?_)
    try simp only [Act.put, List.setIfInBounds_toArray, List.set_cons_zero, List.set_cons_succ]
    refine wpAnyH_ready (rs := [5]) (by kernel_rfl) (by simp) ?_
    refine AllReadyH.cons rfl (fun K hK => ?_) AllReadyH.nil
    go_simp
    refine (CM1.out _).mono ?_
    rintro e w3 ⟨rfl, g3⟩
    have G3 : Gr wc w3 := G2.trans g3
    refine hK _ _ (SS.out _ G3) (fun hS => ?_)
    try simp only [Act.put, List.setIfInBounds_toArray, List.set_cons_zero, List.set_cons_succ]
    refine wpAnyH_takeD (i := 6) (d := 16) (v := .int .i64 (max m1 0)) _ rfl rfl (by kernel_rfl) (by kernel_rfl) (by kernel_rfl) (fun _ _ _ h => h) (Or.inl ⟨by kernel_rfl, fun ws hSw => by first | (go_simp; done) | (go_simp; with_reducible rfl) | (go_simp; rfl)⟩) hS ?_
    simp only [Act.put, List.setIfInBounds_toArray, List.set_cons_zero, List.set_cons_succ]
    refine wpAnyH_ready (rs := [11]) (by kernel_rfl) (by simp) ?_
    refine AllReadyH.cons rfl (fun K hK => ?_) AllReadyH.nil
    go_simp
    refine (CL2.out _).mono ?_
    rintro e w4 ⟨rfl, g4⟩
    have G4 : Gr wc w4 := G3.trans g4
    refine hK _ _ (SS.out _ G4) (fun hS => ?_)
    try simp only [Act.put, List.setIfInBounds_toArray, List.set_cons_zero, List.set_cons_succ]
    refine wpAnyH_ready (rs := [12]) (by kernel_rfl) (by simp) ?_
    refine AllReadyH.cons rfl (fun K hK => ?_) AllReadyH.nil
    go_simp
    refine (CM2.out _).mono ?_
    rintro e w5 ⟨rfl, g5⟩
    have G5 : Gr wc w5 := G4.trans g5
    refine hK _ _ (SS.out _ G5) (fun hS => ?_)
    try simp only [Act.put, List.setIfInBounds_toArray, List.set_cons_zero, List.set_cons_succ]
    refine wpAnyH_takeD (i := 13) (d := 23) (v := .int .i64 (max m2 0)) _ rfl rfl (by kernel_rfl) (by kernel_rfl) (by kernel_rfl) (fun _ _ _ h => h) (Or.inl ⟨by kernel_rfl, fun ws hSw => by first | (go_simp; done) | (go_simp; with_reducible rfl) | (go_simp; rfl)⟩) hS ?_
    simp only [Act.put, List.setIfInBounds_toArray, List.set_cons_zero, List.set_cons_succ]
    refine wpAnyH_takeD (i := 14) (d := 24) (v := .agg #[.int .i64 (max m1 0), .int .i64 (max m2 0)]) _ rfl rfl (by kernel_rfl) (by kernel_rfl) (by kernel_rfl) (fun _ _ _ h => h) (Or.inl ⟨by kernel_rfl, fun ws hSw => by first | (go_simp; done) | (go_simp; with_reducible rfl) | (go_simp; rfl)⟩) hS ?_
    simp only [Act.put, List.setIfInBounds_toArray, List.set_cons_zero, List.set_cons_succ]
    have x5 := (G5.heap (Array.getElem?_eq_some_iff.1 HXc.out).1).trans HXc.out
    have G6 : Gr w w5 := HGc.out.trans G5
    have hB2 : w.heap.size ≤ B + 1 := by rw [HW.out.2]; omega
    have GE : Gr w (w5.setCells (B + 1) 0 [.int .i64 (max m1 0), .int .i64 (max m2 0)]) := gr_setCells _ G6 _ _ hB2
    have xE : (w5.setCells (B + 1) 0 [.int .i64 (max m1 0), .int .i64 (max m2 0)]).heap[B + 1]? = some (.cells #[.int .i64 (max m1 0), .int .i64 (max m2 0)] ResT (0, 0)) := Ld.laid (ds := #[.int .i64 (max m1 0), .int .i64 (max m2 0)]) x5 rfl
    have SE : LeftS D E nc nm uc um (w5.setCells (B + 1) 0 [.int .i64 (max m1 0), .int .i64 (max m2 0)]) := by
      have bl : Below (B + 1) w5 (w5.setCells (B + 1) 0 [.int .i64 (max m1 0), .int .i64 (max m2 0)]) := Ld.below_setCells _ _ _ (Nat.le_refl _) ⟨rfl, rfl, rfl, Nat.le_refl _, fun _ _ => rfl⟩
      have s5 := SS.out _ G5
      exact ⟨(heap_setCells_other' _ _ _ _ (by have := HDE.out.1; omega)).trans s5.1, (heap_setCells_other' _ _ _ _ (by have := HDE.out.2; omega)).trans s5.2⟩
    refine wpAnyH_ready (rs := [15]) (by kernel_rfl) (by simp) ?_
    refine AllReadyH.cons rfl (fun K hK => ?_) AllReadyH.nil
    refine Ld.step_store (by rfl) _ _ _ rfl (B + 1) 0 #[.int .i64 (max m1 0), .int .i64 (max m2 0)] (by rfl) (by rfl) (Ld.there_block x5 rfl) (by kernel_rfl) (by kernel_rfl) ?_
    refine hK _ _ SE (fun hS => ?_)
    try simp only [Act.put, List.setIfInBounds_toArray, List.set_cons_zero, List.set_cons_succ]
    refine wpAnyH_done (by kernel_rfl) ?_ _
    go_wp2
    refine bodyPost_ret (results_cell_row rfl _ _ (B + 1) ResT #[.int .i64 (max m1 0), .int .i64 (max m2 0)] (0, 0) _ (by rfl) xE Try.underlying25 rfl (by kernel_rfl)) rfl ?_
    exact ⟨rfl, GE⟩
end Go.Proofs.Ytdphooobgbminaa.Rm
/- Layer 17 (room): a pod is put in, and taken out again (Put, Take). -/
namespace Go.Proofs.Ytdphooobgbminaa.Rm
open Go.RowKit Go.Shelf Go.Lib Go.Sort Go.Deep
open Go.Joins (cell_of_block unfrozen_of_block block_setCell)
open Go.Proofs.Ytdphooobgbminaa.Ow
set_option linter.unusedVariables false
set_option linter.unusedSimpArgs false
set_option maxRecDepth 20000

theorem results_cell_two {P : Program} {fn : Func} {p u : Tmp} {ty : TypeId} (h : fn.results = #[.cell p ty, .tmp u]) (tmps : Array Value) (w : World) (g : Nat) (t : TypeId) (cs : Array Value) (fr : Nat × Nat) (d : TypeDesc)
    (hp : tmps.getD p undef = .pointer (some ⟨g, 0, none⟩)) (hg : w.heap[g]? = some (.cells cs t fr))
    (hu : P.underlying ty = some d) (hd : (match d with | .struct _ | .array _ _ => true | _ => false) = true) (hi : (P.info? ty).map (·.size) = some cs.size) :
    (results fn tmps).run P w = .ok (.tuple #[.agg cs, tmps.getD u undef]) w := by
  have hp' : tmps[p]?.getD undef = .pointer (some ⟨g, 0, none⟩) := by simpa using hp
  simp [results, h, hp', asAddr, run_loadVar_row w g t ty cs fr d hg hu hd hi]
/-- The room with a pod in it; without it. -/
def putR (r : Rmo) (x : Pd) : Rmo := ⟨r.name, r.n, clamp (r.cpu + x.cpu), clamp (r.mem + x.mem), r.pods + 1⟩
def takeR (r : Rmo) (x : Pd) : Rmo := ⟨r.name, r.n, max (clamp (r.cpu - x.cpu)) 0, max (clamp (r.mem - x.mem)) 0, max r.pods 1 - 1⟩
def PutS (B : Nat) (R P : Array Value) (ws : World) : Prop := ws.heap[B]? = some (.cells R RT (0, 0)) ∧ ws.heap[B + 1]? = some (.cells P PTy (0, 0))
theorem RmV.lit {w : World} {R : Array Value} {r : Rmo} (h : RmV w R r) : ∃ d0 d1 d2 d3 d4 d5 d6, R = #[.string r.name, d0, d1, d2, d3, d4, d5, d6, .int .i64 r.cpu, .int .i64 r.mem, .int .i64 r.pods] ∧ ∀ c m k, RmV w #[.string r.name, d0, d1, d2, d3, d4, d5, d6, .int .i64 c, .int .i64 m, .int .i64 k] ⟨r.name, r.n, c, m, k⟩ := by
  obtain ⟨N, hN, rfl⟩ := h
  obtain ⟨d0, d1, d2, d3, d4, d5, d6, rfl⟩ := arr7 hN.1
  refine ⟨d0, d1, d2, d3, d4, d5, d6, roomC_lit .., fun c m k => ⟨_, hN, (roomC_lit ..).symm⟩⟩
theorem room_one {d0 d1 d2 d3 d4 d5 d6 : Value} {nm : ByteArray} {c m k : Int} {w : World} {r : Rmo} (h : RmV w #[.string nm, d0, d1, d2, d3, d4, d5, d6, .int .i64 c, .int .i64 m, .int .i64 k] r) : (#[.string nm, d0, d1, d2, d3, d4, d5, d6, .int .i64 c, .int .i64 m, .int .i64 k] : Array Value).all (·.oneCell') = true := h.one.2.1

theorem below_set {w w' : World} {N : Nat} (h : Below N w w') {a : Addr} (v : Value) (ha : N ≤ a.block) : Below N w (w'.setCell a v) := by
  refine ⟨h.os, h.tape, h.output, ?_, fun k hk => ?_⟩
  · have := h.size
    simpa [World.setCell] using this
  · rw [heap_setCell_other _ _ _ _ (by omega)]
    exact h.block k hk

set_option maxHeartbeats 8000000 in
theorem rm_put (w : World) (R P : Array Value) (r : Rmo) (x : Pd) (hR : RmV w R r) (hP : PdS w P x) (hs : Short r.n x) (hn : Nums r) (hx : I64 x.cpu ∧ I64 x.mem) (hk : 0 ≤ r.pods ∧ r.pods ≤ 1000000) :
    Calls Try.prog 7 #[.agg R, .agg P] w fun e w' => (∃ R', e = .returned (.tuple #[.agg R', .bool (FitsB r x)]) ∧ Hid (RmV w R' (if FitsB r x = true then putR r x else r))) ∧ Below w.heap.size w w' := by
  have mixed : Try.prog.follows .mixedOrders = true := by kernel_rfl
  have CF : Hid (∀ W, Below w.heap.size w W → Calls Try.prog 8 #[.agg R, .agg P] W fun e w' => e = .returned (.bool (FitsB r x)) ∧ Below W.heap.size W w') := fun W b => rm_fits W R P r x (hR.below b) (hP.below b) hs hn hx
  have HR0 := Lib.hid hR
  have sR := hR.one.1
  have oR := hR.one.2.1
  have sP := hP.1
  obtain ⟨B, hB⟩ : ∃ B, B = w.heap.size := ⟨_, rfl⟩
  obtain ⟨wa, hwa⟩ : ∃ x, x = ((w.alloc (.cells R RT)).alloc (.cells P PTy)).alloc (.cells zerR RT) := ⟨_, rfl⟩
  have Ga : Gr w wa := hwa ▸ (((Gr.refl w).alloc _).alloc _).alloc _
  have y0 : wa.heap[B]? = some (.cells R RT (0, 0)) := by
    rw [hwa, hB, Below.heap_alloc _ _ _ (by simp; omega), Below.heap_alloc _ _ _ (by simp)]
    exact heap_alloc_new w _
  have y1 : wa.heap[B + 1]? = some (.cells P PTy (0, 0)) := by
    rw [hwa, hB, Below.heap_alloc _ _ _ (by simp)]
    have := heap_alloc_new (w.alloc (.cells R RT)) (.cells P PTy)
    simpa using this
  have y2 : wa.heap[B + 2]? = some (.cells zerR RT (0, 0)) := by
    rw [hwa, hB]
    have := heap_alloc_new ((w.alloc (.cells R RT)).alloc (.cells P PTy)) (.cells zerR RT)
    simpa using this
  have HW : Hid (((w.alloc (.cells R RT)).alloc (.cells P PTy)).alloc (.cells zerR RT) = wa ∧ w.heap.size = B) := ⟨hwa.symm, hB.symm⟩
  have LR := Lib.hid (run_loadAt_mid (P := Try.prog) wa B 0 RT R.toList _ (Ld.rangeAt_block y0) Try.underlying49 rfl (by rw [Array.length_toList, sR]; kernel_rfl))
  rw [Array.toArray_toList] at LR
  have LP := Lib.hid (load_pd y1 sP)
  have CFa := Lib.hid (CF.out wa Ga.below)
  have HX := Lib.hid (And.intro y0 (And.intro y1 (And.intro y2 (And.intro Ga.below (And.intro sR (And.intro oR sP))))))
  have HN := Lib.hid (And.intro hn (And.intro hx hk))
  have p4 : P[4]? = some (.int .i64 x.cpu) := hP.2.2.2.2.2.1
  have p5 : P[5]? = some (.int .i64 x.mem) := hP.2.2.2.2.2.2.1
  have HP := Lib.hid (And.intro p4 p5)
  clear hwa hB Ga y0 y1 y2 hR hP hs hn hx hk sR oR sP CF p4 p5
  cases hfb : FitsB r x with
  | false =>
    have HF := Lib.hid hfb
    rw [hfb] at CFa
    clear hfb
    go_enter Try.func7, Try.ntmps7
    go_upto_region 1 with fail
    rw [HW.out.1, HW.out.2]
    go_wp2_with (first | (refine wpList_load_by (by kernel_rfl) RT _ rfl (.pointer (some ⟨B, 0, none⟩)) (.agg R) (by rfl) LR.out ?_) | (refine wpList_load_by (by kernel_rfl) PTy _ rfl (.pointer (some ⟨B + 1, 0, none⟩)) (.agg P) (by rfl) LP.out ?_))
    refine CFa.out.mono ?_
    rintro e w1 ⟨rfl, b1⟩
    obtain ⟨y0, y1, y2, ga, sR, oR, sP⟩ := HX.out
    have z0 := (b1.block B (Array.getElem?_eq_some_iff.1 y0).1).trans y0
    have z2 := (b1.block (B + 2) (Array.getElem?_eq_some_iff.1 y2).1).trans y2
    have LR1 := Lib.hid (run_loadAt_mid (P := Try.prog) w1 B 0 RT R.toList _ (Ld.rangeAt_block z0) Try.underlying49 rfl (by rw [Array.length_toList, sR]; kernel_rfl))
    rw [Array.toArray_toList] at LR1
    have TH := Lib.hid (Ld.there_block z2 (n := R.size) (by rw [sR]; rfl))
    have IN : Hid ((Try.prog.info? RT).map (·.size) = some R.size) := by show _ = _; rw [sR]; kernel_rfl
    have ON := Lib.hid oR
    have EB : Hid ((w1.setCells (B + 2) 0 R.toList).heap[B + 2]? = some (.cells R RT (0, 0))) := Ld.laid z2 (by rw [sR]; rfl)
    have FIN : Hid (Below w.heap.size w (w1.setCells (B + 2) 0 R.toList)) := Ld.below_setCells _ _ _ (by rw [HW.out.2]; omega) (ga.trans (b1.mono ga.size))
    clear y0 y1 y2 ga sR oR sP z0 z2 b1 LR LP CFa HX
    go_wp2_with (first | (refine wpList_load_by (by kernel_rfl) RT _ rfl (.pointer (some ⟨B, 0, none⟩)) (.agg R) (by rfl) LR1.out ?_) | (refine wpList_store_mid rfl _ _ _ rfl (B + 2) 0 R (by rfl) (by rfl) TH.out IN.out ON.out ?_))
    refine bodyPost_ret (results_cell_two rfl _ _ (B + 2) RT R (0, 0) _ (by rfl) EB.out Try.underlying49 rfl IN.out) rfl ?_
    exact ⟨⟨R, rfl, HR0.out⟩, FIN.out⟩
  | true =>
    have HF := Lib.hid hfb
    rw [hfb] at CFa
    clear hfb
    obtain ⟨d0, d1, d2, d3, d4, d5, d6, eR, RV⟩ := HR0.out.lit
    obtain ⟨uc', huc'⟩ : ∃ v, v = clamp (r.cpu + x.cpu) := ⟨_, rfl⟩
    obtain ⟨um', hum'⟩ : ∃ v, v = clamp (r.mem + x.mem) := ⟨_, rfl⟩
    obtain ⟨k', hk'⟩ : ∃ v, v = r.pods + 1 := ⟨_, rfl⟩
    have PR : Hid (putR r x = ⟨r.name, r.n, uc', um', k'⟩) := by show _ = _; rw [huc', hum', hk']; rfl
    obtain ⟨hn, hx, hkk⟩ := HN.out
    have CA1 := Lib.hid (fun W => sum_plus 0 r.cpu W (by unfold Fair; omega) hn.2.2.1)
    have CA2 := Lib.hid (fun W => sum_plus 0 r.mem W (by unfold Fair; omega) hn.2.2.2)
    have CB1 := Lib.hid (fun W => sum_plus (0 + r.cpu) x.cpu W (by rw [Int.zero_add]; exact fair_of hn.2.2.1) hx.1)
    have CB2 := Lib.hid (fun W => sum_plus (0 + r.mem) x.mem W (by rw [Int.zero_add]; exact fair_of hn.2.2.2) hx.2)
    have CC1 : Hid (∀ W, Calls Try.prog 15 #[Sm (0 + r.cpu + x.cpu)] W fun e w' => e = .returned (.int .i64 uc') ∧ Gr W w') := fun W => by
      have := sum_milli (0 + r.cpu + x.cpu) W (by rw [Int.zero_add]; exact (fair_two hn.2.2.1 hx.1).2)
      rw [Int.zero_add, ← huc'] at this
      rw [Int.zero_add]
      exact this
    have CC2 : Hid (∀ W, Calls Try.prog 15 #[Sm (0 + r.mem + x.mem)] W fun e w' => e = .returned (.int .i64 um') ∧ Gr W w') := fun W => by
      have := sum_milli (0 + r.mem + x.mem) W (by rw [Int.zero_add]; exact (fair_two hn.2.2.2 hx.2).2)
      rw [Int.zero_add, ← hum'] at this
      rw [Int.zero_add]
      exact this
    obtain ⟨V1, hV1⟩ : ∃ v, v = Sm (0 + r.cpu) := ⟨_, rfl⟩
    obtain ⟨V2, hV2⟩ : ∃ v, v = Sm (0 + r.cpu + x.cpu) := ⟨_, rfl⟩
    obtain ⟨V3, hV3⟩ : ∃ v, v = Sm (0 + r.mem) := ⟨_, rfl⟩
    obtain ⟨V4, hV4⟩ : ∃ v, v = Sm (0 + r.mem + x.mem) := ⟨_, rfl⟩
    rw [← hV1] at CA1 CB1
    rw [← hV2] at CB1 CC1
    rw [← hV3] at CA2 CB2
    rw [← hV4] at CB2 CC2
    have e00 : Sm 0 = .agg #[.int .i64 0, .int .u64 0] := by kernel_rfl
    rw [e00] at CA1 CA2
    have em : min r.pods 9223372036854775806 = r.pods := by omega
    have ek : IntKind.i64.wrap (r.pods + 1) = k' := by rw [hk', IntKind.wrap_i64]; omega
    have RV' := Lib.hid (RV uc' um' k')
    rw [← PR.out] at RV'
    have HA : Hid (P[4]? = some (.int .i64 x.cpu) ∧ P[5]? = some (.int .i64 x.mem)) := HP.out
    obtain ⟨nm, hnm⟩ : ∃ v, v = r.name := ⟨_, rfl⟩
    obtain ⟨uc, huc⟩ : ∃ v, v = r.cpu := ⟨_, rfl⟩
    obtain ⟨um, hum⟩ : ∃ v, v = r.mem := ⟨_, rfl⟩
    obtain ⟨k, hk⟩ : ∃ v, v = r.pods := ⟨_, rfl⟩
    obtain ⟨ac, hac⟩ : ∃ v, v = x.cpu := ⟨_, rfl⟩
    obtain ⟨am, ham⟩ : ∃ v, v = x.mem := ⟨_, rfl⟩
    rw [← hnm] at eR RV'
    rw [← huc] at eR CA1
    rw [← hum] at eR CA2
    rw [← hk] at eR em ek
    rw [← hac] at CB1 HA
    rw [← ham] at CB2 HA
    have ER := Lib.hid eR
    clear eR hnm huc hum hk hac ham hV1 hV2 hV3 hV4 e00 huc' hum' hk' hn hx hkk HP HN RV
    go_enter Try.func7, Try.ntmps7
    go_upto_region 1 with fail
    rw [HW.out.1, HW.out.2]
    go_wp2_with (first | (refine wpList_load_by (by kernel_rfl) RT _ rfl (.pointer (some ⟨B, 0, none⟩)) (.agg R) (by rfl) LR.out ?_) | (refine wpList_load_by (by kernel_rfl) PTy _ rfl (.pointer (some ⟨B + 1, 0, none⟩)) (.agg P) (by rfl) LP.out ?_))
    refine CFa.out.mono ?_
    rintro e w1 ⟨rfl, b1⟩
    obtain ⟨y0, y1, y2, ga, sR, oR, sP⟩ := HX.out
    have z0 := (b1.block B (Array.getElem?_eq_some_iff.1 y0).1).trans y0
    have z1 := (b1.block (B + 1) (Array.getElem?_eq_some_iff.1 y1).1).trans y1
    have z2 := (b1.block (B + 2) (Array.getElem?_eq_some_iff.1 y2).1).trans y2
    have bw1 : Below w.heap.size w w1 := ga.trans (b1.mono ga.size)
    rw [ER.out] at z0
    clear y0 y1 y2 ga sR oR sP b1 LR LP CFa HX
    go_upto_region 3 with fail
    have S3 : Hid (∀ ws : World, PutS B #[.string nm, d0, d1, d2, d3, d4, d5, d6, .int .i64 uc, .int .i64 um, .int .i64 k] P ws → ws.cell? ⟨B, 8, none⟩ = some (.int .i64 uc) ∧ ws.cell? ⟨B + 1, 4, none⟩ = some (.int .i64 ac)) := fun ws h => ⟨cell_of_block h.1 8, (cell_of_block h.2 4).trans HA.out.1⟩
    have K3 : Hid (∀ ws : World, Gr w1 ws → PutS B #[.string nm, d0, d1, d2, d3, d4, d5, d6, .int .i64 uc, .int .i64 um, .int .i64 k] P ws) := fun ws g => ⟨(g.heap (Array.getElem?_eq_some_iff.1 z0).1).trans z0, (g.heap (Array.getElem?_eq_some_iff.1 z1).1).trans z1⟩
    refine wp_region_G (f := 12) (S := PutS B #[.string nm, d0, d1, d2, d3, d4, d5, d6, .int .i64 uc, .int .i64 um, .int .i64 k] P) mixed (K3.out _ ((Gr.refl w1).drewN 1)) (fun hS => ?_)
    refine wpAnyG_takeD (i := 0) (d := 11) (v := .agg #[.int .i64 0, .int .u64 0]) _ rfl rfl (by kernel_rfl) (by kernel_rfl) (by kernel_rfl) (by kernel_rfl) (fun _ _ _ h => h) (Or.inl ⟨by kernel_rfl, fun ws hSw => by first | (go_simp; done) | (go_simp; with_reducible rfl) | (go_simp; rfl)⟩) hS ?_
    simp only [Act.put, List.setIfInBounds_toArray, List.set_cons_zero, List.set_cons_succ]
    refine wpAnyG_takeD (i := 1) (d := 12) (v := .pointer (some ⟨B, 8, none⟩)) _ rfl rfl (by kernel_rfl) (by kernel_rfl) (by kernel_rfl) (by kernel_rfl) (fun _ _ _ h => h) (Or.inl ⟨by kernel_rfl, fun ws hSw => by first | (go_simp; done) | (go_simp; with_reducible rfl) | (go_simp; rfl)⟩) hS ?_
    simp only [Act.put, List.setIfInBounds_toArray, List.set_cons_zero, List.set_cons_succ]
    refine wpAnyG_takeD (i := 2) (d := 13) (v := .pointer (some ⟨B, 8, none⟩)) _ rfl rfl (by kernel_rfl) (by kernel_rfl) (by kernel_rfl) (by kernel_rfl) (fun _ _ _ h => h) (Or.inl ⟨by kernel_rfl, fun ws hSw => by first | (go_simp; done) | (go_simp; with_reducible rfl) | (go_simp; rfl)⟩) hS ?_
    simp only [Act.put, List.setIfInBounds_toArray, List.set_cons_zero, List.set_cons_succ]
    refine wpAnyG_takeD (i := 3) (d := 14) (v := .int .i64 uc) _ rfl rfl (by kernel_rfl) (by kernel_rfl) (by kernel_rfl) (by kernel_rfl) (fun _ _ _ h => h) (Or.inl ⟨by kernel_rfl, fun ws hSw => by have q := S3.out ws hSw; first | (go_simp; done) | (go_simp; with_reducible rfl) | (go_simp; rfl)⟩) hS ?_
    simp only [Act.put, List.setIfInBounds_toArray, List.set_cons_zero, List.set_cons_succ]
    refine wpAnyG_takeD (i := 5) (d := 16) (v := .pointer (some ⟨B + 1, 4, none⟩)) _ rfl rfl (by kernel_rfl) (by kernel_rfl) (by kernel_rfl) (by kernel_rfl) (fun _ _ _ h => h) (Or.inl ⟨by kernel_rfl, fun ws hSw => by first | (go_simp; done) | (go_simp; with_reducible rfl) | (go_simp; rfl)⟩) hS ?_
    simp only [Act.put, List.setIfInBounds_toArray, List.set_cons_zero, List.set_cons_succ]
    refine wpAnyG_takeD (i := 6) (d := 17) (v := .pointer (some ⟨B + 1, 4, none⟩)) _ rfl rfl (by kernel_rfl) (by kernel_rfl) (by kernel_rfl) (by kernel_rfl) (fun _ _ _ h => h) (Or.inl ⟨by kernel_rfl, fun ws hSw => by first | (go_simp; done) | (go_simp; with_reducible rfl) | (go_simp; rfl)⟩) hS ?_
    simp only [Act.put, List.setIfInBounds_toArray, List.set_cons_zero, List.set_cons_succ]
    refine wpAnyG_takeD (i := 7) (d := 18) (v := .int .i64 ac) _ rfl rfl (by kernel_rfl) (by kernel_rfl) (by kernel_rfl) (by kernel_rfl) (fun _ _ _ h => h) (Or.inl ⟨by kernel_rfl, fun ws hSw => by have q := S3.out ws hSw; first | (go_simp; done) | (go_simp; with_reducible rfl) | (go_simp; rfl)⟩) hS ?_
    simp only [Act.put, List.setIfInBounds_toArray, List.set_cons_zero, List.set_cons_succ]
    refine wpAnyG_ready (rs := [4]) (by kernel_rfl) (by simp) ?_
    refine AllReadyG.cons rfl (fun K hK => ?_) AllReadyG.nil
    go_simp
    refine (CA1.out _).mono ?_
    rintro e wb ⟨rfl, g1⟩
    have G1 : Gr w1 wb := ((Gr.refl w1).drewN 1).trans g1
    refine hK _ _ (K3.out _ G1) (fun hS => ?_)
    try simp only [Act.put, List.setIfInBounds_toArray, List.set_cons_zero, List.set_cons_succ]
    refine wpAnyG_ready (rs := [8]) (by kernel_rfl) (by simp) ?_
    refine AllReadyG.cons rfl (fun K hK => ?_) AllReadyG.nil
    go_simp
    refine (CB1.out _).mono ?_
    rintro e wd ⟨rfl, g2⟩
    have G2 : Gr w1 wd := G1.trans g2
    refine hK _ _ (K3.out _ G2) (fun hS => ?_)
    try simp only [Act.put, List.setIfInBounds_toArray, List.set_cons_zero, List.set_cons_succ]
    refine wpAnyG_ready (rs := [9]) (by kernel_rfl) (by simp) ?_
    refine AllReadyG.cons rfl (fun K hK => ?_) AllReadyG.nil
    go_simp
    refine (CC1.out _).mono ?_
    rintro e w20 ⟨rfl, g3⟩
    have G3 : Gr w1 w20 := G2.trans g3
    refine hK _ _ (K3.out _ G3) (fun hS => ?_)
    try simp only [Act.put, List.setIfInBounds_toArray, List.set_cons_zero, List.set_cons_succ]
    refine wpAnyG_takeD (i := 10) (d := 21) (v := .pointer (some ⟨B, 8, none⟩)) _ rfl rfl (by kernel_rfl) (by kernel_rfl) (by kernel_rfl) (by kernel_rfl) (fun _ _ _ h => h) (Or.inl ⟨by kernel_rfl, fun ws hSw => by first | (go_simp; done) | (go_simp; with_reducible rfl) | (go_simp; rfl)⟩) hS ?_
    simp only [Act.put, List.setIfInBounds_toArray, List.set_cons_zero, List.set_cons_succ]
    refine wpAnyG_takeD (i := 11) (d := 22) (v := .pointer (some ⟨B, 8, none⟩)) _ rfl rfl (by kernel_rfl) (by kernel_rfl) (by kernel_rfl) (by kernel_rfl) (fun _ _ _ h => h) (Or.inl ⟨by kernel_rfl, fun ws hSw => by first | (go_simp; done) | (go_simp; with_reducible rfl) | (go_simp; rfl)⟩) hS ?_
    simp only [Act.put, List.setIfInBounds_toArray, List.set_cons_zero, List.set_cons_succ]
    obtain ⟨k0, k1⟩ := K3.out _ G3
    have cc : w20.cell? ⟨B, 8, none⟩ = some (.int .i64 uc) := cell_of_block k0 8
    have ff : w20.frozen? ⟨B, 8, none⟩ = false := unfrozen_of_block k0 8
    have k2 := (G3.heap (Array.getElem?_eq_some_iff.1 z2).1).trans z2
    obtain ⟨w2, hw2⟩ : ∃ x, x = w20.setCell ⟨B, 8, none⟩ (.int .i64 uc') := ⟨_, rfl⟩
    have q03 : w2.heap[B]? = some (.cells #[.string nm, d0, d1, d2, d3, d4, d5, d6, .int .i64 uc', .int .i64 um, .int .i64 k] RT (0, 0)) := by rw [hw2, block_setCell k0]; rfl
    have q13 : w2.heap[B + 1]? = some (.cells P PTy (0, 0)) := by rw [hw2, heap_setCell_other _ _ _ _ (show B + 1 ≠ B by omega)]; exact k1
    have q23 : w2.heap[B + 2]? = some (.cells zerR RT (0, 0)) := by rw [hw2, heap_setCell_other _ _ _ _ (show B + 2 ≠ B by omega)]; exact k2
    have bw2 : Below w.heap.size w w2 := by
      rw [hw2]
      exact below_set (bw1.trans (G3.below.mono bw1.size)) _ (by show _ ≤ B; rw [HW.out.2]; exact Nat.le_refl _)
    refine wpAnyG_ready (rs := [12]) (by kernel_rfl) (by simp) ?_
    refine AllReadyG.last rfl rfl (fun K hK => ?_)
    go_simp
    rw [← hw2]
    refine hK _ _ ?_
    try simp only [Act.put, List.setIfInBounds_toArray, List.set_cons_zero, List.set_cons_succ]
    refine wpAnyG_done (by kernel_rfl) ?_
    clear cc ff k0 k1 k2 hw2 G1 G2 G3 g1 g2 g3 S3 K3 z0 z1 z2 bw1 hS hK K CA1 CB1 CC1
    go_upto_region 4 with fail
    have S4 : Hid (∀ ws : World, PutS B #[.string nm, d0, d1, d2, d3, d4, d5, d6, .int .i64 uc', .int .i64 um, .int .i64 k] P ws → ws.cell? ⟨B, 9, none⟩ = some (.int .i64 um) ∧ ws.cell? ⟨B + 1, 5, none⟩ = some (.int .i64 am)) := fun ws h => ⟨cell_of_block h.1 9, (cell_of_block h.2 5).trans HA.out.2⟩
    have K4 : Hid (∀ ws : World, Gr w2 ws → PutS B #[.string nm, d0, d1, d2, d3, d4, d5, d6, .int .i64 uc', .int .i64 um, .int .i64 k] P ws) := fun ws g => ⟨(g.heap (Array.getElem?_eq_some_iff.1 q03).1).trans q03, (g.heap (Array.getElem?_eq_some_iff.1 q13).1).trans q13⟩
    refine wp_region_G (f := 12) (S := PutS B #[.string nm, d0, d1, d2, d3, d4, d5, d6, .int .i64 uc', .int .i64 um, .int .i64 k] P) mixed (K4.out _ ((Gr.refl w2).drewN 1)) (fun hS => ?_)
    refine wpAnyG_takeD (i := 0) (d := 23) (v := .agg #[.int .i64 0, .int .u64 0]) _ rfl rfl (by kernel_rfl) (by kernel_rfl) (by kernel_rfl) (by kernel_rfl) (fun _ _ _ h => h) (Or.inl ⟨by kernel_rfl, fun ws hSw => by first | (go_simp; done) | (go_simp; with_reducible rfl) | (go_simp; rfl)⟩) hS ?_
    simp only [Act.put, List.setIfInBounds_toArray, List.set_cons_zero, List.set_cons_succ]
    refine wpAnyG_takeD (i := 1) (d := 24) (v := .pointer (some ⟨B, 8, none⟩)) _ rfl rfl (by kernel_rfl) (by kernel_rfl) (by kernel_rfl) (by kernel_rfl) (fun _ _ _ h => h) (Or.inl ⟨by kernel_rfl, fun ws hSw => by first | (go_simp; done) | (go_simp; with_reducible rfl) | (go_simp; rfl)⟩) hS ?_
    simp only [Act.put, List.setIfInBounds_toArray, List.set_cons_zero, List.set_cons_succ]
    refine wpAnyG_takeD (i := 2) (d := 25) (v := .pointer (some ⟨B, 9, none⟩)) _ rfl rfl (by kernel_rfl) (by kernel_rfl) (by kernel_rfl) (by kernel_rfl) (fun _ _ _ h => h) (Or.inl ⟨by kernel_rfl, fun ws hSw => by first | (go_simp; done) | (go_simp; with_reducible rfl) | (go_simp; rfl)⟩) hS ?_
    simp only [Act.put, List.setIfInBounds_toArray, List.set_cons_zero, List.set_cons_succ]
    refine wpAnyG_takeD (i := 3) (d := 26) (v := .int .i64 um) _ rfl rfl (by kernel_rfl) (by kernel_rfl) (by kernel_rfl) (by kernel_rfl) (fun _ _ _ h => h) (Or.inl ⟨by kernel_rfl, fun ws hSw => by have q := S4.out ws hSw; first | (go_simp; done) | (go_simp; with_reducible rfl) | (go_simp; rfl)⟩) hS ?_
    simp only [Act.put, List.setIfInBounds_toArray, List.set_cons_zero, List.set_cons_succ]
    refine wpAnyG_takeD (i := 5) (d := 28) (v := .pointer (some ⟨B + 1, 4, none⟩)) _ rfl rfl (by kernel_rfl) (by kernel_rfl) (by kernel_rfl) (by kernel_rfl) (fun _ _ _ h => h) (Or.inl ⟨by kernel_rfl, fun ws hSw => by first | (go_simp; done) | (go_simp; with_reducible rfl) | (go_simp; rfl)⟩) hS ?_
    simp only [Act.put, List.setIfInBounds_toArray, List.set_cons_zero, List.set_cons_succ]
    refine wpAnyG_takeD (i := 6) (d := 29) (v := .pointer (some ⟨B + 1, 5, none⟩)) _ rfl rfl (by kernel_rfl) (by kernel_rfl) (by kernel_rfl) (by kernel_rfl) (fun _ _ _ h => h) (Or.inl ⟨by kernel_rfl, fun ws hSw => by first | (go_simp; done) | (go_simp; with_reducible rfl) | (go_simp; rfl)⟩) hS ?_
    simp only [Act.put, List.setIfInBounds_toArray, List.set_cons_zero, List.set_cons_succ]
    refine wpAnyG_takeD (i := 7) (d := 30) (v := .int .i64 am) _ rfl rfl (by kernel_rfl) (by kernel_rfl) (by kernel_rfl) (by kernel_rfl) (fun _ _ _ h => h) (Or.inl ⟨by kernel_rfl, fun ws hSw => by have q := S4.out ws hSw; first | (go_simp; done) | (go_simp; with_reducible rfl) | (go_simp; rfl)⟩) hS ?_
    simp only [Act.put, List.setIfInBounds_toArray, List.set_cons_zero, List.set_cons_succ]
    refine wpAnyG_ready (rs := [4]) (by kernel_rfl) (by simp) ?_
    refine AllReadyG.cons rfl (fun K hK => ?_) AllReadyG.nil
    go_simp
    refine (CA2.out _).mono ?_
    rintro e wb ⟨rfl, g1⟩
    have G1 : Gr w2 wb := ((Gr.refl w2).drewN 1).trans g1
    refine hK _ _ (K4.out _ G1) (fun hS => ?_)
    try simp only [Act.put, List.setIfInBounds_toArray, List.set_cons_zero, List.set_cons_succ]
    refine wpAnyG_ready (rs := [8]) (by kernel_rfl) (by simp) ?_
    refine AllReadyG.cons rfl (fun K hK => ?_) AllReadyG.nil
    go_simp
    refine (CB2.out _).mono ?_
    rintro e wd ⟨rfl, g2⟩
    have G2 : Gr w2 wd := G1.trans g2
    refine hK _ _ (K4.out _ G2) (fun hS => ?_)
    try simp only [Act.put, List.setIfInBounds_toArray, List.set_cons_zero, List.set_cons_succ]
    refine wpAnyG_ready (rs := [9]) (by kernel_rfl) (by simp) ?_
    refine AllReadyG.cons rfl (fun K hK => ?_) AllReadyG.nil
    go_simp
    refine (CC2.out _).mono ?_
    rintro e w30 ⟨rfl, g3⟩
    have G3 : Gr w2 w30 := G2.trans g3
    refine hK _ _ (K4.out _ G3) (fun hS => ?_)
    try simp only [Act.put, List.setIfInBounds_toArray, List.set_cons_zero, List.set_cons_succ]
    refine wpAnyG_takeD (i := 10) (d := 33) (v := .pointer (some ⟨B, 8, none⟩)) _ rfl rfl (by kernel_rfl) (by kernel_rfl) (by kernel_rfl) (by kernel_rfl) (fun _ _ _ h => h) (Or.inl ⟨by kernel_rfl, fun ws hSw => by first | (go_simp; done) | (go_simp; with_reducible rfl) | (go_simp; rfl)⟩) hS ?_
    simp only [Act.put, List.setIfInBounds_toArray, List.set_cons_zero, List.set_cons_succ]
    refine wpAnyG_takeD (i := 11) (d := 34) (v := .pointer (some ⟨B, 9, none⟩)) _ rfl rfl (by kernel_rfl) (by kernel_rfl) (by kernel_rfl) (by kernel_rfl) (fun _ _ _ h => h) (Or.inl ⟨by kernel_rfl, fun ws hSw => by first | (go_simp; done) | (go_simp; with_reducible rfl) | (go_simp; rfl)⟩) hS ?_
    simp only [Act.put, List.setIfInBounds_toArray, List.set_cons_zero, List.set_cons_succ]
    obtain ⟨k0, k1⟩ := K4.out _ G3
    have cc : w30.cell? ⟨B, 9, none⟩ = some (.int .i64 um) := cell_of_block k0 9
    have ff : w30.frozen? ⟨B, 9, none⟩ = false := unfrozen_of_block k0 9
    have k2 := (G3.heap (Array.getElem?_eq_some_iff.1 q23).1).trans q23
    obtain ⟨w3, hw3⟩ : ∃ x, x = w30.setCell ⟨B, 9, none⟩ (.int .i64 um') := ⟨_, rfl⟩
    have q04 : w3.heap[B]? = some (.cells #[.string nm, d0, d1, d2, d3, d4, d5, d6, .int .i64 uc', .int .i64 um', .int .i64 k] RT (0, 0)) := by rw [hw3, block_setCell k0]; rfl
    have q14 : w3.heap[B + 1]? = some (.cells P PTy (0, 0)) := by rw [hw3, heap_setCell_other _ _ _ _ (show B + 1 ≠ B by omega)]; exact k1
    have q24 : w3.heap[B + 2]? = some (.cells zerR RT (0, 0)) := by rw [hw3, heap_setCell_other _ _ _ _ (show B + 2 ≠ B by omega)]; exact k2
    have bw3 : Below w.heap.size w w3 := by
      rw [hw3]
      exact below_set (bw2.trans (G3.below.mono bw2.size)) _ (by show _ ≤ B; rw [HW.out.2]; exact Nat.le_refl _)
    refine wpAnyG_ready (rs := [12]) (by kernel_rfl) (by simp) ?_
    refine AllReadyG.last rfl rfl (fun K hK => ?_)
    go_simp
    rw [← hw3]
    refine hK _ _ ?_
    try simp only [Act.put, List.setIfInBounds_toArray, List.set_cons_zero, List.set_cons_succ]
    refine wpAnyG_done (by kernel_rfl) ?_
    clear cc ff k0 k1 k2 hw3 G1 G2 G3 g1 g2 g3 S4 K4 q03 q13 q23 bw2 hS hK K CA2 CB2 CC2
    go_upto_region 5 with fail
    have cc : w3.cell? ⟨B, 10, none⟩ = some (.int .i64 k) := cell_of_block q04 10
    have ff : w3.frozen? ⟨B, 10, none⟩ = false := unfrozen_of_block q04 10
    obtain ⟨w4, hw4⟩ : ∃ x, x = w3.setCell ⟨B, 10, none⟩ (.int .i64 k') := ⟨_, rfl⟩
    have z0 : w4.heap[B]? = some (.cells #[.string nm, d0, d1, d2, d3, d4, d5, d6, .int .i64 uc', .int .i64 um', .int .i64 k'] RT (0, 0)) := by rw [hw4, block_setCell q04]; rfl
    have z2 : w4.heap[B + 2]? = some (.cells zerR RT (0, 0)) := by rw [hw4, heap_setCell_other _ _ _ _ (show B + 2 ≠ B by omega)]; exact q24
    have bw4 : Below w.heap.size w w4 := by
      rw [hw4]
      exact below_set bw3 _ (by show _ ≤ B; rw [HW.out.2]; exact Nat.le_refl _)
    obtain ⟨R', hR'⟩ : ∃ R' : Array Value, R' = #[.string nm, d0, d1, d2, d3, d4, d5, d6, .int .i64 uc', .int .i64 um', .int .i64 k'] := ⟨_, rfl⟩
    rw [← hR'] at z0 RV'
    have sR' : R'.size = 11 := by rw [hR']; rfl
    have LR4 := Lib.hid (run_loadAt_mid (P := Try.prog) w4 B 0 RT R'.toList _ (Ld.rangeAt_block z0) Try.underlying49 rfl (by rw [Array.length_toList, sR']; kernel_rfl))
    rw [Array.toArray_toList] at LR4
    have TH := Lib.hid (Ld.there_block z2 (n := R'.size) (by rw [sR']; rfl))
    have IN : Hid ((Try.prog.info? RT).map (·.size) = some R'.size) := by show _ = _; rw [sR']; kernel_rfl
    have ON := Lib.hid RV'.out.one.2.1
    have EB : Hid ((w4.setCells (B + 2) 0 R'.toList).heap[B + 2]? = some (.cells R' RT (0, 0))) := Ld.laid z2 (by rw [sR']; rfl)
    have FIN : Hid (Below w.heap.size w (w4.setCells (B + 2) 0 R'.toList)) := Ld.below_setCells _ _ _ (by rw [HW.out.2]; omega) bw4
    have HW4 : Hid (w3.setCell ⟨B, 10, none⟩ (.int .i64 k') = w4) := hw4.symm
    clear hw4 z0 z2 bw4 bw3 q04 q14 q24 hR' sR'
    go_upto_region 6 with fail
    rw [HW4.out]
    go_wp2_with (first | (refine wpList_load_by (by kernel_rfl) RT _ rfl (.pointer (some ⟨B, 0, none⟩)) (.agg R') (by rfl) LR4.out ?_) | (refine wpList_store_mid rfl _ _ _ rfl (B + 2) 0 R' (by rfl) (by rfl) TH.out IN.out ON.out ?_))
    refine bodyPost_ret (results_cell_two rfl _ _ (B + 2) RT R' (0, 0) _ (by rfl) EB.out Try.underlying49 rfl IN.out) rfl ?_
    exact ⟨⟨R', rfl, RV'.out⟩, FIN.out⟩
end Go.Proofs.Ytdphooobgbminaa.Rm
