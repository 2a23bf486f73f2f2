/- An object in new memory: Clone. -/
import Derived.Test.YtbkoepghmcdnhaaGreatDoorVaD
import Derived.Test.YtbkoepghmcdnhaaGreatDoorVaW
import Derived.Test.YtbkoepghmcdnhaaGreatDoorObLd
namespace Go.Proofs.YtbkoepghmcdnhaaGreatDoor
open Go.RowKit Go.Shelf Go.Lib Go.Sort Go.Deep
open Go.Joins (cell_of_block unfrozen_of_block block_setCell)
set_option linter.unusedVariables false
set_option linter.unusedSimpArgs false
set_option maxRecDepth 20000

/-- No long rows. -/
def SmallO (o : Ob) : Prop := o.w.lab.length ≤ 1000 ∧ o.w.sel.length ≤ 1000 ∧ o.w.tol.length ≤ 1000 ∧ o.p.lab.length ≤ 1000 ∧ o.p.sel.length ≤ 1000 ∧ o.p.tol.length ≤ 1000 ∧ o.n.lab.length ≤ 1000 ∧ o.n.tnt.length ≤ 1000 ∧ o.g.lab.length ≤ 1000 ∧ o.g.tnt.length ≤ 1000 ∧ o.h.met.length ≤ 1000 ∧ o.h.upol.length ≤ 1000 ∧ o.h.dpol.length ≤ 1000 ∧ o.h.past.length ≤ 1000
theorem small_few {o : Ob} (h : fewB o = true) : SmallO o := by
  unfold fewB rows8 at h
  simp only [Bool.and_eq_true, List.all_cons, List.all_nil, decide_eq_true_eq, and_true] at h
  unfold SmallO
  omega
theorem SlR.at {α : Type} {k b : Nat} {enc : α → List Value} {w : World} {L : Array Value} {i : Nat} {l : List α} (h : SlR k enc w L[i]? l) (hn : ∀ n c, L[i]? = some (.slice none n c) → c = 0) (hb : b ≤ 1000) (hl : l.length ≤ 1000) : RowAt k b enc w L i l := by
  obtain ⟨q, c, hv, hr⟩ := h
  refine ⟨?_, ⟨q, c, hv, hr, fun e => hn _ c (by rw [hv, e])⟩, ?_, by omega⟩
  · exact (Array.getElem?_eq_some_iff.1 hv).1
  · exact Nat.le_trans (Nat.mul_le_mul hl hb) (by decide)

theorem rows_of {w : World} {L : Array Value} {o : Ob} (hv : ObjV w L o) (hn : NilO L) (hs : SmallO o) : RowAt 2 32 encL w L 6 o.w.lab ∧ RowAt 3 40 encR w L 7 o.w.sel ∧ RowAt 2 32 encL w L 8 o.w.tol ∧ RowAt 2 32 encL w L 16 o.p.lab ∧ RowAt 3 40 encR w L 17 o.p.sel ∧ RowAt 2 32 encL w L 18 o.p.tol ∧ RowAt 2 32 encL w L 23 o.n.lab ∧ RowAt 2 32 encL w L 24 o.n.tnt ∧ RowAt 2 32 encL w L 32 o.g.lab ∧ RowAt 2 32 encL w L 33 o.g.tnt ∧ RowAt 3 32 encM w L 38 o.h.met ∧ RowAt 3 24 encP w L 42 o.h.upol ∧ RowAt 3 24 encP w L 45 o.h.dpol ∧ RowAt 3 24 encS w L 46 o.h.past := by
  obtain ⟨hsz, ⟨c0, c1, c2, hver⟩, hW, hP, hN, hG, hH⟩ := hv
  obtain ⟨c3, c4, c5, c6, c7, c8, c9⟩ := hW
  obtain ⟨c10, c11, c12, c13, c14, c15, c16, c17, c18, c19⟩ := hP
  obtain ⟨c20, c21, c22, c23, c24, c25, c26⟩ := hN
  obtain ⟨c27, c28, c29, c30, c31, c32, c33, c34⟩ := hG
  obtain ⟨c35, c36, c37, c38, c39, c40, c41, c42, c43, c44, c45, c46⟩ := hH
  obtain ⟨s6, s7, s8, s16, s17, s18, s23, s24, s32, s33, s38, s42, s45, s46⟩ := hs
  exact ⟨c6.at (fun n c => hn 6 n c (by decide)) (by decide) s6, c7.at (fun n c => hn 7 n c (by decide)) (by decide) s7, c8.at (fun n c => hn 8 n c (by decide)) (by decide) s8, c16.at (fun n c => hn 16 n c (by decide)) (by decide) s16, c17.at (fun n c => hn 17 n c (by decide)) (by decide) s17, c18.at (fun n c => hn 18 n c (by decide)) (by decide) s18, c23.at (fun n c => hn 23 n c (by decide)) (by decide) s23, c24.at (fun n c => hn 24 n c (by decide)) (by decide) s24, c32.at (fun n c => hn 32 n c (by decide)) (by decide) s32, c33.at (fun n c => hn 33 n c (by decide)) (by decide) s33, c38.at (fun n c => hn 38 n c (by decide)) (by decide) s38, c42.at (fun n c => hn 42 n c (by decide)) (by decide) s42, c45.at (fun n c => hn 45 n c (by decide)) (by decide) s45, c46.at (fun n c => hn 46 n c (by decide)) (by decide) s46⟩
theorem dup_obj {N : Nat} {w0 w : World} {L D : Array Value} {o : Ob} (hv : ObjV w0 L o) (hs : D.size = L.size) (ho : ∀ i, i ∉ rowsIx → D[i]? = L[i]?) (hi : ∀ i ∈ rowsIx, OwnAt N w o D i) : ObjV w D o := by
  obtain ⟨hsz, ⟨c0, c1, c2, hver⟩, hW, hP, hN, hG, hH⟩ := hv
  obtain ⟨c3, c4, c5, c6, c7, c8, c9⟩ := hW
  obtain ⟨c10, c11, c12, c13, c14, c15, c16, c17, c18, c19⟩ := hP
  obtain ⟨c20, c21, c22, c23, c24, c25, c26⟩ := hN
  obtain ⟨c27, c28, c29, c30, c31, c32, c33, c34⟩ := hG
  obtain ⟨c35, c36, c37, c38, c39, c40, c41, c42, c43, c44, c45, c46⟩ := hH
  have r6 : SlR 2 encL w D[6]? o.w.lab := OwnC.slr lenL (hi 6 (by decide))
  have r7 : SlR 3 encR w D[7]? o.w.sel := OwnC.slr lenR (hi 7 (by decide))
  have r8 : SlR 2 encL w D[8]? o.w.tol := OwnC.slr lenL (hi 8 (by decide))
  have r16 : SlR 2 encL w D[16]? o.p.lab := OwnC.slr lenL (hi 16 (by decide))
  have r17 : SlR 3 encR w D[17]? o.p.sel := OwnC.slr lenR (hi 17 (by decide))
  have r18 : SlR 2 encL w D[18]? o.p.tol := OwnC.slr lenL (hi 18 (by decide))
  have r23 : SlR 2 encL w D[23]? o.n.lab := OwnC.slr lenL (hi 23 (by decide))
  have r24 : SlR 2 encL w D[24]? o.n.tnt := OwnC.slr lenL (hi 24 (by decide))
  have r32 : SlR 2 encL w D[32]? o.g.lab := OwnC.slr lenL (hi 32 (by decide))
  have r33 : SlR 2 encL w D[33]? o.g.tnt := OwnC.slr lenL (hi 33 (by decide))
  have r38 : SlR 3 encM w D[38]? o.h.met := OwnC.slr lenM (hi 38 (by decide))
  have r42 : SlR 3 encP w D[42]? o.h.upol := OwnC.slr lenP (hi 42 (by decide))
  have r45 : SlR 3 encP w D[45]? o.h.dpol := OwnC.slr lenP (hi 45 (by decide))
  have r46 : SlR 3 encS w D[46]? o.h.past := OwnC.slr lenS (hi 46 (by decide))
  exact ⟨hs.trans hsz, ⟨(ho 0 (by decide)).trans c0, (ho 1 (by decide)).trans c1, (ho 2 (by decide)).trans c2, hver⟩, ⟨(ho 3 (by decide)).trans c3, (ho 4 (by decide)).trans c4, (ho 5 (by decide)).trans c5, r6, r7, r8, (ho 9 (by decide)).trans c9⟩, ⟨(ho 10 (by decide)).trans c10, (ho 11 (by decide)).trans c11, (ho 12 (by decide)).trans c12, (ho 13 (by decide)).trans c13, (ho 14 (by decide)).trans c14, (ho 15 (by decide)).trans c15, r16, r17, r18, (ho 19 (by decide)).trans c19⟩, ⟨(ho 20 (by decide)).trans c20, (ho 21 (by decide)).trans c21, (ho 22 (by decide)).trans c22, r23, r24, (ho 25 (by decide)).trans c25, (ho 26 (by decide)).trans c26⟩, ⟨(ho 27 (by decide)).trans c27, (ho 28 (by decide)).trans c28, (ho 29 (by decide)).trans c29, (ho 30 (by decide)).trans c30, (ho 31 (by decide)).trans c31, r32, r33, (ho 34 (by decide)).trans c34⟩, ⟨(ho 35 (by decide)).trans c35, (ho 36 (by decide)).trans c36, (ho 37 (by decide)).trans c37, r38, (ho 39 (by decide)).trans c39, (ho 40 (by decide)).trans c40, (ho 41 (by decide)).trans c41, r42, (ho 43 (by decide)).trans c43, (ho 44 (by decide)).trans c44, r45, r46⟩⟩
/-- A copy in new memory. -/
def CopyO (N : Nat) (w : World) (L D : Array Value) (o : Ob) : Prop := D.size = L.size ∧ (∀ i, i ∉ rowsIx → D[i]? = L[i]?) ∧ ∀ i ∈ rowsIx, OwnAt N w o D i
set_option maxHeartbeats 8000000 in
theorem clone_any (w0 : World) (L0 : Array Value) (o : Ob) (hv : ObjV w0 L0 o) (hn : NilO L0) (hs : SmallO o) :
    Calls Tryz.prog 16 #[.agg L0] w0 fun e w' => (∃ D, e = .returned (.agg D) ∧ CopyO w0.heap.size w' L0 D o) ∧ Below w0.heap.size w0 w' := by
  have mixed : Tryz.prog.follows .mixedOrders = true := by kernel_rfl
  obtain ⟨r6, r7, r8, r16, r17, r18, r23, r24, r32, r33, r38, r42, r45, r46⟩ := rows_of hv hn hs
  have R6 := Lib.hid r6
  have R7 := Lib.hid r7
  have R8 := Lib.hid r8
  have R16 := Lib.hid r16
  have R17 := Lib.hid r17
  have R18 := Lib.hid r18
  have R23 := Lib.hid r23
  have R24 := Lib.hid r24
  have R32 := Lib.hid r32
  have R33 := Lib.hid r33
  have R38 := Lib.hid r38
  have R42 := Lib.hid r42
  have R45 := Lib.hid r45
  have R46 := Lib.hid r46
  obtain ⟨B, hB⟩ : ∃ B, B = w0.heap.size := ⟨_, rfl⟩
  obtain ⟨w, hw⟩ : ∃ W, W = (w0.alloc (.cells L0 51)).alloc (.cells zerC 51) := ⟨_, rfl⟩
  have G0 : Gr w0 w := hw ▸ ((Gr.refl w0).alloc _).alloc _
  have b0 : w.heap[B]? = some (.cells L0 51 (0, 0)) := by
    rw [hw, hB, ((Gr.refl (w0.alloc (.cells L0 51))).alloc _).heap (by simp)]
    exact heap_alloc_new w0 _
  have b1 : w.heap[B + 1]? = some (.cells zerC 51 (0, 0)) := by
    rw [hw, hB]
    have := heap_alloc_new (w0.alloc (.cells L0 51)) (.cells zerC 51)
    simpa using this
  have hws : w.heap.size = B + 2 := by rw [hw, hB]; simp
  have HN : Hid (B < w.heap.size) := by show _ < _; omega
  have HH : Hid (w0.heap.size ≤ B ∧ Below w0.heap.size w0 w) := ⟨by omega, G0.below⟩
  have HW := Lib.hid (And.intro hw (And.intro hB (And.intro hws b1)))
  have S0 : Hid (w.heap[B]? = some (.cells L0 51 (0, 0)) ∧ L0.size = L0.size ∧ (∀ i, i ∉ ([] : List Nat) → L0[i]? = L0[i]?) ∧ Xb B w w) := ⟨b0, rfl, fun _ _ => rfl, Xb.refl _ _⟩
  have XB0 := Lib.hid b0
  have HV := Lib.hid hv
  clear hv hn hs hw hB hws b0 b1 G0 r6 r7 r8 r16 r17 r18 r23 r24 r32 r33 r38 r42 r45 r46
  go_enter Tryz.func16, Tryz.ntmps16
  go_upto_region 1 with fail
  rw [← HW.out.1, ← HW.out.2.1]
  go_upto_region 2 with fail
  go_still_tail 24, (by kernel_rfl)
  change wpList _ _ _ _ _ (World.drew w)
  obtain ⟨v0, hv0⟩ : ∃ v, v = World.drew w := ⟨_, rfl⟩
  rw [← hv0]
  have X0 : Hid (Xb B w v0) := hv0 ▸ ⟨rfl, rfl, rfl, Nat.le_refl _, fun _ _ _ => rfl⟩
  have XV0 : Hid (v0.heap[B]? = some (.cells L0 51 (0, 0))) := by show _ = _; rw [hv0]; exact XB0.out
  clear hv0
  go_wp2_with fail
  obtain ⟨u0, hu0⟩ : ∃ u, u = v0.alloc (.cells #[.pointer (some ⟨B, 6, none⟩), .pointer (some ⟨B, 8, none⟩), .pointer (some ⟨B, 16, none⟩), .pointer (some ⟨B, 18, none⟩), .pointer (some ⟨B, 23, none⟩), .pointer (some ⟨B, 24, none⟩), .pointer (some ⟨B, 32, none⟩), .pointer (some ⟨B, 33, none⟩)] 102) := ⟨_, rfl⟩
  rw [← hu0]
  have Y0 : Hid (Xb B w u0) := X0.out.trans (Xb.ofGr (hu0 ▸ (Gr.refl v0).alloc _) B)
  obtain ⟨hB0, hS0, hO0, hX0⟩ := S0.out
  have hb0 : u0.heap[B]? = some (.cells L0 51 (0, 0)) := by rw [hu0, (Gr.alloc (Gr.refl v0) _).heap (by have := X0.out.size; have := hX0.size; have := HN.out; omega)]; exact XV0.out
  have hp0 : u0.heap[v0.heap.size]? = some (.cells (ptrs B [6, 8, 16, 18, 23, 24, 32, 33]) 102 (0, 0)) := by rw [hu0]; exact heap_alloc_new v0 _
  have C0 : Calls Tryz.prog 35 #[.slice (some ⟨v0.heap.size, 0, none⟩) 8 8] u0 _ := renewL w0 u0 v0.heap.size B [6, 8, 16, 18, 23, 24, 32, 33] [o.w.lab, o.w.tol, o.p.lab, o.p.tol, o.n.lab, o.n.tnt, o.g.lab, o.g.tnt] L0 _ _ HH.out.1 (HH.out.2.trans ((hX0.trans Y0.out).below HH.out.1 (by have := HH.out.2.size; have := HN.out; omega))) hp0 hb0 (by have := X0.out.size; have := hX0.size; have := HN.out; omega) (by decide) (by decide) (rows_cons R6.out (rows_cons R8.out (rows_cons R16.out (rows_cons R18.out (rows_cons R23.out (rows_cons R24.out (rows_cons R32.out (rows_cons R33.out rows_nil))))))))
  refine C0.mono ?_
  rintro e m1 ⟨rfl, ⟨L1, g1, g2, g3, g4⟩, g5⟩
  have S1 : Hid (m1.heap[B]? = some (.cells L1 51 (0, 0)) ∧ L1.size = L0.size ∧ (∀ i, i ∉ ([6, 8, 16, 18, 23, 24, 32, 33] : List Nat) → L1[i]? = L0[i]?) ∧ Xb B w m1 ∧ OwnC w.heap.size m1 101 2 encL L1 6 o.w.lab ∧ OwnC w.heap.size m1 101 2 encL L1 8 o.w.tol ∧ OwnC w.heap.size m1 101 2 encL L1 16 o.p.lab ∧ OwnC w.heap.size m1 101 2 encL L1 18 o.p.tol ∧ OwnC w.heap.size m1 101 2 encL L1 23 o.n.lab ∧ OwnC w.heap.size m1 101 2 encL L1 24 o.n.tnt ∧ OwnC w.heap.size m1 101 2 encL L1 32 o.g.lab ∧ OwnC w.heap.size m1 101 2 encL L1 33 o.g.tnt) := by
    have g3' : ∀ i, i ∉ ([6, 8, 16, 18, 23, 24, 32, 33] : List Nat) → L1[i]? = L0[i]? := g3
    have hz : w.heap.size ≤ u0.heap.size := Nat.le_trans hX0.size Y0.out.size
    have kp : ∀ g, w.heap.size ≤ g → g < w.heap.size → m1.heap[g]? = w.heap[g]? := fun g h1 h2 => (Y0.out.trans g5).block g h2 (by have := HN.out; omega)
    refine ⟨g1, g2, fun i hi => g3' i hi, hX0.trans (Y0.out.trans g5), OwnC.less (g4 0 6 o.w.lab (by decide) rfl rfl) hz, OwnC.less (g4 1 8 o.w.tol (by decide) rfl rfl) hz, OwnC.less (g4 2 16 o.p.lab (by decide) rfl rfl) hz, OwnC.less (g4 3 18 o.p.tol (by decide) rfl rfl) hz, OwnC.less (g4 4 23 o.n.lab (by decide) rfl rfl) hz, OwnC.less (g4 5 24 o.n.tnt (by decide) rfl rfl) hz, OwnC.less (g4 6 32 o.g.lab (by decide) rfl rfl) hz, OwnC.less (g4 7 33 o.g.tnt (by decide) rfl rfl) hz⟩
  clear C0 hp0 hb0 hu0 g1 g2 g3 g4 g5 hB0 hS0 hO0 hX0 S0 X0 Y0 XB0
  have XB1 := Lib.hid S1.out.1
  go_upto_region 3 with fail
  go_still_tail 6, (by kernel_rfl)
  change wpList _ _ _ _ _ (World.drew m1)
  obtain ⟨v1, hv1⟩ : ∃ v, v = World.drew m1 := ⟨_, rfl⟩
  rw [← hv1]
  have X1 : Hid (Xb B m1 v1) := hv1 ▸ ⟨rfl, rfl, rfl, Nat.le_refl _, fun _ _ _ => rfl⟩
  have XV1 : Hid (v1.heap[B]? = some (.cells L1 51 (0, 0))) := by show _ = _; rw [hv1]; exact XB1.out
  clear hv1
  go_wp2_with fail
  obtain ⟨u1, hu1⟩ : ∃ u, u = v1.alloc (.cells #[.pointer (some ⟨B, 7, none⟩), .pointer (some ⟨B, 17, none⟩)] 106) := ⟨_, rfl⟩
  rw [← hu1]
  have Y1 : Hid (Xb B m1 u1) := X1.out.trans (Xb.ofGr (hu1 ▸ (Gr.refl v1).alloc _) B)
  obtain ⟨hB1, hS1, hO1, hX1, q1_6, q1_8, q1_16, q1_18, q1_23, q1_24, q1_32, q1_33⟩ := S1.out
  have hb1 : u1.heap[B]? = some (.cells L1 51 (0, 0)) := by rw [hu1, (Gr.alloc (Gr.refl v1) _).heap (by have := X1.out.size; have := hX1.size; have := HN.out; omega)]; exact XV1.out
  have hp1 : u1.heap[v1.heap.size]? = some (.cells (ptrs B [7, 17]) 106 (0, 0)) := by rw [hu1]; exact heap_alloc_new v1 _
  have C1 : Calls Tryz.prog 36 #[.slice (some ⟨v1.heap.size, 0, none⟩) 2 2] u1 _ := renewR w0 u1 v1.heap.size B [7, 17] [o.w.sel, o.p.sel] L1 _ _ HH.out.1 (HH.out.2.trans ((hX1.trans Y1.out).below HH.out.1 (by have := HH.out.2.size; have := HN.out; omega))) hp1 hb1 (by have := X1.out.size; have := hX1.size; have := HN.out; omega) (by decide) (by decide) (rows_cons (R7.out.cell hS1 (hO1 7 (by decide))) (rows_cons (R17.out.cell hS1 (hO1 17 (by decide))) rows_nil))
  refine C1.mono ?_
  rintro e m2 ⟨rfl, ⟨L2, g1, g2, g3, g4⟩, g5⟩
  have S2 : Hid (m2.heap[B]? = some (.cells L2 51 (0, 0)) ∧ L2.size = L0.size ∧ (∀ i, i ∉ ([6, 8, 16, 18, 23, 24, 32, 33, 7, 17] : List Nat) → L2[i]? = L0[i]?) ∧ Xb B w m2 ∧ OwnC w.heap.size m2 101 2 encL L2 6 o.w.lab ∧ OwnC w.heap.size m2 101 2 encL L2 8 o.w.tol ∧ OwnC w.heap.size m2 101 2 encL L2 16 o.p.lab ∧ OwnC w.heap.size m2 101 2 encL L2 18 o.p.tol ∧ OwnC w.heap.size m2 101 2 encL L2 23 o.n.lab ∧ OwnC w.heap.size m2 101 2 encL L2 24 o.n.tnt ∧ OwnC w.heap.size m2 101 2 encL L2 32 o.g.lab ∧ OwnC w.heap.size m2 101 2 encL L2 33 o.g.tnt ∧ OwnC w.heap.size m2 105 3 encR L2 7 o.w.sel ∧ OwnC w.heap.size m2 105 3 encR L2 17 o.p.sel) := by
    have g3' : ∀ i, i ∉ ([7, 17] : List Nat) → L2[i]? = L1[i]? := g3
    have hz : w.heap.size ≤ u1.heap.size := Nat.le_trans hX1.size Y1.out.size
    have kp : ∀ g, w.heap.size ≤ g → g < m1.heap.size → m2.heap[g]? = m1.heap[g]? := fun g h1 h2 => (Y1.out.trans g5).block g h2 (by have := HN.out; omega)
    refine ⟨g1, g2.trans hS1, fun i hi => (g3' i (fun h => hi (List.mem_append_right [6, 8, 16, 18, 23, 24, 32, 33] h))).trans (hO1 i (fun h => hi (List.mem_append_left [7, 17] h))), hX1.trans (Y1.out.trans g5), q1_6.keep kp (g3' 6 (by decide)), q1_8.keep kp (g3' 8 (by decide)), q1_16.keep kp (g3' 16 (by decide)), q1_18.keep kp (g3' 18 (by decide)), q1_23.keep kp (g3' 23 (by decide)), q1_24.keep kp (g3' 24 (by decide)), q1_32.keep kp (g3' 32 (by decide)), q1_33.keep kp (g3' 33 (by decide)), OwnC.less (g4 0 7 o.w.sel (by decide) rfl rfl) hz, OwnC.less (g4 1 17 o.p.sel (by decide) rfl rfl) hz⟩
  clear C1 hp1 hb1 hu1 g1 g2 g3 g4 g5 hB1 hS1 hO1 hX1 q1_6 q1_8 q1_16 q1_18 q1_23 q1_24 q1_32 q1_33 S1 X1 Y1 XB1
  have XB2 := Lib.hid S2.out.1
  go_wp2_with fail
  obtain ⟨hB2, hS2, hO2, hX2, q6, q8, q16, q18, q23, q24, q32, q33, q7, q17⟩ := S2.out
  have hz : w.heap.size ≤ m2.heap.size := hX2.size
  refine (hpa_ob w0 m2 B L2 o.h HH.out.1 (HH.out.2.trans (hX2.below HH.out.1 (by have := HH.out.2.size; have := HN.out; omega))) hB2 (R38.out.cell hS2 (hO2 38 (by decide))) (R42.out.cell hS2 (hO2 42 (by decide))) (R45.out.cell hS2 (hO2 45 (by decide))) (R46.out.cell hS2 (hO2 46 (by decide)))).mono ?_
  rintro e m3 ⟨rfl, ⟨D, g1, g2, g3, p38, p42, p45, p46⟩, g5⟩
  have kp : ∀ g, w.heap.size ≤ g → g < m2.heap.size → m3.heap[g]? = m2.heap[g]? := fun g h1 h2 => g5.block g h2 (by have := HN.out; omega)
  have hX3 : Xb B w m3 := hX2.trans g5
  have hS3 : D.size = L0.size := g2.trans hS2
  have hO3 : ∀ i, i ∉ rowsIx → D[i]? = L0[i]? := fun i hi => (g3 i (fun h => hi (by revert h; simp only [rowsIx, List.mem_cons, List.not_mem_nil, or_false]; omega))).trans (hO2 i (fun h => hi (by revert h; simp only [rowsIx, List.mem_cons, List.not_mem_nil, or_false]; omega)))
  have hI3 : ∀ i ∈ rowsIx, OwnAt w.heap.size m3 o D i := by
    intro i hi
    simp only [rowsIx, List.mem_cons, List.not_mem_nil, or_false] at hi
    rcases hi with rfl | rfl | rfl | rfl | rfl | rfl | rfl | rfl | rfl | rfl | rfl | rfl | rfl | rfl
    · exact OwnC.keep q6 kp (g3 6 (by decide))
    · exact OwnC.keep q7 kp (g3 7 (by decide))
    · exact OwnC.keep q8 kp (g3 8 (by decide))
    · exact OwnC.keep q16 kp (g3 16 (by decide))
    · exact OwnC.keep q17 kp (g3 17 (by decide))
    · exact OwnC.keep q18 kp (g3 18 (by decide))
    · exact OwnC.keep q23 kp (g3 23 (by decide))
    · exact OwnC.keep q24 kp (g3 24 (by decide))
    · exact OwnC.keep q32 kp (g3 32 (by decide))
    · exact OwnC.keep q33 kp (g3 33 (by decide))
    · exact OwnC.less p38 hz
    · exact OwnC.less p42 hz
    · exact OwnC.less p45 hz
    · exact OwnC.less p46 hz
  have OV : ObjV m3 D o := dup_obj HV.out hS3 hO3 hI3
  have hsz : D.size = 47 := OV.1
  have LO := Lib.hid (load_ob g1 hsz)
  have ONE := Lib.hid (objV_one OV)
  have INFO : Hid ((Tryz.prog.info? 51).map (·.size) = some D.size) := by show _ = _; rw [hsz]; exact info_ob47
  have hb3 : m3.heap[B + 1]? = some (.cells zerC 51 (0, 0)) := (hX3.block (B + 1) (by have := HW.out.2.2.1; omega) (by omega)).trans HW.out.2.2.2
  have THERE : Hid (m3.there (B + 1) 0 D.size) := by
    intro j hj
    rw [Nat.zero_add, cell_of_block hb3, unfrozen_of_block hb3]
    refine ⟨?_, rfl⟩
    have hz : (zerC : Array Value).size = 47 := rfl
    rw [Array.getElem?_eq_getElem (by omega)]
    rfl
  have FB : Hid ((m3.setCells (B + 1) 0 D.toList).heap[B + 1]? = some (.cells D 51 (0, 0))) := by
    show _ = _
    rw [setCells_block _ _ _ _ _ _ _ hb3, setAt_full (by rw [hsz]; rfl)]
  have FIN : Hid (CopyO w0.heap.size (m3.setCells (B + 1) 0 D.toList) L0 D o ∧ Below w0.heap.size w0 (m3.setCells (B + 1) 0 D.toList)) := by
    have e1 := HW.out.2.1
    have e2 := HW.out.2.2.1
    refine ⟨⟨hS3, hO3, fun i hi => ((hI3 i hi).keep (fun g h1 h2 => setCells_out _ _ _ _ _ (by omega)) rfl).less (by omega)⟩, ?_⟩
    have g := HH.out.2.trans (hX3.below HH.out.1 (by omega))
    obtain ⟨r1, r2, r3⟩ := setCells_rest D.toList m3 (B + 1) 0
    exact ⟨r1.trans g.os, r2.trans g.tape, r3.trans g.output, by rw [setCells_size]; exact g.size, fun k hk => by rw [setCells_out _ _ _ _ _ (by omega)]; exact g.block k hk⟩
  clear OV hb3 hI3 hO3 hS3 hX3 kp p38 p42 p45 p46 g1 g2 g3 g5 hz hB2 hS2 hO2 hX2 S2 XB2 HV
  clear q6 q8 q16 q18 q23 q24 q32 q33 q7 q17
  go_wp2_with (first | (refine wpList_load_by (by kernel_rfl) 51 _ rfl (.pointer (some ⟨B, 0, none⟩)) (.agg D) (by kernel_rfl) LO.out ?_) | (refine wpList_store_mid rfl _ _ _ rfl (B + 1) 0 D (by rfl) (by rfl) THERE.out INFO.out ONE.out ?_))
  refine bodyPost_ret (results_cell_row rfl _ _ (B + 1) 51 D (0, 0) _ (by rfl) FB.out Tryz.underlying51 rfl INFO.out) rfl ?_
  exact ⟨⟨D, rfl, FIN.out.1⟩, FIN.out.2⟩
end Go.Proofs.YtbkoepghmcdnhaaGreatDoor
