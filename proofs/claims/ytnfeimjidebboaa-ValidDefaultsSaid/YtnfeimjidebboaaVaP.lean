/- An Hpa by itself: renewHpa, fill. -/
import Derived.Test.YtnfeimjidebboaaVaO
import Derived.Deep.RegionHeld3
namespace Go.Proofs.Ytnfeimjidebboaa
open Go.RowKit Go.Shelf Go.Lib Go.Sort Go.Deep
open Go.Joins (cell_of_block unfrozen_of_block block_setCell)
set_option linter.unusedVariables false
set_option linter.unusedSimpArgs false
set_option maxRecDepth 20000
set_option maxHeartbeats 4000000 in
theorem hpa_sh (w0 w : World) (B : Nat) (L0 : Array Value) (x : Hp) (h0 : w0.heap.size ≤ B) (hw0 : Below w0.heap.size w0 w) (hB : w.heap[B]? = some (.cells L0 42 (0, 0))) (r3 : RowAt 3 32 encM w0 L0 3 x.met) (r7 : RowAt 3 24 encP w0 L0 7 x.upol) (r10 : RowAt 3 24 encP w0 L0 10 x.dpol) (r11 : RowAt 3 24 encS w0 L0 11 x.past) :
    Calls Try.prog 28 #[.pointer (some ⟨B, 0, none⟩)] w fun e w' => e = .returned (.tuple #[]) ∧ (∃ L' : Array Value, w'.heap[B]? = some (.cells L' 42 (0, 0)) ∧ L'.size = L0.size ∧ (∀ i, i ∉ ([3, 7, 10, 11] : List Nat) → L'[i]? = L0[i]?) ∧ OwnC w.heap.size w' 62 3 encM L' 3 x.met ∧ OwnC w.heap.size w' 51 3 encP L' 7 x.upol ∧ OwnC w.heap.size w' 51 3 encP L' 10 x.dpol ∧ OwnC w.heap.size w' 65 3 encS L' 11 x.past) ∧ Xb B w w' := by
  have mixed : Try.prog.follows .mixedOrders = true := by kernel_rfl
  have HN : Hid (B < w.heap.size) := (Array.getElem?_eq_some_iff.1 hB).1
  have HH := Lib.hid (And.intro h0 hw0)
  have R3 := Lib.hid r3
  have R7 := Lib.hid r7
  have R10 := Lib.hid r10
  have R11 := Lib.hid r11
  have S0 : Hid (w.heap[B]? = some (.cells L0 42 (0, 0)) ∧ L0.size = L0.size ∧ (∀ i, i ∉ ([] : List Nat) → L0[i]? = L0[i]?) ∧ Xb B w w) := ⟨hB, rfl, fun _ _ => rfl, Xb.refl _ _⟩
  have XB0 := Lib.hid hB
  clear h0 hw0 hB r3 r7 r10 r11
  go_enter Try.func28, Try.ntmps28
  have X0 : Hid (Xb B w w) := Xb.refl _ _
  have XV0 : Hid (w.heap[B]? = some (.cells L0 42 (0, 0))) := by show _ = _; exact XB0.out
  go_wp2_with fail
  obtain ⟨u0, hu0⟩ : ∃ u, u = w.alloc (.cells #[.pointer (some ⟨B, 3, none⟩)] 101) := ⟨_, rfl⟩
  rw [← hu0]
  have Y0 : Hid (Xb B w u0) := X0.out.trans (Xb.ofGr (hu0 ▸ (Gr.refl w).alloc _) B)
  obtain ⟨hB0, hS0, hO0, hX0⟩ := S0.out
  have hb0 : u0.heap[B]? = some (.cells L0 42 (0, 0)) := by rw [hu0, (Gr.alloc (Gr.refl w) _).heap (by have := X0.out.size; have := hX0.size; have := HN.out; omega)]; exact XV0.out
  have hp0 : u0.heap[w.heap.size]? = some (.cells (ptrs B [3]) 101 (0, 0)) := by rw [hu0]; exact heap_alloc_new w _
  have C0 : Calls Try.prog 54 #[.slice (some ⟨w.heap.size, 0, none⟩) 1 1] u0 _ := renewM w0 u0 w.heap.size B [3] [x.met] L0 _ _ HH.out.1 (HH.out.2.trans ((hX0.trans Y0.out).below HH.out.1 (by have := HH.out.2.size; have := HN.out; omega))) hp0 hb0 (by have := X0.out.size; have := hX0.size; have := HN.out; omega) (by decide) (by decide) (rows_cons R3.out rows_nil)
  refine C0.mono ?_
  rintro e m1 ⟨rfl, ⟨L1, g1, g2, g3, g4⟩, g5⟩
  have S1 : Hid (m1.heap[B]? = some (.cells L1 42 (0, 0)) ∧ L1.size = L0.size ∧ (∀ i, i ∉ ([3] : List Nat) → L1[i]? = L0[i]?) ∧ Xb B w m1 ∧ OwnC w.heap.size m1 62 3 encM L1 3 x.met) := by
    have g3' : ∀ i, i ∉ ([3] : List Nat) → L1[i]? = L0[i]? := g3
    have hz : w.heap.size ≤ u0.heap.size := Nat.le_trans hX0.size Y0.out.size
    have kp : ∀ g, w.heap.size ≤ g → g < w.heap.size → m1.heap[g]? = w.heap[g]? := fun g h1 h2 => (Y0.out.trans g5).block g h2 (by have := HN.out; omega)
    refine ⟨g1, g2, fun i hi => g3' i hi, hX0.trans (Y0.out.trans g5), OwnC.less (g4 0 3 x.met (by decide) rfl rfl) hz⟩
  clear C0 hp0 hb0 hu0 g1 g2 g3 g4 g5 hB0 hS0 hO0 hX0 S0 X0 Y0 XB0
  have XB1 := Lib.hid S1.out.1
  go_upto_region 1 with fail
  go_still_tail 8, (by kernel_rfl)
  change wpList _ _ _ _ _ (World.drew m1)
  obtain ⟨v1, hv1⟩ : ∃ v, v = World.drew m1 := ⟨_, rfl⟩
  rw [← hv1]
  have X1 : Hid (Xb B m1 v1) := hv1 ▸ ⟨rfl, rfl, rfl, Nat.le_refl _, fun _ _ _ => rfl⟩
  have XV1 : Hid (v1.heap[B]? = some (.cells L1 42 (0, 0))) := by show _ = _; rw [hv1]; exact XB1.out
  clear hv1
  go_wp2_with fail
  obtain ⟨u1, hu1⟩ : ∃ u, u = v1.alloc (.cells #[.pointer (some ⟨B, 7, none⟩), .pointer (some ⟨B, 10, none⟩)] 103) := ⟨_, rfl⟩
  rw [← hu1]
  have Y1 : Hid (Xb B m1 u1) := X1.out.trans (Xb.ofGr (hu1 ▸ (Gr.refl v1).alloc _) B)
  obtain ⟨hB1, hS1, hO1, hX1, q1_3⟩ := S1.out
  have hb1 : u1.heap[B]? = some (.cells L1 42 (0, 0)) := by rw [hu1, (Gr.alloc (Gr.refl v1) _).heap (by have := X1.out.size; have := hX1.size; have := HN.out; omega)]; exact XV1.out
  have hp1 : u1.heap[v1.heap.size]? = some (.cells (ptrs B [7, 10]) 103 (0, 0)) := by rw [hu1]; exact heap_alloc_new v1 _
  have C1 : Calls Try.prog 55 #[.slice (some ⟨v1.heap.size, 0, none⟩) 2 2] u1 _ := renewP w0 u1 v1.heap.size B [7, 10] [x.upol, x.dpol] L1 _ _ HH.out.1 (HH.out.2.trans ((hX1.trans Y1.out).below HH.out.1 (by have := HH.out.2.size; have := HN.out; omega))) hp1 hb1 (by have := X1.out.size; have := hX1.size; have := HN.out; omega) (by decide) (by decide) (rows_cons (R7.out.cell hS1 (hO1 7 (by decide))) (rows_cons (R10.out.cell hS1 (hO1 10 (by decide))) rows_nil))
  refine C1.mono ?_
  rintro e m2 ⟨rfl, ⟨L2, g1, g2, g3, g4⟩, g5⟩
  have S2 : Hid (m2.heap[B]? = some (.cells L2 42 (0, 0)) ∧ L2.size = L0.size ∧ (∀ i, i ∉ ([3, 7, 10] : List Nat) → L2[i]? = L0[i]?) ∧ Xb B w m2 ∧ OwnC w.heap.size m2 62 3 encM L2 3 x.met ∧ OwnC w.heap.size m2 51 3 encP L2 7 x.upol ∧ OwnC w.heap.size m2 51 3 encP L2 10 x.dpol) := by
    have g3' : ∀ i, i ∉ ([7, 10] : List Nat) → L2[i]? = L1[i]? := g3
    have hz : w.heap.size ≤ u1.heap.size := Nat.le_trans hX1.size Y1.out.size
    have kp : ∀ g, w.heap.size ≤ g → g < m1.heap.size → m2.heap[g]? = m1.heap[g]? := fun g h1 h2 => (Y1.out.trans g5).block g h2 (by have := HN.out; omega)
    refine ⟨g1, g2.trans hS1, fun i hi => (g3' i (fun h => hi (List.mem_append_right [3] h))).trans (hO1 i (fun h => hi (List.mem_append_left [7, 10] h))), hX1.trans (Y1.out.trans g5), q1_3.keep kp (g3' 3 (by decide)), OwnC.less (g4 0 7 x.upol (by decide) rfl rfl) hz, OwnC.less (g4 1 10 x.dpol (by decide) rfl rfl) hz⟩
  clear C1 hp1 hb1 hu1 g1 g2 g3 g4 g5 hB1 hS1 hO1 hX1 q1_3 S1 X1 Y1 XB1
  have XB2 := Lib.hid S2.out.1
  have X2 : Hid (Xb B m2 m2) := Xb.refl _ _
  have XV2 : Hid (m2.heap[B]? = some (.cells L2 42 (0, 0))) := by show _ = _; exact XB2.out
  go_wp2_with fail
  obtain ⟨u2, hu2⟩ : ∃ u, u = m2.alloc (.cells #[.pointer (some ⟨B, 11, none⟩)] 105) := ⟨_, rfl⟩
  rw [← hu2]
  have Y2 : Hid (Xb B m2 u2) := X2.out.trans (Xb.ofGr (hu2 ▸ (Gr.refl m2).alloc _) B)
  obtain ⟨hB2, hS2, hO2, hX2, q2_3, q2_7, q2_10⟩ := S2.out
  have hb2 : u2.heap[B]? = some (.cells L2 42 (0, 0)) := by rw [hu2, (Gr.alloc (Gr.refl m2) _).heap (by have := X2.out.size; have := hX2.size; have := HN.out; omega)]; exact XV2.out
  have hp2 : u2.heap[m2.heap.size]? = some (.cells (ptrs B [11]) 105 (0, 0)) := by rw [hu2]; exact heap_alloc_new m2 _
  have C2 : Calls Try.prog 56 #[.slice (some ⟨m2.heap.size, 0, none⟩) 1 1] u2 _ := renewS w0 u2 m2.heap.size B [11] [x.past] L2 _ _ HH.out.1 (HH.out.2.trans ((hX2.trans Y2.out).below HH.out.1 (by have := HH.out.2.size; have := HN.out; omega))) hp2 hb2 (by have := X2.out.size; have := hX2.size; have := HN.out; omega) (by decide) (by decide) (rows_cons (R11.out.cell hS2 (hO2 11 (by decide))) rows_nil)
  refine C2.mono ?_
  rintro e m3 ⟨rfl, ⟨L3, g1, g2, g3, g4⟩, g5⟩
  have S3 : Hid (m3.heap[B]? = some (.cells L3 42 (0, 0)) ∧ L3.size = L0.size ∧ (∀ i, i ∉ ([3, 7, 10, 11] : List Nat) → L3[i]? = L0[i]?) ∧ Xb B w m3 ∧ OwnC w.heap.size m3 62 3 encM L3 3 x.met ∧ OwnC w.heap.size m3 51 3 encP L3 7 x.upol ∧ OwnC w.heap.size m3 51 3 encP L3 10 x.dpol ∧ OwnC w.heap.size m3 65 3 encS L3 11 x.past) := by
    have g3' : ∀ i, i ∉ ([11] : List Nat) → L3[i]? = L2[i]? := g3
    have hz : w.heap.size ≤ u2.heap.size := Nat.le_trans hX2.size Y2.out.size
    have kp : ∀ g, w.heap.size ≤ g → g < m2.heap.size → m3.heap[g]? = m2.heap[g]? := fun g h1 h2 => (Y2.out.trans g5).block g h2 (by have := HN.out; omega)
    refine ⟨g1, g2.trans hS2, fun i hi => (g3' i (fun h => hi (List.mem_append_right [3, 7, 10] h))).trans (hO2 i (fun h => hi (List.mem_append_left [11] h))), hX2.trans (Y2.out.trans g5), q2_3.keep kp (g3' 3 (by decide)), q2_7.keep kp (g3' 7 (by decide)), q2_10.keep kp (g3' 10 (by decide)), OwnC.less (g4 0 11 x.past (by decide) rfl rfl) hz⟩
  clear C2 hp2 hb2 hu2 g1 g2 g3 g4 g5 hB2 hS2 hO2 hX2 q2_3 q2_7 q2_10 S2 X2 Y2 XB2
  have XB3 := Lib.hid S3.out.1
  go_wp2
  go_end0
  obtain ⟨hB, hS, hO, hX, q0, q1, q2, q3⟩ := S3.out
  exact ⟨rfl, ⟨_, hB, hS, hO, q0, q1, q2, q3⟩, hX⟩
set_option maxHeartbeats 8000000 in
theorem fill_sh (w : World) (B N : Nat) (L : Array Value) (x : Hp) (hN : B < N) (hw : N ≤ w.heap.size) (hB : w.heap[B]? = some (.cells L 42 (0, 0))) (hu : L[6]? = some (.int .i64 x.up)) (hd : L[9]? = some (.int .i64 x.dp)) (o1 : OwnC N w 51 3 encP L 7 x.upol) (o2 : OwnC N w 51 3 encP L 10 x.dpol) (l1 : x.upol.length ≤ 1000) (l2 : x.dpol.length ≤ 1000) :
    Calls Try.prog 27 #[.pointer (some ⟨B, 0, none⟩)] w fun e w' => e = .returned (.tuple #[]) ∧ (∃ L' : Array Value, w'.heap[B]? = some (.cells L' 42 (0, 0)) ∧ L'.size = L.size ∧ (∀ i, i ∉ ([7, 10] : List Nat) → L'[i]? = L[i]?) ∧ OwnC N w' 51 3 encP L' 7 (wayR x.upol x.up [dblP, fourP]) ∧ OwnC N w' 51 3 encP L' 10 (wayR x.dpol x.dp [dblP])) ∧ Xb B w w' := by
  have mixed : Try.prog.follows .mixedOrders = true := by kernel_rfl
  obtain ⟨d, hdd⟩ : ∃ d, d = w.heap.size := ⟨_, rfl⟩
  obtain ⟨u, huu⟩ : ∃ u, u = w.alloc (.cells #[.bool true, .int .i64 1000, .int .i64 15] 51) := ⟨_, rfl⟩
  have gu : Gr w u := huu ▸ (Gr.refl w).alloc _
  have bu : u.heap[d]? = some (.cells #[.bool true, .int .i64 1000, .int .i64 15] 51 (0, 0)) := by rw [huu, hdd]; exact heap_alloc_new w _
  have hlt : B < w.heap.size := (Array.getElem?_eq_some_iff.1 hB).1
  have hdB : d ≠ B := by omega
  have f0 : u.cell? ⟨d, 0, none⟩ = some (.bool true) := by rw [cell_of_block bu]; rfl
  have f1 : u.cell? ⟨d, 1, none⟩ = some (.int .i64 1000) := by rw [cell_of_block bu]; rfl
  have f2 : u.cell? ⟨d, 2, none⟩ = some (.int .i64 15) := by rw [cell_of_block bu]; rfl
  have hBu : u.heap[B]? = some (.cells L 42 (0, 0)) := (gu.heap hlt).trans hB
  have ou1 : OwnC N u 51 3 encP L 7 x.upol := o1.keep (fun g h1 h2 => gu.heap h2) rfl
  have ou2 : OwnC N u 51 3 encP L 10 x.dpol := o2.keep (fun g h1 h2 => gu.heap h2) rfl
  have hNu : N ≤ u.heap.size := Nat.le_trans hw gu.size
  obtain ⟨U1, hU1⟩ : ∃ U, U = (u.alloc (.cells (flat encP [dblP, fourP]).toArray 51)).drew := ⟨_, rfl⟩
  obtain ⟨R1, hR1⟩ : ∃ R, R = (if x.upol.length = 0 ∧ x.up ≠ 2 then U1.setCell ⟨B, 5 + 2, none⟩ (.slice (some ⟨u.heap.size, 0, none⟩) [dblP, fourP].length [dblP, fourP].length) else U1) := ⟨_, rfl⟩
  obtain ⟨hUB1, hXU1, L1, hB1, hs1, ho1, hw1, hX1⟩ := way_step (p := 5) hBu hN hNu ou1 (by decide) U1 hU1 R1 hR1
  obtain ⟨v1, hv1, hown1⟩ := ou1
  obtain ⟨q1, c1, rfl, _, _⟩ := own_lies lenP hown1
  have C1 : Hid (Calls Try.prog 53 #[.pointer (some ⟨B, 5, none⟩), .slice (some ⟨u.heap.size, 0, none⟩) 2 2] U1 fun e w' => e = .returned (.tuple #[]) ∧ w' = R1) := by
    rw [hR1]
    exact way_any U1 B 5 L _ q1 _ _ c1 2 2 x.up hUB1 hu hv1 (by omega)
  have hNr : N ≤ R1.heap.size := Nat.le_trans hNu hX1.size
  have or2 : OwnC N R1 51 3 encP L1 10 x.dpol := ou2.keep (fun g h1 h2 => hX1.block g h2 (by omega)) (ho1 10 (by decide))
  obtain ⟨U2, hU2⟩ : ∃ U, U = (R1.alloc (.cells (flat encP [dblP]).toArray 51)).drew := ⟨_, rfl⟩
  obtain ⟨R2, hR2⟩ : ∃ R, R = (if x.dpol.length = 0 ∧ x.dp ≠ 2 then U2.setCell ⟨B, 8 + 2, none⟩ (.slice (some ⟨R1.heap.size, 0, none⟩) [dblP].length [dblP].length) else U2) := ⟨_, rfl⟩
  obtain ⟨hUB2, hXU2, L2, hB2, hs2, ho2, hw2, hX2⟩ := way_step (p := 8) hB1 hN hNr or2 (by decide) U2 hU2 R2 hR2
  obtain ⟨v2, hv2, hown2⟩ := or2
  obtain ⟨q2, c2, rfl, _, _⟩ := own_lies lenP hown2
  have C2 : Hid (Calls Try.prog 53 #[.pointer (some ⟨B, 8, none⟩), .slice (some ⟨R1.heap.size, 0, none⟩) 1 1] U2 fun e w' => e = .returned (.tuple #[]) ∧ w' = R2) := by
    rw [hR2]
    exact way_any U2 B 8 L1 _ q2 _ _ c2 1 1 x.dp hUB2 ((ho1 9 (by decide)).trans hd) hv2 (by omega)
  have SU1 : Hid (U1.cell? ⟨d, 0, none⟩ = some (.bool true) ∧ U1.cell? ⟨d, 1, none⟩ = some (.int .i64 1000) ∧ U1.cell? ⟨d, 2, none⟩ = some (.int .i64 15)) := ⟨hXU1.cell f0 hdB, hXU1.cell f1 hdB, hXU1.cell f2 hdB⟩
  have SR1 : Hid (R1.cell? ⟨d, 0, none⟩ = some (.bool true) ∧ R1.cell? ⟨d, 1, none⟩ = some (.int .i64 1000) ∧ R1.cell? ⟨d, 2, none⟩ = some (.int .i64 15)) := ⟨hX1.cell f0 hdB, hX1.cell f1 hdB, hX1.cell f2 hdB⟩
  have SU2 : Hid (U2.cell? ⟨d, 0, none⟩ = some (.bool true) ∧ U2.cell? ⟨d, 1, none⟩ = some (.int .i64 1000) ∧ U2.cell? ⟨d, 2, none⟩ = some (.int .i64 15)) := ⟨hXU2.cell SR1.out.1 hdB, hXU2.cell SR1.out.2.1 hdB, hXU2.cell SR1.out.2.2 hdB⟩
  have SR2 : Hid (R2.cell? ⟨d, 0, none⟩ = some (.bool true) ∧ R2.cell? ⟨d, 1, none⟩ = some (.int .i64 1000) ∧ R2.cell? ⟨d, 2, none⟩ = some (.int .i64 15)) := ⟨hX2.cell SR1.out.1 hdB, hX2.cell SR1.out.2.1 hdB, hX2.cell SR1.out.2.2 hdB⟩
  have FIN : Hid ((∃ L' : Array Value, R2.heap[B]? = some (.cells L' 42 (0, 0)) ∧ L'.size = L.size ∧ (∀ i, i ∉ ([7, 10] : List Nat) → L'[i]? = L[i]?) ∧ OwnC N R2 51 3 encP L' 7 (wayR x.upol x.up [dblP, fourP]) ∧ OwnC N R2 51 3 encP L' 10 (wayR x.dpol x.dp [dblP])) ∧ Xb B w R2) := by
    refine ⟨⟨L2, hB2, hs2.trans hs1, fun i hi => ?_, hw1.keep (fun g h1 h2 => hX2.block g h2 (by omega)) (ho2 7 (by decide)), hw2⟩, (Xb.ofGr gu B).trans (hX1.trans hX2)⟩
    simp only [List.mem_cons, List.not_mem_nil, or_false, not_or] at hi
    exact (ho2 i hi.2).trans (ho1 i hi.1)
  have HU := Lib.hid (And.intro huu hdd)
  have HU1 : Hid (U1 = (u.alloc (.cells #[.bool true, .int .i64 1000, .int .i64 15, .bool false, .int .i64 4, .int .i64 15] 51)).drew) := hU1
  have HU2 : Hid (U2 = (R1.alloc (.cells #[.bool true, .int .i64 1000, .int .i64 15] 51)).drew) := hU2
  clear hN hw hB hu hd o1 o2 l1 l2 hdd huu gu bu hlt hBu ou2 hNu hU1 hR1 hUB1 hXU1 hB1 hs1 ho1 hw1 hX1 hv1 hown1 hNr hU2 hR2 hUB2 hXU2 hB2 hs2 ho2 hw2 hX2 hv2 hown2
  go_enter Try.func27, Try.ntmps27
  go_upto_region 1 with fail
  rw [← HU.out.1, ← HU.out.2]
  go_region_held3 (fun W => W.cell? ⟨d, 0, none⟩ = some (.bool true) ∧ W.cell? ⟨d, 1, none⟩ = some (.int .i64 1000) ∧ W.cell? ⟨d, 2, none⟩ = some (.int .i64 15)) (first | (rw [← HU1.out]; exact SU1.out) | exact SR1.out | simp [*]) (first | (rw [← HU1.out]; refine C1.out.mono ?_; rintro e w' ⟨rfl, rfl⟩))
  clear f0 f1 f2
  obtain ⟨f0, f1, f2⟩ := SR1.out
  go_upto_region 2 with fail
  go_region_held3 (fun W => W.cell? ⟨d, 0, none⟩ = some (.bool true) ∧ W.cell? ⟨d, 1, none⟩ = some (.int .i64 1000) ∧ W.cell? ⟨d, 2, none⟩ = some (.int .i64 15)) (first | (rw [← HU2.out]; exact SU2.out) | exact SR2.out | simp [*]) (first | (rw [← HU2.out]; refine C2.out.mono ?_; rintro e w' ⟨rfl, rfl⟩))
  go_wp2
  go_end0
  exact ⟨rfl, FIN.out⟩
end Go.Proofs.Ytnfeimjidebboaa
