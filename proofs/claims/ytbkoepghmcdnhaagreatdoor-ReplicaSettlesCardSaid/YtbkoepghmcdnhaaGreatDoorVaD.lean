/- An object's rows put into new memory. -/
import Derived.Test.YtbkoepghmcdnhaaGreatDoorVaK
import Derived.Test.YtbkoepghmcdnhaaGreatDoorObNil
namespace Go.Proofs.YtbkoepghmcdnhaaGreatDoor
open Go.RowKit Go.Shelf Go.Lib Go.Sort
open Go.Joins (cell_of_block unfrozen_of_block block_setCell)
set_option linter.unusedVariables false
set_option linter.unusedSimpArgs false
set_option maxRecDepth 20000

/-- The row at a cell lies in memory from N on, all its own. -/
def OwnC {α : Type} (N : Nat) (w : World) (E : TypeId) (k : Nat) (enc : α → List Value) (D : Array Value) (i : Nat) (l : List α) : Prop := ∃ v, D[i]? = some v ∧ w.ownsRow N E k v l.length (flat enc l)
theorem OwnC.keep {α : Type} {N : Nat} {w w' : World} {E : TypeId} {k : Nat} {enc : α → List Value} {D D' : Array Value} {i : Nat} {l : List α} (h : OwnC N w E k enc D i l) (hw : ∀ g, N ≤ g → g < w.heap.size → w'.heap[g]? = w.heap[g]?) (hd : D'[i]? = D[i]?) : OwnC N w' E k enc D' i l := by
  obtain ⟨v, hv, ho⟩ := h
  exact ⟨v, hd.trans hv, own_stays ho hw⟩
theorem OwnC.less {α : Type} {M N : Nat} {w : World} {E : TypeId} {k : Nat} {enc : α → List Value} {D : Array Value} {i : Nat} {l : List α} (h : OwnC N w E k enc D i l) (hm : M ≤ N) : OwnC M w E k enc D i l := by
  obtain ⟨v, hv, ho⟩ := h
  exact ⟨v, hv, own_mono ho hm⟩
theorem OwnC.slr {α : Type} {N : Nat} {w : World} {E : TypeId} {k : Nat} {enc : α → List Value} (hk : ∀ x, (enc x).length = k) {D : Array Value} {i : Nat} {l : List α} (h : OwnC N w E k enc D i l) : SlR k enc w D[i]? l := by
  obtain ⟨v, hv, ho⟩ := h
  obtain ⟨q, c, rfl, hr, _⟩ := own_lies hk ho
  exact ⟨q, c, hv, hr⟩

def OwnAt (N : Nat) (w : World) (o : Ob) (D : Array Value) : Nat → Prop
  | 6 => OwnC N w 101 2 encL D 6 o.w.lab
  | 7 => OwnC N w 105 3 encR D 7 o.w.sel
  | 8 => OwnC N w 101 2 encL D 8 o.w.tol
  | 16 => OwnC N w 101 2 encL D 16 o.p.lab
  | 17 => OwnC N w 105 3 encR D 17 o.p.sel
  | 18 => OwnC N w 101 2 encL D 18 o.p.tol
  | 23 => OwnC N w 101 2 encL D 23 o.n.lab
  | 24 => OwnC N w 101 2 encL D 24 o.n.tnt
  | 32 => OwnC N w 101 2 encL D 32 o.g.lab
  | 33 => OwnC N w 101 2 encL D 33 o.g.tnt
  | 38 => OwnC N w 131 3 encM D 38 o.h.met
  | 42 => OwnC N w 135 3 encP D 42 o.h.upol
  | 45 => OwnC N w 135 3 encP D 45 o.h.dpol
  | 46 => OwnC N w 139 3 encS D 46 o.h.past
  | _ => True
theorem OwnAt.keep {N : Nat} {w w' : World} {o : Ob} {D D' : Array Value} {i : Nat} (h : OwnAt N w o D i) (hw : ∀ g, N ≤ g → g < w.heap.size → w'.heap[g]? = w.heap[g]?) (hd : D'[i]? = D[i]?) : OwnAt N w' o D' i := by
  unfold OwnAt at h ⊢
  split at h <;> first | exact h.keep hw hd | trivial
theorem OwnAt.less {M N : Nat} {w : World} {o : Ob} {D : Array Value} {i : Nat} (h : OwnAt N w o D i) (hm : M ≤ N) : OwnAt M w o D i := by
  unfold OwnAt at h ⊢
  split at h <;> first | exact h.less hm | trivial
/-- Part of the rows renewed. -/
def Dup (N B : Nat) (cs : Array Value) (o : Ob) (done : List Nat) (w : World) : Prop :=
  ∃ D : Array Value, w.heap[B]? = some (.cells D 51 (0, 0)) ∧ D.size = cs.size ∧ (∀ i, i ∉ done → D[i]? = cs[i]?) ∧ ∀ i ∈ done, OwnAt N w o D i
theorem Dup.step {N B : Nat} {cs : Array Value} {o : Ob} {done more : List Nat} {w w' : World} {D D' : Array Value} (hN : B < N)
    (hs : D.size = cs.size) (ho : ∀ i, i ∉ done → D[i]? = cs[i]?) (hi : ∀ i ∈ done, OwnAt N w o D i)
    (hb : w'.heap[B]? = some (.cells D' 51 (0, 0))) (hs' : D'.size = D.size) (ho' : ∀ i, i ∉ more → D'[i]? = D[i]?) (hi' : ∀ i ∈ more, OwnAt N w' o D' i) (hd : ∀ i ∈ done, i ∉ more) (hx : Xb B w w') : Dup N B cs o (done ++ more) w' := by
  refine ⟨D', hb, hs'.trans hs, fun i h => ?_, fun i h => ?_⟩
  · rw [List.mem_append, not_or] at h
    rw [ho' i h.2, ho i h.1]
  · rcases List.mem_append.1 h with h | h
    · exact (hi i h).keep (fun g h1 h2 => hx.block g h2 (by omega)) (ho' i (hd i h))
    · exact hi' i h

theorem rows_nil {α : Type} {P : Nat → α → Prop} : ∀ (j o : Nat), ([] : List Nat)[j]? = some o → ∃ l, ([] : List α)[j]? = some l ∧ P o l := by
  intro j o h
  simp at h
theorem rows_cons {α : Type} {P : Nat → α → Prop} {i : Nat} {l : α} {is : List Nat} {ls : List α} (h0 : P i l) (h : ∀ (j o : Nat), is[j]? = some o → ∃ l, ls[j]? = some l ∧ P o l) : ∀ (j o : Nat), (i :: is)[j]? = some o → ∃ x, (l :: ls)[j]? = some x ∧ P o x := by
  intro j o hj
  rcases j with _ | j
  · rw [List.getElem?_cons_zero] at hj ⊢
    cases hj
    exact ⟨l, rfl, h0⟩
  · rw [List.getElem?_cons_succ] at hj ⊢
    exact h j o hj
theorem RowAt.cell {α : Type} {k b : Nat} {enc : α → List Value} {w0 : World} {L L' : Array Value} {o : Nat} {l : List α} (h : RowAt k b enc w0 L o l) (hs : L'.size = L.size) (hc : L'[o]? = L[o]?) : RowAt k b enc w0 L' o l := by
  obtain ⟨h1, h2, h3⟩ := h
  exact ⟨by omega, by rw [hc]; exact h2, h3⟩

set_option maxHeartbeats 4000000 in
theorem hpa_ob (w0 w : World) (B : Nat) (L0 : Array Value) (x : Hp) (h0 : w0.heap.size ≤ B) (hw0 : Below w0.heap.size w0 w) (hB : w.heap[B]? = some (.cells L0 51 (0, 0))) (r38 : RowAt 3 32 encM w0 L0 38 x.met) (r42 : RowAt 3 24 encP w0 L0 42 x.upol) (r45 : RowAt 3 24 encP w0 L0 45 x.dpol) (r46 : RowAt 3 24 encS w0 L0 46 x.past) :
    Calls Tryz.prog 37 #[.pointer (some ⟨B, 35, none⟩)] w fun e w' => e = .returned (.tuple #[]) ∧ (∃ L' : Array Value, w'.heap[B]? = some (.cells L' 51 (0, 0)) ∧ L'.size = L0.size ∧ (∀ i, i ∉ ([38, 42, 45, 46] : List Nat) → L'[i]? = L0[i]?) ∧ OwnC w.heap.size w' 131 3 encM L' 38 x.met ∧ OwnC w.heap.size w' 135 3 encP L' 42 x.upol ∧ OwnC w.heap.size w' 135 3 encP L' 45 x.dpol ∧ OwnC w.heap.size w' 139 3 encS L' 46 x.past) ∧ Xb B w w' := by
  have mixed : Tryz.prog.follows .mixedOrders = true := by kernel_rfl
  have HN : Hid (B < w.heap.size) := (Array.getElem?_eq_some_iff.1 hB).1
  have HH := Lib.hid (And.intro h0 hw0)
  have R38 := Lib.hid r38
  have R42 := Lib.hid r42
  have R45 := Lib.hid r45
  have R46 := Lib.hid r46
  have S0 : Hid (w.heap[B]? = some (.cells L0 51 (0, 0)) ∧ L0.size = L0.size ∧ (∀ i, i ∉ ([] : List Nat) → L0[i]? = L0[i]?) ∧ Xb B w w) := ⟨hB, rfl, fun _ _ => rfl, Xb.refl _ _⟩
  have XB0 := Lib.hid hB
  clear h0 hw0 hB r38 r42 r45 r46
  go_enter Tryz.func37, Tryz.ntmps37
  have X0 : Hid (Xb B w w) := Xb.refl _ _
  have XV0 : Hid (w.heap[B]? = some (.cells L0 51 (0, 0))) := by show _ = _; exact XB0.out
  go_wp2_with fail
  obtain ⟨u0, hu0⟩ : ∃ u, u = w.alloc (.cells #[.pointer (some ⟨B, 38, none⟩)] 132) := ⟨_, rfl⟩
  rw [← hu0]
  have Y0 : Hid (Xb B w u0) := X0.out.trans (Xb.ofGr (hu0 ▸ (Gr.refl w).alloc _) B)
  obtain ⟨hB0, hS0, hO0, hX0⟩ := S0.out
  have hb0 : u0.heap[B]? = some (.cells L0 51 (0, 0)) := by rw [hu0, (Gr.alloc (Gr.refl w) _).heap (by have := X0.out.size; have := hX0.size; have := HN.out; omega)]; exact XV0.out
  have hp0 : u0.heap[w.heap.size]? = some (.cells (ptrs B [38]) 132 (0, 0)) := by rw [hu0]; exact heap_alloc_new w _
  have C0 : Calls Tryz.prog 54 #[.slice (some ⟨w.heap.size, 0, none⟩) 1 1] u0 _ := renewM w0 u0 w.heap.size B [38] [x.met] L0 _ _ HH.out.1 (HH.out.2.trans ((hX0.trans Y0.out).below HH.out.1 (by have := HH.out.2.size; have := HN.out; omega))) hp0 hb0 (by have := X0.out.size; have := hX0.size; have := HN.out; omega) (by decide) (by decide) (rows_cons R38.out rows_nil)
  refine C0.mono ?_
  rintro e m1 ⟨rfl, ⟨L1, g1, g2, g3, g4⟩, g5⟩
  have S1 : Hid (m1.heap[B]? = some (.cells L1 51 (0, 0)) ∧ L1.size = L0.size ∧ (∀ i, i ∉ ([38] : List Nat) → L1[i]? = L0[i]?) ∧ Xb B w m1 ∧ OwnC w.heap.size m1 131 3 encM L1 38 x.met) := by
    have g3' : ∀ i, i ∉ ([38] : List Nat) → L1[i]? = L0[i]? := g3
    have hz : w.heap.size ≤ u0.heap.size := Nat.le_trans hX0.size Y0.out.size
    have kp : ∀ g, w.heap.size ≤ g → g < w.heap.size → m1.heap[g]? = w.heap[g]? := fun g h1 h2 => (Y0.out.trans g5).block g h2 (by have := HN.out; omega)
    refine ⟨g1, g2, fun i hi => g3' i hi, hX0.trans (Y0.out.trans g5), OwnC.less (g4 0 38 x.met (by decide) rfl rfl) hz⟩
  clear C0 hp0 hb0 hu0 g1 g2 g3 g4 g5 hB0 hS0 hO0 hX0 S0 X0 Y0 XB0
  have XB1 := Lib.hid S1.out.1
  go_upto_region 1 with fail
  go_still_tail 8, (by kernel_rfl)
  change wpList _ _ _ _ _ (World.drew m1)
  obtain ⟨v1, hv1⟩ : ∃ v, v = World.drew m1 := ⟨_, rfl⟩
  rw [← hv1]
  have X1 : Hid (Xb B m1 v1) := hv1 ▸ ⟨rfl, rfl, rfl, Nat.le_refl _, fun _ _ _ => rfl⟩
  have XV1 : Hid (v1.heap[B]? = some (.cells L1 51 (0, 0))) := by show _ = _; rw [hv1]; exact XB1.out
  clear hv1
  go_wp2_with fail
  obtain ⟨u1, hu1⟩ : ∃ u, u = v1.alloc (.cells #[.pointer (some ⟨B, 42, none⟩), .pointer (some ⟨B, 45, none⟩)] 136) := ⟨_, rfl⟩
  rw [← hu1]
  have Y1 : Hid (Xb B m1 u1) := X1.out.trans (Xb.ofGr (hu1 ▸ (Gr.refl v1).alloc _) B)
  obtain ⟨hB1, hS1, hO1, hX1, q1_38⟩ := S1.out
  have hb1 : u1.heap[B]? = some (.cells L1 51 (0, 0)) := by rw [hu1, (Gr.alloc (Gr.refl v1) _).heap (by have := X1.out.size; have := hX1.size; have := HN.out; omega)]; exact XV1.out
  have hp1 : u1.heap[v1.heap.size]? = some (.cells (ptrs B [42, 45]) 136 (0, 0)) := by rw [hu1]; exact heap_alloc_new v1 _
  have C1 : Calls Tryz.prog 55 #[.slice (some ⟨v1.heap.size, 0, none⟩) 2 2] u1 _ := renewP w0 u1 v1.heap.size B [42, 45] [x.upol, x.dpol] L1 _ _ HH.out.1 (HH.out.2.trans ((hX1.trans Y1.out).below HH.out.1 (by have := HH.out.2.size; have := HN.out; omega))) hp1 hb1 (by have := X1.out.size; have := hX1.size; have := HN.out; omega) (by decide) (by decide) (rows_cons (R42.out.cell hS1 (hO1 42 (by decide))) (rows_cons (R45.out.cell hS1 (hO1 45 (by decide))) rows_nil))
  refine C1.mono ?_
  rintro e m2 ⟨rfl, ⟨L2, g1, g2, g3, g4⟩, g5⟩
  have S2 : Hid (m2.heap[B]? = some (.cells L2 51 (0, 0)) ∧ L2.size = L0.size ∧ (∀ i, i ∉ ([38, 42, 45] : List Nat) → L2[i]? = L0[i]?) ∧ Xb B w m2 ∧ OwnC w.heap.size m2 131 3 encM L2 38 x.met ∧ OwnC w.heap.size m2 135 3 encP L2 42 x.upol ∧ OwnC w.heap.size m2 135 3 encP L2 45 x.dpol) := by
    have g3' : ∀ i, i ∉ ([42, 45] : List Nat) → L2[i]? = L1[i]? := g3
    have hz : w.heap.size ≤ u1.heap.size := Nat.le_trans hX1.size Y1.out.size
    have kp : ∀ g, w.heap.size ≤ g → g < m1.heap.size → m2.heap[g]? = m1.heap[g]? := fun g h1 h2 => (Y1.out.trans g5).block g h2 (by have := HN.out; omega)
    refine ⟨g1, g2.trans hS1, fun i hi => (g3' i (fun h => hi (List.mem_append_right [38] h))).trans (hO1 i (fun h => hi (List.mem_append_left [42, 45] h))), hX1.trans (Y1.out.trans g5), q1_38.keep kp (g3' 38 (by decide)), OwnC.less (g4 0 42 x.upol (by decide) rfl rfl) hz, OwnC.less (g4 1 45 x.dpol (by decide) rfl rfl) hz⟩
  clear C1 hp1 hb1 hu1 g1 g2 g3 g4 g5 hB1 hS1 hO1 hX1 q1_38 S1 X1 Y1 XB1
  have XB2 := Lib.hid S2.out.1
  have X2 : Hid (Xb B m2 m2) := Xb.refl _ _
  have XV2 : Hid (m2.heap[B]? = some (.cells L2 51 (0, 0))) := by show _ = _; exact XB2.out
  go_wp2_with fail
  obtain ⟨u2, hu2⟩ : ∃ u, u = m2.alloc (.cells #[.pointer (some ⟨B, 46, none⟩)] 140) := ⟨_, rfl⟩
  rw [← hu2]
  have Y2 : Hid (Xb B m2 u2) := X2.out.trans (Xb.ofGr (hu2 ▸ (Gr.refl m2).alloc _) B)
  obtain ⟨hB2, hS2, hO2, hX2, q2_38, q2_42, q2_45⟩ := S2.out
  have hb2 : u2.heap[B]? = some (.cells L2 51 (0, 0)) := by rw [hu2, (Gr.alloc (Gr.refl m2) _).heap (by have := X2.out.size; have := hX2.size; have := HN.out; omega)]; exact XV2.out
  have hp2 : u2.heap[m2.heap.size]? = some (.cells (ptrs B [46]) 140 (0, 0)) := by rw [hu2]; exact heap_alloc_new m2 _
  have C2 : Calls Tryz.prog 56 #[.slice (some ⟨m2.heap.size, 0, none⟩) 1 1] u2 _ := renewS w0 u2 m2.heap.size B [46] [x.past] L2 _ _ HH.out.1 (HH.out.2.trans ((hX2.trans Y2.out).below HH.out.1 (by have := HH.out.2.size; have := HN.out; omega))) hp2 hb2 (by have := X2.out.size; have := hX2.size; have := HN.out; omega) (by decide) (by decide) (rows_cons (R46.out.cell hS2 (hO2 46 (by decide))) rows_nil)
  refine C2.mono ?_
  rintro e m3 ⟨rfl, ⟨L3, g1, g2, g3, g4⟩, g5⟩
  have S3 : Hid (m3.heap[B]? = some (.cells L3 51 (0, 0)) ∧ L3.size = L0.size ∧ (∀ i, i ∉ ([38, 42, 45, 46] : List Nat) → L3[i]? = L0[i]?) ∧ Xb B w m3 ∧ OwnC w.heap.size m3 131 3 encM L3 38 x.met ∧ OwnC w.heap.size m3 135 3 encP L3 42 x.upol ∧ OwnC w.heap.size m3 135 3 encP L3 45 x.dpol ∧ OwnC w.heap.size m3 139 3 encS L3 46 x.past) := by
    have g3' : ∀ i, i ∉ ([46] : List Nat) → L3[i]? = L2[i]? := g3
    have hz : w.heap.size ≤ u2.heap.size := Nat.le_trans hX2.size Y2.out.size
    have kp : ∀ g, w.heap.size ≤ g → g < m2.heap.size → m3.heap[g]? = m2.heap[g]? := fun g h1 h2 => (Y2.out.trans g5).block g h2 (by have := HN.out; omega)
    refine ⟨g1, g2.trans hS2, fun i hi => (g3' i (fun h => hi (List.mem_append_right [38, 42, 45] h))).trans (hO2 i (fun h => hi (List.mem_append_left [46] h))), hX2.trans (Y2.out.trans g5), q2_38.keep kp (g3' 38 (by decide)), q2_42.keep kp (g3' 42 (by decide)), q2_45.keep kp (g3' 45 (by decide)), OwnC.less (g4 0 46 x.past (by decide) rfl rfl) hz⟩
  clear C2 hp2 hb2 hu2 g1 g2 g3 g4 g5 hB2 hS2 hO2 hX2 q2_38 q2_42 q2_45 S2 X2 Y2 XB2
  have XB3 := Lib.hid S3.out.1
  go_wp2
  go_end0
  obtain ⟨hB, hS, hO, hX, q0, q1, q2, q3⟩ := S3.out
  exact ⟨rfl, ⟨_, hB, hS, hO, q0, q1, q2, q3⟩, hX⟩
end Go.Proofs.YtbkoepghmcdnhaaGreatDoor
