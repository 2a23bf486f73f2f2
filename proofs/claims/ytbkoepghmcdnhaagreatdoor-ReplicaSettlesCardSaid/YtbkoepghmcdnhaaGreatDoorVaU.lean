/- An object with defaults: Default. -/
import Derived.Test.YtbkoepghmcdnhaaGreatDoorVaO
namespace Go.Proofs.YtbkoepghmcdnhaaGreatDoor
open Go.RowKit Go.Shelf Go.Lib Go.Sort Go.Deep
open Go.Joins (cell_of_block unfrozen_of_block block_setCell)
set_option linter.unusedVariables false
set_option linter.unusedSimpArgs false
set_option maxRecDepth 20000

def setT (o : Ob) (t : Int) : Ob := { o with g := { o.g with tg := t } }
def setH (o : Ob) (up dn : List Pol) : Ob := { o with h := { o.h with upol := up, dpol := dn } }
/-- A target within its bounds. -/
def inB (t mn mx : Int) : Int := if mx < (if t < mn then mn else t) then mx else if t < mn then mn else t
/-- The object with defaults. -/
def dfl (o : Ob) : Ob := if o.kind = 3 then setT o (inB o.g.tg o.g.mn o.g.mx) else if o.kind = 4 then setH o (wayR o.h.upol o.h.up [dblP, fourP]) (wayR o.h.dpol o.h.dp [dblP]) else o
theorem OwnC.nil {α : Type} {N : Nat} {w : World} {E : TypeId} {k : Nat} {enc : α → List Value} (hk : ∀ x, (enc x).length = k) {D : Array Value} {i : Nat} {l : List α} (h : OwnC N w E k enc D i l) : ∀ n c, D[i]? = some (.slice none n c) → c = 0 := by
  intro n c hc
  obtain ⟨v, hv, ho⟩ := h
  obtain ⟨q, c', rfl, hr, hq, _⟩ := own_lies hk ho
  rw [hv] at hc
  cases hc
  exact hq rfl
theorem nil_own {N : Nat} {w : World} {o : Ob} {D : Array Value} (h : ∀ i ∈ rowsIx, OwnAt N w o D i) : NilO D := by
  intro i n c hi hc
  have h := h i hi
  simp only [rowsIx, List.mem_cons, List.not_mem_nil, or_false] at hi
  rcases hi with rfl | rfl | rfl | rfl | rfl | rfl | rfl | rfl | rfl | rfl | rfl | rfl | rfl | rfl
  · exact OwnC.nil lenL h n c hc
  · exact OwnC.nil lenR h n c hc
  · exact OwnC.nil lenL h n c hc
  · exact OwnC.nil lenL h n c hc
  · exact OwnC.nil lenR h n c hc
  · exact OwnC.nil lenL h n c hc
  · exact OwnC.nil lenL h n c hc
  · exact OwnC.nil lenL h n c hc
  · exact OwnC.nil lenL h n c hc
  · exact OwnC.nil lenL h n c hc
  · exact OwnC.nil lenM h n c hc
  · exact OwnC.nil lenP h n c hc
  · exact OwnC.nil lenP h n c hc
  · exact OwnC.nil lenS h n c hc
theorem dup_obj_h {N : Nat} {w0 w : World} {L D : Array Value} {o : Ob} {up dn : List Pol} (hv : ObjV w0 L o) (hs : D.size = L.size) (ho : ∀ i, i ∉ rowsIx → D[i]? = L[i]?) (hi : ∀ i ∈ rowsIx, OwnAt N w (setH o up dn) D i) : ObjV w D (setH o up dn) := by
  obtain ⟨hsz, ⟨c0, c1, c2, hver⟩, hW, hP, hN, hG, hH⟩ := hv
  obtain ⟨c3, c4, c5, c6, c7, c8, c9⟩ := hW
  obtain ⟨c10, c11, c12, c13, c14, c15, c16, c17, c18, c19⟩ := hP
  obtain ⟨c20, c21, c22, c23, c24, c25, c26⟩ := hN
  obtain ⟨c27, c28, c29, c30, c31, c32, c33, c34⟩ := hG
  obtain ⟨c35, c36, c37, c38, c39, c40, c41, c42, c43, c44, c45, c46⟩ := hH
  have r6 : SlR 2 encL w D[6]? o.w.lab := OwnC.slr lenL (hi 6 (by decide))
  have r7 : SlR 3 encR w D[7]? o.w.sel := OwnC.slr lenR (hi 7 (by decide))
  have r8 : SlR 2 encL w D[8]? o.w.tol := OwnC.slr lenL (hi 8 (by decide))
  have r16 : SlR 2 encL w D[16]? o.p.lab := OwnC.slr lenL (hi 16 (by decide))
  have r17 : SlR 3 encR w D[17]? o.p.sel := OwnC.slr lenR (hi 17 (by decide))
  have r18 : SlR 2 encL w D[18]? o.p.tol := OwnC.slr lenL (hi 18 (by decide))
  have r23 : SlR 2 encL w D[23]? o.n.lab := OwnC.slr lenL (hi 23 (by decide))
  have r24 : SlR 2 encL w D[24]? o.n.tnt := OwnC.slr lenL (hi 24 (by decide))
  have r32 : SlR 2 encL w D[32]? o.g.lab := OwnC.slr lenL (hi 32 (by decide))
  have r33 : SlR 2 encL w D[33]? o.g.tnt := OwnC.slr lenL (hi 33 (by decide))
  have r38 : SlR 3 encM w D[38]? o.h.met := OwnC.slr lenM (hi 38 (by decide))
  have r42 : SlR 3 encP w D[42]? up := OwnC.slr lenP (hi 42 (by decide))
  have r45 : SlR 3 encP w D[45]? dn := OwnC.slr lenP (hi 45 (by decide))
  have r46 : SlR 3 encS w D[46]? o.h.past := OwnC.slr lenS (hi 46 (by decide))
  exact ⟨hs.trans hsz, ⟨(ho 0 (by decide)).trans c0, (ho 1 (by decide)).trans c1, (ho 2 (by decide)).trans c2, hver⟩, ⟨(ho 3 (by decide)).trans c3, (ho 4 (by decide)).trans c4, (ho 5 (by decide)).trans c5, r6, r7, r8, (ho 9 (by decide)).trans c9⟩, ⟨(ho 10 (by decide)).trans c10, (ho 11 (by decide)).trans c11, (ho 12 (by decide)).trans c12, (ho 13 (by decide)).trans c13, (ho 14 (by decide)).trans c14, (ho 15 (by decide)).trans c15, r16, r17, r18, (ho 19 (by decide)).trans c19⟩, ⟨(ho 20 (by decide)).trans c20, (ho 21 (by decide)).trans c21, (ho 22 (by decide)).trans c22, r23, r24, (ho 25 (by decide)).trans c25, (ho 26 (by decide)).trans c26⟩, ⟨(ho 27 (by decide)).trans c27, (ho 28 (by decide)).trans c28, (ho 29 (by decide)).trans c29, (ho 30 (by decide)).trans c30, (ho 31 (by decide)).trans c31, r32, r33, (ho 34 (by decide)).trans c34⟩, ⟨(ho 35 (by decide)).trans c35, (ho 36 (by decide)).trans c36, (ho 37 (by decide)).trans c37, r38, (ho 39 (by decide)).trans c39, (ho 40 (by decide)).trans c40, (ho 41 (by decide)).trans c41, r42, (ho 43 (by decide)).trans c43, (ho 44 (by decide)).trans c44, r45, r46⟩⟩
theorem set_obj_t {w : World} {L : Array Value} {o : Ob} {t : Int} (hv : ObjV w L o) : ObjV w (L.setIfInBounds 29 (.int .i64 t)) (setT o t) := by
  obtain ⟨hsz, ⟨c0, c1, c2, hver⟩, hW, hP, hN, hG, hH⟩ := hv
  obtain ⟨c3, c4, c5, c6, c7, c8, c9⟩ := hW
  obtain ⟨c10, c11, c12, c13, c14, c15, c16, c17, c18, c19⟩ := hP
  obtain ⟨c20, c21, c22, c23, c24, c25, c26⟩ := hN
  obtain ⟨c27, c28, c29, c30, c31, c32, c33, c34⟩ := hG
  obtain ⟨c35, c36, c37, c38, c39, c40, c41, c42, c43, c44, c45, c46⟩ := hH
  have ne : ∀ i, 29 ≠ i → (L.setIfInBounds 29 (.int .i64 t))[i]? = L[i]? := fun i h => Array.getElem?_setIfInBounds_ne h
  have e29 : (L.setIfInBounds 29 (.int .i64 t))[29]? = some (.int .i64 t) := Array.getElem?_setIfInBounds_self_of_lt (by omega)
  exact ⟨by simp [hsz], ⟨(by rw [ne 0 (by decide)]; exact c0), (by rw [ne 1 (by decide)]; exact c1), (by rw [ne 2 (by decide)]; exact c2), hver⟩, ⟨(by rw [ne 3 (by decide)]; exact c3), (by rw [ne 4 (by decide)]; exact c4), (by rw [ne 5 (by decide)]; exact c5), (by rw [ne 6 (by decide)]; exact c6), (by rw [ne 7 (by decide)]; exact c7), (by rw [ne 8 (by decide)]; exact c8), (by rw [ne 9 (by decide)]; exact c9)⟩, ⟨(by rw [ne 10 (by decide)]; exact c10), (by rw [ne 11 (by decide)]; exact c11), (by rw [ne 12 (by decide)]; exact c12), (by rw [ne 13 (by decide)]; exact c13), (by rw [ne 14 (by decide)]; exact c14), (by rw [ne 15 (by decide)]; exact c15), (by rw [ne 16 (by decide)]; exact c16), (by rw [ne 17 (by decide)]; exact c17), (by rw [ne 18 (by decide)]; exact c18), (by rw [ne 19 (by decide)]; exact c19)⟩, ⟨(by rw [ne 20 (by decide)]; exact c20), (by rw [ne 21 (by decide)]; exact c21), (by rw [ne 22 (by decide)]; exact c22), (by rw [ne 23 (by decide)]; exact c23), (by rw [ne 24 (by decide)]; exact c24), (by rw [ne 25 (by decide)]; exact c25), (by rw [ne 26 (by decide)]; exact c26)⟩, ⟨(by rw [ne 27 (by decide)]; exact c27), (by rw [ne 28 (by decide)]; exact c28), e29, (by rw [ne 30 (by decide)]; exact c30), (by rw [ne 31 (by decide)]; exact c31), (by rw [ne 32 (by decide)]; exact c32), (by rw [ne 33 (by decide)]; exact c33), (by rw [ne 34 (by decide)]; exact c34)⟩, ⟨(by rw [ne 35 (by decide)]; exact c35), (by rw [ne 36 (by decide)]; exact c36), (by rw [ne 37 (by decide)]; exact c37), (by rw [ne 38 (by decide)]; exact c38), (by rw [ne 39 (by decide)]; exact c39), (by rw [ne 40 (by decide)]; exact c40), (by rw [ne 41 (by decide)]; exact c41), (by rw [ne 42 (by decide)]; exact c42), (by rw [ne 43 (by decide)]; exact c43), (by rw [ne 44 (by decide)]; exact c44), (by rw [ne 45 (by decide)]; exact c45), (by rw [ne 46 (by decide)]; exact c46)⟩⟩

/-- What a walk of Default ends with: the array handed back. -/
theorem dfl_end {w0 w n : World} {B : Nat} {D : Array Value} {o' : Ob} (hB : B = w0.heap.size) (hws : w.heap.size = B + 2) (hx : Below w0.heap.size w0 n) (hb1 : n.heap[B + 1]? = some (.cells zerC 51 (0, 0))) (hb : n.heap[B]? = some (.cells D 51 (0, 0))) (ov : ObjV n D o') (on : NilO D) (hfar : ∀ i ∈ rowsIx, OwnAt (B + 2) n o' D i) :
    Hid ((Instr.loadAt 51 (.pointer (some ⟨B, 0, none⟩))).run Tryz.prog n = .ok (.agg D) n) ∧ Hid (n.there (B + 1) 0 D.size) ∧ Hid ((Tryz.prog.info? 51).map (·.size) = some D.size) ∧ Hid (D.all (·.oneCell') = true) ∧
    Hid ((n.setCells (B + 1) 0 D.toList).heap[B + 1]? = some (.cells D 51 (0, 0))) ∧ Hid ((∃ E, Ending.returned (.agg D) = .returned (.agg E) ∧ ObjV (n.setCells (B + 1) 0 D.toList) E o' ∧ NilO E ∧ ∀ i ∈ rowsIx, OwnAt w0.heap.size (n.setCells (B + 1) 0 D.toList) o' E i) ∧ Below w0.heap.size w0 (n.setCells (B + 1) 0 D.toList)) := by
  have hsz : D.size = 47 := ov.1
  refine ⟨load_ob hb hsz, ?_, by show _ = _; rw [hsz]; exact info_ob47, objV_one ov, ?_, ⟨D, rfl, dup_obj (N := B + 2) ov rfl (fun _ _ => rfl) (fun i hi => (hfar i hi).keep (fun g h1 h2 => setCells_out _ _ _ _ _ (by omega)) rfl), on, fun i hi => OwnAt.less ((hfar i hi).keep (fun g h1 h2 => setCells_out _ _ _ _ _ (by omega)) rfl) (by omega)⟩, ?_⟩
  · intro j hj
    rw [Nat.zero_add, cell_of_block hb1, unfrozen_of_block hb1]
    refine ⟨?_, rfl⟩
    have hz : (zerC : Array Value).size = 47 := rfl
    rw [Array.getElem?_eq_getElem (by omega)]
    rfl
  · show _ = _
    rw [setCells_block _ _ _ _ _ _ _ hb1, setAt_full (by rw [hsz]; rfl)]
  · obtain ⟨r1, r2, r3⟩ := setCells_rest D.toList n (B + 1) 0
    exact ⟨r1.trans hx.os, r2.trans hx.tape, r3.trans hx.output, by rw [setCells_size]; exact hx.size, fun k hk => by rw [setCells_out _ _ _ _ _ (by omega)]; exact hx.block k hk⟩

set_option maxHeartbeats 8000000 in
theorem default_own (w0 : World) (L0 : Array Value) (o : Ob) (hv : ObjV w0 L0 o) (hn : NilO L0) (hs : SmallO o) :
    Calls Tryz.prog 41 #[.agg L0] w0 fun e w' => (∃ D, e = .returned (.agg D) ∧ ObjV w' D (dfl o) ∧ NilO D ∧ ∀ i ∈ rowsIx, OwnAt w0.heap.size w' (dfl o) D i) ∧ Below w0.heap.size w0 w' := by
  have mixed : Tryz.prog.follows .mixedOrders = true := by kernel_rfl
  obtain ⟨B, hB⟩ : ∃ B, B = w0.heap.size := ⟨_, rfl⟩
  obtain ⟨w, hw⟩ : ∃ W, W = (w0.alloc (.cells L0 51)).alloc (.cells zerC 51) := ⟨_, rfl⟩
  have G0 : Gr w0 w := hw ▸ ((Gr.refl w0).alloc _).alloc _
  have b0 : w.heap[B]? = some (.cells L0 51 (0, 0)) := by
    rw [hw, hB, ((Gr.refl (w0.alloc (.cells L0 51))).alloc _).heap (by simp)]
    exact heap_alloc_new w0 _
  have b1 : w.heap[B + 1]? = some (.cells zerC 51 (0, 0)) := by
    rw [hw, hB]
    have := heap_alloc_new (w0.alloc (.cells L0 51)) (.cells zerC 51)
    simpa using this
  have hws : w.heap.size = B + 2 := by rw [hw, hB]; simp
  have LO := Lib.hid (load_ob b0 hv.1)
  have CC := Lib.hid (clone_any w L0 o (hv.below G0.below) hn hs)
  have HW := Lib.hid (And.intro hw (And.intro hB (And.intro hws (And.intro b1 (And.intro b0 G0)))))
  have HV := Lib.hid (hv.below G0.below)
  have HS := Lib.hid hs
  clear hv hn hs hw hB hws b0 b1 G0
  go_enter Tryz.func41, Tryz.ntmps41
  go_upto_region 1 with fail
  rw [← HW.out.1, ← HW.out.2.1]
  go_wp2_with (refine wpList_load_by (by kernel_rfl) 51 _ rfl (.pointer (some ⟨B, 0, none⟩)) (.agg L0) (by kernel_rfl) LO.out ?_)
  refine CC.out.mono ?_
  rintro e m ⟨⟨D, rfl, hcs, hco, hci⟩, hb⟩
  have hws := HW.out.2.2.1
  have bm0 : m.heap[B]? = some (.cells L0 51 (0, 0)) := (hb.block B (by omega)).trans HW.out.2.2.2.2.1
  have bm1 : m.heap[B + 1]? = some (.cells zerC 51 (0, 0)) := (hb.block (B + 1) (by omega)).trans HW.out.2.2.2.1
  have hsz : D.size = 47 := hcs.trans HV.out.1
  have TH : Hid (m.there B 0 D.size) := by
    intro j hj
    rw [Nat.zero_add, cell_of_block bm0, unfrozen_of_block bm0]
    refine ⟨?_, rfl⟩
    rw [Array.getElem?_eq_getElem (by omega)]
    rfl
  have IN : Hid ((Tryz.prog.info? 51).map (·.size) = some D.size) := by show _ = _; rw [hsz]; exact info_ob47
  have ON := Lib.hid (objV_one (dup_obj HV.out hcs hco hci))
  obtain ⟨n, hn⟩ : ∃ n, n = m.setCells B 0 D.toList := ⟨_, rfl⟩
  have nB : n.heap[B]? = some (.cells D 51 (0, 0)) := by rw [hn, setCells_block _ _ _ _ _ _ _ bm0, setAt_full (by omega)]
  have nB1 : n.heap[B + 1]? = some (.cells zerC 51 (0, 0)) := by rw [hn, setCells_out _ _ _ _ _ (by omega)]; exact bm1
  have nI : ∀ i ∈ rowsIx, OwnAt (B + 2) n o D i := fun i hi => by
    have := (hci i hi).keep (w' := n) (D' := D) (fun g h1 h2 => by rw [hn]; exact setCells_out _ _ _ _ _ (by omega)) rfl
    rwa [hws] at this
  have nX : Xb B w n := by
    have x := Xb.ofBelow hb B
    obtain ⟨r1, r2, r3⟩ := setCells_rest D.toList m B 0
    rw [hn]
    exact ⟨r1.trans x.os, r2.trans x.tape, r3.trans x.output, by rw [setCells_size]; exact x.size, fun k hk hne => by rw [setCells_out _ _ _ _ _ hne]; exact x.block k hk hne⟩
  have nW : Below w0.heap.size w0 n := by
    have g := HW.out.2.2.2.2.2
    have e := HW.out.2.1
    exact (Xb.ofGr g B |>.trans nX).below (by omega) (Nat.le_refl _)
  have nV : ObjV n D o := dup_obj HV.out hcs hco nI
  have HN := Lib.hid hn
  have k0 : n.cell? ⟨B, 0, none⟩ = some (.int .i64 o.kind) := by rw [cell_of_block nB]; exact nV.2.1.1
  have t0 : n.cell? ⟨B, 29, none⟩ = some (.int .i64 o.g.tg) := by rw [cell_of_block nB]; exact nV.2.2.2.2.2.1.2.2.1
  have t1 : n.cell? ⟨B, 27, none⟩ = some (.int .i64 o.g.mn) := by rw [cell_of_block nB]; exact nV.2.2.2.2.2.1.1
  have t2 : n.cell? ⟨B, 28, none⟩ = some (.int .i64 o.g.mx) := by rw [cell_of_block nB]; exact nV.2.2.2.2.2.1.2.1
  have u29 := unfrozen_of_block nB 29
  have hp : o.h.upol.length ≤ 1000 ∧ o.h.dpol.length ≤ 1000 := by have := HS.out; unfold SmallO at this; omega
  have ku : D[41]? = some (.int .i64 o.h.up) := nV.2.2.2.2.2.2.2.2.2.2.2.2.1
  have kd : D[44]? = some (.int .i64 o.h.dp) := nV.2.2.2.2.2.2.2.2.2.2.2.2.2.2.2.1
  have NB := Lib.hid (And.intro nB (And.intro nB1 (And.intro nI (And.intro nX (And.intro nW (And.intro nV (And.intro hws (And.intro hp (And.intro ku (And.intro kd (And.intro HW.out.2.1 HV.out.1)))))))))))
  clear hcs hco hci hb bm0 bm1 nB nB1 nI nX nW nV hn hp ku kd
  go_upto_region 2 with (refine wpList_store_mid rfl _ _ _ rfl B 0 D (by rfl) (by rfl) TH.out IN.out ON.out ?_)
  rw [← HN.out]
  obtain ⟨kk, hk⟩ : ∃ k, k = o.kind := ⟨_, rfl⟩
  rw [← hk] at k0
  clear LO CC TH IN ON
  by_cases h3 : kk = 3
  · have hd : dfl o = setT o (inB o.g.tg o.g.mn o.g.mx) := if_pos (hk ▸ h3)
    have HD := Lib.hid hd
    subst h3
    clear hk hd
    obtain ⟨D3, hD3⟩ : ∃ E, E = D.setIfInBounds 29 (.int .i64 (inB o.g.tg o.g.mn o.g.mx)) := ⟨_, rfl⟩
    obtain ⟨n3, hn3⟩ : ∃ W, W = n.setCell ⟨B, 29, none⟩ (.int .i64 (inB o.g.tg o.g.mn o.g.mx)) := ⟨_, rfl⟩
    obtain ⟨nB, nB1, nI, nX, nW, nV, hws', -⟩ := NB.out
    have kp : ∀ g, B + 2 ≤ g → n3.heap[g]? = n.heap[g]? := fun g hg => by rw [hn3, Below.heap_setCell _ _ _ _ (by show g ≠ B; omega)]
    have i3 : ∀ i ∈ rowsIx, OwnAt (B + 2) n3 (setT o (inB o.g.tg o.g.mn o.g.mx)) D3 i := fun i hi => by
      have h := (nI i hi).keep (w' := n3) (D' := D3) (fun g h1 h2 => kp g h1) (by rw [hD3, Array.getElem?_setIfInBounds_ne (by rintro rfl; revert hi; decide)])
      unfold OwnAt at h ⊢
      split at h <;> first | exact h | trivial
    have v3 : ObjV n3 D3 (setT o (inB o.g.tg o.g.mn o.g.mx)) := by
      rw [hD3]
      exact set_obj_t (dup_obj (N := B + 2) nV rfl (fun _ _ => rfl) (fun i hi => (nI i hi).keep (fun g h1 h2 => kp g h1) rfl))
    have xx : Xb B n n3 := hn3 ▸ (Xb.refl B n).setCell _ _
    obtain ⟨EL, ET, EI, EO, EB, EF⟩ := dfl_end (w := w) NB.out.2.2.2.2.2.2.2.2.2.2.1 NB.out.2.2.2.2.2.2.1 (nW.trans (xx.below (by have := HW.out.2.1; omega) nW.size)) ((xx.block (B + 1) (by have := (Array.getElem?_eq_some_iff.1 nB1).1; omega) (by omega)).trans nB1) (by rw [hn3, block_setCell nB, hD3]) v3 (nil_own i3) i3
    have HN3 : Hid (n.setCell ⟨B, 29, none⟩ (.int .i64 (if o.g.mx < (if o.g.tg < o.g.mn then o.g.mn else o.g.tg) then o.g.mx else if o.g.tg < o.g.mn then o.g.mn else o.g.tg)) = n3) := hn3.symm
    have HN4 : Hid (n.setCell ⟨B, 29, none⟩ (.int .i64 (min (max o.g.tg o.g.mn) o.g.mx)) = n3) := by
      show _ = _
      rw [hn3, show min (max o.g.tg o.g.mn) o.g.mx = inB o.g.tg o.g.mn o.g.mx by unfold inB; split <;> split <;> omega]
    clear nB nB1 nI nX nW nV hws' kp i3 v3 xx hn3 hD3
    go_upto_region 7 with fail
    first | rw [HN3.out] | rw [HN4.out]
    go_wp2_with (first | (refine wpList_load_by (by kernel_rfl) 51 _ rfl (.pointer (some ⟨B, 0, none⟩)) (.agg D3) (by kernel_rfl) EL.out ?_) | (refine wpList_store_mid rfl _ _ _ rfl (B + 1) 0 D3 (by rfl) (by rfl) ET.out EI.out EO.out ?_))
    all_goals refine bodyPost_ret (results_cell_row rfl _ _ (B + 1) 51 D3 (0, 0) _ (by rfl) EB.out Tryz.underlying51 rfl EI.out) rfl ?_
    all_goals (have EG := EF.out; rw [← HD.out] at EG; exact EG)
  · by_cases h4 : kk = 4
    · have hd : dfl o = setH o (wayR o.h.upol o.h.up [dblP, fourP]) (wayR o.h.dpol o.h.dp [dblP]) := (if_neg (by rw [← hk]; exact h3)).trans (if_pos (hk ▸ h4))
      have HD := Lib.hid hd
      subst h4
      clear hk hd h3
      obtain ⟨nB, nB1, nI, nX, nW, nV, hws', hp, ku, kd, -⟩ := NB.out
      have CF := Lib.hid (fill_ob n B (B + 2) D o.h (by omega) (by have := nX.size; omega) nB ku kd (nI 42 (by decide)) (nI 45 (by decide)) hp.1 hp.2)
      clear nB nB1 nI nX nW nV hws' hp ku kd
      go_wp2_with fail
      refine CF.out.mono ?_
      rintro e n4 ⟨rfl, ⟨D4, g1, g2, g3, g4, g5⟩, xx⟩
      obtain ⟨nB, nB1, nI, nX, nW, nV, hws', -⟩ := NB.out
      have i4 : ∀ i ∈ rowsIx, OwnAt (B + 2) n4 (setH o (wayR o.h.upol o.h.up [dblP, fourP]) (wayR o.h.dpol o.h.dp [dblP])) D4 i := by
        intro i hi
        by_cases e1 : i = 42
        · subst e1; exact g4
        · by_cases e2 : i = 45
          · subst e2; exact g5
          · have h := (nI i hi).keep (w' := n4) (D' := D4) (fun g h1 h2 => xx.block g h2 (by omega)) (g3 i (by simp [e1, e2]))
            simp only [rowsIx, List.mem_cons, List.not_mem_nil, or_false] at hi
            rcases hi with rfl | rfl | rfl | rfl | rfl | rfl | rfl | rfl | rfl | rfl | rfl | rfl | rfl | rfl <;> first | exact h | exact absurd rfl e1 | exact absurd rfl e2
      have v4 := dup_obj_h (N := B + 2) (w := n4) (D := D4) nV g2 (fun i hi => g3 i (fun h => hi (by revert h; simp only [rowsIx, List.mem_cons, List.not_mem_nil, or_false]; omega))) i4
      obtain ⟨EL, ET, EI, EO, EB, EF⟩ := dfl_end (w := w) NB.out.2.2.2.2.2.2.2.2.2.2.1 NB.out.2.2.2.2.2.2.1 (nW.trans (xx.below (by have := HW.out.2.1; omega) nW.size)) ((xx.block (B + 1) (by have := (Array.getElem?_eq_some_iff.1 nB1).1; omega) (by omega)).trans nB1) g1 v4 (nil_own i4) i4
      clear nB nB1 nI nX nW nV hws' i4 v4 xx g1 g2 g3 g4 g5
      go_wp2_with (first | (refine wpList_load_by (by kernel_rfl) 51 _ rfl (.pointer (some ⟨B, 0, none⟩)) (.agg D4) (by kernel_rfl) EL.out ?_) | (refine wpList_store_mid rfl _ _ _ rfl (B + 1) 0 D4 (by rfl) (by rfl) ET.out EI.out EO.out ?_))
      all_goals refine bodyPost_ret (results_cell_row rfl _ _ (B + 1) 51 D4 (0, 0) _ (by rfl) EB.out Tryz.underlying51 rfl EI.out) rfl ?_
      all_goals (have EG := EF.out; rw [← HD.out] at EG; exact EG)
    · have hd : dfl o = o := (if_neg (by rw [← hk]; exact h3)).trans (if_neg (by rw [← hk]; exact h4))
      have HD := Lib.hid hd
      clear hk hd
      obtain ⟨nB, nB1, nI, nX, nW, nV, hws', -⟩ := NB.out
      obtain ⟨EL, ET, EI, EO, EB, EF⟩ := dfl_end (w := w) NB.out.2.2.2.2.2.2.2.2.2.2.1 NB.out.2.2.2.2.2.2.1 nW nB1 nB nV (nil_own nI) nI
      clear nB nB1 nI nX nW nV hws'
      go_wp2_with (first | (refine wpList_load_by (by kernel_rfl) 51 _ rfl (.pointer (some ⟨B, 0, none⟩)) (.agg D) (by kernel_rfl) EL.out ?_) | (refine wpList_store_mid rfl _ _ _ rfl (B + 1) 0 D (by rfl) (by rfl) ET.out EI.out EO.out ?_))
      all_goals refine bodyPost_ret (results_cell_row rfl _ _ (B + 1) 51 D (0, 0) _ (by rfl) EB.out Tryz.underlying51 rfl EI.out) rfl ?_
      all_goals (have EG := EF.out; rw [← HD.out] at EG; exact EG)
theorem default_any (w0 : World) (L0 : Array Value) (o : Ob) (hv : ObjV w0 L0 o) (hn : NilO L0) (hs : SmallO o) :
    Calls Tryz.prog 41 #[.agg L0] w0 fun e w' => (∃ D, e = .returned (.agg D) ∧ ObjV w' D (dfl o) ∧ NilO D) ∧ Below w0.heap.size w0 w' :=
  (default_own w0 L0 o hv hn hs).mono fun e w' h => by
    obtain ⟨⟨D, h1, h2, h3, _⟩, h4⟩ := h
    exact ⟨⟨D, h1, h2, h3⟩, h4⟩
end Go.Proofs.YtbkoepghmcdnhaaGreatDoor
