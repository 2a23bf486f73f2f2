/- An object with defaults: Default. -/
import Derived.Test.YtcfilaiejccfkaaVaO
namespace Go.Proofs.Ytcfilaiejccfkaa
open Go.RowKit Go.Shelf Go.Lib Go.Sort Go.Deep
open Go.Joins (cell_of_block unfrozen_of_block block_setCell)
set_option linter.unusedVariables false
set_option linter.unusedSimpArgs false
set_option maxRecDepth 20000

def setT (o : Ob) (t : Int) : Ob := { o with g := { o.g with tg := t } }
def setH (o : Ob) (up dn : List Pol) : Ob := { o with h := { o.h with upol := up, dpol := dn } }
/-- A target within its bounds. -/
def inB (t mn mx : Int) : Int := if mx < (if t < mn then mn else t) then mx else if t < mn then mn else t
/-- The object with defaults. -/
def dfl (o : Ob) : Ob := if o.kind = 3 then setT o (inB o.g.tg o.g.mn o.g.mx) else if o.kind = 4 then setH o (wayR o.h.upol o.h.up [dblP, fourP]) (wayR o.h.dpol o.h.dp [dblP]) else o
theorem OwnC.nil {α : Type} {N : Nat} {w : World} {E : TypeId} {k : Nat} {enc : α → List Value} (hk : ∀ x, (enc x).length = k) {D : Array Value} {i : Nat} {l : List α} (h : OwnC N w E k enc D i l) : ∀ n c, D[i]? = some (.slice none n c) → c = 0 := by
  intro n c hc
  obtain ⟨v, hv, ho⟩ := h
  obtain ⟨q, c', rfl, hr, hq, _⟩ := own_lies hk ho
  rw [hv] at hc
  cases hc
  exact hq rfl
theorem nil_own {N : Nat} {w : World} {o : Ob} {D : Array Value} (h : ∀ i ∈ rowsIx, OwnAt N w o D i) : NilO D := by
  intro i n c hi hc
  have h := h i hi
  simp only [rowsIx, List.mem_cons, List.not_mem_nil, or_false] at hi
  rcases hi with rfl | rfl | rfl | rfl | rfl | rfl | rfl | rfl | rfl | rfl | rfl | rfl | rfl | rfl
  · exact OwnC.nil lenL h n c hc
  · exact OwnC.nil lenR h n c hc
  · exact OwnC.nil lenL h n c hc
  · exact OwnC.nil lenL h n c hc
  · exact OwnC.nil lenR h n c hc
  · exact OwnC.nil lenL h n c hc
  · exact OwnC.nil lenL h n c hc
  · exact OwnC.nil lenL h n c hc
  · exact OwnC.nil lenL h n c hc
  · exact OwnC.nil lenL h n c hc
  · exact OwnC.nil lenM h n c hc
  · exact OwnC.nil lenP h n c hc
  · exact OwnC.nil lenP h n c hc
  · exact OwnC.nil lenS h n c hc
theorem dup_obj_h {N : Nat} {w0 w : World} {L D : Array Value} {o : Ob} {up dn : List Pol} (hv : ObjV w0 L o) (hs : D.size = L.size) (ho : ∀ i, i ∉ rowsIx → D[i]? = L[i]?) (hi : ∀ i ∈ rowsIx, OwnAt N w (setH o up dn) D i) : ObjV w D (setH o up dn) := by
  obtain ⟨hsz, ⟨c0, c1, c2, hver⟩, hW, hP, hN, hG, hH⟩ := hv
  obtain ⟨c3, c4, c5, c6, c7, c8, c9⟩ := hW
  obtain ⟨c10, c11, c12, c13, c14, c15, c16, c17, c18, c19⟩ := hP
  obtain ⟨c20, c21, c22, c23, c24, c25, c26⟩ := hN
  obtain ⟨c27, c28, c29, c30, c31, c32, c33, c34⟩ := hG
  obtain ⟨c35, c36, c37, c38, c39, c40, c41, c42, c43, c44, c45, c46⟩ := hH
  have r6 : SlR 2 encL w D[6]? o.w.lab := OwnC.slr lenL (hi 6 (by decide))
  have r7 : SlR 3 encR w D[7]? o.w.sel := OwnC.slr lenR (hi 7 (by decide))
  have r8 : SlR 2 encL w D[8]? o.w.tol := OwnC.slr lenL (hi 8 (by decide))
  have r16 : SlR 2 encL w D[16]? o.p.lab := OwnC.slr lenL (hi 16 (by decide))
  have r17 : SlR 3 encR w D[17]? o.p.sel := OwnC.slr lenR (hi 17 (by decide))
  have r18 : SlR 2 encL w D[18]? o.p.tol := OwnC.slr lenL (hi 18 (by decide))
  have r23 : SlR 2 encL w D[23]? o.n.lab := OwnC.slr lenL (hi 23 (by decide))
  have r24 : SlR 2 encL w D[24]? o.n.tnt := OwnC.slr lenL (hi 24 (by decide))
  have r32 : SlR 2 encL w D[32]? o.g.lab := OwnC.slr lenL (hi 32 (by decide))
  have r33 : SlR 2 encL w D[33]? o.g.tnt := OwnC.slr lenL (hi 33 (by decide))
  have r38 : SlR 3 encM w D[38]? o.h.met := OwnC.slr lenM (hi 38 (by decide))
  have r42 : SlR 3 encP w D[42]? up := OwnC.slr lenP (hi 42 (by decide))
  have r45 : SlR 3 encP w D[45]? dn := OwnC.slr lenP (hi 45 (by decide))
  have r46 : SlR 3 encS w D[46]? o.h.past := OwnC.slr lenS (hi 46 (by decide))
  exact ⟨hs.trans hsz, ⟨(ho 0 (by decide)).trans c0, (ho 1 (by decide)).trans c1, (ho 2 (by decide)).trans c2, hver⟩, ⟨(ho 3 (by decide)).trans c3, (ho 4 (by decide)).trans c4, (ho 5 (by decide)).trans c5, r6, r7, r8, (ho 9 (by decide)).trans c9⟩, ⟨(ho 10 (by decide)).trans c10, (ho 11 (by decide)).trans c11, (ho 12 (by decide)).trans c12, (ho 13 (by decide)).trans c13, (ho 14 (by decide)).trans c14, (ho 15 (by decide)).trans c15, r16, r17, r18, (ho 19 (by decide)).trans c19⟩, ⟨(ho 20 (by decide)).trans c20, (ho 21 (by decide)).trans c21, (ho 22 (by decide)).trans c22, r23, r24, (ho 25 (by decide)).trans c25, (ho 26 (by decide)).trans c26⟩, ⟨(ho 27 (by decide)).trans c27, (ho 28 (by decide)).trans c28, (ho 29 (by decide)).trans c29, (ho 30 (by decide)).trans c30, (ho 31 (by decide)).trans c31, r32, r33, (ho 34 (by decide)).trans c34⟩, ⟨(ho 35 (by decide)).trans c35, (ho 36 (by decide)).trans c36, (ho 37 (by decide)).trans c37, r38, (ho 39 (by decide)).trans c39, (ho 40 (by decide)).trans c40, (ho 41 (by decide)).trans c41, r42, (ho 43 (by decide)).trans c43, (ho 44 (by decide)).trans c44, r45, r46⟩⟩
theorem set_obj_t {w : World} {L : Array Value} {o : Ob} {t : Int} (hv : ObjV w L o) : ObjV w (L.setIfInBounds 29 (.int .i64 t)) (setT o t) := by
  obtain ⟨hsz, ⟨c0, c1, c2, hver⟩, hW, hP, hN, hG, hH⟩ := hv
  obtain ⟨c3, c4, c5, c6, c7, c8, c9⟩ := hW
  obtain ⟨c10, c11, c12, c13, c14, c15, c16, c17, c18, c19⟩ := hP
  obtain ⟨c20, c21, c22, c23, c24, c25, c26⟩ := hN
  obtain ⟨c27, c28, c29, c30, c31, c32, c33, c34⟩ := hG
  obtain ⟨c35, c36, c37, c38, c39, c40, c41, c42, c43, c44, c45, c46⟩ := hH
  have ne : ∀ i, 29 ≠ i → (L.setIfInBounds 29 (.int .i64 t))[i]? = L[i]? := fun i h => Array.getElem?_setIfInBounds_ne h
  have e29 : (L.setIfInBounds 29 (.int .i64 t))[29]? = some (.int .i64 t) := Array.getElem?_setIfInBounds_self_of_lt (by omega)
  exact ⟨by simp [hsz], ⟨(by rw [ne 0 (by decide)]; exact c0), (by rw [ne 1 (by decide)]; exact c1), (by rw [ne 2 (by decide)]; exact c2), hver⟩, ⟨(by rw [ne 3 (by decide)]; exact c3), (by rw [ne 4 (by decide)]; exact c4), (by rw [ne 5 (by decide)]; exact c5), (by rw [ne 6 (by decide)]; exact c6), (by rw [ne 7 (by decide)]; exact c7), (by rw [ne 8 (by decide)]; exact c8), (by rw [ne 9 (by decide)]; exact c9)⟩, ⟨(by rw [ne 10 (by decide)]; exact c10), (by rw [ne 11 (by decide)]; exact c11), (by rw [ne 12 (by decide)]; exact c12), (by rw [ne 13 (by decide)]; exact c13), (by rw [ne 14 (by decide)]; exact c14), (by rw [ne 15 (by decide)]; exact c15), (by rw [ne 16 (by decide)]; exact c16), (by rw [ne 17 (by decide)]; exact c17), (by rw [ne 18 (by decide)]; exact c18), (by rw [ne 19 (by decide)]; exact c19)⟩, ⟨(by rw [ne 20 (by decide)]; exact c20), (by rw [ne 21 (by decide)]; exact c21), (by rw [ne 22 (by decide)]; exact c22), (by rw [ne 23 (by decide)]; exact c23), (by rw [ne 24 (by decide)]; exact c24), (by rw [ne 25 (by decide)]; exact c25), (by rw [ne 26 (by decide)]; exact c26)⟩, ⟨(by rw [ne 27 (by decide)]; exact c27), (by rw [ne 28 (by decide)]; exact c28), e29, (by rw [ne 30 (by decide)]; exact c30), (by rw [ne 31 (by decide)]; exact c31), (by rw [ne 32 (by decide)]; exact c32), (by rw [ne 33 (by decide)]; exact c33), (by rw [ne 34 (by decide)]; exact c34)⟩, ⟨(by rw [ne 35 (by decide)]; exact c35), (by rw [ne 36 (by decide)]; exact c36), (by rw [ne 37 (by decide)]; exact c37), (by rw [ne 38 (by decide)]; exact c38), (by rw [ne 39 (by decide)]; exact c39), (by rw [ne 40 (by decide)]; exact c40), (by rw [ne 41 (by decide)]; exact c41), (by rw [ne 42 (by decide)]; exact c42), (by rw [ne 43 (by decide)]; exact c43), (by rw [ne 44 (by decide)]; exact c44), (by rw [ne 45 (by decide)]; exact c45), (by rw [ne 46 (by decide)]; exact c46)⟩⟩

/-- What a walk of Default ends with: the array handed back. -/
theorem dfl_end {w0 w n : World} {B : Nat} {D : Array Value} {o' : Ob} (hB : B = w0.heap.size) (hws : w.heap.size = B + 2) (hx : Below w0.heap.size w0 n) (hb1 : n.heap[B + 1]? = some (.cells zerC 46 (0, 0))) (hb : n.heap[B]? = some (.cells D 46 (0, 0))) (ov : ObjV n D o') (on : NilO D) (hfar : ∀ i ∈ rowsIx, OwnAt (B + 2) n o' D i) :
    Hid ((Instr.loadAt 46 (.pointer (some ⟨B, 0, none⟩))).run Try.prog n = .ok (.agg D) n) ∧ Hid (n.there (B + 1) 0 D.size) ∧ Hid ((Try.prog.info? 46).map (·.size) = some D.size) ∧ Hid (D.all (·.oneCell') = true) ∧
    Hid ((n.setCells (B + 1) 0 D.toList).heap[B + 1]? = some (.cells D 46 (0, 0))) ∧ Hid ((∃ E, Ending.returned (.agg D) = .returned (.agg E) ∧ ObjV (n.setCells (B + 1) 0 D.toList) E o' ∧ NilO E ∧ ∀ i ∈ rowsIx, OwnAt w0.heap.size (n.setCells (B + 1) 0 D.toList) o' E i) ∧ Below w0.heap.size w0 (n.setCells (B + 1) 0 D.toList)) := by
  have hsz : D.size = 47 := ov.1
  refine ⟨load_ob hb hsz, ?_, by show _ = _; rw [hsz]; exact info_ob47, objV_one ov, ?_, ⟨D, rfl, dup_obj (N := B + 2) ov rfl (fun _ _ => rfl) (fun i hi => (hfar i hi).keep (fun g h1 h2 => setCells_out _ _ _ _ _ (by omega)) rfl), on, fun i hi => OwnAt.less ((hfar i hi).keep (fun g h1 h2 => setCells_out _ _ _ _ _ (by omega)) rfl) (by omega)⟩, ?_⟩
  · intro j hj
    rw [Nat.zero_add, cell_of_block hb1, unfrozen_of_block hb1]
    refine ⟨?_, rfl⟩
    have hz : (zerC : Array Value).size = 47 := rfl
    rw [Array.getElem?_eq_getElem (by omega)]
    rfl
  · show _ = _
    rw [setCells_block _ _ _ _ _ _ _ hb1, setAt_full (by rw [hsz]; rfl)]
  · obtain ⟨r1, r2, r3⟩ := setCells_rest D.toList n (B + 1) 0
    exact ⟨r1.trans hx.os, r2.trans hx.tape, r3.trans hx.output, by rw [setCells_size]; exact hx.size, fun k hk => by rw [setCells_out _ _ _ _ _ (by omega)]; exact hx.block k hk⟩

end Go.Proofs.Ytcfilaiejccfkaa
