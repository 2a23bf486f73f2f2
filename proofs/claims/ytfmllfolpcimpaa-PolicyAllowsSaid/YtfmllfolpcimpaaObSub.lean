/- Parts of an object, for whatever layer: its pod, its node; an object of a row, stored where a call has made room. -/
import Derived.Test.YtfmllfolpcimpaaObRow
import Derived.Test.YtfmllfolpcimpaaLoads
namespace Go.Proofs.Ytfmllfolpcimpaa.Ow
open Go.RowKit Go.Shelf Go.Lib Go.Sort Go.Deep
open Go.Joins (cell_of_block unfrozen_of_block block_setCell)
set_option linter.unusedVariables false
set_option linter.unusedSimpArgs false
set_option maxRecDepth 20000

/-- The cells of a pod. -/
def PdS (w : World) (P : Array Value) (x : Pd) : Prop :=
  P.size = 10 ∧ P[0]? = some (.string x.own) ∧ P[1]? = some (.string x.node) ∧ P[2]? = some (.int .i64 x.ph) ∧ P[3]? = some (.int .i64 x.since) ∧ P[4]? = some (.int .i64 x.cpu) ∧ P[5]? = some (.int .i64 x.mem) ∧
  SlR 2 encL w P[6]? x.lab ∧ SlR 3 encR w P[7]? x.sel ∧ SlR 2 encL w P[8]? x.tol ∧ P[9]? = some (.int .i64 x.warm)
theorem PdS.below {w w' : World} {P : Array Value} {x : Pd} (h : PdS w P x) (hb : Below w.heap.size w w') : PdS w' P x := by
  obtain ⟨a0, a1, a2, a3, a4, a5, a6, a7, a8, a9, a10⟩ := h
  exact ⟨a0, a1, a2, a3, a4, a5, a6, a7.below hb, a8.below hb, a9.below hb, a10⟩
theorem arr10 {D : Array Value} (h : D.size = 10) : ∃ d0 d1 d2 d3 d4 d5 d6 d7 d8 d9, D = #[d0, d1, d2, d3, d4, d5, d6, d7, d8, d9] := by
  obtain ⟨l⟩ := D
  match l, h with
  | [d0, d1, d2, d3, d4, d5, d6, d7, d8, d9], _ => exact ⟨d0, d1, d2, d3, d4, d5, d6, d7, d8, d9, rfl⟩
/-- .. written out. -/
theorem PdS.lit {w : World} {P : Array Value} {x : Pd} (h : PdS w P x) : ∃ q1 c1 q2 c2 q3 c3, P = #[.string x.own, .string x.node, .int .i64 x.ph, .int .i64 x.since, .int .i64 x.cpu, .int .i64 x.mem, .slice q1 x.lab.length c1, .slice q2 x.sel.length c2, .slice q3 x.tol.length c3, .int .i64 x.warm] ∧ RowR 2 encL w q1 x.lab ∧ RowR 3 encR w q2 x.sel ∧ RowR 2 encL w q3 x.tol := by
  obtain ⟨a0, a1, a2, a3, a4, a5, a6, ⟨q7, c7, a7, r7⟩, ⟨q8, c8, a8, r8⟩, ⟨q9, c9, a9, r9⟩, a10⟩ := h
  obtain ⟨d0, d1, d2, d3, d4, d5, d6, d7, d8, d9, rfl⟩ := arr10 a0
  simp at a1 a2 a3 a4 a5 a6 a7 a8 a9 a10
  subst a1 a2 a3 a4 a5 a6 a7 a8 a9 a10
  exact ⟨q7, c7, q8, c8, q9, c9, rfl, r7, r8, r9⟩
theorem PdS.one {w : World} {P : Array Value} {x : Pd} (h : PdS w P x) : P.all (·.oneCell') = true := by
  obtain ⟨q1, c1, q2, c2, q3, c3, rfl, _⟩ := h.lit
  kernel_rfl
theorem ext10 {cs : Array Value} (hs : cs.size = 47) (i : Nat) (hi : i < 10) : (cs.extract 10 20)[i]? = cs[10 + i]? := by
  rw [Array.getElem?_extract, if_pos (by omega)]
theorem ext_size {cs : Array Value} (hs : cs.size = 47) : (cs.extract 10 20).size = 10 := by simp; omega
theorem ext_pd {w : World} {cs : Array Value} {o : Ob} (hv : ObjV w cs o) : PdS w (cs.extract 10 20) o.p := by
  obtain ⟨hsz, _, _, ⟨c0, c1, c2, c3, c4, c5, c6, c7, c8, c9⟩, _⟩ := hv
  refine ⟨ext_size hsz, ?_, ?_, ?_, ?_, ?_, ?_, ?_, ?_, ?_, ?_⟩ <;> rw [ext10 hsz _ (by decide)] <;> assumption
theorem ext_range {w : World} {b : Nat} {cs : Array Value} {T : TypeId} {fz : Nat × Nat} (hsz : cs.size = 47) (h : w.heap[b]? = some (.cells cs T fz)) : w.rangeAt b 10 (cs.extract 10 20).toList := fun j v hv => by
  have hj : j < 10 := by
    have := (List.getElem?_eq_some_iff.1 hv).1
    rw [Array.length_toList, ext_size hsz] at this
    exact this
  rw [Array.getElem?_toList, ext10 hsz j hj] at hv
  rw [cell_of_block h]
  exact hv
abbrev zerPd : Array Value := #[.string { data := #[] }, .string { data := #[] }, .int .i64 0, .int .i64 0, .int .i64 0, .int .i64 0, .slice none 0 0, .slice none 0 0, .slice none 0 0, .int .i64 0]
/-- The cells of a node. -/
def NdS (w : World) (P : Array Value) (x : Nd) : Prop :=
  P.size = 7 ∧ P[0]? = some (.string x.grp) ∧ P[1]? = some (.int .i64 x.cpu) ∧ P[2]? = some (.int .i64 x.mem) ∧ SlR 2 encL w P[3]? x.lab ∧ SlR 2 encL w P[4]? x.tnt ∧ P[5]? = some (.int .i64 x.since) ∧ P[6]? = some (.bool x.closed)
theorem NdS.below {w w' : World} {P : Array Value} {x : Nd} (h : NdS w P x) (hb : Below w.heap.size w w') : NdS w' P x := by
  obtain ⟨a0, a1, a2, a3, a4, a5, a6, a7⟩ := h
  exact ⟨a0, a1, a2, a3, a4.below hb, a5.below hb, a6, a7⟩
theorem arr7 {D : Array Value} (h : D.size = 7) : ∃ d0 d1 d2 d3 d4 d5 d6, D = #[d0, d1, d2, d3, d4, d5, d6] := by
  obtain ⟨l⟩ := D
  match l, h with
  | [d0, d1, d2, d3, d4, d5, d6], _ => exact ⟨d0, d1, d2, d3, d4, d5, d6, rfl⟩
theorem NdS.lit {w : World} {P : Array Value} {x : Nd} (h : NdS w P x) : ∃ q1 c1 q2 c2, P = #[.string x.grp, .int .i64 x.cpu, .int .i64 x.mem, .slice q1 x.lab.length c1, .slice q2 x.tnt.length c2, .int .i64 x.since, .bool x.closed] ∧ RowR 2 encL w q1 x.lab ∧ RowR 2 encL w q2 x.tnt := by
  obtain ⟨a0, a1, a2, a3, ⟨q4, c4, a4, r4⟩, ⟨q5, c5, a5, r5⟩, a6, a7⟩ := h
  obtain ⟨d0, d1, d2, d3, d4, d5, d6, rfl⟩ := arr7 a0
  simp at a1 a2 a3 a4 a5 a6 a7
  subst a1 a2 a3 a4 a5 a6 a7
  exact ⟨q4, c4, q5, c5, rfl, r4, r5⟩
theorem ext7 {cs : Array Value} (hs : cs.size = 47) (i : Nat) (hi : i < 7) : (cs.extract 20 27)[i]? = cs[20 + i]? := by
  rw [Array.getElem?_extract, if_pos (by omega)]
theorem ext_size7 {cs : Array Value} (hs : cs.size = 47) : (cs.extract 20 27).size = 7 := by simp; omega
theorem ext_nd {w : World} {cs : Array Value} {o : Ob} (hv : ObjV w cs o) : NdS w (cs.extract 20 27) o.n := by
  obtain ⟨hsz, _, _, _, ⟨c0, c1, c2, c3, c4, c5, c6⟩, _⟩ := hv
  refine ⟨ext_size7 hsz, ?_, ?_, ?_, ?_, ?_, ?_, ?_⟩ <;> rw [ext7 hsz _ (by decide)] <;> assumption
theorem ext_range7 {w : World} {b : Nat} {cs : Array Value} {T : TypeId} {fz : Nat × Nat} (hsz : cs.size = 47) (h : w.heap[b]? = some (.cells cs T fz)) : w.rangeAt b 20 (cs.extract 20 27).toList := fun j v hv => by
  have hj : j < 7 := by
    have := (List.getElem?_eq_some_iff.1 hv).1
    rw [Array.length_toList, ext_size7 hsz] at this
    exact this
  rw [Array.getElem?_toList, ext7 hsz j hj] at hv
  rw [cell_of_block h]
  exact hv
/-- A whole struct of whatever type, stored where the call has made room. -/
theorem cell_new (wr : World) (T : TypeId) (Z P : Array Value) (h : Z.size = P.size) : (wr.alloc (.cells Z T)).there wr.heap.size 0 P.size ∧ ((wr.alloc (.cells Z T)).setCells wr.heap.size 0 P.toList).heap[wr.heap.size]? = some (.cells P T (0, 0)) ∧ Below wr.heap.size wr ((wr.alloc (.cells Z T)).setCells wr.heap.size 0 P.toList) := by
  have z0 : (wr.alloc (.cells Z T)).heap[wr.heap.size]? = some (.cells Z T (0, 0)) := heap_alloc_new wr _
  exact ⟨Ld.there_block z0 h.symm, Ld.laid z0 h, Ld.below_setCells _ _ _ (Nat.le_refl _) (((Gr.refl wr).alloc _).below)⟩
/-! ### rows of a call's own -/
theorem slc_own {w : World} {N : Nat} {E : TypeId} {k n : Nat} {v : Value} {xs : List Value} (h : w.ownsRow N E k v n xs) : ∃ q c, v = .slice q n c := by
  obtain ⟨_, h⟩ := h
  rcases h with ⟨rfl, hn⟩ | ⟨g, c, cur, rfl, _⟩
  · subst hn; exact ⟨none, 0, rfl⟩
  · exact ⟨_, _, rfl⟩
theorem below_own {N n k : Nat} {w w' : World} {E : TypeId} {v : Value} {xs : List Value} (h : w.ownsRow N E k v n xs) (b : Below w.heap.size w w') : w'.ownsRow N E k v n xs := own_stays h fun g _ hg => b.block g hg
theorem lt_own {N n k : Nat} {w : World} {E : TypeId} {v : Value} {xs : List Value} (h : w.ownsRow N E k v n xs) {g : Nat} (hg : v.ownBlock = some g) : N ≤ g ∧ g < w.heap.size := by
  rcases h.2 with ⟨rfl, _⟩ | ⟨g', cap, cur, rfl, hb, hh, _⟩
  · simp [Value.ownBlock] at hg
  · simp [Value.ownBlock] at hg
    subst hg
    exact ⟨hb, (Array.getElem?_eq_some_iff.1 hh).1⟩
/-- What is known to run, in a plain region. -/
theorem step_known {P : Program} {ops : Array Oper} {rest : List Oper} {o : Oper} {a : Act} {w w' : World} {v : Value} {Q : Exit → Act → World → Prop} (hw : Region.wanted o (yielded ops a.tmps) = true) (hr : (execOp a.eval o).run P w = .ok (.value v) w') (h : wpList P ops Q rest (a.put o.dst v) w') : wpList P ops Q (o :: rest) a w := by
  refine wpList_step fun K hK => ?_
  rw [if_pos hw]
  unfold Oper.wp
  rw [hr]
  exact hK _ _ h
theorem built_run {T : TypeId} {o : Oper} {ev : Operand → Value} {parts : Array (Nat × Operand)} {l : List (Nat × Value)} {C : Array Value} (ho : o.op = .build T parts) (hp : (parts.map fun (i, x) => (i, ev x)).toList = l) (hc : Try.prog.built T l = some C) (w : World) :
    (execOp ev o).run Try.prog w = .ok (.value (.agg C)) w := by
  rw [← hp] at hc
  unfold execOp
  simp only [ho, Sem.run_bind, run_build w _ _ _ hc, Result.andThen_ok]
  rfl
end Go.Proofs.Ytfmllfolpcimpaa.Ow
