/- Whole structs: loaded, laid, put into a slice literal; for any layer. -/
import Derived.Test.YtfmllfolpcimpaaProg
import Derived.WalkKit
import Derived.Below
import Derived.Lib.Hide
import Derived.Lib.SmallJoins
import Derived.Laws.Rows
import Derived.Deep.MidRow
import Derived.Great.BuildSlice
namespace Go.Proofs.Ytfmllfolpcimpaa.Ld
open Go.RowKit Go.Lib
open Go.Joins (cell_of_block unfrozen_of_block block_setCell)
set_option linter.unusedVariables false
set_option linter.unusedSimpArgs false

theorem rangeAt_block {w : World} {b : Nat} {cs : Array Value} {T : TypeId} {fz : Nat × Nat} (h : w.heap[b]? = some (.cells cs T fz)) : w.rangeAt b 0 cs.toList := fun j v hv => by
  rw [cell_of_block h]
  simpa using hv
/-- A load at the list of a plain region's operations, guarded or not, by its run. -/
theorem wpList_load_by {P : Program} {ops : Array Oper} {rest : List Oper} {o : Oper} {a : Act} {w : World} {Q : Exit → Act → World → Prop} (hw : Region.wanted o (yielded ops a.tmps) = true) (ty : TypeId) (x : Operand) (ho : o.op = .load ty x) (p v : Value) (hx : a.eval x = p)
    (hl : (Instr.loadAt ty p).run P w = .ok v w) (h : wpList P ops Q rest (a.put o.dst v) w) : wpList P ops Q (o :: rest) a w := by
  refine wpList_step fun K hK => ?_
  rw [if_pos hw]
  unfold Oper.wp execOp
  simp only [ho, hx, Sem.run_bind, hl, Result.andThen_ok, Sem.run_pure]
  exact hK _ _ h
/-- A slice literal of one whole struct, at the list of a plain region's operations. -/
theorem wpList_build {P : Program} {ops : Array Oper} {rest : List Oper} {o : Oper} {a : Act} {w : World} {Q : Exit → Act → World → Prop} (hw : Region.wanted o (yielded ops a.tmps) = true) (t e : TypeId) (x : Operand) (ho : o.op = .buildSlice t 1 #[(0, x)]) (z : Value) (s : Nat) (X : Array Value) (hx : a.eval x = .agg X) (hX : X.size = s) (h0 : 0 < s) (h1 : s ≤ 1000000)
    (hu : P.underlying t = some (.slice e)) (hinfo : (P.info? e).map (fun i => (i.zero, i.size)) = some (some z, s)) (k : wpList P ops Q rest (a.put o.dst (.slice (some ⟨w.heap.size, 0, none⟩) 1 1)) (w.alloc (.cells X e))) : wpList P ops Q (o :: rest) a w := by
  refine wpList_step fun K hK => ?_
  rw [if_pos hw]
  cases hie : P.info? e with
  | none => rw [hie] at hinfo; cases hinfo
  | some i =>
    rw [hie] at hinfo
    simp only [Option.map_some, Option.some.injEq, Prod.mk.injEq] at hinfo
    obtain ⟨hz, hs⟩ := hinfo
    refine wp_buildSlice t e 1 _ ho X i z hu hie hz (by rw [hs]; omega) (by rw [hs]; omega) ?_ (hK _ _ k)
    have hc : (Value.agg X).cells = X := rfl
    have := Great.fill_whole h0 [Value.agg X] ((Array.range (1 * i.size)).map (z.cells[· % z.cells.size]!)) (fun v hv => by rw [List.mem_singleton.1 hv, hc]; exact hX) (by simp [hs])
    rw [hs] at this ⊢
    simp [hx, hc] at this ⊢
    exact this
/-- A whole struct is stored, in a region that draws its order. -/
theorem step_store {P : Program} {ops : Array Oper} {Q : Exit → Act → World → Prop} {w : World} {op : Oper} {a : Act} {K : Act → World → Prop} (hw : Region.wanted op (yielded ops a.tmps) = true) (ty : TypeId) (x y : Operand) (ho : op.op = .store ty x y) (b o : Nat) (cells : Array Value) (hx : a.eval x = .pointer (some ⟨b, o, none⟩)) (hy : a.eval y = .agg cells)
    (ht : w.there b o cells.size) (hi : (P.info? ty).map (·.size) = some cells.size) (h1 : cells.all (·.oneCell') = true) (k : K (a.put op.dst undef) (w.setCells b o cells.toList)) :
    if Region.wanted op (yielded ops a.tmps) = true then Oper.wp P op a w K Q else K (a.put op.dst undef) w := by
  rw [if_pos hw]
  exact wp_store_mid ty x y ho b o cells hx hy ht hi h1 k
def setAt : Array Value → Nat → List Value → Array Value
  | L, _, [] => L
  | L, i, v :: r => setAt (L.setIfInBounds i v) (i + 1) r
theorem setAt_lt : ∀ (vs : List Value) (L : Array Value) (i j : Nat), j < i → (setAt L i vs)[j]? = L[j]?
  | [], L, i, j, h => rfl
  | v :: r, L, i, j, h => by
    rw [setAt, setAt_lt r _ (i + 1) j (by omega), Array.getElem?_setIfInBounds_ne (by omega)]
theorem setCells_block : ∀ (vs : List Value) (w : World) (b o : Nat) (cs : Array Value) (T : TypeId) (fz : Nat × Nat), w.heap[b]? = some (.cells cs T fz) → (w.setCells b o vs).heap[b]? = some (.cells (setAt cs o vs) T fz)
  | [], w, b, o, cs, T, fz, h => h
  | v :: r, w, b, o, cs, T, fz, h => by
    rw [World.setCells, setAt]
    exact setCells_block r _ b (o + 1) _ T fz (block_setCell h v)
theorem setAt_size : ∀ (vs : List Value) (L : Array Value) (i : Nat), (setAt L i vs).size = L.size
  | [], L, i => rfl
  | v :: r, L, i => by rw [setAt, setAt_size r]; simp
theorem setAt_get : ∀ (vs : List Value) (L : Array Value) (i j : Nat), j < vs.length → i + vs.length ≤ L.size → (setAt L i vs)[i + j]? = vs[j]?
  | [], L, i, j, h, _ => by simp at h
  | v :: r, L, i, j, h, hL => by
    rw [setAt]
    simp only [List.length_cons] at h hL
    cases j with
    | zero =>
      show (setAt (L.setIfInBounds i v) (i + 1) r)[i]? = some v
      rw [setAt_lt r _ (i + 1) i (by omega)]
      exact Array.getElem?_setIfInBounds_self_of_lt (by omega)
    | succ j =>
      rw [show i + (j + 1) = (i + 1) + j by omega, setAt_get r _ (i + 1) j (by omega) (by simp; omega)]
      rfl
theorem setAt_full {L L' : Array Value} (h : L.size = L'.size) : setAt L 0 L'.toList = L' := by
  apply Array.ext
  · rw [setAt_size, h]
  · intro j h1 h2
    have := setAt_get L'.toList L 0 j (by simpa using h2) (by simp; omega)
    rw [Nat.zero_add] at this
    rw [Array.getElem?_eq_getElem h1, Array.getElem?_toList, Array.getElem?_eq_getElem h2] at this
    exact Option.some.inj this
theorem below_setCells : ∀ (vs : List Value) {N : Nat} {w w' : World} (b o : Nat), N ≤ b → Below N w w' → Below N w (w'.setCells b o vs)
  | [], N, w, w', b, o, h, hb => hb
  | v :: r, N, w, w', b, o, h, hb => by
    rw [World.setCells]
    refine below_setCells r b (o + 1) h ?_
    refine ⟨hb.os, hb.tape, hb.output, ?_, fun k hk => ?_⟩
    · simpa [World.setCell] using hb.size
    · rw [heap_setCell_other _ _ _ _ (by show k ≠ b; omega)]
      exact hb.block k hk
theorem there_block {w : World} {b n : Nat} {cs : Array Value} {T : TypeId} (h : w.heap[b]? = some (.cells cs T (0, 0))) (hn : n = cs.size) : w.there b 0 n := by
  subst hn
  intro j hj
  rw [Nat.zero_add, cell_of_block h, unfrozen_of_block h]
  refine ⟨?_, rfl⟩
  rw [Array.getElem?_eq_getElem hj]
  rfl
/-- A block that is laid whole. -/
theorem laid {w : World} {b : Nat} {cs ds : Array Value} {T : TypeId} (h : w.heap[b]? = some (.cells cs T (0, 0))) (hs : cs.size = ds.size) : (w.setCells b 0 ds.toList).heap[b]? = some (.cells ds T (0, 0)) := by
  rw [setCells_block _ _ _ _ _ _ _ h, setAt_full hs]
end Go.Proofs.Ytfmllfolpcimpaa.Ld
