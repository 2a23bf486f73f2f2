/- Memory of writers and readers: what holds of it, and how a call may turn it. -/
import Derived.Test.YtlajiochpdlhaaaOctB
import Derived.Deep.AppendLies
import Derived.Lib.AppendStr
namespace Go.Proofs.Ytlajiochpdlhaaa
open Go.RowKit Go.Shelf Go.Lib Go.Sort
open Go.Joins (cell_of_block unfrozen_of_block block_setCell)
set_option linter.unusedVariables false

/-! ### bytes in memory -/
def encU (x : UInt8) : List Value := [.int .u8 (x.toNat : Int)]
def cellsU (l : List UInt8) : List Value := l.map fun x => .int .u8 (x.toNat : Int)
theorem cellsU_len (l : List UInt8) : (cellsU l).length = l.length := by simp [cellsU]
theorem cellsU_app (a b : List UInt8) : cellsU (a ++ b) = cellsU a ++ cellsU b := by simp [cellsU]
theorem cellsU_one (l : List UInt8) : ∀ v ∈ cellsU l, v.oneCell' = true := by
  intro v hv
  simp only [cellsU, List.mem_map] at hv
  obtain ⟨x, _, rfl⟩ := hv
  rfl
theorem cellsU_str (s : ByteArray) : strCells s = cellsU (by_ s) := rfl
theorem RowR.u8 {w : World} {q : Option Addr} {l : List UInt8} (h : RowR 1 encU w q l) (i : Nat) (x : UInt8) (hx : l[i]? = some x) : ∃ b off, q = some ⟨b, off, none⟩ ∧ b < w.heap.size ∧ w.cell? ⟨b, off + i, none⟩ = some (.int .u8 (x.toNat : Int)) := by
  obtain ⟨b, off, e, hb, hc⟩ := h i x hx
  have := hc 0 _ rfl
  rw [Nat.mul_one, Nat.add_zero] at this
  exact ⟨b, off, e, hb, this⟩

/-- The block in which a writer's (a reader's) bytes lie. -/
def yb (w : World) (A : Nat) : Option Nat := (w.cell? ⟨A, 0, none⟩).bind Value.ownBlock
/-- The writer at 'A' has these bytes. -/
def WrM (w : World) (N A : Nat) (bs : List UInt8) : Prop :=
  ∃ v, w.heap[A]? = some (.cells #[v] 27 (0, 0)) ∧ N ≤ A ∧ w.ownsRow N 5 1 v bs.length (cellsU bs) ∧ v.ownBlock ≠ some A
/-- The cells of an object without anything. -/
abbrev zerC : Array Value := #[.int .i64 0, .string { data := #[] }, .int .u64 0, .int .i64 0, .int .i64 0, .int .i64 0, .slice none 0 0, .slice none 0 0, .slice none 0 0, .int .i64 0, .string { data := #[] }, .string { data := #[] }, .int .i64 0, .int .i64 0, .int .i64 0, .int .i64 0, .slice none 0 0, .slice none 0 0, .slice none 0 0, .int .i64 0, .string { data := #[] }, .int .i64 0, .int .i64 0, .slice none 0 0, .slice none 0 0, .int .i64 0, .bool false, .int .i64 0, .int .i64 0, .int .i64 0, .int .i64 0, .int .i64 0, .slice none 0 0, .slice none 0 0, .int .i64 0, .string { data := #[] }, .int .i64 0, .int .i64 0, .slice none 0 0, .int .i64 0, .int .i64 0, .int .i64 0, .slice none 0 0, .int .i64 0, .int .i64 0, .slice none 0 0, .slice none 0 0]
/-- The reader at 'ro' (in block 'A', or nil) has these bytes left; none: it is bad. -/
def RdM (w : World) (N A : Nat) (ro : Option Addr) (s : Option (List UInt8)) : Prop :=
  (ro = none ∧ s = none ∧ (A = 0 ∨ w.heap[A]? = some (.cells zerC 66 (0, 0)))) ∨ (ro = some ⟨A, 0, none⟩ ∧ N ≤ A ∧ A < w.heap.size ∧ ((s = none ∧ w.heap[A]? = some (.cells #[.slice none 0 0, .bool true] 79 (0, 0))) ∨
    ∃ l q c, s = some l ∧ w.heap[A]? = some (.cells #[.slice q l.length c, .bool false] 79 (0, 0)) ∧ l.length ≤ c ∧ c ≤ 9223372036854775807 ∧ RowR 1 encU w q l ∧ ∀ p, q = some p → N ≤ p.block ∧ p.block ≠ A))

/-- Nothing has turned but the blocks A, C, O and A's bytes. -/
structure Mv (A C O : Nat) (w w' : World) : Prop where
  os : w'.os = w.os
  tape : w'.tape = w.tape
  output : w'.output = w.output
  size : w.heap.size ≤ w'.heap.size
  blk : ∀ b, b < w.heap.size → b ≠ A → b ≠ C → b ≠ O → yb w A ≠ some b → w'.heap[b]? = w.heap[b]?
  core : ∀ b, yb w' A = some b → yb w A = some b ∨ (w.heap.size ≤ b ∧ b < w'.heap.size)
theorem Mv.refl (A C O : Nat) (w : World) : Mv A C O w w := ⟨rfl, rfl, rfl, Nat.le_refl _, fun _ _ _ _ _ _ => rfl, fun _ h => .inl h⟩
theorem Mv.old {A C O : Nat} {w w' : World} (h : Mv A C O w w') {b : Nat} (hb : b < w.heap.size) (e : yb w' A = some b) : yb w A = some b := by
  rcases h.core b e with h | h
  · exact h
  · omega
theorem core_trans {P : Prop} {Q : Prop} {x a b c : Nat} (hab : a ≤ b) (hbc : b ≤ c) (h : Q → P ∨ (a ≤ x ∧ x < b)) (k : Q ∨ (b ≤ x ∧ x < c)) : P ∨ (a ≤ x ∧ x < c) := by
  rcases k with k | k
  · rcases h k with h | h
    · exact .inl h
    · exact .inr (by omega)
  · exact .inr (by omega)
theorem Mv.trans {A C O : Nat} {a b c : World} (h : Mv A C O a b) (k : Mv A C O b c) : Mv A C O a c :=
  ⟨k.os.trans h.os, k.tape.trans h.tape, k.output.trans h.output, Nat.le_trans h.size k.size,
    fun x hx h1 h2 h3 h4 => (k.blk x (Nat.lt_of_lt_of_le hx h.size) h1 h2 h3 (fun e => h4 (h.old hx e))).trans (h.blk x hx h1 h2 h3 h4),
    fun x e => core_trans h.size k.size (h.core x) (k.core x e)⟩
theorem yb_block {w w' : World} {A : Nat} (h : w'.heap[A]? = w.heap[A]?) : yb w' A = yb w A := by
  unfold yb
  rw [World.cell?_of_block (w := w) (w' := w') (a := ⟨A, 0, none⟩) h]
theorem Mv.gr {A C O : Nat} {a b : World} (hA : A < a.heap.size) (h : Gr a b) : Mv A C O a b :=
  ⟨h.below.os, h.below.tape, h.below.output, h.size, fun x hx _ _ _ _ => h.heap hx, fun x e => .inl (by rw [← yb_block (h.heap hA)]; exact e)⟩
theorem Mv.alloc {A C O : Nat} {a b : World} (h : Mv A C O a b) (hA : A < a.heap.size) (o : Obj) : Mv A C O a (b.alloc o) :=
  h.trans (Mv.gr (Nat.lt_of_lt_of_le hA h.size) ((Gr.refl b).alloc o))
theorem Mv.drew {A C O : Nat} {a b : World} (h : Mv A C O a b) (hA : A < a.heap.size) : Mv A C O a b.drew :=
  h.trans (Mv.gr (Nat.lt_of_lt_of_le hA h.size) (Gr.refl b).drew)
/-- A step that turns a block which is new. -/
theorem Mv.fresh {A C O O' : Nat} {a b c : World} (h : Mv A C O a b) (k : Mv A C O' b c) (hO : a.heap.size ≤ O') : Mv A C O a c :=
  ⟨k.os.trans h.os, k.tape.trans h.tape, k.output.trans h.output, Nat.le_trans h.size k.size,
    fun x hx h1 h2 h3 h4 => (k.blk x (Nat.lt_of_lt_of_le hx h.size) h1 h2 (by omega) (fun e => h4 (h.old hx e))).trans (h.blk x hx h1 h2 h3 h4),
    fun x e => core_trans h.size k.size (h.core x) (k.core x e)⟩
/-- A step that turns the core alone. -/
theorem Mv.more {A C O : Nat} {a b : World} (h : Mv A A A a b) : Mv A C O a b :=
  ⟨h.os, h.tape, h.output, h.size, fun x hx h1 _ _ h4 => h.blk x hx h1 h1 h1 h4, h.core⟩
theorem Mv.below {A C O N : Nat} {a b : World} (h : Mv A C O a b) (hN : N ≤ a.heap.size) (hA : N ≤ A) (hC : N ≤ C) (hO : N ≤ O) (hy : ∀ b, yb a A = some b → N ≤ b) : Below N a b :=
  ⟨h.os, h.tape, h.output, h.size, fun k hk => h.blk k (by omega) (by omega) (by omega) (by omega) (fun e => by have := hy k e; omega)⟩

theorem WrM.lt {w : World} {N A : Nat} {bs : List UInt8} (h : WrM w N A bs) : A < w.heap.size := by
  obtain ⟨v, h1, _⟩ := h
  exact (Array.getElem?_eq_some_iff.1 h1).1
theorem WrM.lo {w : World} {N A : Nat} {bs : List UInt8} (h : WrM w N A bs) : N ≤ A := by
  obtain ⟨v, _, h1, _⟩ := h
  exact h1
theorem yb_of {w : World} {A : Nat} {cs : Array Value} {T : TypeId} {fz : Nat × Nat} {v : Value} (h : w.heap[A]? = some (.cells cs T fz)) (h0 : cs[0]? = some v) : yb w A = v.ownBlock := by
  unfold yb
  rw [cell_of_block h, h0]
  rfl
theorem WrM.yb_lo {w : World} {N A : Nat} {bs : List UInt8} (h : WrM w N A bs) : ∀ b, yb w A = some b → N ≤ b ∧ b < w.heap.size ∧ b ≠ A := by
  obtain ⟨v, h1, h2, h3, h4⟩ := h
  intro b hb
  rw [yb_of (v := v) h1 rfl] at hb
  have := World.ownsRow.lt h3 b hb
  exact ⟨this.1, this.2, fun e => h4 (by rw [hb, e])⟩
/-- The writer stays, where its blocks do. -/
theorem WrM.stay {w w' : World} {N A : Nat} {bs : List UInt8} (h : WrM w N A bs) (hA : w'.heap[A]? = w.heap[A]?) (hy : ∀ b, yb w A = some b → w'.heap[b]? = w.heap[b]?) : WrM w' N A bs := by
  obtain ⟨v, h1, h2, h3, h4⟩ := h
  refine ⟨v, hA.trans h1, h2, ⟨h3.1, ?_⟩, h4⟩
  rcases h3.2 with h | ⟨g, cap, cur, rfl, hb, hg, r⟩
  · exact .inl h
  · exact .inr ⟨g, cap, cur, rfl, hb, (hy g (by rw [yb_of (v := .slice (some ⟨g, 0, none⟩) bs.length cap) h1 rfl]; rfl)).trans hg, r⟩
theorem WrM.gr {w w' : World} {N A : Nat} {bs : List UInt8} (h : WrM w N A bs) (k : Gr w w') : WrM w' N A bs :=
  h.stay (k.heap h.lt) (fun b hb => k.heap (h.yb_lo b hb).2.1)

/-- Bytes were appended, and the writer's cell was set. -/
theorem wr_step {wr wa w1 : World} {N A g cap : Nat} {bs news : List UInt8} {v : Value} (h1 : wr.heap[A]? = some (.cells #[v] 27 (0, 0))) (h2 : N ≤ A) (h4 : v.ownBlock ≠ some A) (hv : ∀ k, v.ownBlock = some k → k < wr.heap.size) (hw : Gr wr wa)
    (hown : w1.ownsRow N 5 1 (.slice (some ⟨g, 0, none⟩) (bs ++ news).length cap) (bs ++ news).length (cellsU bs ++ cellsU news)) (hgrow : wa.grownBy w1 v.ownBlock) (hat : v.ownBlock = some g ∨ wr.heap.size ≤ g) :
    WrM (w1.setCell ⟨A, 0, none⟩ (.slice (some ⟨g, 0, none⟩) (bs ++ news).length cap)) N A (bs ++ news) ∧ Mv A A A wr (w1.setCell ⟨A, 0, none⟩ (.slice (some ⟨g, 0, none⟩) (bs ++ news).length cap)) := by
  have hA : A < wr.heap.size := (Array.getElem?_eq_some_iff.1 h1).1
  have hgA : g ≠ A := by
    rcases hat with e | e
    · intro hg
      exact h4 (by rw [e, hg])
    · omega
  have hA1 : w1.heap[A]? = some (.cells #[v] 27 (0, 0)) := by
    rw [hgrow.block A (Nat.lt_of_lt_of_le hA hw.size) (fun e => h4 e.symm), hw.heap hA, h1]
  have hset : (w1.setCell ⟨A, 0, none⟩ (.slice (some ⟨g, 0, none⟩) (bs ++ news).length cap)).heap[A]? = some (.cells #[.slice (some ⟨g, 0, none⟩) (bs ++ news).length cap] 27 (0, 0)) := by
    rw [block_setCell hA1]
    rfl
  have hoth : ∀ k, k ≠ A → (w1.setCell ⟨A, 0, none⟩ (.slice (some ⟨g, 0, none⟩) (bs ++ news).length cap)).heap[k]? = w1.heap[k]? := fun k hk => heap_setCell_other _ _ _ _ hk
  refine ⟨⟨_, hset, h2, ⟨by simp [cellsU], ?_⟩, by simp [Value.ownBlock]; exact hgA⟩, ?_⟩
  · rcases hown.2 with ⟨e, _⟩ | ⟨g', cap', cur, e, hb, hg, hn, hm, hsz, htk⟩
    · simp at e
    · simp only [Value.slice.injEq, Option.some.injEq, Addr.mk.injEq, and_true, true_and] at e
      obtain ⟨rfl, rfl⟩ := e
      refine .inr ⟨g, cap, cur, rfl, hb, (hoth g hgA).trans hg, hn, hm, hsz, ?_⟩
      rw [htk, cellsU_app]
  · have hsz : (w1.setCell ⟨A, 0, none⟩ (.slice (some ⟨g, 0, none⟩) (bs ++ news).length cap)).heap.size = w1.heap.size := by simp [World.setCell]
    refine ⟨?_, ?_, ?_, ?_, ?_, ?_⟩
    · exact (show _ = w1.os from rfl).trans (hgrow.os.trans hw.below.os)
    · exact (show _ = w1.tape from rfl).trans (hgrow.tape.trans hw.below.tape)
    · exact (show _ = w1.output from rfl).trans (hgrow.output.trans hw.below.output)
    · rw [hsz]
      exact Nat.le_trans hw.size hgrow.size
    · intro b hb hbA _ _ hy
      rw [yb_of (v := v) h1 rfl] at hy
      rw [hoth b hbA, hgrow.block b (Nat.lt_of_lt_of_le hb hw.size) (fun e => hy e.symm), hw.heap hb]
    · intro b e
      rw [yb_of (v := .slice (some ⟨g, 0, none⟩) (bs ++ news).length cap) hset rfl] at e
      rw [yb_of (v := v) h1 rfl]
      simp only [Value.ownBlock, Option.some.injEq] at e
      rcases hat with h | h
      · exact .inl (by rw [h, e])
      · refine .inr ⟨by omega, ?_⟩
        rw [hsz, ← e]
        rcases hown.2 with ⟨e, _⟩ | ⟨g', cap', cur, e, _, hg, _⟩
        · simp at e
        · simp only [Value.slice.injEq, Option.some.injEq, Addr.mk.injEq, and_true, true_and] at e
          rw [e.1]
          exact (Array.getElem?_eq_some_iff.1 hg).1

theorem info_u8 : ∃ i : TypeInfo, Try.prog.info? 5 = some i ∧ i.zero = some (.int .u8 0) ∧ i.size = 1 ∧ i.bytes = 1 := by
  have h : (Try.prog.info? 5).map (fun i => (i.zero, i.size, i.bytes)) = some (some (.int .u8 0), 1, 1) := by kernel_rfl
  cases hi : Try.prog.info? 5 with
  | none => rw [hi] at h; cases h
  | some i =>
    rw [hi] at h
    simp only [Option.map_some, Option.some.injEq, Prod.mk.injEq] at h
    exact ⟨i, rfl, h.1, h.2.1, h.2.2⟩

/-- Appending a text to bytes that are owned: where they lie then. -/
theorem run_append_text (w : World) (N : Nat) (ty : TypeId) (g0 cap0 : Nat) (n : Nat) (xs : List Value) (hown : w.ownsRow N 5 1 (.slice (some ⟨g0, 0, none⟩) n cap0) n xs) (s : ByteArray) (hb : n + s.size ≤ 140737488355328) (hN : N ≤ w.heap.size) :
    ∃ g cap w', (Builtin.append_ #[25, 9] ty #[.slice (some ⟨g0, 0, none⟩) n cap0, .string s]).run Try.prog w = .ok (.slice (some ⟨g, 0, none⟩) (n + s.size) cap) w' ∧
      w'.ownsRow N 5 1 (.slice (some ⟨g, 0, none⟩) (n + s.size) cap) (n + s.size) (xs ++ strCells s) ∧ w.grownBy w' (some g0) ∧ (g0 = g ∨ w.heap.size ≤ g) := by
  obtain ⟨i, hi, hz, hs1, hb1⟩ := info_u8
  obtain ⟨v', w', hr, h2, h3, h4⟩ := run_append_own_string (P := Try.prog) w N 25 9 ty 5 i Try.underlying25 Try.underlying9 hi hz hs1 hb1 _ n xs hown s (by unfold maxLen; omega) hb hN
  have hnn : v' ≠ .slice none 0 0 := fun e => by
    have := (h4.1 e).1
    simp at this
  rcases h2.2 with ⟨e, _⟩ | ⟨g, cap, cur, rfl, hbg, hg, hnc, hcm, hsz, htk⟩
  · exact absurd e hnn
  refine ⟨g, cap, w', hr, h2, h3, ?_⟩
  rcases hown.2 with ⟨e, _⟩ | ⟨g1, cap1, cur1, e, hbg1, hg1, hnc1, hcm1, hsz1, htk1⟩
  · simp at e
  simp only [Value.slice.injEq, Option.some.injEq, Addr.mk.injEq, and_true, true_and] at e
  obtain ⟨rfl, rfl⟩ := e
  by_cases hroom : n + s.size ≤ cap0
  · have h5 := run_append_room_string (P := Try.prog) w 25 9 ty 5 i Try.underlying25 Try.underlying9 hi hs1 g0 n cap0 cur1 hg1 s hroom (by omega)
    rw [hr] at h5
    simp only [Result.ok.injEq, Value.slice.injEq, Option.some.injEq, Addr.mk.injEq] at h5
    exact .inl h5.1.1.1.symm
  · have h5 := run_append_grow_string (P := Try.prog) w 25 9 ty 5 i (.int .u8 0) Try.underlying25 Try.underlying9 hi hz ⟨g0, 0, none⟩ n cap0 xs (by rw [hs1]; simpa using hown.1) (hown.cells (g := g0) rfl) s (by omega) (by omega)
      (by rw [hb1]; exact growslice_fits (by omega) (by omega))
    rw [hr] at h5
    simp only [Result.ok.injEq, Value.slice.injEq, Option.some.injEq, Addr.mk.injEq] at h5
    exact .inr (Nat.le_of_eq h5.1.1.1.symm)
theorem wpList_append_text {w : World} {ops : Array Oper} {rest : List Oper} {o : Oper} {a : Act} {Q : Exit → Act → World → Prop} (hgd : o.guard = none) (sl x : Operand)
    (ho : o.op = .call { callee := .builtin .append, args := #[sl, x], argTypes := #[25, 9] })
    (N g0 cap0 n : Nat) (xs : List Value) (hs : a.eval sl = .slice (some ⟨g0, 0, none⟩) n cap0) (hown : w.ownsRow N 5 1 (.slice (some ⟨g0, 0, none⟩) n cap0) n xs) (s : ByteArray) (hx : a.eval x = .string s) (hb : n + s.size ≤ 140737488355328) (hN : N ≤ w.heap.size)
    (h : ∀ g cap w', w'.ownsRow N 5 1 (.slice (some ⟨g, 0, none⟩) (n + s.size) cap) (n + s.size) (xs ++ strCells s) → w.grownBy w' (some g0) → (g0 = g ∨ w.heap.size ≤ g) → wpList Try.prog ops Q rest (a.put o.dst (.slice (some ⟨g, 0, none⟩) (n + s.size) cap)) w') : wpList Try.prog ops Q (o :: rest) a w := by
  refine wpList_plain hgd fun K hK => ?_
  obtain ⟨g, cap, w', hr, h2, h3, h4⟩ := run_append_text w N o.type g0 cap0 n xs hown s hb hN
  unfold Oper.wp execOp
  simp only [ho, resolve, invoke, builtin, Sem.run_bind, Sem.run_pure, Result.andThen_ok, List.map_toArray, List.map_cons, List.map_nil, hs, hx, hr]
  exact hK _ _ (h g cap w' h2 h3 h4)
end Go.Proofs.Ytlajiochpdlhaaa
