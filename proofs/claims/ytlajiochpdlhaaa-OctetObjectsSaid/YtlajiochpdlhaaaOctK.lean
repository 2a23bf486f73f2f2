/- The course: its state, what a step of it is, how its memory goes on. -/
import Derived.Test.YtlajiochpdlhaaaOctG
namespace Go.Proofs.Ytlajiochpdlhaaa
open Go.RowKit Go.Shelf Go.Lib Go.Sort
open Go.Joins (cell_of_block unfrozen_of_block block_setCell)
set_option linter.unusedVariables false

inductive St where
  | wr (lg : Bool) (bs : List UInt8)
  | rd (ro : Option Addr) (s : Sr)

def numT : St → Int → St × Int
  | .wr lg bs, x => (.wr lg (bs ++ num x), x)
  | .rd ro s, _ => (.rd ro (dropS 8 s), intS s)
def numU : St → Nat → St × Nat
  | .wr lg bs, x => (.wr lg (bs ++ le x 8), x)
  | .rd ro s, _ => (.rd ro (dropS 8 s), valU (takeS 8 s))
def txtT : St → ByteArray → St × ByteArray
  | .wr lg bs, s => (.wr (lg || decide (255 < s.size)) (bs ++ txt (cut s)), s)
  | .rd ro s, _ => (.rd ro (textD s), mk (textS s))
def oneT : St → Int → St × Int
  | .wr lg bs, x => (.wr lg (bs ++ le (u64 x) 1), x)
  | .rd ro s, _ => (.rd ro (dropS 1 s), (valU (takeS 1 s) : Int))
def truT : St → Bool → St × Bool
  | .wr lg bs, b => (.wr lg (bs ++ tru b), b)
  | .rd ro s, _ => (.rd ro (if 1 < valU (takeS 1 s) then none else dropS 1 s), valU (takeS 1 s) == 1)

/-- Fields of one sort, one behind the other: where they lie, what they are. -/
def runF {α : Type} (f : St → α → St × α) (m : α → Value) : St → Array Value → List (Nat × α) → St × Array Value
  | st, L, [] => (st, L)
  | st, L, p :: r => runF f m (f st p.2).1 (L.setIfInBounds p.1 (m (f st p.2).2)) r

/-- How long what was written is. -/
def St.len : St → Nat
  | .wr _ bs => bs.length
  | .rd _ _ => 0
theorem numT_len (st : St) (x : Int) : (numT st x).1.len ≤ st.len + 8 := by
  cases st <;> simp [numT, St.len, num_len]
theorem numU_len (st : St) (x : Nat) : (numU st x).1.len ≤ st.len + 8 := by
  cases st <;> simp [numU, St.len, le_len]
theorem txtT_len (st : St) (x : ByteArray) : (txtT st x).1.len ≤ st.len + 256 := by
  cases st
  · simp [txtT, St.len, txt_len, cut_size]
    omega
  · simp [txtT, St.len]
theorem oneT_len (st : St) (x : Int) : (oneT st x).1.len ≤ st.len + 1 := by
  cases st <;> simp [oneT, St.len, le_len]
theorem truT_len (st : St) (x : Bool) : (truT st x).1.len ≤ st.len + 1 := by
  cases st <;> simp [truT, St.len, tru_len]
/-- It is read, not written. -/
def St.isR : St → Bool
  | .wr _ _ => false
  | .rd _ _ => true
theorem numT_isR (st : St) (x : Int) : (numT st x).1.isR = st.isR := by cases st <;> rfl
theorem numU_isR (st : St) (x : Nat) : (numU st x).1.isR = st.isR := by cases st <;> rfl
theorem txtT_isR (st : St) (x : ByteArray) : (txtT st x).1.isR = st.isR := by cases st <;> rfl
theorem oneT_isR (st : St) (x : Int) : (oneT st x).1.isR = st.isR := by cases st <;> rfl
theorem truT_isR (st : St) (x : Bool) : (truT st x).1.isR = st.isR := by cases st <;> rfl

/-- The course at 'C', to the writer or from the reader at 'A'. -/
def CoreSt (N A C : Nat) (st : St) (w : World) : Prop :=
  N ≤ A ∧ N ≤ C ∧ A ≠ C ∧ A < w.heap.size ∧ C < w.heap.size ∧ N ≤ w.heap.size ∧ (∀ b, yb w A = some b → N ≤ b ∧ b ≠ C ∧ b < w.heap.size) ∧
  match st with
  | .wr lg bs => w.heap[C]? = some (.cells #[ptr A, .pointer none, .bool lg] 82 (0, 0)) ∧ WrM w N A bs
  | .rd ro s => w.heap[C]? = some (.cells #[.pointer none, .pointer ro, .bool false] 82 (0, 0)) ∧ RdM w N A ro s
/-- A block that the fields lie in. -/
def Tg (A C O : Nat) (L : Array Value) (T : TypeId) (fz : Nat × Nat) (w : World) : Prop :=
  w.heap[O]? = some (.cells L T fz) ∧ O ≠ A ∧ O ≠ C ∧ yb w A ≠ some O
theorem Tg.lt {A C O : Nat} {L : Array Value} {T : TypeId} {fz : Nat × Nat} {w : World} (h : Tg A C O L T fz w) : O < w.heap.size := (Array.getElem?_eq_some_iff.1 h.1).1

/-- Behind a step: the course, the fields' block, and what has turned. -/
def Pst (N A C O : Nat) (st : St) (L : Array Value) (T : TypeId) (fz : Nat × Nat) (w w' : World) : Prop :=
  CoreSt N A C st w' ∧ Tg A C O L T fz w' ∧ Mv A C O w w'

theorem CoreSt.gr {N A C : Nat} {st : St} {w w' : World} (h : CoreSt N A C st w) (k : Gr w w') : CoreSt N A C st w' := by
  obtain ⟨h1, h2, h3, h4, h5, h6, h7, h8⟩ := h
  have hs := k.size
  refine ⟨h1, h2, h3, by omega, by omega, by omega, fun b hb => (h7 b (by rw [← yb_block (k.heap h4)]; exact hb)).imp id (fun h => ⟨h.1, by omega⟩), ?_⟩
  cases st with
  | wr lg bs => exact ⟨(k.heap h5).trans h8.1, h8.2.gr k⟩
  | rd ro s => exact ⟨(k.heap h5).trans h8.1, h8.2.gr k⟩
theorem Tg.gr {A C O : Nat} {L : Array Value} {T : TypeId} {fz : Nat × Nat} {w w' : World} (h : Tg A C O L T fz w) (hA : A < w.heap.size) (k : Gr w w') : Tg A C O L T fz w' :=
  ⟨(k.heap h.lt).trans h.1, h.2.1, h.2.2.1, by rw [yb_block (k.heap hA)]; exact h.2.2.2⟩
theorem CoreSt.ltA {N A C : Nat} {st : St} {w : World} (h : CoreSt N A C st w) : A < w.heap.size := h.2.2.2.1
theorem CoreSt.ltC {N A C : Nat} {st : St} {w : World} (h : CoreSt N A C st w) : C < w.heap.size := h.2.2.2.2.1
theorem CoreSt.leN {N A C : Nat} {st : St} {w : World} (h : CoreSt N A C st w) : N ≤ w.heap.size := h.2.2.2.2.2.1
theorem Pst.start {N A C O : Nat} {st : St} {L : Array Value} {T : TypeId} {fz : Nat × Nat} {w : World} (h : CoreSt N A C st w) (t : Tg A C O L T fz w) : Pst N A C O st L T fz w w := ⟨h, t, Mv.refl _ _ _ _⟩
theorem Pst.trans {N A C O : Nat} {st st' : St} {L L' : Array Value} {T : TypeId} {fz : Nat × Nat} {w w1 w2 : World} (h : Pst N A C O st L T fz w w1) (k : Pst N A C O st' L' T fz w1 w2) : Pst N A C O st' L' T fz w w2 := ⟨k.1, k.2.1, h.2.2.trans k.2.2⟩
theorem Pst.gr0 {N A C O : Nat} {st : St} {L : Array Value} {T : TypeId} {fz : Nat × Nat} {w w1 w2 : World} (hA : A < w.heap.size) (g : Gr w w1) (k : Pst N A C O st L T fz w1 w2) : Pst N A C O st L T fz w w2 := ⟨k.1, k.2.1, (Mv.gr hA g).trans k.2.2⟩
theorem Pst.gr1 {N A C O : Nat} {st : St} {L : Array Value} {T : TypeId} {fz : Nat × Nat} {w w1 w2 : World} (k : Pst N A C O st L T fz w w1) (g : Gr w1 w2) : Pst N A C O st L T fz w w2 :=
  ⟨k.1.gr g, k.2.1.gr k.1.ltA g, k.2.2.trans (Mv.gr k.1.ltA g)⟩

/-- A writer's step. -/
theorem core_wr {N A C : Nat} {lg : Bool} {bs bs' : List UInt8} {w w' : World} (h : CoreSt N A C (.wr lg bs) w) (hw : WrM w' N A bs') (hm : Mv A A A w w') : CoreSt N A C (.wr lg bs') w' := by
  obtain ⟨h1, h2, h3, h4, h5, h6, h7, h8, h9⟩ := h
  have hs := hm.size
  refine ⟨h1, h2, h3, by omega, by omega, by omega, fun b hb => ?_, ?_, hw⟩
  · rcases hm.core b hb with h | h
    · have := h7 b h
      exact ⟨this.1, this.2.1, by omega⟩
    · exact ⟨by omega, by omega, by omega⟩
  · rw [hm.blk C h5 (Ne.symm h3) (Ne.symm h3) (Ne.symm h3) (fun e => (h7 C e).2.1 rfl)]
    exact h8
theorem core_rd {N A C : Nat} {ro : Option Addr} {s s' : Sr} {w w' : World} (h : CoreSt N A C (.rd ro s) w) (hw : RdM w' N A ro s') (hm : Mv A A A w w') : CoreSt N A C (.rd ro s') w' := by
  obtain ⟨h1, h2, h3, h4, h5, h6, h7, h8, h9⟩ := h
  have hs := hm.size
  refine ⟨h1, h2, h3, by omega, by omega, by omega, fun b hb => ?_, ?_, hw⟩
  · rcases hm.core b hb with h | h
    · have := h7 b h
      exact ⟨this.1, this.2.1, by omega⟩
    · exact ⟨by omega, by omega, by omega⟩
  · rw [hm.blk C h5 (Ne.symm h3) (Ne.symm h3) (Ne.symm h3) (fun e => (h7 C e).2.1 rfl)]
    exact h8
theorem tg_mv {A C C' O O' : Nat} {L : Array Value} {T : TypeId} {fz : Nat × Nat} {w w' : World} (t : Tg A C O L T fz w) (hm : Mv A C' O' w w') (h1 : O ≠ C') (h2 : O ≠ O') : Tg A C O L T fz w' :=
  ⟨by rw [hm.blk O t.lt t.2.1 h1 h2 t.2.2.2]; exact t.1, t.2.1, t.2.2.1, fun e => t.2.2.2 (hm.old t.lt e)⟩
theorem Pst.wr {N A C O : Nat} {lg : Bool} {bs bs' : List UInt8} {L : Array Value} {T : TypeId} {fz : Nat × Nat} {w w1 w2 : World} (h : Pst N A C O (.wr lg bs) L T fz w w1) (hw : WrM w2 N A bs') (hm : Mv A A A w1 w2) : Pst N A C O (.wr lg bs') L T fz w w2 :=
  ⟨core_wr h.1 hw hm, tg_mv h.2.1 hm h.2.1.2.1 h.2.1.2.1, h.2.2.trans hm.more⟩
theorem Pst.rd {N A C O : Nat} {ro : Option Addr} {s s' : Sr} {L : Array Value} {T : TypeId} {fz : Nat × Nat} {w w1 w2 : World} (h : Pst N A C O (.rd ro s) L T fz w w1) (hw : RdM w2 N A ro s') (hm : Mv A A A w1 w2) : Pst N A C O (.rd ro s') L T fz w w2 :=
  ⟨core_rd h.1 hw hm, tg_mv h.2.1 hm h.2.1.2.1 h.2.1.2.1, h.2.2.trans hm.more⟩
/-- A field is set. -/
theorem Pst.set {N A C O i : Nat} {st : St} {L : Array Value} {T : TypeId} {fz : Nat × Nat} {w w1 : World} (h : Pst N A C O st L T fz w w1) (v : Value) : Pst N A C O st (L.setIfInBounds i v) T fz w (w1.setCell ⟨O, i, none⟩ v) := by
  obtain ⟨⟨h1, h2, h3, h4, h5, h6, h7, h8⟩, t, m⟩ := h
  have hout : ∀ k, k ≠ O → (w1.setCell ⟨O, i, none⟩ v).heap[k]? = w1.heap[k]? := fun k hk => heap_setCell_other _ _ _ _ hk
  have hsz : (w1.setCell ⟨O, i, none⟩ v).heap.size = w1.heap.size := by simp [World.setCell]
  have hy : yb (w1.setCell ⟨O, i, none⟩ v) A = yb w1 A := yb_block (hout A (Ne.symm t.2.1))
  refine ⟨⟨h1, h2, h3, by rw [hsz]; exact h4, by rw [hsz]; exact h5, by rw [hsz]; exact h6, by rw [hy, hsz]; exact h7, ?_⟩, ⟨block_setCell t.1 v, t.2.1, t.2.2.1, by rw [hy]; exact t.2.2.2⟩, m.trans ⟨rfl, rfl, rfl, by rw [hsz]; exact Nat.le_refl _, fun b _ _ _ hb _ => hout b hb, fun b e => .inl (by rw [← hy]; exact e)⟩⟩
  cases st with
  | wr lg bs => exact ⟨(hout C (Ne.symm t.2.2.1)).trans h8.1, h8.2.stay (hout A (Ne.symm t.2.1)) (fun b hb => hout b (fun e => t.2.2.2 (by rw [← e]; exact hb)))⟩
  | rd ro s => exact ⟨(hout C (Ne.symm t.2.2.1)).trans h8.1, h8.2.stay (by rw [hsz]; exact Nat.le_refl _) (fun _ => hout A (Ne.symm t.2.1)) (fun b _ hb => hout b (fun e => t.2.2.2 (by rw [← e]; exact hb)))⟩
/-- Too long: the course's mark is set. -/
theorem Pst.long {N A C O : Nat} {lg lg' : Bool} {bs : List UInt8} {L : Array Value} {T : TypeId} {fz : Nat × Nat} {w w1 : World} (h : Pst N A C O (.wr lg bs) L T fz w w1) : Pst N A C O (.wr lg' bs) L T fz w (w1.setCell ⟨C, 2, none⟩ (.bool lg')) := by
  obtain ⟨⟨h1, h2, h3, h4, h5, h6, h7, h8, h9⟩, t, m⟩ := h
  have hout : ∀ k, k ≠ C → (w1.setCell ⟨C, 2, none⟩ (.bool lg')).heap[k]? = w1.heap[k]? := fun k hk => heap_setCell_other _ _ _ _ hk
  have hsz : (w1.setCell ⟨C, 2, none⟩ (.bool lg')).heap.size = w1.heap.size := by simp [World.setCell]
  have hy : yb (w1.setCell ⟨C, 2, none⟩ (.bool lg')) A = yb w1 A := yb_block (hout A h3)
  exact ⟨⟨h1, h2, h3, by rw [hsz]; exact h4, by rw [hsz]; exact h5, by rw [hsz]; exact h6, by rw [hy, hsz]; exact h7, block_setCell h8 _, h9.stay (hout A h3) (fun b hb => hout b (h7 b hb).2.1)⟩,
    ⟨(hout O t.2.2.1).trans t.1, t.2.1, t.2.2.1, by rw [hy]; exact t.2.2.2⟩, m.trans ⟨rfl, rfl, rfl, by rw [hsz]; exact Nat.le_refl _, fun b _ _ hb _ _ => hout b hb, fun b e => .inl (by rw [← hy]; exact e)⟩⟩
end Go.Proofs.Ytlajiochpdlhaaa
