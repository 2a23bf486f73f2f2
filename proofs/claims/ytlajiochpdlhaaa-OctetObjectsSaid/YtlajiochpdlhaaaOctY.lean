/- Rows through the course: what they are, how their memory goes on. -/
import Derived.Test.YtlajiochpdlhaaaOctX
import Derived.Maps.AppendAt
namespace Go.Proofs.Ytlajiochpdlhaaa
open Go.RowKit Go.Shelf Go.Lib Go.Sort
open Go.Joins (cell_of_block unfrozen_of_block block_setCell)
set_option linter.unusedVariables false

def foldW {α : Type} (tr : St → α → St × α) : St → List α → St
  | st, [] => st
  | st, x :: r => foldW tr (tr st x).1 r
def St.dead : St → Bool
  | .wr _ _ => false
  | .rd _ s => s.isNone
def rdRow {α : Type} (tr : St → α → St × α) (z : α) : Nat → St → List α → St × List α
  | 0, st, acc => (st, acc)
  | n + 1, st, acc => if (tr st z).1.dead = true then ((tr st z).1, acc) else rdRow tr z n (tr st z).1 (acc ++ [(tr st z).2])
def rowT {α : Type} (tr : St → α → St × α) (z : α) : St → List α → St × List α
  | .wr lg bs, l => if 255 < l.length then (.wr true bs, l) else (foldW tr (.wr lg (bs ++ le l.length 1)) l, l)
  | .rd ro s, _ => rdRow tr z (valU (takeS 1 s)) (.rd ro (dropS 1 s)) []
/-- What a function on one thing keeps. -/
structure Fine {α : Type} (tr : St → α → St × α) : Prop where
  len : ∀ st x, (tr st x).1.len ≤ st.len + 1024
  isR : ∀ st x, (tr st x).1.isR = st.isR
  same : ∀ lg bs x, (tr (.wr lg bs) x).2 = x
  rd : ∀ ro s x, ∃ s', (tr (.rd ro s) x).1 = .rd ro s'
theorem foldW_drop {α : Type} {tr : St → α → St × α} {st : St} {l : List α} {j : Nat} {x : α} (h : l[j]? = some x) : foldW tr st (l.drop j) = foldW tr (tr st x).1 (l.drop (j + 1)) := by
  obtain ⟨hj, rfl⟩ := List.getElem?_eq_some_iff.1 h
  rw [List.drop_eq_getElem_cons hj, foldW]
theorem foldW_len {α : Type} {tr : St → α → St × α} (ht : Fine tr) : ∀ (l : List α) (st : St), (foldW tr st l).len ≤ st.len + 1024 * l.length
  | [], st => by simp [foldW]
  | x :: r, st => by
    rw [foldW, List.length_cons]
    have h1 := foldW_len ht r (tr st x).1
    have h2 := ht.len st x
    omega
theorem foldW_isR {α : Type} {tr : St → α → St × α} (ht : Fine tr) : ∀ (l : List α) (st : St), (foldW tr st l).isR = st.isR
  | [], st => rfl
  | x :: r, st => by rw [foldW, foldW_isR ht r]; exact ht.isR st x
theorem rdRow_rd {α : Type} {tr : St → α → St × α} (ht : Fine tr) (z : α) (ro : Option Addr) : ∀ (n : Nat) (s : Sr) (acc : List α), ∃ s', (rdRow tr z n (.rd ro s) acc).1 = .rd ro s'
  | 0, s, acc => ⟨s, rfl⟩
  | n + 1, s, acc => by
    obtain ⟨s1, h1⟩ := ht.rd ro s z
    rw [rdRow, h1]
    split
    · exact ⟨s1, rfl⟩
    · exact rdRow_rd ht z ro n s1 _
theorem rowT_isR {α : Type} {tr : St → α → St × α} (ht : Fine tr) (z : α) (st : St) (l : List α) : (rowT tr z st l).1.isR = st.isR := by
  cases st with
  | wr lg bs =>
    unfold rowT
    dsimp only
    split
    · rfl
    · exact foldW_isR ht l _
  | rd ro s =>
    obtain ⟨s', h⟩ := rdRow_rd ht z ro (valU (takeS 1 s)) (dropS 1 s) []
    show (rdRow tr z _ _ _).1.isR = _
    rw [h]
    rfl
theorem rowT_len {α : Type} {tr : St → α → St × α} (ht : Fine tr) (z : α) (st : St) (l : List α) : (rowT tr z st l).1.len ≤ st.len + 262144 := by
  cases st with
  | wr lg bs =>
    unfold rowT
    dsimp only
    split
    · simp [St.len]
    · have := foldW_len ht l (.wr lg (bs ++ le l.length 1))
      simp only [St.len, List.length_append, le_len] at this ⊢
      omega
  | rd ro s =>
    obtain ⟨s', h⟩ := rdRow_rd ht z ro (valU (takeS 1 s)) (dropS 1 s) []
    show (rdRow tr z _ _ _).1.len ≤ _
    rw [h]
    simp [St.len]

/-- The slice at 'q' reads as the row 'l', apart from the course and the fields' block. -/
def RowAt {α : Type} (A C O k : Nat) (enc : α → List Value) (w : World) (q : Option Addr) (l : List α) : Prop :=
  ∀ (j : Nat) (x : α), l[j]? = some x → ∃ b off, q = some ⟨b, off, none⟩ ∧ b < w.heap.size ∧ b ≠ A ∧ (b ≠ C ∧ b + 2 ≠ C) ∧ b ≠ O ∧ yb w A ≠ some b ∧ ∀ (t : Nat) (v : Value), (enc x)[t]? = some v → w.cell? ⟨b, off + j * k + t, none⟩ = some v
theorem RowAt.nil {α : Type} (A C O k : Nat) (enc : α → List Value) (w : World) (q : Option Addr) : RowAt A C O k enc w q [] := fun j x hj => by simp at hj
theorem RowAt.mv {α : Type} {A C O k : Nat} {enc : α → List Value} {w w' : World} {q : Option Addr} {l : List α} (h : RowAt A C O k enc w q l) (m : Mv A C O w w') : RowAt A C O k enc w' q l := by
  intro j x hj
  obtain ⟨b, off, e, hb, h1, h2, h3, h4, hc⟩ := h j x hj
  exact ⟨b, off, e, Nat.lt_of_lt_of_le hb m.size, h1, h2, h3, fun e => h4 (m.old hb e), fun t v hv => (World.cell?_of_block (a := ⟨b, off + j * k + t, none⟩) (m.blk b hb h1 h2.1 h3 h4)).trans (hc t v hv)⟩
theorem RowAt.row {α : Type} {A C O k : Nat} {enc : α → List Value} {w : World} {q : Option Addr} {l : List α} (h : RowAt A C O k enc w q l) : RowR k enc w q l := by
  intro j x hj
  obtain ⟨b, off, e, hb, _, _, _, _, hc⟩ := h j x hj
  exact ⟨b, off, e, hb, hc⟩

theorem block_of_cell {w : World} {b o : Nat} {v : Value} (h : w.cell? ⟨b, o, none⟩ = some v) : ∃ L T fz, w.heap[b]? = some (.cells L T fz) := by
  unfold World.cell? at h
  split at h
  · rename_i c t f hb
    exact ⟨c, t, f, hb⟩
  · cases h
theorem setAt_same : ∀ (vs : List Value) (L : Array Value) (i : Nat), (∀ t v, vs[t]? = some v → L[i + t]? = some v) → setAt L i vs = L
  | [], L, i, h => rfl
  | v :: r, L, i, h => by
    have h0 := h 0 v rfl
    rw [setAt, set_same (by simpa using h0)]
    exact setAt_same r L (i + 1) (fun t u hu => by
      have := h (t + 1) u (by simpa using hu)
      rw [show i + 1 + t = i + (t + 1) by omega]
      exact this)
/-- A step whose block is as it was behind it. -/
theorem Mv.same {A C O O' : Nat} {w w' : World} (h : Mv A C O' w w') (e : w'.heap[O']? = w.heap[O']?) : Mv A C O w w' :=
  ⟨h.os, h.tape, h.output, h.size, fun b hb h1 h2 _ h4 => by
    by_cases hO : b = O'
    · rw [hO]; exact e
    · exact h.blk b hb h1 h2 hO h4, h.core⟩
/-- One thing of a row that is written: the fields' block stays. -/
theorem Pst.item {N A C O b : Nat} {st st' : St} {L Lb : Array Value} {T Tb : TypeId} {fz fzb : Nat × Nat} {w w1 w2 : World} (h : Pst N A C O st L T fz w w1) (hb : w1.heap[b]? = some (.cells Lb Tb fzb)) (k : Pst N A C b st' Lb Tb fzb w1 w2) (hne : O ≠ b) : Pst N A C O st' L T fz w w2 :=
  ⟨k.1, tg_mv h.2.1 k.2.2 h.2.1.2.2.1 hne, h.2.2.trans (k.2.2.same (k.2.1.1.trans hb.symm))⟩
/-- A row of the call's own, behind an append, and the fields' block. -/
theorem Pst.grown {N A C O : Nat} {st : St} {L : Array Value} {T : TypeId} {fz : Nat × Nat} {w w1 w2 : World} {r : Option Nat} (h : Pst N A C O st L T fz w w1) (g : w1.grownBy w2 r) (hr : ∀ b, r = some b → w.heap.size ≤ b ∧ b ≠ A ∧ b ≠ C ∧ b ≠ O ∧ yb w1 A ≠ some b) : Pst N A C O st L T fz w w2 := by
  obtain ⟨⟨h1, h2, h3, h4, h5, h6, h7, h8⟩, t, m⟩ := h
  have hs := g.size
  have keep : ∀ b, b < w1.heap.size → (b = A ∨ b = C ∨ b = O ∨ yb w1 A = some b) → w2.heap[b]? = w1.heap[b]? := fun b hb hh => g.block b hb (fun e => by
    obtain ⟨q1, q2, q3, q4, q5⟩ := hr b e.symm
    rcases hh with hh | hh | hh | hh
    · exact q2 hh
    · exact q3 hh
    · exact q4 hh
    · exact q5 hh)
  have hA := keep A h4 (.inl rfl)
  have hy : yb w2 A = yb w1 A := yb_block hA
  refine ⟨⟨h1, h2, h3, by omega, by omega, by omega, fun b hb => ?_, ?_⟩, ⟨(keep O t.lt (.inr (.inr (.inl rfl)))).trans t.1, t.2.1, t.2.2.1, by rw [hy]; exact t.2.2.2⟩, ?_⟩
  · rw [hy] at hb
    have := h7 b hb
    exact ⟨this.1, this.2.1, by omega⟩
  · cases st with
    | wr lg bs => exact ⟨(keep C h5 (.inr (.inl rfl))).trans h8.1, h8.2.stay hA (fun b hb => keep b (h7 b hb).2.2 (.inr (.inr (.inr hb))))⟩
    | rd ro s => exact ⟨(keep C h5 (.inr (.inl rfl))).trans h8.1, h8.2.stay hs (fun _ => hA) (fun b hb hb2 => keep b hb (.inr (.inr (.inr hb2))))⟩
  · refine ⟨g.os.trans m.os, g.tape.trans m.tape, g.output.trans m.output, Nat.le_trans m.size hs, fun b hb q1 q2 q3 q4 => ?_, fun b e => ?_⟩
    · rw [g.block b (Nat.lt_of_lt_of_le hb m.size) (fun e => by have := (hr b e.symm).1; omega)]
      exact m.blk b hb q1 q2 q3 q4
    · rw [hy] at e
      rcases m.core b e with h | h
      · exact .inl h
      · exact .inr ⟨h.1, by omega⟩
/-- An owned row reads. -/
theorem own_row {α : Type} {A C O k : Nat} {enc : α → List Value} {w : World} {base : Nat} {T : TypeId} {v : Value} {l : List α} (hk : ∀ x, (enc x).length = k) (h : w.ownsRow base T k v l.length (l.flatMap enc)) (hs : ∀ g, v.ownBlock = some g → g ≠ A ∧ (g ≠ C ∧ g + 2 ≠ C) ∧ g ≠ O ∧ yb w A ≠ some g) :
    ∃ q c, v = .slice q l.length c ∧ RowAt A C O k enc w q l := by
  obtain ⟨h0, h⟩ := h
  rcases h with ⟨rfl, h1⟩ | ⟨g, c, cur, rfl, hb, hg, hc, hm, hsz, htk⟩
  · have : l = [] := List.eq_nil_of_length_eq_zero h1
    subst this
    exact ⟨none, 0, rfl, RowAt.nil _ _ _ _ _ _ _⟩
  · refine ⟨_, c, rfl, fun j x hx => ?_⟩
    obtain ⟨s1, s2, s3, s4⟩ := hs g rfl
    refine ⟨g, 0, rfl, (Array.getElem?_eq_some_iff.1 hg).1, s1, s2, s3, s4, fun t v hv => ?_⟩
    have hjl := (List.getElem?_eq_some_iff.1 hx).1
    have htl : t < k := by rw [← hk x]; exact (List.getElem?_eq_some_iff.1 hv).1
    have hat : ∀ (l : List α) (j : Nat), l[j]? = some x → (l.flatMap enc)[j * k + t]? = some v := by
      intro l
      induction l with
      | nil => intro j h; simp at h
      | cons y r ih =>
        intro j h
        rw [List.flatMap_cons]
        cases j with
        | zero =>
          simp at h
          subst h
          rw [Nat.zero_mul, Nat.zero_add, List.getElem?_append_left (by rw [hk]; exact htl)]
          exact hv
        | succ j =>
          have e : (j + 1) * k + t = (enc y).length + (j * k + t) := by rw [hk, Nat.add_mul]; omega
          rw [e, List.getElem?_append_right (by omega), Nat.add_sub_cancel_left]
          exact ih j (by simpa using h)
    have h2 : (cur.toList.take (l.length * k))[j * k + t]? = some v := by rw [htk]; exact hat l j hx
    have hlt : j * k + t < l.length * k := by
      have : (j + 1) * k ≤ l.length * k := Nat.mul_le_mul_right k hjl
      rw [Nat.add_mul] at this
      omega
    rw [List.getElem?_take_of_lt hlt] at h2
    rw [Nat.zero_add, cell_of_block hg, ← Array.getElem?_toList]
    exact h2
end Go.Proofs.Ytlajiochpdlhaaa
