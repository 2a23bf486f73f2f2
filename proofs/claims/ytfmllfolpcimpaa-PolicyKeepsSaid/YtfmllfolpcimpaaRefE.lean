/- What 'Div' answers: quotient and rest as digits. -/
import Derived.Test.YtfmllfolpcimpaaRefD
namespace Go.Proofs.Ytfmllfolpcimpaa
open Go.RowKit
set_option linter.unusedVariables false

theorem made_zeros (n : Nat) : (madeCells (Value.int .u8 0).cells (n * 1)).toList = digs (List.replicate n 0) := by
  have e : (Value.int .u8 0).cells = #[.int .u8 0] := rfl
  rw [e, Nat.mul_one]
  apply List.ext_getElem
  · simp [madeCells, digs]
  · intro i h1 h2
    simp [madeCells, digs, Nat.mod_one]

def DivRet (w : World) (a d : Nat) (e : Ending) (w' : World) : Prop :=
  ∃ q r, e = .returned (.tuple #[q, r]) ∧ Num w' w.heap.size q (a / d) ∧ Num w' w.heap.size r (a % d) ∧ Below w.heap.size w w'
def DivRel (w : World) (n a d j : Nat) (v : Value) (wr : World) : Prop :=
  ∃ qs, (List.replicate j 0 ++ qs).length = n ∧ Bin qs ∧ val qs = a / 2 ^ j / d ∧
    wr.ownsRow w.heap.size 5 1 (.slice (some ⟨w.heap.size, 0, none⟩) n n) n (digs (List.replicate j 0 ++ qs)) ∧ Num wr (w.heap.size + 1) v (a / 2 ^ j % d) ∧ Below w.heap.size w wr ∧ w.heap.size < wr.heap.size

theorem replicate_snoc (j : Nat) (l : List Nat) : List.replicate (j + 1) 0 ++ l = List.replicate j 0 ++ (0 :: l) := by
  rw [List.replicate_succ', List.append_assoc]; rfl
theorem set_zero (j b : Nat) (l : List Nat) : (digs (List.replicate j 0 ++ (0 :: l))).set j (.int .u8 (b : Int)) = digs (List.replicate j 0 ++ (b :: l)) := by
  simp [digs]

theorem Row.setCell {w : World} {base : Nat} {v : Value} {l : List Nat} (h : Row w base v l) {p : Addr} (hp : p.block < base) (u : Value) : Row (w.setCell p u) base v l := by
  obtain ⟨ad, c, rfl, hc, h1, h2, h3⟩ := h
  refine ⟨ad, c, rfl, hc, h1, by simpa [World.setCell] using h2, h3.keep fun q hq => World.cell?_setCell_other w p q u (fun e => by subst e; omega)⟩
theorem Num.setCell {w : World} {base : Nat} {v : Value} {n : Nat} (h : Num w base v n) {p : Addr} (hp : p.block < base) (u : Value) : Num (w.setCell p u) base v n := by
  obtain ⟨l, h1, h2⟩ := h
  exact ⟨l, h1.setCell hp u, h2⟩

theorem ownsRow_below {w w' : World} {base e n : Nat} {v : Value} {xs : List Value} (h : w.ownsRow base e 1 v n xs) (hb : Below w.heap.size w w') : w'.ownsRow base e 1 v n xs :=
  h.kept (row := none) ⟨hb.os, hb.tape, hb.output, hb.size, fun i hi _ => hb.block i hi⟩ (by cases hv : v.ownBlock <;> simp)

/-- A round in which the rest stays below the divisor. -/
theorem div_keep {w wr w1 : World} {n a d j : Nat} {v v1 : Value} (hd : 0 < d) (h : DivRel w n a d (j + 1) v wr) (hb : Below wr.heap.size wr w1) (h1 : Num w1 wr.heap.size v1 (bit a j + 2 * (a / 2 ^ (j + 1) % d)))
    (hlt : bit a j + 2 * (a / 2 ^ (j + 1) % d) < d) : DivRel w n a d j v1 w1 := by
  obtain ⟨qs, h2, h3, h4, h5, h6, h7, h8⟩ := h
  obtain ⟨e1, e2⟩ := div_round_lt (k := j) hd (by omega : 2 * (a / 2 ^ (j + 1) % d) + bit a j < d)
  refine ⟨0 :: qs, by rw [← replicate_snoc]; exact h2, h3.cons (by decide), by rw [val_cons, h4, e1]; omega, by rw [← replicate_snoc]; exact ownsRow_below h5 hb, ?_, h7.trans (hb.mono (by omega)), by have := hb.size; omega⟩
  rw [e2, Nat.add_comm (2 * _) (bit a j)]
  exact h1.more (base' := w.heap.size + 1) (by omega)
/-- A round in which the divisor goes into it once. -/
theorem div_take {w wr w2 : World} {n a d j : Nat} {v v2 : Value} (hd : 0 < d) (h : DivRel w n a d (j + 1) v wr) (hb : Below wr.heap.size wr w2) (h2 : Num w2 wr.heap.size v2 (bit a j + 2 * (a / 2 ^ (j + 1) % d) - d))
    (hge : d ≤ bit a j + 2 * (a / 2 ^ (j + 1) % d)) : DivRel w n a d j v2 (w2.setCell ⟨w.heap.size, j, none⟩ (.int .u8 1)) := by
  obtain ⟨qs, h2', h3, h4, h5, h6, h7, h8⟩ := h
  obtain ⟨e1, e2⟩ := div_round_ge (k := j) hd (by omega : d ≤ 2 * (a / 2 ^ (j + 1) % d) + bit a j)
  have hown := ownsRow_below h5 hb
  rw [replicate_snoc] at hown h2'
  have hst := (hown.stored j (.int .u8 1)).1
  have e := set_zero j 1 qs
  rw [show (Value.int .u8 1 : Value) = .int .u8 ((1 : Nat) : Int) from rfl, e] at hst
  refine ⟨1 :: qs, by simpa using h2', h3.cons (by decide), by rw [val_cons, h4, e1]; omega, hst, ?_, (h7.trans (hb.mono (by omega))).setCell (Nat.le_refl _) _, by have := hb.size; simp [World.setCell]; omega⟩
  rw [e2, show 2 * (a / 2 ^ (j + 1) % d) + bit a j - d = bit a j + 2 * (a / 2 ^ (j + 1) % d) - d by omega]
  exact (h2.more (base' := w.heap.size + 1) (by omega)).setCell (Nat.lt_succ_self w.heap.size) _



end Go.Proofs.Ytfmllfolpcimpaa
