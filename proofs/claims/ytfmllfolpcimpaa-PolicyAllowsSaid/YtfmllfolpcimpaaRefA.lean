/- What the small functions on digits answer: 'at', 'trim', 'Of'. -/
import Derived.Test.YtfmllfolpcimpaaMem
namespace Go.Proofs.Ytfmllfolpcimpaa
open Go.RowKit
set_option linter.unusedVariables false

theorem ret_u8 {a b : Int} (h : a = b) : Ending.returned (.int .u8 a) = .returned (.int .u8 b) := by rw [h]
def lenOf : Value → Nat
  | .slice _ n _ => n
  | _ => 0
def TrimRet (w : World) (ad : Addr) (c : Nat) (l : List Nat) (e : Ending) (w' : World) : Prop :=
  ∃ k, k ≤ l.length ∧ e = .returned (.slice (some ad) k c) ∧ val (l.take k) = val l ∧ Tight (l.take k) ∧ w = w'
/-! ### 'Of' -/
def OfRel (w : World) (x X : Nat) (v : Value) (wr : World) (l : List Nat) : Prop :=
  X = x / 2 ^ l.length ∧ Bin l ∧ val l = x % 2 ^ l.length ∧ (0 < l.length → 0 < x / 2 ^ (l.length - 1)) ∧ Own wr w.heap.size v l ∧ Below w.heap.size w wr
theorem of_len {x k : Nat} (hx : x < 18446744073709551616) (h : 0 < x / 2 ^ k) : k < 64 := by
  rcases Nat.lt_or_ge k 64 with g | g
  · exact g
  · have h2 : 2 ^ 64 ≤ 2 ^ k := Nat.pow_le_pow_right (by decide) g
    rw [Nat.div_eq_of_lt (by omega)] at h
    omega
theorem of_round {w wr w1 : World} {x X : Nat} {v v' : Value} {l : List Nat} {o : Obj} (h : OfRel w x X v wr l) (hX : 0 < X) (hO : Own w1 w.heap.size v' (l ++ [X % 2])) (hg : (wr.alloc o).grownBy w1 v.ownBlock) :
    OfRel w x (X / 2) v' w1 (l ++ [X % 2]) := by
  obtain ⟨h1, h2, h3, h4, h5, h6⟩ := h
  refine ⟨?_, h2.append (Bin.one (Nat.mod_lt _ (by decide))), ?_, ?_, hO, ?_⟩
  · rw [List.length_append, List.length_singleton, Nat.pow_succ, ← Nat.div_div_eq_div_mul, ← h1]
  · rw [val_snoc, h3, List.length_append, List.length_singleton, mod_step, bit, ← h1]
  · intro _
    rw [List.length_append, List.length_singleton, Nat.add_sub_cancel, ← h1]
    exact hX
  · refine (h6.alloc h6.size o).grown hg ?_ ?_
    · have := h6.size; simp; omega
    · intro k hk
      exact (h5.lt k hk).1
theorem of_end {w wr : World} {x : Nat} {v : Value} {l : List Nat} (h : OfRel w x 0 v wr l) : RetOwn w x (.returned v) wr := by
  obtain ⟨h1, h2, h3, h4, h5, h6⟩ := h
  have hp := pow_pos2 l.length
  have hx : x < 2 ^ l.length := by
    rcases Nat.lt_or_ge x (2 ^ l.length) with g | g
    · exact g
    · have := Nat.div_pos g hp; omega
  rw [Nat.mod_eq_of_lt hx] at h3
  refine ⟨v, l, rfl, h5, h2, ?_, h3, h6⟩
  intro k hk
  rw [h3] at hk
  rcases Nat.lt_or_ge k l.length with g | g
  · have g4 := h4 (by omega)
    rw [Nat.div_eq_of_lt (Nat.lt_of_lt_of_le hk (Nat.pow_le_pow_right (by decide) (by omega)))] at g4
    omega
  · exact g
end Go.Proofs.Ytfmllfolpcimpaa
