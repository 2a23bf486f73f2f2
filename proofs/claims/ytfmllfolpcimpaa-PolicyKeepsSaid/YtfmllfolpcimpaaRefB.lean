/- What 'Add' and 'sub' answer: sums and differences of numbers as digits. -/
import Derived.Test.YtfmllfolpcimpaaRefA
namespace Go.Proofs.Ytfmllfolpcimpaa
open Go.RowKit
set_option linter.unusedVariables false

def AddRel (w : World) (a b k c : Nat) (v : Value) (wr : World) (l : List Nat) : Prop :=
  c ≤ 1 ∧ Bin l ∧ Hid (val l + c * 2 ^ l.length = a % 2 ^ l.length + b % 2 ^ l.length) ∧ l.length ≤ k + 1 ∧ (k < l.length → c = 0) ∧ Own wr w.heap.size v l ∧ Below w.heap.size w wr
theorem add_rel_round {w wr w1 : World} {a b k c : Nat} {v v' : Value} {l : List Nat} {o : Obj} (ha : a < 2 ^ k) (hb : b < 2 ^ k) (h : AddRel w a b k c v wr l) (hgo : l.length < k ∨ c = 1)
    (hO : Own w1 w.heap.size v' (l ++ [(bit a l.length + bit b l.length + c) % 2])) (hg : (wr.alloc o).grownBy w1 v.ownBlock) :
    AddRel w a b k ((bit a l.length + bit b l.length + c) / 2) v' w1 (l ++ [(bit a l.length + bit b l.length + c) % 2]) ∧
    2 * (k - (l.length + 1)) + (bit a l.length + bit b l.length + c) / 2 < 2 * (k - l.length) + c := by
  obtain ⟨h1, h2, h3, h4, h5, h6, h7⟩ := h
  have ba := bit_le a l.length
  have bb := bit_le b l.length
  have hk : l.length ≤ k := by
    rcases hgo with g | g
    · omega
    · rcases Nat.lt_or_ge k l.length with g' | g'
      · have := h5 g'; omega
      · exact g'
  have hz : l.length = k → bit a l.length = 0 ∧ bit b l.length = 0 := fun e => ⟨bit_zero ha (by omega), bit_zero hb (by omega)⟩
  refine ⟨⟨by omega, h2.append (Bin.one (Nat.mod_lt _ (by decide))), ?_, ?_, ?_, hO, ?_⟩, ?_⟩
  · show val _ + _ = _
    rw [val_snoc, List.length_append, List.length_singleton]
    exact add_round a b l.length _ c h3.out
  · rw [List.length_append, List.length_singleton]; omega
  · rw [List.length_append, List.length_singleton]
    intro hlt
    have := hz (by omega)
    omega
  · refine (h7.alloc h7.size o).grown hg ?_ ?_
    · have := h7.size; simp; omega
    · intro k hk
      exact (h6.lt k hk).1
  · rcases Nat.lt_or_ge l.length k with g | g
    · omega
    · have := hz (by omega)
      omega
theorem add_rel_end {w wr : World} {a b k n m : Nat} {v : Value} {l : List Nat} (h : AddRel w a b k 0 v wr l) (ha : a < 2 ^ n) (hb : b < 2 ^ m) (h1 : n ≤ l.length) (h2 : m ≤ l.length) : val l = a + b := by
  obtain ⟨_, _, h3, _⟩ := h
  exact add_done a b l.length _ (Nat.lt_of_lt_of_le ha (Nat.pow_le_pow_right (by decide) h1)) (Nat.lt_of_lt_of_le hb (Nat.pow_le_pow_right (by decide) h2)) h3.out

/-! ### 'sub' -/
end Go.Proofs.Ytfmllfolpcimpaa
