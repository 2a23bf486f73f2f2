/- What an Hpa has done: the program. -/
import Derived.Test.YtdphooobgbminaaVaE
import Derived.Test.YtdphooobgbminaaObX
import Derived.Deep.Light
namespace Go.Proofs.Ytdphooobgbminaa
open Go.RowKit Go.Shelf Go.Lib Go.Sort
open Go.Joins (cell_of_block unfrozen_of_block block_setCell)
set_option linter.unusedVariables false
set_option linter.unusedSimpArgs false
set_option maxRecDepth 20000

def scaC (last : Int) (x : Sca) : Bool := withinB x.1 last 4611686018427387904 && withinB x.2.1 0 1000000 && withinB x.2.2 0 1000000
def pastL : Int → List Sca → Bool
  | _, [] => true
  | a, x :: r => scaC a x && pastL x.1 r
def lastAt (a : Int) (l : List Sca) : Nat → Int
  | 0 => a
  | k + 1 => (l[k]?.map (·.1)).getD 0
def pastB (l : List Sca) : Bool := withinB l.length 0 32 && pastL 0 l
theorem lastAt_cons (a : Int) (x : Sca) (r : List Sca) (j : Nat) : lastAt a (x :: r) (j + 1) = lastAt x.1 r j := by
  cases j <;> simp [lastAt]
theorem past_iff : ∀ (l : List Sca) (a : Int), pastL a l = true ↔ ∀ j x, l[j]? = some x → scaC (lastAt a l j) x = true
  | [], a => by simp [pastL]
  | x :: r, a => by
    rw [pastL, Bool.and_eq_true, past_iff r x.1]
    constructor
    · rintro ⟨h1, h2⟩ j y hy
      cases j with
      | zero => simp at hy; subst hy; exact h1
      | succ j => rw [lastAt_cons]; exact h2 j y (by simpa using hy)
    · intro h
      exact ⟨h 0 x rfl, fun j y hy => by rw [← lastAt_cons a]; exact h (j + 1) y (by simpa using hy)⟩
theorem past_bad {l : List Sca} {k : Nat} {x : Sca} (hx : l[k]? = some x) (h : scaC (lastAt 0 l k) x = false) : pastL 0 l = false := by
  cases hp : pastL 0 l with
  | false => rfl
  | true => rw [(past_iff l 0).1 hp k x hx] at h; cases h
theorem lastAt_step {l : List Sca} {k : Nat} {x : Sca} (hx : l[k]? = some x) : lastAt 0 l (k + 1) = x.1 := by simp [lastAt, hx]

/-- The cell that remembers the last tick. -/
def LastIs (w : World) (L : Nat) (a : Int) : Prop := w.heap[L]? = some (.cells #[.int .i64 a] 2 (0, 0))
theorem LastIs.gr {w w' : World} {L : Nat} {a : Int} (h : LastIs w L a) (g : Gr w w') : LastIs w' L a := (g.heap (Array.getElem?_eq_some_iff.1 h).1).trans h
theorem LastIs.lt {w : World} {L : Nat} {a : Int} (h : LastIs w L a) : L < w.heap.size := (Array.getElem?_eq_some_iff.1 h).1

end Go.Proofs.Ytdphooobgbminaa
