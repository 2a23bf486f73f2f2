/- Labels and asks that are right: the program's and the document's. -/
import Derived.Test.YtbkoepghmcdnhaaGreatDoorObN
import Derived.Test.YtbkoepghmcdnhaaGreatDoorObO
import Derived.Sort.Walk0
import Derived.Deep.DeepCutAuto
namespace Go.Proofs.YtbkoepghmcdnhaaGreatDoor
open Go.RowKit Go.Shelf Go.Lib Go.Sort
set_option linter.unusedVariables false
set_option linter.unusedSimpArgs false

def pairB (x : Lab) : Bool := nameB x.1 && mayB x.2
def riseB : List Lab → Bool
  | x :: y :: r => Op.bytesLess x.1.toList y.1.toList && riseB (y :: r)
  | _ => true
/-- Are labels right? -/
def rightB (l : List Lab) : Bool := decide (l.length ≤ 8) && (l.all pairB && riseB l)
theorem rise_iff : ∀ l : List Lab, riseB l = true ↔ ∀ i x y, l[i]? = some x → l[i + 1]? = some y → Op.bytesLess x.1.toList y.1.toList = true
  | [] => by simp [riseB]
  | [x] => by
    simp only [riseB, true_iff]
    intro i a b _ h2
    simp at h2
  | x :: y :: r => by
    rw [riseB, Bool.and_eq_true, rise_iff (y :: r)]
    constructor
    · rintro ⟨h1, h2⟩ i a b ha hb
      cases i with
      | zero => simp at ha hb; subst ha hb; exact h1
      | succ i => exact h2 i a b (by simpa using ha) (by simpa using hb)
    · intro h
      exact ⟨h 0 x y rfl rfl, fun i a b ha hb => h (i + 1) a b (by simpa using ha) (by simpa using hb)⟩
theorem less_tr {a b c : List UInt8} (h : Op.bytesLess a b = true) (k : Op.bytesLess b c = true) : Op.bytesLess a c = true := by
  rw [bytesLess_eq] at *
  simp only [decide_eq_true_eq] at *
  exact List.lt_trans h k
theorem rise_all {l : List Lab} (h : riseB l = true) : ∀ (d i : Nat) (x y : Lab), l[i]? = some x → l[i + d + 1]? = some y → Op.bytesLess x.1.toList y.1.toList = true
  | 0, i, x, y, hx, hy => (rise_iff l).1 h i x y hx hy
  | d + 1, i, x, y, hx, hy => by
    have hl : i + d + 1 < l.length := by have := (List.getElem?_eq_some_iff.1 hy).1; omega
    have hz : l[i + d + 1]? = some l[i + d + 1] := List.getElem?_eq_getElem hl
    exact less_tr (rise_all h d i x _ hx hz) ((rise_iff l).1 h (i + d + 1) _ y hz hy)
theorem right_pair {l : List Lab} {k : Nat} {x : Lab} (hx : l[k]? = some x) (h : pairB x = false) : rightB l = false := by
  have : l.all pairB = false := List.all_eq_false.2 ⟨x, List.mem_of_getElem? hx, by rw [h]; decide⟩
  rw [rightB, this, Bool.false_and, Bool.and_false]
theorem right_less {l : List Lab} {k i : Nat} {x y : Lab} (hk : k < i) (hx : l[k]? = some x) (hy : l[i]? = some y) (h : Op.bytesLess x.1.toList y.1.toList = false) : rightB l = false := by
  cases hr : riseB l with
  | false => rw [rightB, hr, Bool.and_false, Bool.and_false]
  | true =>
    have := rise_all hr (i - k - 1) k x y hx (by rw [show k + (i - k - 1) + 1 = i by omega]; exact hy)
    rw [this] at h
    cases h
theorem right_long {l : List Lab} (h : 8 < l.length) : rightB l = false := by
  rw [rightB, decide_eq_false (by omega), Bool.false_and]
theorem right_ok {l : List Lab} (h : l.length ≤ 8) (hp : ∀ (j : Nat) (x : Lab), j < l.length → l[j]? = some x → pairB x = true) (hr : ∀ i x y, i + 1 < l.length → l[i]? = some x → l[i + 1]? = some y → Op.bytesLess x.1.toList y.1.toList = true) : rightB l = true := by
  have h1 : l.all pairB = true := List.all_eq_true.2 fun x hx => by
    obtain ⟨j, hj⟩ := List.getElem?_of_mem hx
    exact hp j x (List.getElem?_eq_some_iff.1 hj).1 hj
  have h2 : riseB l = true := (rise_iff l).2 fun i x y hx hy => hr i x y (List.getElem?_eq_some_iff.1 hy).1 hx hy
  rw [rightB, decide_eq_true h, h1, h2]
  rfl

/-- Is an ask right? -/
def askB (x : Req) : Bool := nameB x.1 && mayB x.2.1 && (decide (x.2.2 = 0 ∨ x.2.2 = 1) || (decide (x.2.2 = 2 ∨ x.2.2 = 3) && decide (x.2.1.size = 0)))
def asksB (l : List Req) : Bool := decide (l.length ≤ 8) && l.all askB
theorem asks_bad {l : List Req} {k : Nat} {x : Req} (hx : l[k]? = some x) (h : askB x = false) : asksB l = false := by
  have : l.all askB = false := List.all_eq_false.2 ⟨x, List.mem_of_getElem? hx, by rw [h]; decide⟩
  rw [asksB, this, Bool.and_false]
theorem asks_long {l : List Req} (h : 8 < l.length) : asksB l = false := by
  rw [asksB, decide_eq_false (by omega), Bool.false_and]
theorem asks_ok {l : List Req} (h : l.length ≤ 8) (hp : ∀ (j : Nat) (x : Req), j < l.length → l[j]? = some x → askB x = true) : asksB l = true := by
  have h1 : l.all askB = true := List.all_eq_true.2 fun x hx => by
    obtain ⟨j, hj⟩ := List.getElem?_of_mem hx
    exact hp j x (List.getElem?_eq_some_iff.1 hj).1 hj
  rw [asksB, decide_eq_true h, h1]
  rfl

theorem bne_empty' {s : ByteArray} (h : ¬ s.size = 0) : (s.toList != ([] : List UInt8)) = true := by
  rw [bne, bne_empty h]
  rfl
end Go.Proofs.YtbkoepghmcdnhaaGreatDoor
