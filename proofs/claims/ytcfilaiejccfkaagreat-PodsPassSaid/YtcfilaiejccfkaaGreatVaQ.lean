/- The law's wants and goes. -/
import Derived.Test.YtcfilaiejccfkaaGreatVaF
import Derived.Test.YtcfilaiejccfkaaGreatObX
import Derived.Deep.Light
namespace Go.Proofs.YtcfilaiejccfkaaGreat
open Go.RowKit Go.Shelf Go.Lib Go.Sort
set_option linter.unusedVariables false
set_option linter.unusedSimpArgs false
set_option maxRecDepth 20000

def wantsB (cpu mem : Int) (lab : List Lab) (sel : List Req) (tol_ : List Lab) (warm : Int) : Bool := resB cpu mem && rightB lab && asksB sel && rightB tol_ && withinB warm 0 1800
theorem pol_bad {l : List Pol} {k : Nat} {x : Pol} (hx : l[k]? = some x) (h : polB x = false) (wi pk : Int) : behC wi pk l = false := by
  have : l.all polB = false := List.all_eq_false.2 ⟨x, List.mem_of_getElem? hx, by rw [h]; decide⟩
  rw [behC, this, Bool.and_false, Bool.and_false]
theorem pol_false {pc : Bool} {va pe : Int} (h : va < 1 ∨ 1000000 < va ∨ pe < 1 ∨ 1800 < pe) : polB (pc, va, pe) = false := by
  cases hb : polB (pc, va, pe) with
  | false => rfl
  | true =>
    simp [polB, polC, withinB] at hb
    omega
theorem pol_true {pc : Bool} {va pe : Int} (h : ¬ (va < 1 ∨ 1000000 < va ∨ pe < 1 ∨ 1800 < pe)) : polB (pc, va, pe) = true := by
  simp [polB, polC, withinB]
  omega

end Go.Proofs.YtcfilaiejccfkaaGreat
