/- A step of a region that reads up to one write: what alone comes up. -/
import Derived.Test.YtfmllfolpcimpaaHeldE
namespace Go.Proofs.Ytfmllfolpcimpaa
open Go.RowKit Go.Shelf Go.Lib Go.Sort
set_option linter.unusedVariables false
set_option linter.unusedSimpArgs false
section
variable {P : Program} {ops : Array Oper} {Q : Exit → Act → World → Prop} {md : Region.Mode} {S : World → Prop} {f : Nat}
theorem wpAnyE_one {i fuel : Nat} {listed : Array Bool} {a : Act} {w : World} {o : Oper} (ho : ops[i]? = some o) (hif : (!(i == f)) = true) (hr : Region.ready md ops listed = [i])
    (h : ∀ K' : Act → World → Prop, Shut (∀ a w, S w → (S w → wpAnyE P md ops Q S f fuel (listed.setIfInBounds i true) a w) → K' a w) → if Region.wanted o (yielded ops a.tmps) = true then Oper.wp P o a w K' Q else K' (a.put o.dst undef) w) :
    wpAnyE P md ops Q S f (fuel + 1) listed a w := fun hc => by
  simp only [Bool.not_eq_true', beq_eq_false_iff_ne] at hif
  refine ⟨fun e => (by rw [hr] at e; cases e), fun j hj => ?_⟩
  have hc' := hc.set hj
  rw [hr, List.mem_singleton] at hj
  subst hj
  exact wpOp_step ho (fun K' hK => h K' (fun a w hS hW => hK a w ⟨fun _ => ⟨hS, hW hS hc'⟩, fun e => absurd e hif⟩))
end
end Go.Proofs.Ytfmllfolpcimpaa
