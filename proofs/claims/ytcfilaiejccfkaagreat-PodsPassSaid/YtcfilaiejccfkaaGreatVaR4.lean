/- The law's Right: Hpas. -/
import Derived.Test.YtcfilaiejccfkaaGreatVaR
import Derived.IntWalk
import Derived.BigRegion
import Derived.Deep.DeepCutAuto
import Derived.Deep.CutRange
import Derived.Deep.Light
namespace Go.Proofs.YtcfilaiejccfkaaGreat
open Go.RowKit Go.Shelf Go.Lib Go.Sort
open Go.Joins (cell_of_block unfrozen_of_block block_setCell)
set_option linter.unusedVariables false
set_option linter.unusedSimpArgs false
set_option maxRecDepth 20000

theorem met_law (k : Int) (s : ByteArray) (m : Int) : metB (k, s, m) = (decide (0 ≤ k) && decide (k ≤ 3) && nameB s && milB m && (m != 0) && ((k != 0) || (s.toList == [99, 112, 117]) || (s.toList == [109, 101, 109]))) := by
  have e : (m != 0) = decide (m ≠ 0) := by rw [Bool.eq_iff_iff]; simp
  have h0 : metB (k, s, m) = (!((k == 0) && !(s.toList == [99, 112, 117]) && !(s.toList == [109, 101, 109])) && ((decide (0 ≤ k) && decide (k ≤ 3)) && nameB s && (milB m && (m != 0)))) := by
    rw [e, ← some_eq]
    rfl
  have e2 : (k != 0) = !(k == 0) := rfl
  rw [h0, e2]
  cases (k == 0) <;> cases (s.toList == [99, 112, 117]) <;> cases (s.toList == [109, 101, 109]) <;> cases decide (0 ≤ k) <;> cases decide (k ≤ 3) <;> cases nameB s <;> cases milB m <;> cases (m != 0) <;> rfl
theorem lawC_at {l : List Sca} {k : Nat} {x : Sca} (hx : l[k]? = some x) : lawC l k = (decide (0 ≤ x.1) && decide (x.1 ≤ 4611686018427387904) && decide (0 ≤ x.2.1) && decide (x.2.1 ≤ 1000000) && decide (0 ≤ x.2.2) && decide (x.2.2 ≤ 1000000) && (decide (k = 0) || decide (lastAt 0 l k ≤ x.1))) := by
  simp only [lawC, hx]
theorem take_all {l : List Met} {k : Nat} {x : Met} (hx : l[k]? = some x) : (l.take (k + 1)).all metB = ((l.take k).all metB && metB x) := by
  rw [List.take_add_one, List.all_append, hx]
  simp

end Go.Proofs.YtcfilaiejccfkaaGreat
