/- The law's own answer (trimtablaw07.Right) at any object. -/
import Derived.Test.YtcfilaiejccfkaaVaT
import Derived.Test.YtcfilaiejccfkaaVaR0
import Derived.Test.YtcfilaiejccfkaaVaR1
import Derived.Test.YtcfilaiejccfkaaVaR2
import Derived.Test.YtcfilaiejccfkaaVaR3
import Derived.Test.YtcfilaiejccfkaaVaR4
import Derived.Deep.DeepCutAuto
import Derived.BigQuiet
namespace Go.Proofs.Ytcfilaiejccfkaa
open Go.RowKit Go.Lib Go.Shelf Go.Sort
open Go.Joins (cell_of_block unfrozen_of_block block_setCell)
set_option linter.unusedVariables false
set_option linter.unusedSimpArgs false
set_option maxRecDepth 20000

set_option maxHeartbeats 4000000 in
theorem lawO_any (w : World) (cs : Array Value) (o : Ob) (hv : ObjV w cs o) (F : FitsO o) :
    Calls Try.prog 11 #[.agg cs] w fun e w' => e = .returned (.int .i64 (rgtE o)) ∧ Gr w w' := by
  by_cases hk : o.kind < 0 ∨ 4 < o.kind
  · have HO : Hid (rgtE o = 17) := if_pos hk
    have hb : (w.alloc (.cells cs 46)).heap[w.heap.size]? = some (.cells cs 46 (0, 0)) := heap_alloc_new w _
    have d0 := load_at hb hv.2.1
    have G := Lib.hid ((Gr.refl w).alloc (.cells cs 46))
    clear hv F hb
    generalize o.kind = k at *
    rcases hk with h | h
    · go_enter Try.func11, Try.ntmps11
      go_wp2
      go_ret
      exact ⟨by rw [HO.out]; rfl, G.out⟩
    · have t0 : ¬ k < 0 := by omega
      have t : decide (4 < k) = true := decide_eq_true h
      go_enter Try.func11, Try.ntmps11
      go_wp2
      go_ret
      exact ⟨by rw [HO.out]; rfl, G.out⟩
  · have h5 : o.kind = 0 ∨ o.kind = 1 ∨ o.kind = 2 ∨ o.kind = 3 ∨ o.kind = 4 := by omega
    rcases h5 with h | h | h | h | h
    · exact law0 w cs o hv F h
    · by_cases hx : o.p.node.size = 0
      · exact law1e w cs o hv F h hx
      · exact law1n w cs o hv F h hx
    · by_cases hx : o.n.grp.size = 0
      · exact law2e w cs o hv F h hx
      · exact law2n w cs o hv F h hx
    · exact law3 w cs o hv F h
    · exact law4 w cs o hv F h

end Go.Proofs.Ytcfilaiejccfkaa
