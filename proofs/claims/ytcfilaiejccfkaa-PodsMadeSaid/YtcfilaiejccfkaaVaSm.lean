/- The document's Same says true of two objects that are alike, of whatever kind. -/
import Derived.Test.YtcfilaiejccfkaaVaU
import Derived.Test.YtcfilaiejccfkaaObD
namespace Go.Proofs.Ytcfilaiejccfkaa
open Go.RowKit Go.Shelf Go.Lib Go.Sort Go.Deep
open Go.Joins (cell_of_block unfrozen_of_block block_setCell)
set_option linter.unusedVariables false
set_option linter.unusedSimpArgs false
set_option maxRecDepth 20000
set_option maxHeartbeats 4000000 in
theorem same_out (w : World) (cs ds : Array Value) (o : Ob) (hv : ObjV w cs o) (hw : ObjV w ds o) (hk : o.kind < 0 ∨ 5 ≤ o.kind) :
    Calls Try.prog 10 #[.agg cs, .agg ds] w fun e w' => e = .returned (.bool true) ∧ Gr w w' := by
  have mixed : Try.prog.follows .mixedOrders = true := by kernel_rfl
  obtain ⟨A, hA⟩ : ∃ A, A = w.heap.size := ⟨_, rfl⟩
  obtain ⟨wb, hwb⟩ : ∃ wb, wb = (w.alloc (.cells cs 46)).alloc (.cells ds 46) := ⟨_, rfl⟩
  have G : Gr w wb := hwb ▸ ((Gr.refl w).alloc _).alloc _
  have b1 : wb.heap[A]? = some (.cells cs 46 (0, 0)) := by
    rw [hwb, hA, ((Gr.refl (w.alloc (.cells cs 46))).alloc _).heap (by simp)]
    exact heap_alloc_new w _
  have b2 : wb.heap[A + 1]? = some (.cells ds 46 (0, 0)) := by
    rw [hwb, hA]
    have := heap_alloc_new (w.alloc (.cells cs 46)) (.cells ds 46)
    simpa using this
  have c0 : wb.cell? ⟨A, 0, none⟩ = some (.int .i64 o.kind) := by rw [cell_of_block b1]; exact hv.2.1.1
  have c1 : wb.cell? ⟨A, 1, none⟩ = some (.string o.name) := by rw [cell_of_block b1]; exact hv.2.1.2.1
  have c2 : wb.cell? ⟨A, 2, none⟩ = some (.int .u64 (o.ver : Int)) := by rw [cell_of_block b1]; exact hv.2.1.2.2.1
  have e0 : wb.cell? ⟨A + 1, 0, none⟩ = some (.int .i64 o.kind) := by rw [cell_of_block b2]; exact hw.2.1.1
  have e1 : wb.cell? ⟨A + 1, 1, none⟩ = some (.string o.name) := by rw [cell_of_block b2]; exact hw.2.1.2.1
  have e2 : wb.cell? ⟨A + 1, 2, none⟩ = some (.int .u64 (o.ver : Int)) := by rw [cell_of_block b2]; exact hw.2.1.2.2.1
  have GW := Lib.hid (And.intro hwb (And.intro hA G))
  clear G b1 b2 hv hw hwb hA
  generalize o.kind = k at *
  generalize o.name = s at *
  generalize (o.ver : Int) = v at *
  rcases hk with h | h
  · have t1 : decide (k < 0) = true := decide_eq_true h
    clear h
    go_enter Try.func10, Try.ntmps10
    go_upto_region 1 with fail
    rw [← GW.out.1, ← GW.out.2.1]
    go_wp2
    go_ret
    exact ⟨by simp, GW.out.2.2⟩
  · have t1 : decide (k < 0) = false := decide_eq_false (by omega)
    have t2 : decide (5 ≤ k) = true := decide_eq_true h
    have t3 : ¬ k < 0 := by omega
    clear h
    go_enter Try.func10, Try.ntmps10
    go_upto_region 1 with fail
    rw [← GW.out.1, ← GW.out.2.1]
    go_wp2
    go_ret
    exact ⟨by simp, GW.out.2.2⟩

end Go.Proofs.Ytcfilaiejccfkaa
