/- The document's Object of whatever kind; its Same of objects whose bytes are the same. -/
import Derived.Test.YtcfilaiejccfkaaObD0
import Derived.Test.YtcfilaiejccfkaaObD1
import Derived.Test.YtcfilaiejccfkaaObD2
import Derived.Test.YtcfilaiejccfkaaObD3
import Derived.Test.YtcfilaiejccfkaaObD4
import Derived.Deep.MidRow
import Derived.Deep.DeepCutAuto
import Derived.BigQuiet
namespace Go.Proofs.Ytcfilaiejccfkaa
open Go.RowKit Go.Shelf Go.Lib Go.Sort
open Go.Joins (cell_of_block unfrozen_of_block block_setCell)
set_option linter.unusedVariables false
set_option linter.unusedSimpArgs false
set_option maxRecDepth 20000

theorem robj_any (w : World) (cs : Array Value) (ob : Ob) (hv : ObjV w cs ob) (hk : 0 ≤ ob.kind ∧ ob.kind ≤ 4) (ho : ftO ob = true) :
    Calls Try.prog 12 #[.agg cs] w fun e w' => e = .returned (.string (mk (objB ob))) ∧ Gr w w' := by
  simp only [ftO, Bool.and_eq_true] at ho
  obtain ⟨hn, hs⟩ := ho
  unfold ftS at hs
  have h : ob.kind = 0 ∨ ob.kind = 1 ∨ ob.kind = 2 ∨ ob.kind = 3 ∨ ob.kind = 4 := by omega
  rcases h with h | h | h | h | h
  · exact robj0 w cs ob hv h hn (by simpa [h] using hs)
  · exact robj1 w cs ob hv h hn (by simpa [h] using hs)
  · exact robj2 w cs ob hv h hn (by simpa [h] using hs)
  · exact robj3 w cs ob hv h hn (by simpa [h] using hs)
  · exact robj4 w cs ob hv h hn (by simpa [h] using hs)

theorem rangeAt_block {w : World} {b : Nat} {cs : Array Value} {T : TypeId} {fz : Nat × Nat} (h : w.heap[b]? = some (.cells cs T fz)) : w.rangeAt b 0 cs.toList := fun j v hv => by
  rw [cell_of_block h]
  simpa using hv
theorem info_ob47 : (Try.prog.info? 46).map (·.size) = some 47 := by kernel_rfl
/-- A whole object is loaded. -/
theorem load_ob {w : World} {b : Nat} {cs : Array Value} {T : TypeId} {fz : Nat × Nat} (h : w.heap[b]? = some (.cells cs T fz)) (hs : cs.size = 47) :
    (Instr.loadAt 46 (.pointer (some ⟨b, 0, none⟩))).run Try.prog w = .ok (.agg cs) w := by
  have h1 := run_loadAt_mid (P := Try.prog) w b 0 46 cs.toList _ (rangeAt_block h) Try.underlying46 rfl (by rw [Array.length_toList, hs]; exact info_ob47)
  simpa using h1

/-- A load in a region that is walked quietly, by its run. -/
theorem wpQuiet_load {P : Program} {ops : Array Oper} {C : World → Prop} {Q : Act → Prop} {a : Act} {o : Oper} {rest : List Oper} (hw : Region.wanted o (yielded ops a.tmps) = true) (ty : TypeId) (x : Operand) (ho : o.op = .load ty x) (p v : Value) (hx : a.eval x = p)
    (hl : ∀ w, C w → (Instr.loadAt ty p).run P w = .ok v w) (h : wpQuiet P ops C Q rest (a.put o.dst v)) : wpQuiet P ops C Q (o :: rest) a := by
  refine wpQuiet_step fun K hK => ?_
  rw [if_pos hw]
  refine ⟨v, fun w hw => ?_, hK _ h⟩
  unfold Oper.quietAt execOp
  simp only [ho, hx, Sem.run_bind, hl w hw, Result.andThen_ok, Sem.run_pure]
  exact ⟨rfl, rfl⟩

/-- A load at the list of a plain region's operations, guarded or not, by its run. -/
theorem wpList_load_by {P : Program} {ops : Array Oper} {rest : List Oper} {o : Oper} {a : Act} {w : World} {Q : Exit → Act → World → Prop} (hw : Region.wanted o (yielded ops a.tmps) = true) (ty : TypeId) (x : Operand) (ho : o.op = .load ty x) (p v : Value) (hx : a.eval x = p)
    (hl : (Instr.loadAt ty p).run P w = .ok v w) (h : wpList P ops Q rest (a.put o.dst v) w) : wpList P ops Q (o :: rest) a w := by
  refine wpList_step fun K hK => ?_
  rw [if_pos hw]
  unfold Oper.wp execOp
  simp only [ho, hx, Sem.run_bind, hl, Result.andThen_ok, Sem.run_pure]
  exact hK _ _ h

set_option maxHeartbeats 4000000 in
theorem rsame_any (w : World) (cs ds : Array Value) (o p : Ob) (hv : ObjV w cs o) (hw : ObjV w ds p) (hk : 0 ≤ o.kind ∧ o.kind ≤ 4) (he : p.kind = o.kind) (ho : ftO o = true) (hp : ftO p = true) (hb : objB o = objB p) :
    Calls Try.prog 10 #[.agg cs, .agg ds] w fun e w' => e = .returned (.bool true) ∧ Gr w w' := by
  have mixed : Try.prog.follows .mixedOrders = true := by kernel_rfl
  obtain ⟨wb, hwb⟩ : ∃ wb, wb = (w.alloc (.cells cs 46)).alloc (.cells ds 46) := ⟨_, rfl⟩
  have G : Gr w wb := hwb ▸ ((Gr.refl w).alloc _).alloc _
  have b1 : wb.heap[w.heap.size]? = some (.cells cs 46 (0, 0)) := by
    rw [hwb, ((Gr.refl (w.alloc (.cells cs 46))).alloc _).heap (by simp)]
    exact heap_alloc_new w _
  have b2 : wb.heap[w.heap.size + 1]? = some (.cells ds 46 (0, 0)) := by
    rw [hwb]
    have := heap_alloc_new (w.alloc (.cells cs 46)) (.cells ds 46)
    simpa using this
  have c1 : wb.cell? ⟨w.heap.size, 0, none⟩ = some (.int .i64 o.kind) := by rw [cell_of_block b1]; exact hv.2.1.1
  have c2 : wb.cell? ⟨w.heap.size + 1, 0, none⟩ = some (.int .i64 o.kind) := by rw [cell_of_block b2]; exact he ▸ hw.2.1.1
  have L1 : ∀ n os, (Instr.loadAt 46 (.pointer (some ⟨w.heap.size, 0, none⟩))).run Try.prog (grow (wb.drewN n) os) = .ok (.agg cs) (grow (wb.drewN n) os) := fun n os => load_ob ((Gr.put wb n os).heap (by rw [hwb]; simp; omega) |>.trans b1) hv.1
  have L2 : ∀ n os, (Instr.loadAt 46 (.pointer (some ⟨w.heap.size + 1, 0, none⟩))).run Try.prog (grow (wb.drewN n) os) = .ok (.agg ds) (grow (wb.drewN n) os) := fun n os => load_ob ((Gr.put wb n os).heap (by rw [hwb]; simp) |>.trans b2) hw.1
  have K1 := Lib.hid (fun (n : Nat) (os : Array Obj) => robj_any (grow (wb.drewN n) os) cs o (hv.below (G.trans (Gr.put wb n os)).below) hk ho)
  have K2 := Lib.hid (fun (n : Nat) (os : Array Obj) => robj_any (grow (wb.drewN n) os) ds p (hw.below (G.trans (Gr.put wb n os)).below) (by omega) hp)
  obtain ⟨s, hs⟩ : ∃ s, s = mk (objB o) := ⟨_, rfl⟩
  rw [← hs] at K1
  rw [← hb, ← hs] at K2
  have GW := Lib.hid (And.intro hwb G)
  have hk0 : decide (o.kind < 0) = false := decide_eq_false (by omega)
  have hk5 : decide (5 ≤ o.kind) = false := decide_eq_false (by omega)
  have hk1 : ¬ (o.kind < 0) := by omega
  have hk2 : ¬ (5 ≤ o.kind) := by omega
  clear G b1 b2 hv hw hk ho hp hb hs he hwb
  generalize o.kind = k at *
  go_enter Try.func10, Try.ntmps10
  go_upto_region 1 with fail
  rw [← GW.out.1]
  go_wp2_with fail
  refine wp_region_quiet_grown (by assumption) (by kernel_rfl) ?_
  refine wpQuiet_load (by kernel_rfl) _ _ rfl (.pointer (some ⟨w.heap.size, 0, none⟩)) (.agg cs) (by kernel_rfl) (fun w' h => by obtain ⟨g, rfl⟩ := h; exact L1 _ _) ?_
  simp only [Act.put, List.setIfInBounds_toArray, List.set_cons_zero, List.set_cons_succ]
  quiet_step (first | (go_at_call_of 12 (Value.agg cs); refine gr_of (K1.out _ _)))
  refine wpQuiet_load (by kernel_rfl) _ _ rfl (.pointer (some ⟨w.heap.size + 1, 0, none⟩)) (.agg ds) (by kernel_rfl) (fun w' h => by obtain ⟨g, rfl⟩ := h; exact L2 _ _) ?_
  simp only [Act.put, List.setIfInBounds_toArray, List.set_cons_zero, List.set_cons_succ]
  quiet_step (first | (go_at_call_of 12 (Value.agg ds); refine gr_of (K2.out _ _)))
  repeat (quiet_step (fail))
  refine wpQuiet_nil ?_
  intro _ hw'
  obtain ⟨⟨nq, osq⟩, hw''⟩ := hw'
  subst hw''
  go_wp2
  go_ret
  exact ⟨rfl, GW.out.2.trans (Gr.put _ _ _)⟩
end Go.Proofs.Ytcfilaiejccfkaa
