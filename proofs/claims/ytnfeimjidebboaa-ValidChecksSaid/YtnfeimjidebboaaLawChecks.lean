/- Proved here: the law ValidChecks of layer 7 holds for every input: whether any object may be is what the document says. No conditions. -/
import Derived.Test.YtnfeimjidebboaaVaL
import Derived.Test.YtnfeimjidebboaaVaT
import Derived.Test.YtnfeimjidebboaaVaW
import Derived.Test.YtnfeimjidebboaaVaR0
import Derived.Test.YtnfeimjidebboaaVaR1
import Derived.Test.YtnfeimjidebboaaVaR2
import Derived.Test.YtnfeimjidebboaaVaR3
import Derived.Test.YtnfeimjidebboaaVaR4
import Derived.Test.YtnfeimjidebboaaVLawBase
import Derived.Deep.DeepCutAuto
import Derived.BigQuiet
namespace Go.Proofs.Ytnfeimjidebboaa.validChecks
open Go.ChangeShapes Go.WideShapes Go.ChangeAt Go.RowKit Go.Lib Go.Shelf Go.Sort Go.Deep
open Go.Joins (cell_of_block unfrozen_of_block block_setCell)
set_option linter.unusedVariables false
set_option linter.unusedSimpArgs false
set_option maxRecDepth 20000

set_option maxHeartbeats 4000000 in
theorem lawO_any (w : World) (cs : Array Value) (o : Ob) (hv : ObjV w cs o) (F : FitsO o) :
    Calls Try.prog 9 #[.agg cs] w fun e w' => e = .returned (.int .i64 (rgtE o)) ∧ Gr w w' := by
  by_cases hk : o.kind < 0 ∨ 4 < o.kind
  · have HO : Hid (rgtE o = 17) := if_pos hk
    have hb : (w.alloc (.cells cs 44)).heap[w.heap.size]? = some (.cells cs 44 (0, 0)) := heap_alloc_new w _
    have d0 := load_at hb hv.2.1
    have G := Lib.hid ((Gr.refl w).alloc (.cells cs 44))
    clear hv F hb
    generalize o.kind = k at *
    rcases hk with h | h
    · go_enter Try.func9, Try.ntmps9
      go_wp2
      go_ret
      exact ⟨by rw [HO.out]; rfl, G.out⟩
    · have t0 : ¬ k < 0 := by omega
      have t : decide (4 < k) = true := decide_eq_true h
      go_enter Try.func9, Try.ntmps9
      go_wp2
      go_ret
      exact ⟨by rw [HO.out]; rfl, G.out⟩
  · have h5 : o.kind = 0 ∨ o.kind = 1 ∨ o.kind = 2 ∨ o.kind = 3 ∨ o.kind = 4 := by omega
    rcases h5 with h | h | h | h | h
    · exact law0 w cs o hv F h
    · by_cases hx : o.p.node.size = 0
      · exact law1e w cs o hv F h hx
      · exact law1n w cs o hv F h hx
    · by_cases hx : o.n.grp.size = 0
      · exact law2e w cs o hv F h hx
      · exact law2n w cs o hv F h hx
    · exact law3 w cs o hv F h
    · exact law4 w cs o hv F h

set_option maxHeartbeats 4000000 in
theorem walk_at (W : World) (cs : Array Value) (ob : Ob) (hv : ObjV W cs ob) (F : FitsO ob) :
    Calls Try.prog 3 #[.agg cs] W fun e w' => e = .returned (.bool true) ∧ Below W.heap.size W w' := by
  have mixed : Try.prog.follows .mixedOrders = true := by kernel_rfl
  have V := Lib.hid lives_any
  obtain ⟨B, hB⟩ : ∃ B, B = W.heap.size := ⟨_, rfl⟩
  obtain ⟨wb, hwb⟩ : ∃ wb, wb = W.alloc (.cells cs 44) := ⟨_, rfl⟩
  have G0 : Gr W wb := hwb ▸ (Gr.refl W).alloc _
  have b0 : wb.heap[B]? = some (.cells cs 44 (0, 0)) := by rw [hwb, hB]; exact heap_alloc_new W _
  have HL : Hid (∀ w, Gr wb w → (Instr.loadAt 44 (.pointer (some ⟨B, 0, none⟩))).run Try.prog w = .ok (.agg cs) w) := fun w g => load_ob ((g.heap (Array.getElem?_eq_some_iff.1 b0).1).trans b0) hv.1
  have CF := Lib.hid (fun (w : World) (g : Gr wb w) => few_any w cs ob (hv.below (G0.trans g).below) F)
  have CC := Lib.hid (fun (w : World) (g : Gr wb w) => check_any w cs ob (hv.below (G0.trans g).below) F)
  have CR := Lib.hid (fun (w : World) (g : Gr wb w) => lawO_any w cs ob (hv.below (G0.trans g).below) F)
  have HW := Lib.hid (And.intro hwb (And.intro hB G0))
  rw [rgt_chk] at CR
  generalize chkE ob = ce at CC CR
  generalize fewB ob = fw at CF
  clear hv F hB hwb G0 b0
  go_enter Try.func3, Try.ntmps3
  go_upto_region 1 with fail
  rw [← HW.out.1, ← HW.out.2.1]
  go_wp2_with fail
  refine (V.out _).mono ?_
  rintro e w1 ⟨rfl, g1⟩
  have K1 := Lib.hid g1
  have L1 := Lib.hid (HL.out _ g1)
  clear g1
  go_wp2_with (refine wpList_load_by (by kernel_rfl) 44 _ rfl (.pointer (some ⟨B, 0, none⟩)) (.agg cs) (by kernel_rfl) L1.out ?_)
  refine (CF.out _ K1.out).mono ?_
  rintro e w2 ⟨rfl, g2⟩
  have K2 := Lib.hid (K1.out.trans g2)
  clear g2 L1
  cases fw with
  | false =>
    go_wp2_with fail
    refine (V.out _).mono ?_
    rintro e w3 ⟨rfl, g3⟩
    have K3 := Lib.hid (HW.out.2.2.trans (K2.out.trans g3))
    clear g3
    go_wp2
    go_ret
    exact ⟨rfl, K3.out.below⟩
  | true =>
    have LL : Hid (∀ n os, (Instr.loadAt 44 (.pointer (some ⟨B, 0, none⟩))).run Try.prog (grow (w2.drewN n) os) = .ok (.agg cs) (grow (w2.drewN n) os)) := fun n os => HL.out _ (K2.out.trans (Gr.put w2 n os))
    have C1 := Lib.hid (fun (n : Nat) (os : Array Obj) => CC.out (grow (w2.drewN n) os) (K2.out.trans (Gr.put w2 n os)))
    have C2 := Lib.hid (fun (n : Nat) (os : Array Obj) => CR.out (grow (w2.drewN n) os) (K2.out.trans (Gr.put w2 n os)))
    have hcc : (ce == ce) = true := by simp
    go_wp2_with fail
    refine wp_region_quiet_grown (by assumption) (by kernel_rfl) ?_
    repeat (first | (refine wpQuiet_load (by kernel_rfl) 44 _ rfl (.pointer (some ⟨B, 0, none⟩)) (.agg cs) (by kernel_rfl) (fun w' h => by obtain ⟨g, rfl⟩ := h; exact LL.out _ _) ?_; simp only [Act.put, List.setIfInBounds_toArray, List.set_cons_zero, List.set_cons_succ]) | (quiet_step (first | (go_at_call 8; refine gr_of (C1.out _ _)) | (go_at_call 9; refine gr_of (C2.out _ _)))))
    refine wpQuiet_nil ?_
    intro _ hw'
    obtain ⟨⟨nq, osq⟩, hw''⟩ := hw'
    subst hw''
    have G : Hid (Gr W (grow (w2.drewN nq) osq)) := HW.out.2.2.trans (K2.out.trans (Gr.put _ _ _))
    go_wp2
    go_ret
    exact ⟨by first | rfl | (rw [hcc]), G.out.below⟩

theorem walk {H : Type} {enc : TypeId × Value → H} {base : Nat} (W : World) (v0 : Value) (d0 : DataW H) (p0 : List MemPlace) (o0 : Value.okWide Try.prog W .any base 44 v0) (h0 : DataW.Trod enc Try.prog W 0 (fun _ => true) true 44 v0 d0 p0) (wt : Wt 44 d0) :
    Calls Try.prog 3 #[v0] W fun e W' => e = .returned (.bool true) ∧ Below W.heap.size W W' := by
  obtain ⟨cs, o, rfl, hv, F⟩ := open_ob o0 h0 wt
  exact walk_at W cs o hv F

/-! ### THE ROW's STEP -/
set_option maxRecDepth 100000 in
theorem lifted (os : Os) (started : os.Started) (H : Type) (enc : TypeId × Value → H) :
    ReturnsInHanded {} Try.checked os 3 .any (Rows.validChecksSpec.pre6 enc Try.prog Try.f3 Rows.validChecksRow.domain false) (Rows.validChecksSpec.post enc Try.prog Try.f3 false true false false) := by
  refine returnsInHanded_of_change_sized (C := Try.checked) own started (by kernel_rfl) Try.func3
    (ChangeSpec.witness6 (enc := enc) (C := Try.checked) false ⟨#[], #[.agg zerC], []⟩ 8 (by kernel_rfl) (by kernel_rfl) (by kernel_rfl) (by kernel_rfl)) ?_
  intro W base args ds gs before hval0 hW hcnd hsz0 _
  have hval : ∀ (j : Nat) t v, Try.f3.params[j]? = some t → args[j]? = some v → Value.okWide Try.prog W .any base t v := hval0
  have hW' := hW
  obtain ⟨p, q, hA0, hV, rfl, hfz, hnd⟩ := hW
  have hA : DataW.TrodAll enc Try.prog W 0 (fun _ => true) true Try.f3.params.toList args.toList ds p := hA0
  have hlt : ∀ x ∈ p, x.block < W.heap.size := fun x hx => hW'.lt x (List.mem_append_left _ hx)
  rw [Try.params3] at hA hval
  have hread : ∀ t ∈ [44], Try.prog.readableRec t = true ∧ t < Try.prog.types.size := by
    intro t ht
    simp only [List.mem_cons, List.not_mem_nil, or_false] at ht
    rcases ht with rfl <;> exact ⟨by kernel_rfl, of_decide_eq_true (by kernel_rfl)⟩
  have again : ∀ (W' : World), Below W.heap.size W W' → ∀ sp : Nat → Bool, (∀ x ∈ p, sp x.block = true) → DataW.TrodAll enc Try.prog W' 0 sp true [44] args.toList ds p :=
    fun W' hb sp hsp => all_again (by kernel_rfl) hb [44] args.toList ds p hread hA hlt hsp
  obtain ⟨v0, d0, rfl, rfl, h0⟩ := trodAll_one hA
  obtain ⟨rfl, rfl⟩ := trodVars_none hV
  have wt : Wt 44 d0 := fun n hn => by
    have := List.all_eq_true.1 hsz0 n (DataW.weights_mem_each (j := 0) (t := 44) (d := d0) (by kernel_rfl) rfl n hn)
    simpa using this
  clear hA0 hval0
  simp only [List.append_nil] at hW'
  refine (walk W v0 d0 _ (hval 0 44 v0 rfl rfl) h0 wt).mono fun e W' ⟨he, hg⟩ => ?_
  subst he
  exact ⟨_, rfl, post_below hW' hg (fun _ _ _ => trodAll_mk1 (shut_bool Try.underlying4 _)) (fun sp hsp => again W' hg sp hsp) (fun _ => rfl) (ok_one (by kernel_rfl) rfl (okWide_bool_mk Try.underlying4 _))⟩

theorem over : Rows.validChecksRow.holds Try.pinned (OpenSpec.ofChange Rows.validChecksSpec) :=
  OpenClaim.holds_of_wide 3 Try.f3 rfl rfl rfl rfl rfl rfl rfl ⟨rfl, rfl, rfl, rfl, rfl⟩ rfl rfl rfl rfl rfl (by kernel_rfl) Try.func3 (by kernel_rfl)
    (of_decide_eq_true (by kernel_rfl)) (by unfold Func.isWrapper; first | (rw [if_pos (by decide +kernel)]; kernel_rfl) | (rw [if_neg (by decide +kernel)]; exact ⟨rfl, rfl⟩))
    (fun os started H enc _ => lifted os started H enc)

/-- The statement. -/
theorem proved : Rows.ValidChecksSaid :=
  over
#print axioms proved
end Go.Proofs.Ytnfeimjidebboaa.validChecks


