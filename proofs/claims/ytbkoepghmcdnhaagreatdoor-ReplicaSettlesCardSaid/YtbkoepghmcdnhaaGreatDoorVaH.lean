/- Which objects may be: the program's Check. -/
import Derived.Test.YtbkoepghmcdnhaaGreatDoorVaG
namespace Go.Proofs.YtbkoepghmcdnhaaGreatDoor
open Go.RowKit Go.Shelf Go.Lib Go.Sort
open Go.Joins (cell_of_block unfrozen_of_block block_setCell)
set_option linter.unusedVariables false
set_option linter.unusedSimpArgs false
set_option maxRecDepth 20000

theorem kinds {k : Int} (h : withinB k 0 4 = true) : k = 0 ∨ k = 1 ∨ k = 2 ∨ k = 3 ∨ k = 4 := by
  simp [withinB] at h
  omega
theorem alone_any (w : World) (cs : Array Value) (o : Ob) (hv : ObjV w cs o) (F : FitsO o) (hk : withinB o.kind 0 4 = true) :
    Calls Tryz.prog 62 #[.agg cs] w fun e w' => e = .returned (.bool (alC o)) ∧ Gr w w' := by
  rcases kinds hk with h | h | h | h | h
  · exact alone0 w cs o hv F h
  · exact alone1 w cs o hv F h
  · exact alone2 w cs o hv F h
  · exact alone3 w cs o hv F h
  · exact alone4 w cs o hv F h
theorem rightO_any (w : World) (cs : Array Value) (o : Ob) (hv : ObjV w cs o) (F : FitsO o) (hk : withinB o.kind 0 4 = true) :
    Calls Tryz.prog 63 #[.agg cs] w fun e w' => e = .returned (.bool (shC o)) ∧ Gr w w' := by
  rcases kinds hk with h | h | h | h | h
  · exact right0 w cs o hv F h
  · exact right1 w cs o hv F h
  · exact right2 w cs o hv F h
  · exact right3 w cs o hv F h
  · exact right4 w cs o hv F h

set_option maxHeartbeats 4000000 in
theorem check_any (w : World) (cs : Array Value) (o : Ob) (hv : ObjV w cs o) (F : FitsO o) :
    Calls Tryz.prog 42 #[.agg cs] w fun e w' => e = .returned (.int .i64 (chkE o)) ∧ Gr w w' := by
  have mixed : Tryz.prog.follows .mixedOrders = true := by kernel_rfl
  obtain ⟨B, hB⟩ : ∃ B, B = w.heap.size := ⟨_, rfl⟩
  obtain ⟨wb, hwb⟩ : ∃ wb, wb = w.alloc (.cells cs 51) := ⟨_, rfl⟩
  have G0 : Gr w wb := hwb ▸ (Gr.refl w).alloc _
  have b0 : wb.heap[B]? = some (.cells cs 51 (0, 0)) := by rw [hwb, hB]; exact heap_alloc_new w _
  have HB : Hid (∀ W, Gr wb W → Gr w W ∧ W.heap[B]? = some (.cells cs 51 (0, 0))) := fun W g => ⟨G0.trans g, (g.heap (Array.getElem?_eq_some_iff.1 b0).1).trans b0⟩
  have C0 := Lib.hid (fun (W : World) => within_any W o.kind 0 4)
  have C1 := Lib.hid (fun (W : World) => name_any W o.name (by have := ftT_iff.1 F.name; omega))
  have C2 := Lib.hid (fun (W : World) (g : Gr w W) (h : withinB o.kind 0 4 = true) => alone_any W cs o (hv.below g.below) F h)
  have C3 := Lib.hid (fun (W : World) (g : Gr w W) (h : withinB o.kind 0 4 = true) => rightO_any W cs o (hv.below g.below) F h)
  have d0 : wb.cell? ⟨B, 0, none⟩ = some (.int .i64 o.kind) := load_at b0 hv.2.1
  have d1 : wb.cell? ⟨B, 1, none⟩ = some (.string o.name) := load_nm b0 hv.2.1
  have LL : Hid (∀ W, Gr wb W → (Instr.loadAt 51 (.pointer (some ⟨B, 0, none⟩))).run Tryz.prog W = .ok (.agg cs) W) := fun W g => load_ob (HB.out W g).2 hv.1
  have HG0 := Lib.hid (And.intro hwb (And.intro hB G0))
  have HO : Hid (chkE o = if withinB o.kind 0 4 = false then 17 else if nameB o.name = false then 6 else if alC o = false ∨ shC o = false then 2 else 0) := rfl
  obtain ⟨k, hk⟩ : ∃ k, o.kind = k := ⟨_, rfl⟩
  rw [hk] at d0 C0
  rw [hk] at C2 C3 HO
  generalize hb0 : withinB k 0 4 = z0 at C0 C2 C3 HO
  generalize hb1 : nameB o.name = z1 at C1 HO
  generalize hb2 : alC o = z2 at C2 HO
  generalize hb3 : shC o = z3 at C3 HO
  generalize chkE o = ce at HO ⊢
  clear hv F hwb hB b0 G0 hb0 hb1 hb2 hb3 hk
  go_enter Tryz.func42, Tryz.ntmps42
  go_upto_region 1 with fail
  rw [← HG0.out.1, ← HG0.out.2.1]
  go_wp2_with fail
  refine (C0.out _).mono ?_
  rintro e w1 ⟨rfl, rfl⟩
  cases z0 with
  | false =>
    go_wp2
    go_ret
    exact ⟨by rw [HO.out]; rfl, HG0.out.2.2⟩
  | true =>
    go_wp2_with fail
    refine (C1.out _).mono ?_
    rintro e w1 ⟨rfl, rfl⟩
    cases z1 with
    | false =>
      go_wp2
      go_ret
      exact ⟨by rw [HO.out]; rfl, HG0.out.2.2⟩
    | true =>
      have L0 := Lib.hid (LL.out wb (Gr.refl _))
      go_wp2_with (refine wpList_load_by (by kernel_rfl) 51 _ rfl (.pointer (some ⟨B, 0, none⟩)) (.agg cs) (by kernel_rfl) L0.out ?_)
      refine (C2.out _ HG0.out.2.2 trivial).mono ?_
      rintro e w1 ⟨rfl, g1⟩
      have K1 := Lib.hid g1
      have L1 := Lib.hid (LL.out w1 g1)
      have G1 := Lib.hid (HG0.out.2.2.trans g1)
      clear g1
      cases z2 with
      | false =>
        go_wp2
        go_ret
        exact ⟨by rw [HO.out]; rfl, G1.out⟩
      | true =>
        go_wp2_with (refine wpList_load_by (by kernel_rfl) 51 _ rfl (.pointer (some ⟨B, 0, none⟩)) (.agg cs) (by kernel_rfl) L1.out ?_)
        refine (C3.out _ G1.out trivial).mono ?_
        rintro e w2 ⟨rfl, g2⟩
        have G2 := Lib.hid (G1.out.trans g2)
        clear g2
        cases z3 <;>
        · go_wp2
          go_ret
          exact ⟨by rw [HO.out]; rfl, G2.out⟩
end Go.Proofs.YtbkoepghmcdnhaaGreatDoor
