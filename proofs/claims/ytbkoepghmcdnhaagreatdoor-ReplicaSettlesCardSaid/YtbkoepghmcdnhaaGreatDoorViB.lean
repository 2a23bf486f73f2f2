/- Layer 15 (victim): whose pod an object is; a row's objects that are asked for (sift). -/
import Derived.Test.YtbkoepghmcdnhaaGreatDoorViA
import Derived.Deep.AppendLies
namespace Go.Proofs.YtbkoepghmcdnhaaGreatDoor.Vi
open Go.RowKit Go.Shelf Go.Lib Go.Sort Go.Deep
open Go.Joins (cell_of_block unfrozen_of_block block_setCell)
open Go.Proofs.YtbkoepghmcdnhaaGreatDoor.Ow
set_option linter.unusedVariables false
set_option linter.unusedSimpArgs false
set_option maxRecDepth 20000

def isPod (o : Ob) : Bool := decide (o.kind = 1)
def isOf (s : ByteArray) (o : Ob) : Bool := isPod o && (o.p.own.toList == s.toList)
set_option maxHeartbeats 2000000 in
theorem podis_any (w : World) (X : Array Value) (o : Ob) (hv : ObjV w X o) :
    Calls Tryz.prog 65 #[.agg X] w fun e w' => e = .returned (.bool (isPod o)) ∧ Gr w w' := by
  obtain ⟨B, hB⟩ : ∃ B, B = w.heap.size := ⟨_, rfl⟩
  obtain ⟨w1, hw1⟩ : ∃ W, W = w.alloc (.cells X OT) := ⟨_, rfl⟩
  have G1 : Gr w w1 := hw1 ▸ (Gr.refl w).alloc _
  have b1 : w1.heap[B]? = some (.cells X OT (0, 0)) := by rw [hw1, hB]; exact heap_alloc_new w _
  have d0 : w1.cell? ⟨B, 0, none⟩ = some (.int .i64 o.kind) := (cell_of_block b1 0).trans hv.2.1.1
  have HW : Hid (w.alloc (.cells X OT) = w1 ∧ w.heap.size = B) := ⟨hw1.symm, hB.symm⟩
  have HG := Lib.hid G1
  obtain ⟨k, hk⟩ : ∃ k, k = o.kind := ⟨_, rfl⟩
  rw [← hk] at d0
  have HK : Hid (k = o.kind) := hk
  clear hv hB hw1 G1 b1 hk
  go_enter Tryz.func65, Tryz.ntmps65
  go_upto_region 1 with fail
  rw [HW.out.1, HW.out.2]
  go_wp2
  go_ret
  exact ⟨by unfold isPod; rw [← HK.out]; first | rfl | (congr 2; exact (Bool.eq_iff_iff.2 (by simp))), HG.out⟩
set_option maxHeartbeats 2000000 in
theorem owner_any (w : World) (X : Array Value) (o : Ob) (s : ByteArray) (hv : ObjV w X o) :
    Calls Tryz.prog 45 #[.agg X, .string s] w fun e w' => e = .returned (.bool (isOf s o)) ∧ Gr w w' := by
  obtain ⟨B, hB⟩ : ∃ B, B = w.heap.size := ⟨_, rfl⟩
  obtain ⟨w1, hw1⟩ : ∃ W, W = w.alloc (.cells X OT) := ⟨_, rfl⟩
  have G1 : Gr w w1 := hw1 ▸ (Gr.refl w).alloc _
  have b1 : w1.heap[B]? = some (.cells X OT (0, 0)) := by rw [hw1, hB]; exact heap_alloc_new w _
  have d10 : w1.cell? ⟨B, 10, none⟩ = some (.string o.p.own) := (cell_of_block b1 10).trans hv.2.2.2.1.1
  have HW : Hid (w.alloc (.cells X OT) = w1 ∧ w.heap.size = B) := ⟨hw1.symm, hB.symm⟩
  have HG := Lib.hid G1
  have LO := Lib.hid (load_ob b1 hv.1)
  have CP := Lib.hid (podis_any w1 X o (hv.below G1.below))
  obtain ⟨nm, hnm⟩ : ∃ k, k = o.p.own := ⟨_, rfl⟩
  rw [← hnm] at d10
  have HK : Hid (nm = o.p.own) := hnm
  obtain ⟨b, hb⟩ : ∃ b, b = isPod o := ⟨_, rfl⟩
  rw [← hb] at CP
  have HB : Hid (b = isPod o) := hb
  clear hv hB hw1 G1 b1 hnm hb
  cases b with
  | false =>
    go_enter Tryz.func45, Tryz.ntmps45
    go_upto_region 1 with fail
    rw [HW.out.1, HW.out.2]
    go_wp2_with (refine wpList_load_by (by kernel_rfl) OT _ rfl (.pointer (some ⟨B, 0, none⟩)) (.agg X) (by kernel_rfl) LO.out ?_)
    refine CP.out.mono ?_
    rintro e w2 ⟨rfl, g2⟩
    have GG := Lib.hid (HG.out.trans g2)
    clear d10 LO CP g2
    go_wp2
    go_ret
    exact ⟨by unfold isOf; rw [← HB.out]; rfl, GG.out⟩
  | true =>
    go_enter Tryz.func45, Tryz.ntmps45
    go_upto_region 1 with fail
    rw [HW.out.1, HW.out.2]
    go_wp2_with (refine wpList_load_by (by kernel_rfl) OT _ rfl (.pointer (some ⟨B, 0, none⟩)) (.agg X) (by kernel_rfl) LO.out ?_)
    refine CP.out.mono ?_
    rintro e w2 ⟨rfl, g2⟩
    have GG := Lib.hid (HG.out.trans g2)
    have e10 : w2.cell? ⟨B, 10, none⟩ = some (.string nm) := g2.cell d10
    clear d10 LO CP g2
    go_wp2
    go_ret
    exact ⟨by unfold isOf; rw [← HB.out, ← HK.out]; rfl, GG.out⟩
/-- A captured text. -/
def Boxed (N : Nat) (W : World) (C : Nat) (s : ByteArray) : Prop := C < N ∧ W.cell? ⟨C, 0, none⟩ = some (.string s)
def isLive (s : ByteArray) (o : Ob) : Bool := isOf s o && !(decide (o.p.ph = 3))
set_option maxHeartbeats 2000000 in
theorem live1_any (w : World) (X : Array Value) (o : Ob) (C : Nat) (s : ByteArray) (hv : ObjV w X o) (hs : w.cell? ⟨C, 0, none⟩ = some (.string s)) :
    Calls Tryz.prog 44 (#[.agg X] ++ #[.pointer (some ⟨C, 0, none⟩)]) w fun e w' => e = .returned (.bool (isLive s o)) ∧ Gr w w' := by
  obtain ⟨B, hB⟩ : ∃ B, B = w.heap.size := ⟨_, rfl⟩
  obtain ⟨w1, hw1⟩ : ∃ W, W = w.alloc (.cells X OT) := ⟨_, rfl⟩
  have G1 : Gr w w1 := hw1 ▸ (Gr.refl w).alloc _
  have b1 : w1.heap[B]? = some (.cells X OT (0, 0)) := by rw [hw1, hB]; exact heap_alloc_new w _
  have d12 : w1.cell? ⟨B, 12, none⟩ = some (.int .i64 o.p.ph) := (cell_of_block b1 12).trans hv.2.2.2.1.2.2.1
  have ds : w1.cell? ⟨C, 0, none⟩ = some (.string s) := G1.cell hs
  have HW : Hid (w.alloc (.cells X OT) = w1 ∧ w.heap.size = B) := ⟨hw1.symm, hB.symm⟩
  have HG := Lib.hid G1
  have LO := Lib.hid (load_ob b1 hv.1)
  have CP := Lib.hid (owner_any w1 X o s (hv.below G1.below))
  obtain ⟨ph, hph⟩ : ∃ k, k = o.p.ph := ⟨_, rfl⟩
  rw [← hph] at d12
  have HK : Hid (ph = o.p.ph) := hph
  obtain ⟨b, hb⟩ : ∃ b, b = isOf s o := ⟨_, rfl⟩
  rw [← hb] at CP
  have HB : Hid (b = isOf s o) := hb
  clear hv hB hw1 G1 b1 hph hb hs
  cases b with
  | false =>
    go_enter Tryz.func44, Tryz.ntmps44
    go_upto_region 1 with fail
    rw [HW.out.1, HW.out.2]
    go_wp2_with (refine wpList_load_by (by kernel_rfl) OT _ rfl (.pointer (some ⟨B, 0, none⟩)) (.agg X) (by kernel_rfl) LO.out ?_)
    refine CP.out.mono ?_
    rintro e w2 ⟨rfl, g2⟩
    have GG := Lib.hid (HG.out.trans g2)
    clear d12 ds LO CP g2
    go_wp2
    go_ret
    exact ⟨by unfold isLive; rw [← HB.out]; rfl, GG.out⟩
  | true =>
    go_enter Tryz.func44, Tryz.ntmps44
    go_upto_region 1 with fail
    rw [HW.out.1, HW.out.2]
    go_wp2_with (refine wpList_load_by (by kernel_rfl) OT _ rfl (.pointer (some ⟨B, 0, none⟩)) (.agg X) (by kernel_rfl) LO.out ?_)
    refine CP.out.mono ?_
    rintro e w2 ⟨rfl, g2⟩
    have GG := Lib.hid (HG.out.trans g2)
    have e12 : w2.cell? ⟨B, 12, none⟩ = some (.int .i64 ph) := g2.cell d12
    clear d12 ds LO CP g2
    go_wp2
    go_ret
    exact ⟨by unfold isLive; rw [← HB.out, ← HK.out]; first | rfl | (congr 2; simp [bne]; done) | (congr 2; exact (Bool.eq_iff_iff.2 (by simp))), GG.out⟩
def isFailed (s : ByteArray) (o : Ob) : Bool := isOf s o && decide (o.p.ph = 3)
set_option maxHeartbeats 2000000 in
theorem live2_any (w : World) (X : Array Value) (o : Ob) (C : Nat) (s : ByteArray) (hv : ObjV w X o) (hs : w.cell? ⟨C, 0, none⟩ = some (.string s)) :
    Calls Tryz.prog 46 (#[.agg X] ++ #[.pointer (some ⟨C, 0, none⟩)]) w fun e w' => e = .returned (.bool (isFailed s o)) ∧ Gr w w' := by
  obtain ⟨B, hB⟩ : ∃ B, B = w.heap.size := ⟨_, rfl⟩
  obtain ⟨w1, hw1⟩ : ∃ W, W = w.alloc (.cells X OT) := ⟨_, rfl⟩
  have G1 : Gr w w1 := hw1 ▸ (Gr.refl w).alloc _
  have b1 : w1.heap[B]? = some (.cells X OT (0, 0)) := by rw [hw1, hB]; exact heap_alloc_new w _
  have d12 : w1.cell? ⟨B, 12, none⟩ = some (.int .i64 o.p.ph) := (cell_of_block b1 12).trans hv.2.2.2.1.2.2.1
  have ds : w1.cell? ⟨C, 0, none⟩ = some (.string s) := G1.cell hs
  have HW : Hid (w.alloc (.cells X OT) = w1 ∧ w.heap.size = B) := ⟨hw1.symm, hB.symm⟩
  have HG := Lib.hid G1
  have LO := Lib.hid (load_ob b1 hv.1)
  have CP := Lib.hid (owner_any w1 X o s (hv.below G1.below))
  obtain ⟨ph, hph⟩ : ∃ k, k = o.p.ph := ⟨_, rfl⟩
  rw [← hph] at d12
  have HK : Hid (ph = o.p.ph) := hph
  obtain ⟨b, hb⟩ : ∃ b, b = isOf s o := ⟨_, rfl⟩
  rw [← hb] at CP
  have HB : Hid (b = isOf s o) := hb
  clear hv hB hw1 G1 b1 hph hb hs
  cases b with
  | false =>
    go_enter Tryz.func46, Tryz.ntmps46
    go_upto_region 1 with fail
    rw [HW.out.1, HW.out.2]
    go_wp2_with (refine wpList_load_by (by kernel_rfl) OT _ rfl (.pointer (some ⟨B, 0, none⟩)) (.agg X) (by kernel_rfl) LO.out ?_)
    refine CP.out.mono ?_
    rintro e w2 ⟨rfl, g2⟩
    have GG := Lib.hid (HG.out.trans g2)
    clear d12 ds LO CP g2
    go_wp2
    go_ret
    exact ⟨by unfold isFailed; rw [← HB.out]; rfl, GG.out⟩
  | true =>
    go_enter Tryz.func46, Tryz.ntmps46
    go_upto_region 1 with fail
    rw [HW.out.1, HW.out.2]
    go_wp2_with (refine wpList_load_by (by kernel_rfl) OT _ rfl (.pointer (some ⟨B, 0, none⟩)) (.agg X) (by kernel_rfl) LO.out ?_)
    refine CP.out.mono ?_
    rintro e w2 ⟨rfl, g2⟩
    have GG := Lib.hid (HG.out.trans g2)
    have e12 : w2.cell? ⟨B, 12, none⟩ = some (.int .i64 ph) := g2.cell d12
    clear d12 ds LO CP g2
    go_wp2
    go_ret
    exact ⟨by unfold isFailed; rw [← HB.out, ← HK.out]; first | rfl | (congr 2; simp [bne]; done) | (congr 2; exact (Bool.eq_iff_iff.2 (by simp))), GG.out⟩
end Go.Proofs.YtbkoepghmcdnhaaGreatDoor.Vi
