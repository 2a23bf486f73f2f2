/- The law's example. -/
import Derived.Test.YtnfeimjidebboaaVaH
import Derived.Test.YtnfeimjidebboaaObLd
import Derived.Test.YtnfeimjidebboaaObX
namespace Go.Proofs.Ytnfeimjidebboaa
open Go.RowKit Go.Shelf Go.Lib Go.Sort
open Go.Joins (cell_of_block unfrozen_of_block block_setCell)
set_option linter.unusedVariables false
set_option linter.unusedSimpArgs false
set_option maxRecDepth 20000

def ndO (cpu : Int) : Ob := ⟨2, ⟨#[110, 49]⟩, 0, zerO.w, zerO.p, ⟨⟨#[]⟩, cpu, 0, [], [], 0, false⟩, zerO.g, zerO.h⟩
abbrev ndCs (cpu : Int) : Array Value := #[.int .i64 2, .string ⟨#[110, 49]⟩, .int .u64 0, .int .i64 0, .int .i64 0, .int .i64 0, .slice none 0 0, .slice none 0 0, .slice none 0 0, .int .i64 0, .string { data := #[] }, .string { data := #[] }, .int .i64 0, .int .i64 0, .int .i64 0, .int .i64 0, .slice none 0 0, .slice none 0 0, .slice none 0 0, .int .i64 0, .string { data := #[] }, .int .i64 cpu, .int .i64 0, .slice none 0 0, .slice none 0 0, .int .i64 0, .bool false, .int .i64 0, .int .i64 0, .int .i64 0, .int .i64 0, .int .i64 0, .slice none 0 0, .slice none 0 0, .int .i64 0, .string { data := #[] }, .int .i64 0, .int .i64 0, .slice none 0 0, .int .i64 0, .int .i64 0, .int .i64 0, .slice none 0 0, .int .i64 0, .int .i64 0, .slice none 0 0, .slice none 0 0]
theorem nd_obj (w : World) (cpu : Int) : ObjV w (ndCs cpu) (ndO cpu) :=
  ⟨rfl, ⟨rfl, rfl, rfl, (by show (0 : Nat) < 18446744073709551616; decide)⟩, ⟨rfl, rfl, rfl, ⟨none, 0, rfl, RowR.nil _ _ _ _⟩, ⟨none, 0, rfl, RowR.nil _ _ _ _⟩, ⟨none, 0, rfl, RowR.nil _ _ _ _⟩, rfl⟩, ⟨rfl, rfl, rfl, rfl, rfl, rfl, ⟨none, 0, rfl, RowR.nil _ _ _ _⟩, ⟨none, 0, rfl, RowR.nil _ _ _ _⟩, ⟨none, 0, rfl, RowR.nil _ _ _ _⟩, rfl⟩, ⟨rfl, rfl, rfl, ⟨none, 0, rfl, RowR.nil _ _ _ _⟩, ⟨none, 0, rfl, RowR.nil _ _ _ _⟩, rfl, rfl⟩, ⟨rfl, rfl, rfl, rfl, rfl, ⟨none, 0, rfl, RowR.nil _ _ _ _⟩, ⟨none, 0, rfl, RowR.nil _ _ _ _⟩, rfl⟩, ⟨rfl, rfl, rfl, ⟨none, 0, rfl, RowR.nil _ _ _ _⟩, rfl, rfl, rfl, ⟨none, 0, rfl, RowR.nil _ _ _ _⟩, rfl, rfl, ⟨none, 0, rfl, RowR.nil _ _ _ _⟩, ⟨none, 0, rfl, RowR.nil _ _ _ _⟩⟩⟩
theorem nd_fits (cpu : Int) : FitsO (ndO cpu) := by constructor <;> first | rfl | exact Nat.zero_le _
theorem nd_bad : chkE (ndO 0) = 2 := by decide +kernel
theorem nd_good : chkE (ndO 1) = 0 := by decide +kernel

set_option maxHeartbeats 4000000 in
theorem lives_any (w : World) : Calls Try.prog 6 #[] w fun e w' => e = .returned (.bool true) ∧ Gr w w' := by
  have mixed : Try.prog.follows .mixedOrders = true := by kernel_rfl
  obtain ⟨lb, lg⟩ := laid_ob w (cs := ndCs 0) rfl
  have THERE := Lib.hid (zer_there w (n := 47) rfl)
  have INFO : Hid ((Try.prog.info? 44).map (·.size) = some (ndCs 0).size) := info_ob47
  have ONE : Hid ((ndCs 0).all (·.oneCell') = true) := objV_one (nd_obj w 0)
  obtain ⟨B, hB⟩ : ∃ B, B = w.heap.size := ⟨_, rfl⟩
  obtain ⟨wx, hwx⟩ : ∃ wx, wx = (w.alloc (.cells zerC 44)).setCells w.heap.size 0 (ndCs 0).toList := ⟨_, rfl⟩
  rw [← hwx, ← hB] at lb
  rw [← hwx] at lg
  have LB := Lib.hid lb
  have G0 := Lib.hid lg
  have HW := Lib.hid (And.intro hwx hB)
  have L0 := Lib.hid (load_ob lb rfl)
  have C0 : Hid (Calls Try.prog 8 #[.agg (ndCs 0)] wx fun e w' => e = .returned (.int .i64 2) ∧ Gr wx w') := nd_bad ▸ check_any wx _ _ (nd_obj wx 0) (nd_fits 0)
  have C1 : Hid (∀ W, Calls Try.prog 8 #[.agg (ndCs 1)] W fun e w' => e = .returned (.int .i64 0) ∧ Gr W w') := fun W => nd_good ▸ check_any W _ _ (nd_obj W 1) (nd_fits 1)
  clear lb lg hwx hB
  go_enter Try.func6, Try.ntmps6
  go_upto_region 2 with (refine wpList_store_mid rfl _ _ _ rfl w.heap.size 0 (ndCs 0) (by rfl) (by rfl) THERE.out INFO.out ONE.out ?_)
  rw [← HW.out.1, ← HW.out.2]
  go_wp2_with (refine wpList_load_by (by kernel_rfl) 44 _ rfl (.pointer (some ⟨B, 0, none⟩)) (.agg (ndCs 0)) (by kernel_rfl) L0.out ?_)
  refine C0.out.mono ?_
  rintro e w1 ⟨rfl, g1⟩
  have lb1 : w1.heap[B]? = some (.cells (ndCs 0) 44 (0, 0)) := (g1.heap (Array.getElem?_eq_some_iff.1 LB.out).1).trans LB.out
  have d21 : w1.cell? ⟨B, 21, none⟩ = some (.int .i64 0) := cell_of_block lb1 21
  have u21 := unfrozen_of_block lb1 21
  obtain ⟨w2, hw2⟩ : ∃ w2, w2 = w1.setCell ⟨B, 21, none⟩ (.int .i64 1) := ⟨_, rfl⟩
  have lb2 : w2.heap[B]? = some (.cells (ndCs 1) 44 (0, 0)) := by rw [hw2, block_setCell lb1]; rfl
  have G2 : Hid (Gr w w2) := Xc.out (G0.out.trans g1) (hw2 ▸ (Xc.refl B w1).setCell 21 _) (Nat.le_of_eq HW.out.2.symm)
  have L2 := Lib.hid (load_ob lb2 rfl)
  have HW2 := Lib.hid hw2
  clear lb1 lb2 g1 hw2 L0 C0
  go_upto_region 4 with fail
  rw [← HW2.out]
  go_wp2_with (refine wpList_load_by (by kernel_rfl) 44 _ rfl (.pointer (some ⟨B, 0, none⟩)) (.agg (ndCs 1)) (by kernel_rfl) L2.out ?_)
  refine (C1.out _).mono ?_
  rintro e w3 ⟨rfl, g3⟩
  have G3 := Lib.hid (G2.out.trans g3)
  clear g3
  go_wp2
  go_ret
  exact ⟨rfl, G3.out⟩
end Go.Proofs.Ytnfeimjidebboaa
