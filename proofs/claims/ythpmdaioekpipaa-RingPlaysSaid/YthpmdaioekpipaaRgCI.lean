/- A ring of int: the youngest one. -/
import Derived.Test.YthpmdaioekpipaaRgBI
import Derived.IntWalk
namespace Go.Proofs.Ythpmdaioekpipaa
open Go.RowKit Go.Lib
open Go.Joins (cell_of_block unfrozen_of_block block_setCell)
set_option linter.unusedVariables false
set_option linter.unusedSimpArgs false
set_option maxRecDepth 20000

/-- A cell or a block, one or two of them, of a variable's own. -/
theorem last_noneI (w : World) (p : Option Addr) (h : ∀ W, Below w.heap.size w W → Calls Try.prog 13 #[.pointer p] W fun e w' => e = .returned (.int .i64 0) ∧ W = w') :
    Calls Try.prog 11 #[.pointer p] w fun e w' => e = .returned (.tuple #[.agg #[.int .i64 0, (.int .i64 0)], .bool false]) ∧ Below w.heap.size w w' := by
  have C := Lib.hid h
  clear h
  have b1 : Below w.heap.size w (w.alloc (.cells #[.int .i64 0, (.int .i64 0)] TSI)) := (Below.refl _ _).alloc (Nat.le_refl _) _
  have B1 := Lib.hid b1
  clear b1
  go_enter Try.func11, Try.ntmps11
  go_wp2_with fail
  refine (C.out _ B1.out).mono ?_
  rintro e w' ⟨rfl, rfl⟩
  go_wp2
  exact bodyPost_ret (v := .tuple #[.agg #[.int .i64 0, (.int .i64 0)], .bool false]) (by simp [results, Try.results11, go_sem]) rfl ⟨rfl, B1.out⟩
theorem last_nilI (w : World) : Calls Try.prog 11 #[.pointer none] w fun e w' => e = .returned (.tuple #[.agg #[.int .i64 0, (.int .i64 0)], .bool false]) ∧ Below w.heap.size w w' := last_noneI w none (fun W _ => rlen_nilI W)
theorem last_emptyI (w : World) (rb gb n : Nat) (H : HasI w rb gb n []) : Calls Try.prog 11 #[.pointer (some ⟨rb, 0, none⟩)] w fun e w' => e = .returned (.tuple #[.agg #[.int .i64 0, (.int .i64 0)], .bool false]) ∧ Below w.heap.size w w' :=
  last_noneI w _ (fun W b => by
    obtain ⟨cp, f, c, h, _⟩ := H.gr b
    exact rlenI W rb 0 h.c2)
theorem last_someI (w : World) (rb gb n : Nat) (L : List (Int × Int)) (x : Int × Int) (H : HasI w rb gb n (L ++ [x])) :
    Calls Try.prog 11 #[.pointer (some ⟨rb, 0, none⟩)] w fun e w' => e = .returned (.tuple #[.agg #[.int .i64 x.1, (.int .i64 x.2)], .bool true]) ∧ Below w.heap.size w w' := by
  obtain ⟨cp, f, c, h, hc⟩ := H
  have hx := hc L.length x (by simp)
  obtain ⟨m, hm⟩ : ∃ m, m = L.length + 1 := ⟨_, rfl⟩
  have hm' : (L ++ [x]).length = m := by simp [hm]
  rw [hm'] at h
  rw [show L.length = m - 1 by omega] at hx
  have hmn := h.hm
  have hf := h.hf
  obtain ⟨w1, hw1⟩ : ∃ w1, w1 = w.alloc (.cells #[.int .i64 0, (.int .i64 0)] TSI) := ⟨_, rfl⟩
  have b1 : Below w.heap.size w w1 := hw1 ▸ (Below.refl _ _).alloc (Nat.le_refl _) _
  have h1 := h.gr b1
  obtain ⟨B, hB⟩ : ∃ B, B = w.heap.size := ⟨_, rfl⟩
  have k0 : w1.heap[B]? = some (.cells #[.int .i64 0, (.int .i64 0)] TSI (0, 0)) := by rw [hw1, hB]; exact heap_alloc_new w _
  have c0 := h1.c0
  have c2 := h1.c2
  have CL := Lib.hid (rlenI w1 rb m c2)
  have CP := Lib.hid (fun (W : World) (q : W.cell? ⟨rb, 0, none⟩ = some (.slice (some ⟨gb, 0, none⟩) n cp) ∧ W.cell? ⟨rb, 1, none⟩ = some (.int .i64 (f : Int))) => placeI W rb gb n cp f (m - 1) q.1 q.2 hf (by omega) h.hn.2)
  have hpl : pl n f (m - 1) < n := pl_lt hf (by omega)
  have a0 := h1.at0 hpl
  have a1 := h1.at1 hpl
  rw [hx] at a0 a1
  have c1 := Lib.hid h1.c1
  have em : ((m - 1 : Nat) : Int) = (m : Int) - 1 := by omega
  rw [em] at CP
  have hm1 : 1 ≤ m := by omega
  have hn32 := h.hn.2
  have d0 : w1.cell? ⟨B, 0, none⟩ = some (.int .i64 0) := cell_of_block k0 0
  have d1 : w1.cell? ⟨B, 1, none⟩ = some (.int .i64 0) := cell_of_block k0 1
  have u0 : w1.frozen? ⟨B, 0, none⟩ = false := unfrozen_of_block k0 0
  have u1 : w1.frozen? ⟨B, 1, none⟩ = false := unfrozen_of_block k0 1
  have hne : gb ≠ B := by have := h.lt.2; omega
  have HW : Hid (w.alloc (.cells #[.int .i64 0, (.int .i64 0)] TSI) = w1 ∧ w.heap.size = B) := ⟨hw1.symm, hB.symm⟩
  have FIN := Lib.hid b1
  generalize hpe : pl n f (m - 1) = p at *
  have hnz : ((m : Int) == 0) = false := by rw [beq_eq_false_iff_ne]; omega
  obtain ⟨xa, xv⟩ := x
  simp only at a0 a1
  have HB2 : Hid (gb < w.heap.size) := h.lt.2
  clear hw1 hB h1 h hc hx hm hm' b1 em k0 hpe
  go_enter Try.func11, Try.ntmps11
  go_upto_region 1 with fail
  rw [HW.out.1, HW.out.2]
  go_wp2_with fail
  refine CL.out.mono ?_
  rintro e w' ⟨rfl, rfl⟩
  go_upto_region 3 with fail
  have W1 : IntKind.i64.wrap ((m : Int) - 1) = (m : Int) - 1 := IntWalk.i64_in _ (by omega)
  have p0 : (0 : Int) ≤ (p : Int) := Int.natCast_nonneg _
  have p1 : (p : Int) < (n : Int) := by omega
  go_still_tail 13, (by kernel_rfl)
  still_call ((CP.out (World.drew w1) ⟨c0, c1.out⟩).mono fun e w' q => ⟨q.1, q.2.symm⟩)
  repeat still_step
  refine wpStill_nil ?_
  change wpList _ _ _ _ _ (World.drew w1)
  clear W1
  go_wp2
  have DR : Below w.heap.size w (World.drew w1) := Below.drewN' FIN.out 1
  have hle : w.heap.size ≤ B := by rw [← HW.out.2]; exact Nat.le_refl _
  exact bodyPost_ret (v := .tuple #[.agg #[.int .i64 xa, (.int .i64 xv)], .bool true]) (by simp [results, Try.results11, go_sem, d0, d1]) rfl ⟨rfl, by first | exact (DR.setCell (p := ⟨B, 0, none⟩) hle _).setCell (p := ⟨B, 1, none⟩) hle _ | exact ((FIN.out.setCell (p := ⟨B, 0, none⟩) hle _).setCell (p := ⟨B, 1, none⟩) hle _).drewN' 1⟩
end Go.Proofs.Ythpmdaioekpipaa
