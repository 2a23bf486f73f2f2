/- A row of series is sorted. -/
import Derived.Test.YtlklbhjcohgmhaaScJ
import Derived.Test.YtlklbhjcohgmhaaObN
namespace Go.Proofs.Ytlklbhjcohgmhaa
open Go.RowKit Go.Shelf Go.Lib Go.Sort
open Go.Joins (cell_of_block unfrozen_of_block block_setCell)
set_option linter.unusedVariables false
set_option linter.unusedSimpArgs false
set_option maxRecDepth 20000

set_option maxHeartbeats 4000000 in
theorem closureS (x y : Sr) (w : World) : Calls Try.prog 27 #[.agg (enSr x).toArray, .agg (enSr y).toArray] w fun e w' => e = .returned (.int .i64 (cfS x y)) ∧ ∃ q os', w' = grow (w.drewN q) os' := by
  have mixed : Try.prog.follows .mixedOrders = true := by kernel_rfl
  have C1 := Lib.hid (compareS x.1 y.1)
  have C2 := Lib.hid (compareS x.2 y.2)
  have E : cfS x y = if compareBytes x.1.data.toList y.1.data.toList = 0 then compareBytes x.2.data.toList y.2.data.toList else compareBytes x.1.data.toList y.1.data.toList := rfl
  generalize compareBytes x.1.data.toList y.1.data.toList = p at C1 E
  generalize compareBytes x.2.data.toList y.2.data.toList = q at C2 E
  have HE := Lib.hid E
  clear E
  have ex : (enSr x).toArray = #[.string x.1, .string x.2] := rfl
  have ey : (enSr y).toArray = #[.string y.1, .string y.2] := rfl
  rw [ex, ey]
  clear ex ey
  obtain ⟨x1, x2⟩ := x
  obtain ⟨y1, y2⟩ := y
  simp only at C1 C2 HE ⊢
  obtain ⟨B, hB⟩ : ∃ B, B = w.heap.size := ⟨_, rfl⟩
  obtain ⟨w1, hw1⟩ : ∃ w1, w1 = w.alloc (.cells #[.string x1, .string x2] KS) := ⟨_, rfl⟩
  obtain ⟨w2, hw2⟩ : ∃ w2, w2 = w1.alloc (.cells #[.string y1, .string y2] KS) := ⟨_, rfl⟩
  have z1 : w1.heap.size = B + 1 := by rw [hw1, hB]; simp
  have z2 : w2.heap.size = B + 2 := by rw [hw2, World.size_alloc, z1]
  have b1 : w1.heap[B]? = some (.cells #[.string x1, .string x2] KS (0, 0)) := by rw [hw1, hB]; exact heap_alloc_new w _
  have b2 : w2.heap[B + 1]? = some (.cells #[.string y1, .string y2] KS (0, 0)) := by rw [hw2, ← z1]; exact heap_alloc_new w1 _
  have b1' : w2.heap[B]? = some (.cells #[.string x1, .string x2] KS (0, 0)) := by rw [hw2]; exact (Below.heap_alloc w1 _ _ (by omega)).trans b1
  have c0 : w2.cell? ⟨B, 0, none⟩ = some (.string x1) := cell_of_block b1' 0
  have c1 : w2.cell? ⟨B, 1, none⟩ = some (.string x2) := cell_of_block b1' 1
  have d0 : w2.cell? ⟨B + 1, 0, none⟩ = some (.string y1) := cell_of_block b2 0
  have d1 : w2.cell? ⟨B + 1, 1, none⟩ = some (.string y2) := cell_of_block b2 1
  obtain ⟨G, hG⟩ : ∃ G, G = B + 2 := ⟨_, rfl⟩
  obtain ⟨w4, hw4⟩ : ∃ w4, w4 = w2.drew.alloc (.cells #[.int .i64 p, .int .i64 q] 3) := ⟨_, rfl⟩
  have b4 : w4.heap[G]? = some (.cells #[.int .i64 p, .int .i64 q] 3 (0, 0)) := by
    have e : w2.drew.heap.size = G := by rw [hG]; exact z2
    rw [hw4, ← e]
    exact heap_alloc_new w2.drew _
  have CO := Lib.hid (or_any p q G w4 (cell_of_block b4 0) (cell_of_block b4 1))
  rw [← HE.out] at CO
  generalize cfS (x1, x2) (y1, y2) = r at CO ⊢
  have FIN : Hid (Gr w w4) := by show Gr _ _; rw [hw4, hw2, hw1]; exact ((((Gr.refl w).alloc _).alloc _).drewN 1).alloc _
  have HW : Hid (w.alloc (.cells #[.string x1, .string x2] KS) = w1 ∧ w1.alloc (.cells #[.string y1, .string y2] KS) = w2 ∧ w.heap.size = B ∧ w1.heap.size = B + 1) := ⟨hw1.symm, hw2.symm, hB.symm, z1⟩
  have HW4 : Hid ((w2.alloc (.cells #[.int .i64 p, .int .i64 q] 3)).drew = w4 ∧ w2.heap.size = G) := ⟨hw4.symm, by rw [hG]; exact z2⟩
  have S0 : Hid (∀ ws : World, (ws.cell? ⟨B, 0, none⟩ = some (.string x1) ∧ ws.cell? ⟨B, 1, none⟩ = some (.string x2) ∧ ws.cell? ⟨B + 1, 0, none⟩ = some (.string y1) ∧ ws.cell? ⟨B + 1, 1, none⟩ = some (.string y2)) → ws.cell? ⟨B, 0, none⟩ = some (.string x1) ∧ ws.cell? ⟨B, 1, none⟩ = some (.string x2) ∧ ws.cell? ⟨B + 1, 0, none⟩ = some (.string y1) ∧ ws.cell? ⟨B + 1, 1, none⟩ = some (.string y2)) := fun ws h => h
  have S2 : Hid (w2.drew.cell? ⟨B, 0, none⟩ = some (.string x1) ∧ w2.drew.cell? ⟨B, 1, none⟩ = some (.string x2) ∧ w2.drew.cell? ⟨B + 1, 0, none⟩ = some (.string y1) ∧ w2.drew.cell? ⟨B + 1, 1, none⟩ = some (.string y2)) := ⟨c0, c1, d0, d1⟩
  have S4 : Hid (w4.cell? ⟨B, 0, none⟩ = some (.string x1) ∧ w4.cell? ⟨B, 1, none⟩ = some (.string x2) ∧ w4.cell? ⟨B + 1, 0, none⟩ = some (.string y1) ∧ w4.cell? ⟨B + 1, 1, none⟩ = some (.string y2)) := by
    have bw : Below w2.heap.size w2 w4 := by rw [hw4]; exact (Below.drewN' (Below.refl _ w2) 1).alloc (Nat.le_refl _) _
    exact ⟨(bw.cell (World.block_lt_of_cell? _ _ c0)).trans c0, (bw.cell (World.block_lt_of_cell? _ _ c1)).trans c1, (bw.cell (World.block_lt_of_cell? _ _ d0)).trans d0, (bw.cell (World.block_lt_of_cell? _ _ d1)).trans d1⟩
  clear hw1 hw2 hw4 z1 z2 b1 b2 b1' b4 hB hG c0 c1 d0 d1 HE
  go_enter Try.func27, Try.ntmps27
  go_upto_region 1 with fail
  rw [HW.out.1, HW.out.2.1, HW.out.2.2.1]
  refine wp_region_held_drew (S := fun ws => ws.cell? ⟨B, 0, none⟩ = some (.string x1) ∧ ws.cell? ⟨B, 1, none⟩ = some (.string x2) ∧ ws.cell? ⟨B + 1, 0, none⟩ = some (.string y1) ∧ ws.cell? ⟨B + 1, 1, none⟩ = some (.string y2)) mixed S2.out (fun hS => ?_)
  refine wpAnyH_takeD (i := 0) (d := 5) (v := .pointer (some ⟨B, 0, none⟩)) _ rfl rfl (by kernel_rfl) (by kernel_rfl) (by kernel_rfl) (fun _ _ _ h => h) (Or.inl ⟨by kernel_rfl, fun ws hSw => by first | (go_simp; done) | (go_simp; with_reducible rfl) | (go_simp; rfl)⟩) hS ?_
  simp only [Act.put, List.setIfInBounds_toArray, List.set_cons_zero, List.set_cons_succ]
  refine wpAnyH_takeD (i := 1) (d := 6) (v := .string x1) _ rfl rfl (by kernel_rfl) (by kernel_rfl) (by kernel_rfl) (fun _ _ _ h => h) (Or.inl ⟨by kernel_rfl, fun ws hSw => by have q := S0.out ws hSw; first | (go_simp; done) | (go_simp; with_reducible rfl) | (go_simp; rfl)⟩) hS ?_
  simp only [Act.put, List.setIfInBounds_toArray, List.set_cons_zero, List.set_cons_succ]
  refine wpAnyH_takeD (i := 2) (d := 7) (v := .pointer (some ⟨B + 1, 0, none⟩)) _ rfl rfl (by kernel_rfl) (by kernel_rfl) (by kernel_rfl) (fun _ _ _ h => h) (Or.inl ⟨by kernel_rfl, fun ws hSw => by first | (go_simp; done) | (go_simp; with_reducible rfl) | (go_simp; rfl)⟩) hS ?_
  simp only [Act.put, List.setIfInBounds_toArray, List.set_cons_zero, List.set_cons_succ]
  refine wpAnyH_takeD (i := 3) (d := 8) (v := .string y1) _ rfl rfl (by kernel_rfl) (by kernel_rfl) (by kernel_rfl) (fun _ _ _ h => h) (Or.inl ⟨by kernel_rfl, fun ws hSw => by have q := S0.out ws hSw; first | (go_simp; done) | (go_simp; with_reducible rfl) | (go_simp; rfl)⟩) hS ?_
  simp only [Act.put, List.setIfInBounds_toArray, List.set_cons_zero, List.set_cons_succ]
  refine wpAnyH_takeD (i := 5) (d := 10) (v := .pointer (some ⟨B, 1, none⟩)) _ rfl rfl (by kernel_rfl) (by kernel_rfl) (by kernel_rfl) (fun _ _ _ h => h) (Or.inl ⟨by kernel_rfl, fun ws hSw => by first | (go_simp; done) | (go_simp; with_reducible rfl) | (go_simp; rfl)⟩) hS ?_
  simp only [Act.put, List.setIfInBounds_toArray, List.set_cons_zero, List.set_cons_succ]
  refine wpAnyH_takeD (i := 6) (d := 11) (v := .string x2) _ rfl rfl (by kernel_rfl) (by kernel_rfl) (by kernel_rfl) (fun _ _ _ h => h) (Or.inl ⟨by kernel_rfl, fun ws hSw => by have q := S0.out ws hSw; first | (go_simp; done) | (go_simp; with_reducible rfl) | (go_simp; rfl)⟩) hS ?_
  simp only [Act.put, List.setIfInBounds_toArray, List.set_cons_zero, List.set_cons_succ]
  refine wpAnyH_takeD (i := 7) (d := 12) (v := .pointer (some ⟨B + 1, 1, none⟩)) _ rfl rfl (by kernel_rfl) (by kernel_rfl) (by kernel_rfl) (fun _ _ _ h => h) (Or.inl ⟨by kernel_rfl, fun ws hSw => by first | (go_simp; done) | (go_simp; with_reducible rfl) | (go_simp; rfl)⟩) hS ?_
  simp only [Act.put, List.setIfInBounds_toArray, List.set_cons_zero, List.set_cons_succ]
  refine wpAnyH_takeD (i := 8) (d := 13) (v := .string y2) _ rfl rfl (by kernel_rfl) (by kernel_rfl) (by kernel_rfl) (fun _ _ _ h => h) (Or.inl ⟨by kernel_rfl, fun ws hSw => by have q := S0.out ws hSw; first | (go_simp; done) | (go_simp; with_reducible rfl) | (go_simp; rfl)⟩) hS ?_
  simp only [Act.put, List.setIfInBounds_toArray, List.set_cons_zero, List.set_cons_succ]
  refine wpAnyH_ready (rs := [4]) (by kernel_rfl) (by simp) ?_
  refine AllReadyH.cons rfl (fun K hK => ?_) AllReadyH.nil
  go_simp
  refine (C1.out _).mono ?_
  rintro e w' ⟨rfl, rfl⟩
  refine hK _ _ hS (fun hS => ?_)
  try simp only [Act.put, List.setIfInBounds_toArray, List.set_cons_zero, List.set_cons_succ]
  refine wpAnyH_ready (rs := [9]) (by kernel_rfl) (by simp) ?_
  refine AllReadyH.cons rfl (fun K hK => ?_) AllReadyH.nil
  go_simp
  refine (C2.out _).mono ?_
  rintro e w' ⟨rfl, rfl⟩
  refine hK _ _ hS (fun hS => ?_)
  try simp only [Act.put, List.setIfInBounds_toArray, List.set_cons_zero, List.set_cons_succ]
  refine wpAnyH_ready (rs := [10]) (by kernel_rfl) (by simp) ?_
  refine AllReadyH.cons rfl (fun K hK => ?_) AllReadyH.nil
  go_simp
  rw [HW4.out.1, HW4.out.2]
  refine hK _ _ S4.out (fun hS => ?_)
  try simp only [Act.put, List.setIfInBounds_toArray, List.set_cons_zero, List.set_cons_succ]
  refine wpAnyH_ready (rs := [11]) (by kernel_rfl) (by simp) ?_
  refine AllReadyH.cons rfl (fun K hK => ?_) AllReadyH.nil
  go_simp
  refine CO.out.mono ?_
  rintro e w' ⟨rfl, h⟩
  have h' := h.symm
  subst h'
  refine hK _ _ S4.out (fun hS => ?_)
  try simp only [Act.put, List.setIfInBounds_toArray, List.set_cons_zero, List.set_cons_succ]
  refine wpAnyH_takeD (i := 12) (d := 4) (v := .int .i64 r) _ rfl rfl (by kernel_rfl) (by kernel_rfl) (by kernel_rfl) (fun _ _ _ h => h) (Or.inl ⟨by kernel_rfl, fun ws hSw => by first | (go_simp; done) | (go_simp; with_reducible rfl) | (go_simp; rfl)⟩) hS ?_
  simp only [Act.put, List.setIfInBounds_toArray, List.set_cons_zero, List.set_cons_succ]
  refine wpAnyH_done (by kernel_rfl) ?_ _
  go_wp2
  go_ret
  exact ⟨rfl, FIN.out⟩
end Go.Proofs.Ytlklbhjcohgmhaa
