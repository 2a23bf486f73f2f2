/- Layer 22 (policy): the chapter's example; which inputs are right. -/
import Derived.Test.YtfmllfolpcimpaaPyB
import Derived.Test.YtfmllfolpcimpaaPyG
namespace Go.Proofs.Ytfmllfolpcimpaa.Py
open Go.RowKit Go.Shelf Go.Lib Go.Sort Go.Deep
open Go.Joins (cell_of_block unfrozen_of_block block_setCell)
open Go.Proofs.Ytfmllfolpcimpaa.Ow
set_option linter.unusedVariables false
set_option linter.unusedSimpArgs false
set_option maxRecDepth 20000

theorem GoS_ex : GoS 0 [(true, 1000, 15), (false, 4, 15)] 0 [] [] 9 4 20 = 8 := by decide +kernel
set_option maxHeartbeats 8000000 in
theorem pylives (w : World) : Calls Try.prog 5 #[] w fun e w' => e = .returned (.bool true) ∧ Below w.heap.size w w' := by
  obtain ⟨A, hA⟩ : ∃ A, A = w.heap.size := ⟨_, rfl⟩
  obtain ⟨C, hC⟩ : ∃ C : Array Value, C = #[.bool true, .int .i64 1000, .int .i64 15, .bool false, .int .i64 4, .int .i64 15] := ⟨_, rfl⟩
  obtain ⟨wa, hwa⟩ : ∃ x, x = w.alloc (.cells C PolT) := ⟨_, rfl⟩
  have ba : Below w.heap.size w wa := by rw [hwa]; exact ((Gr.refl w).alloc _).below
  have yA : wa.heap[A]? = some (.cells C PolT (0, 0)) := by rw [hwa, hA]; exact heap_alloc_new w _
  have sA : wa.heap.size = A + 1 := by rw [hwa, hA]; simp
  obtain ⟨wb, B, HB, bb, bB⟩ := box_beh wa 0 0 (.slice (some ⟨A, 0, none⟩) 2 2)
  obtain rfl : B = A + 1 := by rw [← HB.out.2, sA]
  have bw := ba.trans (bb.mono ba.size)
  have rA : RowR 3 encP wb (some ⟨A, 0, none⟩) [(true, 1000, 15), (false, 4, 15)] := by
    have y := (bb.block A (Array.getElem?_eq_some_iff.1 yA).1).trans yA
    intro j x hx
    refine ⟨A, 0, rfl, (Array.getElem?_eq_some_iff.1 y).1, fun t v hv => ?_⟩
    rw [cell_of_block y, hC]
    match j, hx with
    | 0, hx =>
      simp at hx
      subst hx
      match t, hv with
      | 0, hv => exact hv
      | 1, hv => exact hv
      | 2, hv => exact hv
    | 1, hx =>
      simp at hx
      subst hx
      match t, hv with
      | 0, hv => exact hv
      | 1, hv => exact hv
      | 2, hv => exact hv
  have CG := py_go wb 0 0 (some ⟨A, 0, none⟩) 2 [(true, 1000, 15), (false, 4, 15)] rA (by decide) (by decide) 0 0 none 0 [] (RowR.nil _ _ _ _) (by decide) (by simp) none 0 [] (RowR.nil _ _ _ _) (by decide) (by simp) 9 4 20 (by unfold I64; omega)
  rw [GoS_ex] at CG
  have G := Lib.hid CG
  have HW : Hid (w.alloc (.cells #[.bool true, .int .i64 1000, .int .i64 15, .bool false, .int .i64 4, .int .i64 15] PolT) = wa ∧ w.heap.size = A) := by
    refine ⟨?_, hA.symm⟩
    rw [hwa, hC]
  have BW := Lib.hid bw
  have b0 := cell_of_block bB 0
  have b1 := cell_of_block bB 1
  have b2 := cell_of_block bB 2
  clear CG hA hC hwa ba yA sA bb bB bw rA
  go_enter Try.func5, Try.ntmps5
  go_upto_region 2 with fail
  rw [HW.out.2, HW.out.1, HB.out.1]
  go_wp2_with fail
  refine G.out.mono ?_
  rintro e w1 ⟨rfl, b1⟩
  have F := Lib.hid (BW.out.trans (b1.mono BW.out.size))
  clear b1
  go_wp2
  go_ret
  exact ⟨rfl, F.out⟩

/-- Which inputs are right. -/
def rightB (l : List Sca) (now : Int) : Bool := l.all (fun x => decide (0 ≤ x.1) && decide (x.1 ≤ 4611686018427387904)) && decide (0 ≤ now) && decide (now ≤ 4611686018427387904) && decide (l.length ≤ 60)
set_option maxHeartbeats 4000000 in
theorem py_right (w : World) (q : Option Addr) (c : Nat) (l : List Sca) (hr : RowR 3 encS w q l) (hl : l.length ≤ 140737488351232) (now : Int) :
    Calls Try.prog 6 #[.slice q l.length c, .int .i64 now] w fun e w' => e = .returned (.bool (rightB l now)) ∧ Below w.heap.size w w' := by
  obtain ⟨n, hnl⟩ : ∃ n, n = l.length := ⟨_, rfl⟩
  obtain ⟨R, hR⟩ : ∃ R, R = rightB l now := ⟨_, rfl⟩
  have BAD : Hid (∀ (j : Nat) (x : Sca), l[j]? = some x → (x.1 < 0 ∨ x.1 > 4611686018427387904) → R = false) := fun j x hx h => by
    have hf : l.all (fun x => decide (0 ≤ x.1) && decide (x.1 ≤ 4611686018427387904)) = false := by
      rw [List.all_eq_false]
      refine ⟨x, List.mem_of_getElem? hx, ?_⟩
      simp
      omega
    rw [hR]
    unfold rightB
    rw [hf]
    rfl
  have FIN : Hid ((∀ x ∈ l, 0 ≤ x.1 ∧ x.1 ≤ 4611686018427387904) → R = (decide (0 ≤ now) && decide (now ≤ 4611686018427387904) && decide (n ≤ 60))) := fun h => by
    have ht : l.all (fun x => decide (0 ≤ x.1) && decide (x.1 ≤ 4611686018427387904)) = true := by
      rw [List.all_eq_true]
      intro x hx
      have := h x hx
      simp
      omega
    rw [hR]
    unfold rightB
    rw [ht, hnl]
    rfl
  rw [← hR, ← hnl]
  rw [← hnl] at hl
  have HH := Lib.hid (And.intro hr hnl)
  clear hr hnl hR
  go_enter Try.func6, Try.ntmps6
  go_wp2_with fail
  go_loopg [9] n (fun g1 vi wr => ∃ (j : Nat), vi = .int .i64 (j : Int) ∧ j ≤ n ∧ n - j ≤ g1 ∧ Hid ((∀ x ∈ l.take j, 0 ≤ x.1 ∧ x.1 ≤ 4611686018427387904) ∧ Below w.heap.size w wr))
  case atStart => exact ⟨0, rfl, Nat.zero_le _, by omega, by simp, Below.refl _ _⟩
  case round =>
    obtain ⟨j, rfl, h1, h2, HS⟩ := hrel
    by_cases hlt : j < n
    · obtain ⟨hr, hnl⟩ := HH.out
      obtain ⟨hs, bl⟩ := HS.out
      obtain ⟨x, hx⟩ : ∃ x, l[j]? = some x := ⟨l[j]'(by omega), List.getElem?_eq_getElem (by omega)⟩
      obtain ⟨gb, off, rfl, c0, c1, c2⟩ := sca_at hr bl hx
      have BX := Lib.hid (BAD.out j x hx)
      have TK := List.take_add_one (l := l) (i := j)
      rw [hx] at TK
      have NX : Hid (0 ≤ x.1 → x.1 ≤ 4611686018427387904 → ∀ y ∈ l.take (j + 1), 0 ≤ y.1 ∧ y.1 ≤ 4611686018427387904) := fun g1 g2 y hy => by
        rw [TK] at hy
        rcases List.mem_append.1 hy with hy | hy
        · exact hs y hy
        · simp at hy
          rw [hy]
          exact ⟨g1, g2⟩
      obtain ⟨xa, xf, xt⟩ := x
      dsimp only at c0 c1 c2 BX NX
      obtain ⟨wb, E, HW, bb, bE, e0, e1, e2⟩ := box_sca wr xa xf xt
      have BB := Lib.hid (bl.trans (bb.mono bl.size))
      clear hr hnl hs bl hx TK bb bE HS
      by_cases g1 : xa < 0
      · have t1 : decide (xa < 0) = true := decide_eq_true g1
        obtain rfl := BX.out (.inl g1)
        clear BX g1 NX
        go_upto_region 4 with fail
        rw [HW.out.1, HW.out.2]
        go_wp2
        go_ret
        exact ⟨rfl, BB.out⟩
      · have t1 : decide (xa < 0) = false := decide_eq_false g1
        by_cases g2 : xa > 4611686018427387904
        · have t2 : decide (xa > 4611686018427387904) = true := decide_eq_true g2
          obtain rfl := BX.out (.inr g2)
          clear BX g1 g2 NX
          go_upto_region 4 with fail
          rw [HW.out.1, HW.out.2]
          go_wp2
          go_ret
          exact ⟨rfl, BB.out⟩
        · have t2 : decide (xa > 4611686018427387904) = false := decide_eq_false g2
          have NY := Lib.hid (NX.out (by omega) (by omega))
          clear BX g1 g2 NX
          go_upto_region 4 with fail
          rw [HW.out.1, HW.out.2]
          go_wp2
          go_roundg (n - (j + 1))
          case measure => omega
          case rel => exact ⟨j + 1, by push_cast; rfl, by omega, by omega, NY.out, BB.out⟩
    · obtain rfl : j = n := by omega
      have E := FIN.out (fun x hx => HS.out.1 x (by rw [List.take_of_length_le (by have := HH.out.2; omega)]; exact hx))
      have BF := Lib.hid HS.out.2
      clear BAD FIN HH HS
      by_cases g1 : 0 ≤ now
      · by_cases g2 : now ≤ 4611686018427387904
        · have t1 : decide (now ≥ 0) = true := decide_eq_true g1
          have t2 : decide (now ≤ 4611686018427387904) = true := decide_eq_true g2
          by_cases g3 : j ≤ 60
          · have EE : R = true := by rw [E, decide_eq_true g1, t2, decide_eq_true g3]; rfl
            have t3 : decide ((j : Int) ≤ 60) = true := decide_eq_true (by omega)
            subst EE
            clear E
            go_wp2
            go_ret
            exact ⟨by rw [← t3]; rfl, BF.out⟩
          · have EE : R = false := by rw [E, decide_eq_true g1, t2, decide_eq_false g3]; rfl
            have t3 : decide ((j : Int) ≤ 60) = false := decide_eq_false (by omega)
            subst EE
            clear E
            go_wp2
            go_ret
            exact ⟨by rw [← t3]; rfl, BF.out⟩
        · have t1 : decide (now ≥ 0) = true := decide_eq_true g1
          have t2 : decide (now ≤ 4611686018427387904) = false := decide_eq_false g2
          have EE : R = false := by rw [E, decide_eq_true g1, t2]; rfl
          subst EE
          clear E
          go_wp2
          go_ret
          exact ⟨rfl, BF.out⟩
      · have t1 : decide (now ≥ 0) = false := decide_eq_false g1
        have EE : R = false := by rw [E, decide_eq_false g1]; rfl
        subst EE
        clear E
        go_wp2
        go_ret
        exact ⟨rfl, BF.out⟩
end Go.Proofs.Ytfmllfolpcimpaa.Py
