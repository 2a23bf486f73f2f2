/- The chapter's example. -/
import Derived.Test.YthpmdaioekpipaaRgPS
import Derived.Test.YthpmdaioekpipaaRgNS
namespace Go.Proofs.Ythpmdaioekpipaa
open Go.RowKit Go.Lib
open Go.Joins (cell_of_block unfrozen_of_block block_setCell)
set_option linter.unusedVariables false
set_option linter.unusedSimpArgs false
set_option maxRecDepth 20000

abbrev vX : ByteArray := { data := #[120] }
/-- The example's ring behind so many samples. -/
def exL : Nat → List (Int × ByteArray)
  | 0 => []
  | 1 => [(1, vX)]
  | 2 => [(1, vX), (2, vX)]
  | _ => [(2, vX), (3, vX)]
theorem ex_put (w : World) (rb gb : Nat) (j : Nat) (hj : j < 3) (H : HasS w rb gb 2 (exL j)) :
    Calls Try.prog 15 #[.pointer (some ⟨rb, 0, none⟩), .int .i64 ((j : Int) + 1), .string vX] w fun e w' => e = .returned (.int .i64 0) ∧ HasS w' rb gb 2 (exL (j + 1)) ∧ Tch [rb, gb] w w' := by
  match j, hj with
  | 0, _ => exact put_okS w rb gb 2 [] H 1 vX (by omega) (fun y hy => by cases hy)
  | 1, _ => exact put_okS w rb gb 2 [(1, vX)] H 2 vX (by omega) (fun y hy => by simp at hy; rw [← hy]; decide)
  | 2, _ => exact put_okS w rb gb 2 [(1, vX), (2, vX)] H 3 vX (by omega) (fun y hy => by simp at hy; rw [← hy]; decide)

set_option maxHeartbeats 1000000 in
theorem ring_lives (w : World) : Calls Try.prog 5 #[] w fun e w' => e = .returned (.bool true) ∧ Below w.heap.size w w' := by
  have CN := Lib.hid (new_okS w 2 (by omega))
  go_enter Try.func5, Try.ntmps5
  go_wp2_with fail
  refine CN.out.mono ?_
  rintro e w1 ⟨rb, rfl, gb, h1, h2, H, b1⟩
  obtain ⟨N, hN⟩ : ∃ N, N = w.heap.size := ⟨_, rfl⟩
  rw [← hN] at h1 h2 b1
  have HN := Lib.hid hN
  have S0 : Hid (HasS w1 rb gb 2 (exL 0) ∧ Below N w w1) := ⟨H, b1⟩
  have LE := Lib.hid (And.intro h1 h2)
  clear H b1 CN h1 h2 hN
  go_wp2_with fail
  go_loopg [10] 3 (fun g vi wr => ∃ j : Nat, vi = .int .i64 (j : Int) ∧ j ≤ 3 ∧ 3 - j ≤ g ∧ Hid (HasS wr rb gb 2 (exL j) ∧ Below N w wr))
  case atStart => exact ⟨0, rfl, by omega, by omega, S0⟩
  case round =>
    obtain ⟨j, rfl, hj, hg, HR⟩ := hrel
    by_cases hlt : j < 3
    · have CP := Lib.hid (ex_put wr rb gb j hlt HR.out.1)
      go_wp2_with fail
      refine CP.out.mono ?_
      rintro e w2 ⟨rfl, h2, t2⟩
      have R2 : Hid (HasS w2 rb gb 2 (exL (j + 1)) ∧ Below N w w2) := ⟨h2, HR.out.2.trans (t2.below (fun g hg => by simp at hg; have := LE.out; omega) (by have := HR.out.2.size; have := HN.out; omega))⟩
      clear h2 t2 CP HR S0
      go_wp2
      go_roundg (3 - (j + 1))
      case measure => omega
      case rel => exact ⟨j + 1, by push_cast; rfl, by omega, by omega, R2⟩
    · have e : j = 3 := by omega
      subst e
      have CL := Lib.hid (last_someS wr rb gb 2 [(2, vX)] (3, vX) HR.out.1)
      go_wp2_with fail
      refine CL.out.mono ?_
      rintro e w2 ⟨rfl, b2⟩
      have low2 : Below N w w2 := HR.out.2.trans (b2.mono (by have := HR.out.2.size; have := HN.out; omega))
      have h2 := HR.out.1.gr b2
      obtain ⟨A, hA⟩ : ∃ A, A = w2.heap.size := ⟨_, rfl⟩
      obtain ⟨w3, hw3⟩ : ∃ x, x = w2.alloc (.cells #[.int .i64 3, .string vX] TSS) := ⟨_, rfl⟩
      have b3 : Below w2.heap.size w2 w3 := hw3 ▸ (Below.refl _ _).alloc (Nat.le_refl _) _
      have d0 : w3.cell? ⟨A, 0, none⟩ = some (.int .i64 3) := by rw [hw3, hA]; exact cell_of_block (heap_alloc_new w2 _) 0
      obtain ⟨cp, f, c, hr, _⟩ := h2.gr b3
      have CN2 := Lib.hid (rlenS w3 rb 2 hr.c2)
      have LOW : Hid (Below N w w3) := low2.trans (b3.mono (by have := low2.size; have := HN.out; omega))
      have HW : Hid (w2.alloc (.cells #[.int .i64 3, .string vX] TSS) = w3 ∧ w2.heap.size = A) := ⟨hw3.symm, hA.symm⟩
      clear hr b3 hw3 hA h2 low2 b2 CL HR S0
      go_upto_region 9 with fail
      rw [HW.out.1, HW.out.2]
      go_wp2_with fail
      refine CN2.out.mono ?_
      rintro e w' ⟨rfl, rfl⟩
      go_wp2
      go_ret
      exact ⟨rfl, by rw [← HN.out]; exact LOW.out⟩
end Go.Proofs.Ythpmdaioekpipaa
