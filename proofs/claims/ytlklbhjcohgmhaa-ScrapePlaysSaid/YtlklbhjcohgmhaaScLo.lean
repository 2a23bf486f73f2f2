/- The law ScrapePlays: too much came in; rules that may not be. -/
import Derived.Test.YtlklbhjcohgmhaaScTb
import Derived.Test.YtlklbhjcohgmhaaScL
import Derived.Test.YtlklbhjcohgmhaaSLawBase
namespace Go.Proofs.Ytlklbhjcohgmhaa.scrapePlays
open Go.ChangeShapes Go.WideShapes Go.ChangeAt Go.RowKit Go.Lib Go.Shelf Go.Sort Go.Deep
open Go.Joins (cell_of_block unfrozen_of_block block_setCell)
set_option linter.unusedVariables false
set_option linter.unusedSimpArgs false
set_option maxRecDepth 20000

/-- The rules' box. -/
theorem boxR (w : World) (n a : Int) : ∃ w1 P, w.alloc (.cells #[.int .i64 n, .int .i64 a] TRul) = w1 ∧ w.heap.size = P ∧ Below w.heap.size w w1 ∧ w1.heap[P]? = some (.cells #[.int .i64 n, .int .i64 a] TRul (0, 0)) ∧ w1.heap.size = P + 1 := ⟨_, _, rfl, rfl, (Below.refl _ _).alloc (Nat.le_refl _) _, heap_alloc_new w _, by simp⟩

set_option maxHeartbeats 4000000 in
theorem long (W : World) (n a : Int) (ql : Option Addr) (cl : Nat) (L : Nat) (qk : Option Addr) (ck K : Nat) (h : 80 < L ∨ 20 < K) :
    Calls Try.prog 3 #[.agg #[.int .i64 n, .int .i64 a], .slice ql L cl, .slice qk K ck] W fun e w' => e = .returned (.bool true) ∧ Below W.heap.size W w' := by
  obtain ⟨w1, N, e1, e2, b1, k1, z1⟩ := boxR W n a
  have HW := Lib.hid (And.intro e1 e2)
  have V := Lib.hid (slives w1)
  have V2 := Lib.hid slives
  have HB := Lib.hid b1
  clear e1 e2 b1 k1 z1
  by_cases hL : 80 < L
  · have t1 : decide ((80 : Int) < (L : Int)) = true := decide_eq_true (by omega)
    clear h
    go_enter Try.func3, Try.ntmps3
    go_upto_region 1 with fail
    rw [HW.out.1, HW.out.2]
    go_wp2_with fail
    refine V.out.mono ?_
    rintro e w2 ⟨rfl, b2⟩
    have B2 := Lib.hid (HB.out.trans (b2.mono HB.out.size))
    clear b2 V
    go_wp2_with fail
    refine (V2.out _).mono ?_
    rintro e w3 ⟨rfl, b3⟩
    have B3 := Lib.hid (B2.out.trans (b3.mono B2.out.size))
    clear b3
    go_wp2
    go_ret
    exact ⟨rfl, B3.out⟩
  · have t1 : decide ((80 : Int) < (L : Int)) = false := decide_eq_false (by omega)
    have t2 : decide ((20 : Int) < (K : Int)) = true := decide_eq_true (by omega)
    have hK : 20 < K := by omega
    clear h
    go_enter Try.func3, Try.ntmps3
    go_upto_region 1 with fail
    rw [HW.out.1, HW.out.2]
    go_wp2_with fail
    refine V.out.mono ?_
    rintro e w2 ⟨rfl, b2⟩
    have B2 := Lib.hid (HB.out.trans (b2.mono HB.out.size))
    clear b2 V
    go_wp2_with fail
    refine (V2.out _).mono ?_
    rintro e w3 ⟨rfl, b3⟩
    have B3 := Lib.hid (B2.out.trans (b3.mono B2.out.size))
    clear b3
    go_wp2
    go_ret
    exact ⟨rfl, B3.out⟩
set_option maxHeartbeats 4000000 in
theorem odd (W : World) (n a : Int) (ql : Option Addr) (cl : Nat) (L : Nat) (qk : Option Addr) (ck K : Nat) (hL : L ≤ 80) (hK : K ≤ 20) (h : n < 1 ∨ 32 < n ∨ a < 1 ∨ 1800 < a) :
    Calls Try.prog 3 #[.agg #[.int .i64 n, .int .i64 a], .slice ql L cl, .slice qk K ck] W fun e w' => e = .returned (.bool true) ∧ Below W.heap.size W w' := by
  obtain ⟨w1, N, e1, e2, b1, k1, z1⟩ := boxR W n a
  have HW := Lib.hid (And.intro e1 e2)
  have V := Lib.hid (slives w1)
  have CN := Lib.hid (fun w => bnew_bad w n a h)
  have HB := Lib.hid (And.intro b1 k1)
  have t1 : decide ((80 : Int) < (L : Int)) = false := decide_eq_false (by omega)
  have t2 : decide ((20 : Int) < (K : Int)) = false := decide_eq_false (by omega)
  clear e1 e2 b1 k1 z1
  have hcase : n < 1 ∨ (¬ n < 1 ∧ 32 < n) ∨ (¬ n < 1 ∧ ¬ 32 < n ∧ a < 1) ∨ (¬ n < 1 ∧ ¬ 32 < n ∧ ¬ a < 1 ∧ 1800 < a) := by omega
  clear h
  rcases hcase with h1 | ⟨h1, h2⟩ | ⟨h1, h2, h3⟩ | ⟨h1, h2, h3, h4⟩
  all_goals
    go_enter Try.func3, Try.ntmps3
    go_upto_region 1 with fail
    rw [HW.out.1, HW.out.2]
    go_wp2_with fail
    refine V.out.mono ?_
    rintro e w2 ⟨rfl, b2⟩
    have k2 := (b2.block N (Array.getElem?_eq_some_iff.1 HB.out.2).1).trans HB.out.2
    have c0 : w2.cell? ⟨N, 0, none⟩ = some (.int .i64 n) := cell_of_block k2 0
    have c1 : w2.cell? ⟨N, 1, none⟩ = some (.int .i64 a) := cell_of_block k2 1
    have B2 := Lib.hid (And.intro (HB.out.1.trans (b2.mono HB.out.1.size)) k2)
    clear b2 V k2
    go_wp2_with fail
    refine (CN.out _).mono ?_
    rintro e w3 ⟨rfl, b3⟩
    have k3 := (b3.block N (Array.getElem?_eq_some_iff.1 B2.out.2).1).trans B2.out.2
    have d0 : w3.cell? ⟨N, 0, none⟩ = some (.int .i64 n) := cell_of_block k3 0
    have d1 : w3.cell? ⟨N, 1, none⟩ = some (.int .i64 a) := cell_of_block k3 1
    have B3 := Lib.hid (B2.out.1.trans (b3.mono B2.out.1.size))
    clear b3 k3 c0 c1 CN
    go_wp2
    go_ret
    exact ⟨rfl, B3.out⟩
end Go.Proofs.Ytlklbhjcohgmhaa.scrapePlays
