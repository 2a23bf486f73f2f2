/- Layer 13: the law's book. -/
import Derived.Test.YtndbpijkepchgaaQyA
namespace Go.Proofs.Ytndbpijkepchgaa.Qy
open Go.RowKit Go.Deep Go.Lib Go.Shelf Go.Sort
open Go.Joins (cell_of_block unfrozen_of_block block_setCell)
set_option linter.unusedVariables false
set_option linter.unusedSimpArgs false
set_option maxRecDepth 20000

abbrev TRul : TypeId := 23
/-- The rules' box. -/
theorem boxG (w : World) (n a : Int) : ∃ w1 P, w.alloc (.cells #[.int .i64 n, .int .i64 a] TRul) = w1 ∧ w.heap.size = P ∧ Below w.heap.size w w1 ∧ w1.heap[P]? = some (.cells #[.int .i64 n, .int .i64 a] TRul (0, 0)) ∧ w1.heap.size = P + 1 := ⟨_, _, rfl, rfl, (Below.refl _ _).alloc (Nat.le_refl _) _, heap_alloc_new w _, by simp⟩
/-- A sample's box. -/
theorem boxP (w : World) (x : Sp) : ∃ w1 P, w.alloc (.cells #[.int .i64 x.at_, .string x.s.1, .string x.s.2, .int .u64 (x.bits : Int)] SpT) = w1 ∧ w.heap.size = P ∧ Below w.heap.size w w1 ∧ w1.heap[P]? = some (.cells #[.int .i64 x.at_, .string x.s.1, .string x.s.2, .int .u64 (x.bits : Int)] SpT (0, 0)) := ⟨_, _, rfl, rfl, (Below.refl _ _).alloc (Nat.le_refl _) _, heap_alloc_new w _⟩

set_option maxHeartbeats 2000000 in
theorem book_bad (W : World) (n a : Int) (ql : Option Addr) (cl L : Nat) (h : n < 1 ∨ 32 < n ∨ a < 1 ∨ 1800 < a) :
    Calls Try.prog 4 #[.agg #[.int .i64 n, .int .i64 a], .slice ql L cl] W fun r w' => r = .returned (.pointer none) ∧ Below W.heap.size W w' := by
  obtain ⟨w1, N, e1, e2, b1, k1, z1⟩ := boxG W n a
  have HW := Lib.hid (And.intro e1 e2)
  have CN := Lib.hid (bnew_bad w1 n a h)
  have c0 : w1.cell? ⟨N, 0, none⟩ = some (.int .i64 n) := cell_of_block k1 0
  have c1 : w1.cell? ⟨N, 1, none⟩ = some (.int .i64 a) := cell_of_block k1 1
  have HB := Lib.hid b1
  clear e1 e2 b1 k1 z1 h
  go_enter Try.func4, Try.ntmps4
  go_upto_region 1 with fail
  rw [HW.out.1, HW.out.2]
  go_wp2_with fail
  refine CN.out.mono ?_
  rintro e w2 ⟨rfl, b2⟩
  have B2 := Lib.hid (HB.out.trans (b2.mono HB.out.size))
  clear b2 CN c0 c1
  go_wp2
  go_ret
  exact ⟨rfl, B2.out⟩
set_option maxHeartbeats 2000000 in
theorem book_long (W : World) (n a : Nat) (hn : 1 ≤ n ∧ n ≤ 32) (ha : 1 ≤ a ∧ a ≤ 1800) (ql : Option Addr) (cl L : Nat) (h : 100 < L) :
    Calls Try.prog 4 #[.agg #[.int .i64 (n : Int), .int .i64 (a : Int)], .slice ql L cl] W fun r w' => r = .returned (.pointer none) ∧ Below W.heap.size W w' := by
  obtain ⟨w1, N, e1, e2, b1, k1, z1⟩ := boxG W n a
  have HW := Lib.hid (And.intro e1 e2)
  have CN := Lib.hid (bnew_ok w1 n a hn ha)
  have c0 : w1.cell? ⟨N, 0, none⟩ = some (.int .i64 (n : Int)) := cell_of_block k1 0
  have c1 : w1.cell? ⟨N, 1, none⟩ = some (.int .i64 (a : Int)) := cell_of_block k1 1
  have t1 : decide ((100 : Int) < (L : Int)) = true := decide_eq_true (by omega)
  have HB := Lib.hid b1
  clear e1 e2 b1 k1 z1 hn ha
  go_enter Try.func4, Try.ntmps4
  go_upto_region 1 with fail
  rw [HW.out.1, HW.out.2]
  go_wp2_with fail
  refine CN.out.mono ?_
  rintro e w2 ⟨bb, rfl, mb, _, _, _, b2⟩
  have B2 := Lib.hid (HB.out.trans (b2.mono HB.out.size))
  clear b2 CN c0 c1
  go_wp2
  go_ret
  exact ⟨rfl, B2.out⟩

def MadeBk (W w' : World) (bb n a : Nat) : Prop := ∃ mb E, Sk W.heap.size W w' bb mb n a 100 E
set_option maxHeartbeats 4000000 in
theorem book_ok (W : World) (n a : Nat) (hn : 1 ≤ n ∧ n ≤ 32) (ha : 1 ≤ a ∧ a ≤ 1800) (ql : Option Addr) (cl : Nat) (l : List Sp) (hl : Sps W ql l) (hL : l.length ≤ 100) :
    Calls Try.prog 4 #[.agg #[.int .i64 (n : Int), .int .i64 (a : Int)], .slice ql l.length cl] W fun r w' => ∃ bb, r = .returned (.pointer (some ⟨bb, 0, none⟩)) ∧ MadeBk W w' bb n a := by
  obtain ⟨w1, N, e1, e2, b1, k1, z1⟩ := boxG W n a
  have HW := Lib.hid (And.intro e1 e2)
  have CN := Lib.hid (bnew_ok w1 n a hn ha)
  have c0 : w1.cell? ⟨N, 0, none⟩ = some (.int .i64 (n : Int)) := cell_of_block k1 0
  have c1 : w1.cell? ⟨N, 1, none⟩ = some (.int .i64 (a : Int)) := cell_of_block k1 1
  obtain ⟨L, hLl⟩ : ∃ L, L = l.length := ⟨_, rfl⟩
  rw [← hLl]
  have t1 : decide ((100 : Int) < (L : Int)) = false := decide_eq_false (by omega)
  have L100 : L ≤ 100 := by omega
  have HH := Lib.hid (And.intro b1 (And.intro e2 (And.intro hl hLl)))
  clear e1 e2 b1 k1 z1 hn ha hl hLl hL
  go_enter Try.func4, Try.ntmps4
  go_upto_region 1 with fail
  rw [HW.out.1, HW.out.2]
  go_wp2_with fail
  refine CN.out.mono ?_
  rintro e w2 ⟨bb, rfl, mb, hbb, hmb, K, b2⟩
  have S0 : Hid (∃ E, Sk N W w2 bb mb n a 0 E) := by
    obtain ⟨b1, e2, _⟩ := HH.out
    have z := b1.size
    rw [e2] at b1 z
    refine ⟨[], K, b1.trans (b2.mono z), fun g hg => ?_, (fun e he => by cases he), Nat.le_refl _⟩
    rcases foot_mem.1 hg with rfl | rfl | ⟨e, he, _⟩
    · omega
    · omega
    · cases he
  clear hbb hmb K b2 CN c0 c1
  go_wp2_with fail
  go_loopg [23] L (fun g vi wr => ∃ i : Nat, vi = .int .i64 (i : Int) ∧ i ≤ L ∧ L - i ≤ g ∧ Hid (∃ E, Sk N W wr bb mb n a i E))
  case atStart => exact ⟨0, rfl, by omega, by omega, S0⟩
  case round =>
    obtain ⟨i, rfl, hi, hg, HR⟩ := hrel
    by_cases hlt : i < L
    · obtain ⟨E, sk⟩ := HR.out
      obtain ⟨b1, e2, hl, hLl⟩ := HH.out
      obtain ⟨x, hx⟩ : ∃ x, l[i]? = some x := ⟨l[i]'(by omega), List.getElem?_eq_getElem (by omega)⟩
      obtain ⟨okx, gl, ol, rfl, hgl, a0, a1, a2, a3⟩ := hl i x hx
      have low := sk.low
      have e2 : W.heap.size = N := e2
      have a0 := (low.cell (p := ⟨gl, ol + i * 4, none⟩) (by show gl < N; omega)).trans a0
      have a1 := (low.cell (p := ⟨gl, ol + i * 4 + 1, none⟩) (by show gl < N; omega)).trans a1
      have a2 := (low.cell (p := ⟨gl, ol + i * 4 + 2, none⟩) (by show gl < N; omega)).trans a2
      have a3 := (low.cell (p := ⟨gl, ol + i * 4 + 3, none⟩) (by show gl < N; omega)).trans a3
      obtain ⟨w5, P, q1, q2, b5, k5⟩ := boxP wr x
      have HX := Lib.hid (And.intro q1 q2)
      have x0 : w5.cell? ⟨P, 0, none⟩ = some (.int .i64 x.at_) := cell_of_block k5 0
      have x1 : w5.cell? ⟨P, 1, none⟩ = some (.string x.s.1) := cell_of_block k5 1
      have x2 : w5.cell? ⟨P, 2, none⟩ = some (.string x.s.2) := cell_of_block k5 2
      have x3 : w5.cell? ⟨P, 3, none⟩ = some (.int .u64 (x.bits : Int)) := cell_of_block k5 3
      obtain ⟨V, Er, CS⟩ := scr_any (sk.gr b5) (by omega) x.at_ x.s okx.1 x.bits okx.2
      have CS := Lib.hid CS
      have i0 : (0 : Int) ≤ (i : Int) := Int.natCast_nonneg _
      have i1 : (i : Int) < (L : Int) := by omega
      obtain ⟨at_, ⟨s1, s2⟩, bits⟩ := x
      unfold ser at CS
      simp only at a0 a1 a2 a3 x0 x1 x2 x3 HX CS
      clear sk b1 e2 hl hLl hx okx hgl low q1 q2 b5 k5 HR S0
      go_upto_region 7 with fail
      rw [HX.out.1, HX.out.2]
      clear a0 a1 a2 a3
      go_wp2_with fail
      refine CS.out.mono ?_
      rintro e w6 ⟨rfl, S6⟩
      have NX := Lib.hid S6
      clear S6 CS x0 x1 x2 x3
      go_wp2_with fail
      go_roundg (L - (i + 1))
      case measure => omega
      case rel => exact ⟨i + 1, by push_cast; rfl, by omega, by omega, NX⟩
    · have hiL : i = L := by omega
      subst hiL
      have FIN : Hid (MadeBk W wr bb n a) := by
        obtain ⟨E, sk⟩ := HR.out
        obtain ⟨_, e2, _⟩ := HH.out
        have e2 : W.heap.size = N := e2
        subst e2
        exact ⟨mb, E, sk.less L100⟩
      clear HR S0
      go_wp2
      go_ret
      exact ⟨_, rfl, FIN.out⟩
end Go.Proofs.Ytndbpijkepchgaa.Qy
