/- Layer 12: which rows may be, by the program and by the law. -/
import Derived.Test.YtndbpijkepchgaaRtA
namespace Go.Proofs.Ytndbpijkepchgaa.Rt
open Go.RowKit Go.Lib
open Go.Joins (cell_of_block unfrozen_of_block block_setCell)
set_option linter.unusedVariables false
set_option linter.unusedSimpArgs false
set_option maxRecDepth 20000

/-- A sample in a cell of its own. -/
structure BoxR (w w1 : World) (N : Nat) (x : Sam) : Prop where
  eq : w.alloc (.cells #[.int .i64 x.1, .int .i64 x.2] TSQ) = w1
  at_ : w.heap.size = N
  b : Below w.heap.size w w1
  c0 : w1.cell? ⟨N, 0, none⟩ = some (.int .i64 x.1)
  c1 : w1.cell? ⟨N, 1, none⟩ = some (.int .i64 x.2)
theorem boxR (w : World) (x : Sam) : ∃ w1 N, BoxR w w1 N x :=
  ⟨_, _, rfl, rfl, (Below.refl _ _).alloc (Nat.le_refl _) _, cell_of_block (heap_alloc_new w _) 0, cell_of_block (heap_alloc_new w _) 1⟩

set_option maxHeartbeats 1000000 in
theorem rright_any (w : World) (q : Option Addr) (c : Nat) (l : List Sam) (h : RowS w q l) (hl : l.length ≤ 9223372036854775807) (g : Good l) :
    Calls Try.prog 27 #[.slice q l.length c] w fun e w' => e = .returned (.bool true) ∧ Below w.heap.size w w' := by
  have HS := Lib.hid h
  have HG := Lib.hid g
  clear h g
  go_enter Try.func27, Try.ntmps27
  go_wp2_with fail
  go_loopw [7] (fun i wr => ∃ k : Nat, k ≤ l.length ∧ i = .int .i64 (k : Int) ∧ Below w.heap.size w wr) (fun i _ => l.length - (intOf i).toNat)
  case atStart => exact ⟨0, Nat.zero_le _, rfl, Below.refl _ _⟩
  case round =>
    obtain ⟨k, hk, rfl, hbel⟩ := hrel
    have HB := Lib.hid hbel
    by_cases hlt : k < l.length
    · obtain ⟨x, hx⟩ : ∃ x, l[k]? = some x := ⟨l[k], List.getElem?_eq_getElem hlt⟩
      obtain ⟨_, b, off, rfl, hb, c0, c1⟩ := (HS.out.below HB.out) k x hx
      obtain ⟨hv0, hv1⟩ := HG.out.1 k x hx
      have R := Lib.hid (fun W : World => right_yes x.2 W hv0 hv1)
      obtain ⟨w1, N, B⟩ := boxR wr x
      have HX := Lib.hid hx
      have d0 := B.c0
      have d1 := B.c1
      have BB := Lib.hid B
      clear hx hv0 hv1 B hbel
      rcases Nat.eq_zero_or_pos k with hk0 | hk0
      · subst hk0
        rw [Nat.zero_mul, Nat.add_zero] at c0 c1
        have G0 : decide ((0 : Int) < ((0 : Nat) : Int)) = false := rfl
        go_upto_region 4 with fail
        rw [BB.out.eq, BB.out.at_]
        go_quiet ((exact (R.out _).mono fun _ _ q => ⟨q.1, _, q.2.symm⟩))
        go_wp2
        refine ⟨⟨1, by omega, rfl, Below.drewN' (HB.out.trans (BB.out.b.mono HB.out.size)) _⟩, by simp [intOf]; omega⟩
      · obtain ⟨j, hj⟩ : ∃ j, j = k - 1 := ⟨_, rfl⟩
        obtain ⟨y, hy⟩ : ∃ y, l[j]? = some y := ⟨l[j], List.getElem?_eq_getElem (by omega)⟩
        obtain ⟨_, b', off', e, hb', p0, p1⟩ := (HS.out.below HB.out) j y hy
        cases e
        have T := HG.out.2 j y x hy (by rw [show j + 1 = k by omega]; exact HX.out)
        have T1 : decide (x.1 ≤ y.1) = false := decide_eq_false (by omega)
        have q0 : w1.cell? ⟨b, off + j * 2, none⟩ = some (.int .i64 y.1) := (BB.out.b.cell (p := ⟨b, _, none⟩) hb).trans p0
        have WJ : IntKind.i64.wrap ((k : Int) - 1) = (j : Int) := by rw [show (k : Int) - 1 = (j : Int) by omega]; exact IntWalk.i64_in _ (by omega)
        have j0 : (0 : Int) ≤ (j : Int) := Int.natCast_nonneg _
        have j1 : (j : Int) < (l.length : Int) := by omega
        clear hy p0 p1 T hj
        go_upto_region 4 with fail
        rw [BB.out.eq, BB.out.at_]
        go_quiet ((exact (R.out _).mono fun _ _ q => ⟨q.1, _, q.2.symm⟩))
        clear WJ
        go_wp2
        refine ⟨⟨k + 1, by omega, by go_num, Below.drewN' (HB.out.trans (BB.out.b.mono HB.out.size)) _⟩, by simp [intOf]; omega⟩
    · obtain rfl : k = l.length := by omega
      go_wp2
      go_ret
      exact ⟨rfl, HB.out⟩

/-- What the law finds. -/
def Finds (w : World) (l : List Sam) (e : Ending) (w' : World) : Prop := ∃ b : Bool, e = .returned (.bool b) ∧ (b = true → Good l) ∧ Below w.heap.size w w'
end Go.Proofs.Ytndbpijkepchgaa.Rt
