/- Layer 12: Increase, Resets, Rate. -/
import Derived.Test.YtndbpijkepchgaaRtB
namespace Go.Proofs.Ytndbpijkepchgaa.Rt
open Go.RowKit Go.Lib
open Go.Joins (cell_of_block unfrozen_of_block block_setCell)
set_option linter.unusedVariables false
set_option linter.unusedSimpArgs false
set_option maxRecDepth 20000

/-- The increase, or that it is too great. -/
def IncIs (w : World) (T : Int) (e : Ending) (w' : World) : Prop :=
  ((T ≤ 9007199254740992 ∧ e = .returned (.tuple #[.int .i64 T, .int .i64 0])) ∨ (9007199254740992 < T ∧ e = .returned (.tuple #[.int .i64 0, .int .i64 3]))) ∧ Below w.heap.size w w'

set_option maxHeartbeats 1000000 in
theorem inc_any (w : World) (q : Option Addr) (c n : Nat) (l : List Sam) (hn : l.length = n + 1) (h1 : 1 ≤ n) (h : RowS w q l) (hl : l.length ≤ 9223372036854775807) (g : Good l) :
    Calls Try.prog 17 #[.slice q l.length c] w (IncIs w (inc l n)) := by
  have HS := Lib.hid h
  have HG := Lib.hid g
  have HN := Lib.hid hn
  have CR := Lib.hid (rright_any w q c l h hl g)
  have t1 : ¬ ((l.length : Int) < 2) := by omega
  have L2 : Hid (2 ≤ l.length) := by show 2 ≤ l.length; omega
  clear h g hn h1
  go_enter Try.func17, Try.ntmps17
  go_wp2_with fail
  refine CR.out.mono ?_
  rintro e w1 ⟨rfl, b1⟩
  have B1 := Lib.hid b1
  have HS1 := Lib.hid (HS.out.below b1)
  clear b1 HS CR
  go_wp2_with fail
  go_loopw [4, 5] (fun s i wr => ∃ (k : Nat) (S : Int), s = .int .i64 S ∧ i = .int .i64 (k : Int) ∧ 1 ≤ k ∧ k ≤ l.length ∧ 0 ≤ S ∧ S ≤ 9007199254740992 ∧ Hid (S = inc l (k - 1)) ∧ Hid (Below w1.heap.size w1 wr)) (fun _ i _ => l.length - (intOf i).toNat)
  case atStart => exact ⟨1, 0, rfl, rfl, Nat.le_refl _, by have := L2.out; omega, Int.le_refl _, by omega, rfl, Below.refl _ _⟩
  case round =>
    obtain ⟨k, S, rfl, rfl, hk1, hk, hS0, hS1, HI, HB⟩ := hrel
    clear t1
    by_cases hlt : k < l.length
    · obtain ⟨j, hj⟩ : ∃ j, j = k - 1 := ⟨_, rfl⟩
      obtain ⟨y, hy⟩ : ∃ y, l[k]? = some y := ⟨l[k], List.getElem?_eq_getElem hlt⟩
      obtain ⟨x, hx⟩ : ∃ x, l[j]? = some x := ⟨l[j], List.getElem?_eq_getElem (by omega)⟩
      obtain ⟨_, b, off, rfl, hb, p0, p1⟩ := (HS1.out.below HB.out) j x hx
      obtain ⟨_, b', off', e, hb', q0, q1⟩ := (HS1.out.below HB.out) k y hy
      cases e
      obtain ⟨hx0, hx1⟩ := HG.out.1 j x hx
      obtain ⟨hy0, hy1⟩ := HG.out.1 k y hy
      obtain ⟨D, hD⟩ : ∃ D, D = stp x.2 y.2 := ⟨_, rfl⟩
      have hD2 := stp_rng hx0 hy0 hy1 (a := x.2)
      have CS := Lib.hid (fun W : World => step_any x.2 y.2 W hx0 hx1 hy0 hy1)
      rw [← hD] at CS hD2
      have HI2 : Hid (S + D = inc l (k + 1 - 1)) := by
        show S + D = _
        have e1 : k + 1 - 1 = j + 1 := by omega
        have e2 : l[j + 1]? = some y := by rw [show j + 1 = k by omega]; exact hy
        rw [e1, inc_more hx e2, HI.out, hD, hj]
      have WJ : IntKind.i64.wrap ((k : Int) - 1) = (j : Int) := by rw [show (k : Int) - 1 = (j : Int) by omega]; exact IntWalk.i64_in _ (by omega)
      have j0 : (0 : Int) ≤ (j : Int) := Int.natCast_nonneg _
      have j1 : (j : Int) < (l.length : Int) := by omega
      by_cases hT : S + D ≤ 9007199254740992
      · have CA := Lib.hid (fun W : World => add_within S D W hS0 hS1 hD2.1 hD2.2 hT)
        obtain ⟨S', hS'⟩ : ∃ S', S' = S + D := ⟨_, rfl⟩
        rw [← hS'] at CA HI2
        have r0 : 0 ≤ S' := by omega
        have r1 : S' ≤ 9007199254740992 := by omega
        clear p0 q0 hx hy hx0 hx1 hy0 hy1 hD hD2 hj hT hS' HI hS0 hS1
        go_upto_region 9 with fail
        go_quiet (first | exact (CS.out _).mono fun _ _ q => ⟨q.1, _, q.2.symm⟩ | exact (CA.out _).mono fun _ _ q => ⟨q.1, _, q.2.symm⟩)
        clear WJ
        go_wp2
        refine ⟨⟨k + 1, S', rfl, by go_num, by omega, by omega, r0, r1, HI2, Below.drewN' HB.out _⟩, by simp [intOf]; omega⟩
      · have CA := Lib.hid (fun W : World => add_over S D W hS0 hS1 hD2.1 hD2.2 (by omega))
        have FIN : Hid (∀ n', Hid (IncIs w (inc l n) (.returned (.tuple #[.int .i64 0, .int .i64 3])) (wr.drewN n'))) := fun n' => by
          refine ⟨.inr ⟨?_, rfl⟩, Below.drewN' (B1.out.trans (HB.out.mono B1.out.size)) _⟩
          have := inc_le HG.out (k := k + 1 - 1) (n := n) (by have := HN.out; omega) (by have := HN.out; omega)
          have := HI2.out
          omega
        clear p0 q0 hx hy hx0 hx1 hy0 hy1 hD hD2 hj hT HI hS0 hS1 HI2
        go_upto_region 9 with fail
        go_quiet (first | exact (CS.out _).mono fun _ _ q => ⟨q.1, _, q.2.symm⟩ | exact (CA.out _).mono fun _ _ q => ⟨q.1, _, q.2.symm⟩)
        clear WJ
        go_wp2
        go_ret2
        exact (FIN.out _).out
    · have FIN : Hid (IncIs w (inc l n) (.returned (.tuple #[.int .i64 S, .int .i64 0])) wr) := by
        have e : inc l n = S := by rw [HI.out]; have := HN.out; rw [show k - 1 = n by omega]
        refine ⟨.inl ⟨by omega, by rw [e]⟩, B1.out.trans (HB.out.mono B1.out.size)⟩
      obtain rfl : k = l.length := by omega
      go_wp2
      go_ret2
      exact FIN.out

/-- The chapter's example. -/
def exR : List Sam := [(0, 10), (10, 15), (20, 3)]
theorem exR_good : Good exR := by
  refine ⟨fun i x hx => ?_, fun i x y hx hy => ?_⟩
  · match i, hx with
    | 0, hx => cases hx; decide
    | 1, hx => cases hx; decide
    | 2, hx => cases hx; decide
    | i + 3, hx => simp [exR] at hx
  · match i, hx, hy with
    | 0, hx, hy => cases hx; cases hy; decide
    | 1, hx, hy => cases hx; cases hy; decide
    | i + 2, hx, hy => simp [exR] at hy
set_option maxHeartbeats 1000000 in
theorem rate_ex (w : World) (b off c : Nat) (h : RowS w (some ⟨b, off, none⟩) exR) :
    Calls Try.prog 9 #[.slice (some ⟨b, off, none⟩) 3 c] w fun e w' => e = .returned (.tuple #[.int .i64 0, .int .i64 0]) ∧ Below w.heap.size w w' := by
  have CI := Lib.hid (inc_any w (some ⟨b, off, none⟩) c 2 exR rfl (by omega) h (by decide) exR_good)
  have HS := Lib.hid h
  clear h
  go_enter Try.func9, Try.ntmps9
  go_wp2_with fail
  refine CI.out.mono ?_
  rintro e w1 ⟨hi, b1⟩
  have hi2 : e = .returned (.tuple #[.int .i64 8, .int .i64 0]) := by
    rcases hi with ⟨_, hi⟩ | ⟨hi, _⟩
    · exact hi
    · exact absurd hi (by decide)
  subst hi2
  obtain ⟨_, b', off', e, hb', q0, _⟩ := (HS.out.below b1) 0 (0, 10) rfl
  cases e
  obtain ⟨_, b', off', e, hb', r0, _⟩ := (HS.out.below b1) 2 (20, 3) rfl
  cases e
  rw [Nat.zero_mul, Nat.add_zero] at q0
  have HB := Lib.hid b1
  clear hi b1 CI
  go_upto_region 4 with fail
  go_quiet (fail)
  go_wp2
  go_ret2
  exact ⟨rfl, Below.drewN' HB.out _⟩
end Go.Proofs.Ytndbpijkepchgaa.Rt
