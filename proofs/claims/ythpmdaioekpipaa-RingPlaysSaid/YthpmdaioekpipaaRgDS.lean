/- A ring of string: the eldest ones go. -/
import Derived.Test.YthpmdaioekpipaaRgCS
import Derived.Deep.LoopGhost
namespace Go.Proofs.Ythpmdaioekpipaa
open Go.RowKit Go.Lib
open Go.Joins (cell_of_block unfrozen_of_block block_setCell)
set_option linter.unusedVariables false
set_option linter.unusedSimpArgs false
set_option maxRecDepth 20000

set_option maxHeartbeats 1000000 in
theorem dropS (w : World) (rb gb n cp f m k : Nat) (c : Nat → Int × ByteArray) (h : RgS w rb gb n cp f m c) (hk : k ≤ m) :
    Calls Try.prog 23 #[.pointer (some ⟨rb, 0, none⟩), .int .i64 (k : Int)] w fun e w' => e = .returned (.tuple #[]) ∧
      ∃ f' c', RgS w' rb gb n cp f' (m - k) c' ∧ (∀ i, i < m - k → c' (pl n f' i) = c (pl n f (i + k))) ∧ Tch [rb, gb] w w' := by
  have hm32 : m ≤ 32 := by have := h.hm; have := h.hn; omega
  have S0 : Hid (∃ f' c', RgS w rb gb n cp f' (m - 0) c' ∧ (∀ i, i < m - 0 → c' (pl n f' i) = c (pl n f (i + 0))) ∧ Tch [rb, gb] w w) := ⟨f, c, h, fun _ _ => rfl, Tch.refl _ _⟩
  clear h
  go_enter Try.func23, Try.ntmps23
  go_wp2_with fail
  go_loopg [5] k (fun g vi wr => ∃ j : Nat, vi = .int .i64 (j : Int) ∧ j ≤ k ∧ k - j ≤ g ∧ Hid (∃ f' c', RgS wr rb gb n cp f' (m - j) c' ∧ (∀ i, i < m - j → c' (pl n f' i) = c (pl n f (i + j))) ∧ Tch [rb, gb] w wr))
  case atStart => exact ⟨0, rfl, by omega, by omega, S0⟩
  case round =>
    obtain ⟨j, rfl, hj, hg, HR⟩ := hrel
    by_cases hlt : j < k
    · obtain ⟨f', c', h, hc, ht⟩ := HR.out
      obtain ⟨q, hq⟩ : ∃ q, q = m - j := ⟨_, rfl⟩
      rw [← hq] at h hc
      have hf := h.hf
      have hn32 := h.hn
      have hqn := h.hm
      obtain ⟨w2, hw2⟩ : ∃ w2, w2 = ((wr.setCell ⟨gb, f' * 2, none⟩ (.int .i64 0)).setCell ⟨gb, f' * 2 + 1, none⟩ (.string { data := #[] })).drew := ⟨_, rfl⟩
      have h2 : RgS w2 rb gb n cp f' q (upd c' f' (0, { data := #[] })) := by rw [hw2]; exact (h.setS hf (0, { data := #[] })).drewN 1
      have hpl : pl n f' 1 < n := pl_lt hf (by omega)
      obtain ⟨p, hp⟩ : ∃ p, p = pl n f' 1 := ⟨_, rfl⟩
      rw [← hp] at hpl
      have CP := Lib.hid (placeS w2 rb gb n cp f' 1 h2.c0 h2.c1 hf (by omega) hn32.2)
      rw [← hp] at CP
      obtain ⟨w3, hw3⟩ : ∃ w3, w3 = w2.setCell ⟨rb, 1, none⟩ (.int .i64 (p : Int)) := ⟨_, rfl⟩
      have h3 : RgS w3 rb gb n cp p q (upd c' f' (0, { data := #[] })) := by rw [hw3]; exact h2.setF hpl
      obtain ⟨w4, hw4⟩ : ∃ w4, w4 = w3.setCell ⟨rb, 2, none⟩ (.int .i64 ((q : Int) - 1)) := ⟨_, rfl⟩
      have h4 : RgS w4 rb gb n cp p (q - 1) (upd c' f' (0, { data := #[] })) := by
        rw [hw4, show ((q : Int) - 1) = ((q - 1 : Nat) : Int) by omega]
        exact h3.setM (by omega)
      have c0 := h.c0
      have c1 := h.c1
      have a0 := h.at0 hf
      have a1 := h.at1 hf
      have u0 := h.uat (f' * 2)
      have u1 := h.uat (f' * 2 + 1)
      have d1 := h2.c1
      have v1 := h2.u1
      have d2 := h3.c2
      have v2 := h3.u2
      have f0 : (0 : Int) ≤ (f' : Int) := Int.natCast_nonneg _
      have f1 : (f' : Int) < (n : Int) := by omega
      have hq32 : q ≤ 32 := by omega
      have hq1 : 1 ≤ q := by omega
      have ht4 : Tch [rb, gb] w w4 := by
        rw [hw4, hw3, hw2]
        exact ((((ht.setCell _ _ (.inl (by simp))).setCell _ _ (.inl (by simp))).drewN 1).setCell _ _ (.inl (by simp))).setCell _ _ (.inl (by simp))
      have FIN : Hid (∃ f' c', RgS w4 rb gb n cp f' (m - (j + 1)) c' ∧ (∀ i, i < m - (j + 1) → c' (pl n f' i) = c (pl n f (i + (j + 1)))) ∧ Tch [rb, gb] w w4) := by
        refine ⟨p, _, by rw [show m - (j + 1) = q - 1 by omega]; exact h4, fun i hi => ?_, ht4⟩
        rw [hp, pl_one hf (by omega), upd_other _ _ (fun e => by have := pl_inj (n := n) hf (i := i + 1) (j := 0) (by omega) (by omega) (by rw [e, pl_zero hf]); omega), hc (i + 1) (by omega)]
        congr 2
        omega
      have HW : Hid (((wr.setCell ⟨gb, f' * 2, none⟩ (.int .i64 0)).setCell ⟨gb, f' * 2 + 1, none⟩ (.string { data := #[] })).drew = w2 ∧ w2.setCell ⟨rb, 1, none⟩ (.int .i64 (p : Int)) = w3 ∧ w3.setCell ⟨rb, 2, none⟩ (.int .i64 ((q : Int) - 1)) = w4) := ⟨hw2.symm, hw3.symm, hw4.symm⟩
      clear HR h hc ht hq hw2 h2 hp hw3 h3 hw4 h4 ht4 S0 hpl
      go_upto_region 2 with fail
      go_still_tail 10, (by kernel_rfl)
      change wpList _ _ _ _ _ (World.drew wr)
      go_upto_region 3 with fail
      rw [HW.out.1]
      clear a0 a1 u0 u1 c0 c1
      go_wp2_with fail
      refine CP.out.mono ?_
      rintro e w' ⟨rfl, rfl⟩
      go_upto_region 4 with fail
      rw [HW.out.2.1]
      go_upto_region 5 with fail
      rw [HW.out.2.2]
      go_wp2
      go_roundg (k - (j + 1))
      case measure => omega
      case rel => exact ⟨j + 1, by push_cast; rfl, by omega, by omega, FIN⟩
    · have e : j = k := by omega
      subst e
      have FIN := HR
      clear HR S0
      go_wp2
      go_end0
      exact ⟨rfl, FIN.out⟩
end Go.Proofs.Ythpmdaioekpipaa
