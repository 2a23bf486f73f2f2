/- What 'Cmp', 'Mul', 'Number', 'Join' and 'Two' answer. -/
import Derived.Test.YtajkhbdniadkkaaRefB
namespace Go.Proofs.Ytajkhbdniadkkaa
open Go.RowKit
set_option linter.unusedVariables false

theorem ret_i64 {a b : Int} (h : a = b) : Ending.returned (.int .i64 a) = .returned (.int .i64 b) := by rw [h]

set_option maxHeartbeats 1000000 in
theorem cmp_any {w : World} {b1 b2 : Nat} {v1 v2 : Value} {la lb : List Nat} (hra : Row w b1 v1 la) (hrb : Row w b2 v2 lb) (bina : Bin la) (binb : Bin lb) (hla : la.length ≤ 1000000) (hlb : lb.length ≤ 1000000) :
    Calls Try.prog 49 #[v1, v2] w fun e w' => e = .returned (.int .i64 (sgn (val la) (val lb))) ∧ w = w' := by
  have VA := Lib.hid (val_lt la bina)
  have VB := Lib.hid (val_lt lb binb)
  obtain ⟨ada, ca, rfl, hca, ha1, ha2, hcells⟩ := id hra
  obtain ⟨adb, cb, rfl, hcb, hb1, hb2, hcellsb⟩ := id hrb
  clear hcells hcellsb
  rcases Nat.lt_or_ge la.length lb.length with hm | hm
  all_goals
    go_enter Try.func49, Try.ntmps49
    go_wp2
    go_loopw [5] (fun i wr => ∃ (k : Nat) (z : Int), i = .int .i64 z ∧ z + 1 = (k : Int) ∧ k ≤ 1000000 ∧ wr = w ∧ Hid (val la / 2 ^ k = val lb / 2 ^ k)) (fun i _ => (intOf i + 1).toNat)
    case atStart =>
      first
        | exact ⟨lb.length, _, rfl, by omega, hlb, rfl, by show _ = _; rw [Nat.div_eq_of_lt VB.out, Nat.div_eq_of_lt (Nat.lt_of_lt_of_le VA.out (Nat.pow_le_pow_right (by decide) (by omega)))]⟩
        | exact ⟨la.length, _, rfl, by omega, hla, rfl, by show _ = _; rw [Nat.div_eq_of_lt VA.out, Nat.div_eq_of_lt (Nat.lt_of_lt_of_le VB.out (Nat.pow_le_pow_right (by decide) hm))]⟩
    case round =>
      obtain ⟨k, z, rfl, hz, hk, hw, hrel⟩ := hrel
      subst hw
      rcases k with _ | j
      · obtain rfl : z = -1 := by omega
        go_wp2
        go_ret
        refine ⟨ret_i64 (sgn_eq ?_).symm, rfl⟩
        have := hrel.out
        simpa using this
      · obtain rfl : z = (j : Int) := by omega
        have ba := bit_le (val la) j
        have bb := bit_le (val lb) j
        go_wp2_with fail
        refine (at_num hra bina (by omega) (j : Int) (by omega)).mono ?_
        rintro e w' ⟨rfl, rfl⟩
        go_wp2_with fail
        refine (at_num hrb binb (by omega) (j : Int) (by omega)).mono ?_
        rintro e w' ⟨rfl, rfl⟩
        simp only [Int.toNat_natCast]
        by_cases g : bit (val lb) j < bit (val la) j
        · go_wp2
          go_ret
          exact ⟨ret_i64 (sgn_gt (cmp_gt hrel.out g)).symm, rfl⟩
        · go_wp2_with fail
          refine (at_num hra bina (by omega) (j : Int) (by omega)).mono ?_
          rintro e w' ⟨rfl, rfl⟩
          go_wp2_with fail
          refine (at_num hrb binb (by omega) (j : Int) (by omega)).mono ?_
          rintro e w' ⟨rfl, rfl⟩
          simp only [Int.toNat_natCast]
          by_cases g2 : bit (val la) j < bit (val lb) j
          · go_wp2
            go_ret
            exact ⟨ret_i64 (sgn_lt (cmp_gt hrel.out.symm g2)).symm, rfl⟩
          · have hnew := Lib.hid (cmp_eq hrel.out (by omega))
            go_wp2
            go_roundw
            case rel => exact ⟨j, _, rfl, by omega, by omega, trivial, hnew⟩
            case measure => simp [intOf]

theorem cmp_num {w : World} {b1 b2 : Nat} {v1 v2 : Value} {a b : Nat} (k : Nat) (h1 : Num w b1 v1 a) (h2 : Num w b2 v2 b) (ha : a < 2 ^ k) (hb : b < 2 ^ k) (hk : k ≤ 1000000) :
    Calls Try.prog 49 #[v1, v2] w fun e w' => e = .returned (.int .i64 (sgn a b)) ∧ w = w' := by
  obtain ⟨la, hra, bina, tia, rfl⟩ := h1
  obtain ⟨lb, hrb, binb, tib, rfl⟩ := h2
  exact cmp_any hra hrb bina binb (Nat.le_trans (tia.len_le ha) hk) (Nat.le_trans (tib.len_le hb) hk)

/-! ### 'Mul' -/
theorem mul_lt_pow {a b k m : Nat} (ha : a < 2 ^ k) (hb : b < 2 ^ m) : a * b < 2 ^ (k + m) := by
  rw [Nat.pow_add]
  exact Nat.mul_lt_mul'' ha hb
theorem mul_part_lt {a b k m : Nat} (j : Nat) (ha : a < 2 ^ k) (hb : b < 2 ^ m) : a * (b / 2 ^ j) < 2 ^ (k + m) :=
  mul_lt_pow ha (Nat.lt_of_le_of_lt (Nat.div_le_self _ _) hb)
set_option maxHeartbeats 1000000 in
theorem mul_any {w : World} {b1 b2 : Nat} {v1 v2 : Value} {a b : Nat} (k m : Nat) (h1 : Num w b1 v1 a) (h2 : Num w b2 v2 b) (ha : a < 2 ^ k) (hb : b < 2 ^ m) (hk : k + m ≤ 1000000) :
    Calls Try.prog 50 #[v1, v2] w (RetNum w (a * b)) := by
  obtain ⟨lb, hrb, binb, tib, rfl⟩ := h2
  have hlb := tib.len_le hb
  have VB := Lib.hid (val_lt lb binb)
  have hab : a * (val lb / 2 ^ 0) < 2 ^ (k + m) := mul_part_lt 0 ha hb
  have HP := Lib.hid (fun j => mul_part_lt (k := k) (m := m) j ha hb)
  have HA := Lib.hid ha
  clear ha hb tib hab
  obtain ⟨adb, cb, rfl, hcb, hb1, hb2, hcellsb⟩ := id hrb
  have HCB := Lib.hid hcellsb
  clear hcellsb
  have hna := h1
  have H1 := Lib.hid h1
  clear h1 hna
  go_enter Try.func50, Try.ntmps50
  go_wp2
  go_loopw [5, 6] (fun v i wr => ∃ (j : Nat) (z : Int), i = .int .i64 z ∧ z + 1 = (j : Int) ∧ j ≤ lb.length ∧ Num wr w.heap.size v (a * (val lb / 2 ^ j)) ∧ Below w.heap.size w wr) (fun _ i _ => (intOf i + 1).toNat)
  case atStart =>
    refine ⟨lb.length, _, rfl, by omega, Nat.le_refl _, ?_, (Below.refl _ _).alloc (Nat.le_refl _) _⟩
    rw [Nat.div_eq_of_lt VB.out, Nat.mul_zero]
    exact Num.mk (Row.of_own (Own.empty w (Nat.le_refl _))) Bin.nil tight_nil rfl
  case round =>
    obtain ⟨j, z, rfl, hz, hj, hnum, hbel⟩ := hrel
    rcases j with _ | j
    · obtain rfl : z = -1 := by omega
      go_wp2
      go_ret
      refine ⟨_, rfl, ?_, hbel⟩
      simpa using hnum
    · obtain rfl : z = (j : Int) := by omega
      have hsz := hbel.size
      go_wp2_with fail
      refine (add_any (k + m) hnum hnum (HP.out _) (HP.out _) hk).mono ?_
      rintro e w1 ⟨v1', rfl, hn1, hw1⟩
      have hs1 := hw1.size
      have hb01 : Below w.heap.size w w1 := hbel.trans (hw1.mono hsz)
      have hcell : w1.cell? (adb.add j) = some (.int .u8 ((bit (val lb) j : Nat) : Int)) := by
        rw [hb01.cell (p := adb.add j) (by rw [add_block]; exact hb2), ← get_bit lb binb]
        exact Cells.at_ HCB.out hj
      have hbit : bit (val lb) j = 0 ∨ bit (val lb) j = 1 := by have := bit_le (val lb) j; omega
      rcases hbit with h0 | h0
      · have H0 := Lib.hid h0
        rw [h0] at hcell
        clear h0
        go_wp2_with fail
        go_roundw
        case rel => exact ⟨j, _, rfl, by omega, by omega, mul_round0 a (val lb) j H0.out ▸ hn1.more hsz, hb01⟩
        case measure => simp [intOf]
      · have H0 := Lib.hid h0
        rw [h0] at hcell
        clear h0
        go_wp2_with fail
        have hlt : a * (val lb / 2 ^ (j + 1)) + a * (val lb / 2 ^ (j + 1)) < 2 ^ (k + m) := by
          have := mul_round1 a (val lb) j H0.out
          have := HP.out j
          omega
        have hlt2 : a < 2 ^ (k + m) := Nat.lt_of_lt_of_le HA.out (Nat.pow_le_pow_right (by decide) (by omega))
        refine (add_any (k + m) hn1 (H1.out.below hb01) hlt hlt2 hk).mono ?_
        rintro e w2 ⟨v2', rfl, hn2, hw2⟩
        have hs2 := hw2.size
        have hb02 : Below w.heap.size w w2 := hb01.trans (hw2.mono (by omega))
        clear hlt hlt2
        go_wp2_with fail
        go_roundw
        case rel => exact ⟨j, _, rfl, by omega, by omega, mul_round1 a (val lb) j H0.out ▸ hn2.more (by omega), hb02⟩
        case measure => simp [intOf]

end Go.Proofs.Ytajkhbdniadkkaa
