/- What the functions of package ratio answer. -/
import Derived.Test.YtajkhbdniadkkaaWideM
import Derived.Test.YtajkhbdniadkkaaRefF
import Derived.Deep.QuietTactic
import Derived.BigQuiet
namespace Go.Proofs.Ytajkhbdniadkkaa
open Go.RowKit
set_option linter.unusedVariables false

theorem mdWant_up (a b y : Nat) : mdWant a b y true = upDiv a b y := by
  unfold mdWant upDiv
  by_cases h : a * b % y = 0
  · rw [if_neg (by simp [h]), if_pos h]
  · rw [if_pos ⟨rfl, h⟩, if_neg h]
theorem mdWant_down (a b y : Nat) : mdWant a b y false = a * b / y := by
  unfold mdWant
  rw [if_neg (by simp), Nat.add_zero]

/-- A quantity that is right. -/
def Fine (m : Int) : Prop := 0 ≤ m ∧ m ≤ 9007199254740992
def Bad (m : Int) : Prop := m < 0 ∨ 9007199254740992 < m
theorem fine_or_bad (m : Int) : Fine m ∨ Bad m := by unfold Fine Bad; omega
/-- A count of replicas that can be. -/
def Some_ (n : Int) : Prop := 0 ≤ n ∧ n ≤ 1000000
def Odd_ (n : Int) : Prop := n < 0 ∨ 1000000 < n
theorem some_or_odd (n : Int) : Some_ n ∨ Odd_ n := by unfold Some_ Odd_; omega

theorem count_yes (n : Int) (w : World) (h : Some_ n) : Calls Try.prog 45 #[.int .i64 n] w fun e w' => e = .returned (.bool true) ∧ w = w' := by
  obtain ⟨h0, h1⟩ := h
  go_enter Try.func45, Try.ntmps45
  go_wp2
  go_ret
  exact ⟨rfl, rfl⟩
theorem count_no (n : Int) (w : World) (h : Odd_ n) : Calls Try.prog 45 #[.int .i64 n] w fun e w' => e = .returned (.bool false) ∧ w = w' := by
  rcases h with h | h
  · have t1 : decide (0 ≤ n) = false := by simpa using h
    go_enter Try.func45, Try.ntmps45
    go_wp2
    go_ret
    exact ⟨rfl, rfl⟩
  · have t1 : decide (0 ≤ n) = true := by simp; omega
    have t2 : decide (n ≤ 1000000) = false := by simpa using h
    go_enter Try.func45, Try.ntmps45
    go_wp2
    go_ret
    exact ⟨rfl, rfl⟩

theorem against_bad (u t : Int) (w : World) (h : Bad u ∨ (Fine u ∧ Bad t)) : Calls Try.prog 46 #[.int .i64 u, .int .i64 t] w fun e w' => e = .returned (.int .i64 1) ∧ w = w' := by
  rcases h with h | ⟨h, g⟩
  · go_enter Try.func46, Try.ntmps46
    go_wp2_with fail
    refine (right_no u _ h).mono ?_
    rintro e w' ⟨rfl, rfl⟩
    go_wp2
    go_ret
    exact ⟨rfl, rfl⟩
  · go_enter Try.func46, Try.ntmps46
    go_wp2_with fail
    refine (right_yes u _ h.1 h.2).mono ?_
    rintro e w' ⟨rfl, rfl⟩
    go_wp2_with fail
    refine (right_no t _ g).mono ?_
    rintro e w' ⟨rfl, rfl⟩
    go_wp2
    go_ret
    exact ⟨rfl, rfl⟩
theorem fine_zero : Fine 0 := by unfold Fine; omega
theorem against_zero (u : Int) (w : World) (h : Fine u) : Calls Try.prog 46 #[.int .i64 u, .int .i64 0] w fun e w' => e = .returned (.int .i64 5) ∧ w = w' := by
  go_enter Try.func46, Try.ntmps46
  go_wp2_with fail
  refine (right_yes u _ h.1 h.2).mono ?_
  rintro e w' ⟨rfl, rfl⟩
  go_wp2_with fail
  refine (right_yes 0 _ fine_zero.1 fine_zero.2).mono ?_
  rintro e w' ⟨rfl, rfl⟩
  go_wp2
  go_ret
  exact ⟨rfl, rfl⟩
theorem against_ok (u t : Int) (w : World) (h : Fine u) (g : Fine t) (h0 : t ≠ 0) : Calls Try.prog 46 #[.int .i64 u, .int .i64 t] w fun e w' => e = .returned (.int .i64 0) ∧ w = w' := by
  have t1 : (t == 0) = false := by simpa using h0
  go_enter Try.func46, Try.ntmps46
  go_wp2_with fail
  refine (right_yes u _ h.1 h.2).mono ?_
  rintro e w' ⟨rfl, rfl⟩
  go_wp2_with fail
  refine (right_yes t _ g.1 g.2).mono ?_
  rintro e w' ⟨rfl, rfl⟩
  go_wp2
  go_ret
  exact ⟨rfl, rfl⟩

/-! ### 'Need', 'Whole' -/
theorem need_odd (r u t : Int) (w : World) (h : Odd_ r) : Calls Try.prog 21 #[.int .i64 r, .int .i64 u, .int .i64 t] w fun e w' => e = .returned (.tuple #[.int .i64 0, .int .i64 1]) ∧ w = w' := by
  have C := Lib.hid (fun W : World => count_no r W h)
  clear h
  go_enter Try.func21, Try.ntmps21
  go_wp2_with fail
  refine (C.out _).mono ?_
  rintro e w' ⟨rfl, rfl⟩
  go_wp2
  go_ret2
  exact ⟨rfl, rfl⟩
theorem need_bad (r u t : Int) (w : World) (h : Bad u ∨ (Fine u ∧ Bad t)) : Calls Try.prog 21 #[.int .i64 r, .int .i64 u, .int .i64 t] w fun e w' => e = .returned (.tuple #[.int .i64 0, .int .i64 1]) ∧ w = w' := by
  rcases some_or_odd r with g | g
  · have C := Lib.hid (fun W : World => count_yes r W g)
    have D := Lib.hid (fun W : World => against_bad u t W h)
    clear h g
    go_enter Try.func21, Try.ntmps21
    go_wp2_with fail
    refine (C.out _).mono ?_
    rintro e w' ⟨rfl, rfl⟩
    go_wp2_with fail
    refine (D.out _).mono ?_
    rintro e w' ⟨rfl, rfl⟩
    go_wp2
    go_ret2
    exact ⟨rfl, rfl⟩
  · exact need_odd r u t w g
theorem need_zero (r u : Int) (w : World) (h : Some_ r) (g : Fine u) : Calls Try.prog 21 #[.int .i64 r, .int .i64 u, .int .i64 0] w fun e w' => e = .returned (.tuple #[.int .i64 0, .int .i64 5]) ∧ w = w' := by
  have C := Lib.hid (fun W : World => count_yes r W h)
  have D := Lib.hid (fun W : World => against_zero u W g)
  clear h g
  go_enter Try.func21, Try.ntmps21
  go_wp2_with fail
  refine (C.out _).mono ?_
  rintro e w' ⟨rfl, rfl⟩
  go_wp2_with fail
  refine (D.out _).mono ?_
  rintro e w' ⟨rfl, rfl⟩
  go_wp2
  go_ret2
  exact ⟨rfl, rfl⟩
theorem need_ok (r u t : Nat) (w : World) (hr : r ≤ 1000000) (hu : u ≤ 9007199254740992) (ht : t ≤ 9007199254740992) (h0 : 0 < t) :
    Calls Try.prog 21 #[.int .i64 (r : Int), .int .i64 (u : Int), .int .i64 (t : Int)] w fun e w' => e = .returned (.tuple #[.int .i64 ((min (upDiv r u t) 1000000 : Nat) : Int), .int .i64 0]) ∧ Below w.heap.size w w' := by
  have C := Lib.hid (fun W : World => count_yes (r : Int) W ⟨by omega, by omega⟩)
  have D := Lib.hid (fun W : World => against_ok (u : Int) (t : Int) W ⟨by omega, by omega⟩ ⟨by omega, by omega⟩ (by omega))
  obtain ⟨n, hn⟩ : ∃ n, n = upDiv r u t := ⟨_, rfl⟩
  rw [← hn]
  have m := fun W : World => muldiv_any r u t true W (by omega) (by omega) (by omega)
  have hw : mdWant r u t true = n := by rw [mdWant_up, hn]
  have HR := Lib.hid hr
  have HU := Lib.hid hu
  have HT := Lib.hid ht
  rcases Nat.lt_or_ge n 18446744073709551616 with h | h
  · obtain ⟨k1, k2⟩ := muldiv_ok (up := true) h0 hw h
    rw [k1, k2] at m
    have M := Lib.hid m
    clear m k1 k2 hw hn
    rcases Nat.lt_or_ge 1000000 n with g | g
    · rw [Nat.min_eq_right (by omega)]
      have t1 : decide ((1000000 : Int) < (n : Int)) = true := by simp; omega
      clear g h
      go_enter Try.func21, Try.ntmps21
      go_wp2_with fail
      refine (C.out _).mono ?_
      rintro e w' ⟨rfl, rfl⟩
      go_wp2_with fail
      refine (D.out _).mono ?_
      rintro e w' ⟨rfl, rfl⟩
      go_wp2_with fail
      refine (M.out _).mono ?_
      rintro e w1 ⟨rfl, h1⟩
      go_wp2
      go_ret2
      exact ⟨rfl, h1⟩
    · rw [Nat.min_eq_left g]
      have t1 : decide ((1000000 : Int) < (n : Int)) = false := by simp; omega
      clear h
      go_enter Try.func21, Try.ntmps21
      go_wp2_with fail
      refine (C.out _).mono ?_
      rintro e w' ⟨rfl, rfl⟩
      go_wp2_with fail
      refine (D.out _).mono ?_
      rintro e w' ⟨rfl, rfl⟩
      go_wp2_with fail
      refine (M.out _).mono ?_
      rintro e w1 ⟨rfl, h1⟩
      go_wp2
      go_ret2
      exact ⟨rfl, h1⟩
  · obtain ⟨k1, k2⟩ := muldiv_over (a := r) (b := u) (up := true) h0 (by rw [hw]; exact h)
    rw [k1, k2] at m
    have M := Lib.hid m
    rw [Nat.min_eq_right (by omega)]
    clear m k1 k2 hw hn h
    go_enter Try.func21, Try.ntmps21
    go_wp2_with fail
    refine (C.out _).mono ?_
    rintro e w' ⟨rfl, rfl⟩
    go_wp2_with fail
    refine (D.out _).mono ?_
    rintro e w' ⟨rfl, rfl⟩
    go_wp2_with fail
    refine (M.out _).mono ?_
    rintro e w1 ⟨rfl, h1⟩
    go_wp2
    go_ret2
    exact ⟨rfl, h1⟩

end Go.Proofs.Ytajkhbdniadkkaa
