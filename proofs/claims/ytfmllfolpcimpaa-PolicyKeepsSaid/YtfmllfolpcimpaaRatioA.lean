/- What the functions of package ratio answer. -/
import Derived.Test.YtfmllfolpcimpaaWideM
import Derived.Test.YtfmllfolpcimpaaRefF
import Derived.Deep.QuietTactic
import Derived.BigQuiet
namespace Go.Proofs.Ytfmllfolpcimpaa
open Go.RowKit
set_option linter.unusedVariables false

theorem mdWant_up (a b y : Nat) : mdWant a b y true = upDiv a b y := by
  unfold mdWant upDiv
  by_cases h : a * b % y = 0
  · rw [if_neg (by simp [h]), if_pos h]
  · rw [if_pos ⟨rfl, h⟩, if_neg h]
theorem mdWant_down (a b y : Nat) : mdWant a b y false = a * b / y := by
  unfold mdWant
  rw [if_neg (by simp), Nat.add_zero]

/-- A quantity that is right. -/
def Fine (m : Int) : Prop := 0 ≤ m ∧ m ≤ 9007199254740992
def Bad (m : Int) : Prop := m < 0 ∨ 9007199254740992 < m
theorem fine_or_bad (m : Int) : Fine m ∨ Bad m := by unfold Fine Bad; omega
/-- A count of replicas that can be. -/
def Some_ (n : Int) : Prop := 0 ≤ n ∧ n ≤ 1000000
def Odd_ (n : Int) : Prop := n < 0 ∨ 1000000 < n
theorem some_or_odd (n : Int) : Some_ n ∨ Odd_ n := by unfold Some_ Odd_; omega

theorem count_yes (n : Int) (w : World) (h : Some_ n) : Calls Try.prog 17 #[.int .i64 n] w fun e w' => e = .returned (.bool true) ∧ w = w' := by
  obtain ⟨h0, h1⟩ := h
  go_enter Try.func17, Try.ntmps17
  go_wp2
  go_ret
  exact ⟨rfl, rfl⟩
theorem count_no (n : Int) (w : World) (h : Odd_ n) : Calls Try.prog 17 #[.int .i64 n] w fun e w' => e = .returned (.bool false) ∧ w = w' := by
  rcases h with h | h
  · have t1 : decide (0 ≤ n) = false := by simpa using h
    go_enter Try.func17, Try.ntmps17
    go_wp2
    go_ret
    exact ⟨rfl, rfl⟩
  · have t1 : decide (0 ≤ n) = true := by simp; omega
    have t2 : decide (n ≤ 1000000) = false := by simpa using h
    go_enter Try.func17, Try.ntmps17
    go_wp2
    go_ret
    exact ⟨rfl, rfl⟩

theorem fine_zero : Fine 0 := by unfold Fine; omega
/-! ### 'Need', 'Whole' -/
end Go.Proofs.Ytfmllfolpcimpaa
