/- What 'Right' of package quant answers; how a sign stands to 0. -/
import Derived.Test.YtajkhbdniadkkaaWideO
namespace Go.Proofs.Ytajkhbdniadkkaa
open Go.RowKit
set_option linter.unusedVariables false

theorem right_yes (m : Int) (w : World) (h0 : 0 ≤ m) (h1 : m ≤ 9007199254740992) :
    Calls Try.prog 19 #[.int .i64 m] w fun e w' => e = .returned (.bool true) ∧ w = w' := by
  go_enter Try.func19, Try.ntmps19
  go_wp2
  go_ret
  exact ⟨rfl, rfl⟩
theorem right_no (m : Int) (w : World) (h : m < 0 ∨ 9007199254740992 < m) :
    Calls Try.prog 19 #[.int .i64 m] w fun e w' => e = .returned (.bool false) ∧ w = w' := by
  rcases h with h | h
  · have t1 : decide (0 ≤ m) = false := by simpa using h
    go_enter Try.func19, Try.ntmps19
    go_wp2
    go_ret
    exact ⟨rfl, rfl⟩
  · have t1 : decide (0 ≤ m) = true := by simp; omega
    have t2 : decide (m ≤ 9007199254740992) = false := by simpa using h
    go_enter Try.func19, Try.ntmps19
    go_wp2
    go_ret
    exact ⟨rfl, rfl⟩

theorem sgn_over {m n : Nat} (h : n < m) : decide (0 < sgn m n) = true := by rw [sgn_gt h]; rfl
theorem sgn_within {m n : Nat} (h : m ≤ n) : decide (0 < sgn m n) = false := by
  rcases Nat.lt_or_ge m n with h1 | h1
  · rw [sgn_lt h1]; rfl
  · rw [sgn_eq (by omega)]; rfl

theorem sgn_le {m n : Nat} : decide (sgn m n ≤ 0) = decide (m ≤ n) := by
  rcases Nat.lt_or_ge n m with h | h
  · rw [sgn_gt h, decide_eq_false (by omega : ¬ m ≤ n)]; rfl
  · rw [decide_eq_true h]
    rcases Nat.lt_or_ge m n with h1 | h1
    · rw [sgn_lt h1]; rfl
    · rw [sgn_eq (by omega)]; rfl

end Go.Proofs.Ytajkhbdniadkkaa
