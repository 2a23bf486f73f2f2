/- What 'Write' of package gauge answers; that it is read again. -/
import Derived.Test.YtalhajnekpbkoaaGaugeD
import Derived.Test.YtalhajnekpbkoaaFltW
namespace Go.Proofs.Ytalhajnekpbkoaa
open Go.RowKit
set_option linter.unusedVariables false

/-- What 'Write' gives: its place among the words, and how near it is. -/
def Wrote (m x : Nat) : Prop := (m = 0 ∧ x = 0) ∨ ∃ F k : Nat, x = (1074 - F) * 4503599627370496 + k ∧
    8 ≤ F ∧ F ≤ 62 ∧ 4503599627370496 ≤ k ∧ k ≤ 9007199254740992 ∧ 4503599627370496000 ≤ m * 2 ^ F ∧ m * 2 ^ F ≤ 9007199254740992000 ∧
    2 * (k * 1000) ≤ 2 * (m * 2 ^ F) + 1000 ∧ 2 * (m * 2 ^ F) ≤ 2 * (k * 1000) + 1000 ∧ ((2 * (k * 1000) = 2 * (m * 2 ^ F) + 1000 ∨ 2 * (m * 2 ^ F) = 2 * (k * 1000) + 1000) → k % 2 = 0)

theorem write_ok (m : Nat) (h1 : m ≤ 9007199254740992) : ∃ x : Nat, Wrote m x ∧ ∀ w, Calls Try.prog 11 #[.int .i64 (m : Int)] w fun e w' => e = .returned (.tuple #[.int .u64 (x : Int), .int .i64 0]) ∧ w = w' := by
  obtain ⟨f, hf⟩ : ∃ f, f = Ieee.double.nearest false m 0 := ⟨_, rfl⟩
  obtain ⟨x, hW, hx⟩ : ∃ x, Wrote m x ∧ Ieee.double.div f 4652007308841189376 = some x := by
    rcases Nat.eq_zero_or_pos m with rfl | h0
    · exact ⟨0, .inl ⟨rfl, rfl⟩, by rw [hf]; decide +kernel⟩
    · obtain ⟨F, k, h, r⟩ := thousandth h0 h1
      exact ⟨_, .inr ⟨F, k, rfl, r⟩, by rw [hf]; exact h⟩
  refine ⟨x, hW, fun w => ?_⟩
  have hc : ∀ w : World, (convert 24 49 (.int .i64 (m : Int))).run Try.prog w = .ok (.float .f64 f) w := fun w => by
    rw [run_convert_int_float w 24 49 .i64 .f64 (m : Int) (by rw [Try.underlying24]; rfl) Try.underlying49, hf]
    have e1 : ((m : Int) < 0) = False := by simp
    simp only [floatOfInt, FloatKind.nearest, FloatKind.encode, Ieee.Format.write, dbl_format, Int.natAbs_natCast, e1, decide_false]
  have hq : ∀ (t : TypeId) (w : World), (binOp .quo t (.float .f64 f) (.float .f64 4652007308841189376)).run Try.prog w = .ok (.float .f64 x) w :=
    fun t w => run_float_arith w .quo t .f64 _ _ _ hx
  have hb := run_bits x
  have i1 := Lib.hid (fun W : World => right_yes (m : Int) W (by omega) (by omega))
  clear hf hW hx h1
  go_enter Try.func11, Try.ntmps11
  go_wp2_with fail
  refine (i1.out _).mono ?_
  rintro e w' ⟨rfl, rfl⟩
  go_wp2
  go_ret2
  exact ⟨rfl, rfl⟩
theorem write_no (m : Int) (w : World) (h : m < 0 ∨ 9007199254740992 < m) : Calls Try.prog 11 #[.int .i64 m] w fun e w' => e = .returned (.tuple #[.int .u64 0, .int .i64 1]) ∧ w = w' := by
  have i1 := Lib.hid (fun W : World => right_no m W h)
  clear h
  go_enter Try.func11, Try.ntmps11
  go_wp2_with fail
  refine (i1.out _).mono ?_
  rintro e w' ⟨rfl, rfl⟩
  go_wp2
  go_ret2
  exact ⟨rfl, rfl⟩

/- what is written, read again -/
theorem wrote_le {m x : Nat} (h : Wrote m x) : x ≤ 9218868437227405312 := by
  rcases h with ⟨_, rfl⟩ | ⟨F, k, rfl, h1, h2, h3, h4, _⟩
  · decide
  · omega
theorem wrote_err {m x : Nat} (h : Wrote m x) : rdE x = 0 ∨ rdE x = 3 := by
  have := wrote_le h
  unfold rdE
  rw [if_neg (by omega)]
  split
  · exact .inl rfl
  · split
    · exact .inr rfl
    · split
      · exact .inr rfl
      · exact .inl rfl
theorem wrote_again {m x : Nat} (h : Wrote m x) (hm : m ≤ 1099511627776) : rdE x = 0 ∧ rdV x = m := by
  rcases h with ⟨rfl, rfl⟩ | ⟨F, k, hx, h1, h2, h3, h4, h5, h6, h7, h8, _⟩
  · have e : mil 0 = 0 := mil_low (by decide)
    have v1 : rdE 0 = 0 := by
      unfold rdE
      rw [if_neg (by decide), if_neg (by decide), if_neg (by decide), e, if_neg (by decide)]
    refine ⟨v1, ?_⟩
    unfold rdV
    rw [if_pos v1]
    exact e
  · have hF : 22 ≤ F := by
      rcases Nat.lt_or_ge F 22 with h | h
      · exfalso
        have p : 2 ^ F ≤ 2 ^ 21 := pow_le2 (by omega)
        have p2 : m * 2 ^ F ≤ 1099511627776 * 2 ^ 21 := Nat.mul_le_mul hm p
        omega
      · exact h
    have hmil : mil x = m := by
      rcases Nat.lt_or_ge k 9007199254740992 with hk | hk
      · have e1 : sig x = k := by unfold sig; rw [if_neg (by omega), hx]; omega
        have e2 : 1074 - upw x = F := by unfold upw; omega
        unfold mil
        rw [e1, e2]
        have p : 2 ^ 22 ≤ 2 ^ F := pow_le2 hF
        exact rne_eq (Nat.two_pow_pos F) (by omega) (by omega)
      · have hk2 : k = 9007199254740992 := by omega
        have e1 : sig x = 4503599627370496 := by unfold sig; rw [if_neg (by omega), hx]; omega
        have e2 : 1074 - upw x = F - 1 := by unfold upw; omega
        unfold mil
        rw [e1, e2]
        have p : 2 ^ 21 ≤ 2 ^ (F - 1) := pow_le2 (by omega)
        have p2 : m * 2 ^ F = 2 * (m * 2 ^ (F - 1)) := by
          rw [show F = F - 1 + 1 by omega, Nat.pow_succ, Nat.add_sub_cancel, ← Nat.mul_assoc, Nat.mul_comm _ 2]
        exact rne_eq (Nat.two_pow_pos (F - 1)) (by omega) (by omega)
    have v1 : rdE x = 0 := by
      unfold rdE
      rw [if_neg (by omega), if_neg (by omega), if_neg (by omega), hmil, if_neg (by omega)]
    refine ⟨v1, ?_⟩
    unfold rdV
    rw [if_pos v1, Nat.mod_eq_of_lt (by omega), hmil]

end Go.Proofs.Ytalhajnekpbkoaa
