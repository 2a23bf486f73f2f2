/- Proved here: the law QuantSums of layer 2 holds for every two quantities' numbers and every count: sums, differences and multiples are exact, or it is told what is wrong. Conditions: the library's variables that the row lists hold what the program's text lays. -/
import Derived.Test.YtbocjgamlkoflaaDoorCards
import Derived.Test.YtbocjgamlkoflaaDoorTie
import Derived.Test.YtbocjgamlkoflaaDoorQLawBase
import Derived.SevenTiedAt
namespace Go.Proofs.YtbocjgamlkoflaaDoor.quantSums
open Go.ChangeShapes Go.WideShapes Go.ChangeAt Go.RowKit
set_option linter.unusedVariables false

def Fine (a : Int) : Prop := 0 ≤ a ∧ a ≤ 9007199254740992
def Bad (a : Int) : Prop := a < 0 ∨ 9007199254740992 < a

def Some2 (w : World) (e : Ending) (w' : World) : Prop := ∃ p g : Int, e = .returned (.tuple #[.int .i64 p, .int .i64 g]) ∧ Below w.heap.size w w'
theorem times_some (a n : Int) (w : World) (ha : Fine a) (hn : n < 9223372036854775808) : Calls Tryd.prog 19 #[.int .i64 a, .int .i64 n] w (Some2 w) := by
  obtain ⟨h0, h1⟩ := ha
  by_cases hn0 : n < 0
  · exact (times_arg a n w (.inr hn0)).mono fun e w' ⟨he, hb⟩ => ⟨0, 1, he, hb⟩
  · obtain ⟨x, rfl⟩ : ∃ x : Nat, a = x := ⟨a.toNat, by omega⟩
    obtain ⟨y, rfl⟩ : ∃ y : Nat, n = y := ⟨n.toNat, by omega⟩
    rcases Nat.lt_or_ge 9007199254740992 (x * y) with h | h
    · exact (times_over x y w (by omega) (by omega) h).mono fun e w' ⟨he, hb⟩ => ⟨0, 3, he, hb⟩
    · exact (times_within x y w (by omega) (by omega) h).mono fun e w' ⟨he, hb⟩ => ⟨_, 0, he, hb⟩

/-- The first one isn't right. -/
theorem bad_first (a b n : Int) (w : World) (hL : Laid w) (ha : Bad a) :
    Calls Tryd.prog 5 #[.int .i64 a, .int .i64 b, .int .i64 n] w fun e w' => e = .returned (.bool true) ∧ Below w.heap.size w w' := by
  have A := Lib.hid (fun W : World => add_arg a b W (.inl ha))
  have S := Lib.hid (fun W : World => sub_arg a b W (.inl ha))
  have T := Lib.hid (fun W : World => times_arg a n W (.inl ha))
  rcases ha with h | h
  · have t1 : decide (0 ≤ a) = false := by simpa using h
    clear h
    go_enter Tryd.func5, Tryd.ntmps5
    go_wp2_with fail
    refine (lives_any _ hL).mono ?_
    rintro e w1 ⟨rfl, h1⟩
    go_wp2_with fail
    refine (A.out _).mono ?_
    rintro e w' ⟨rfl, rfl⟩
    go_wp2_with fail
    refine (S.out _).mono ?_
    rintro e w' ⟨rfl, rfl⟩
    go_wp2_with fail
    refine (T.out _).mono ?_
    rintro e w2 ⟨rfl, h2⟩
    go_wp2
    go_ret
    exact ⟨rfl, h1.trans (h2.mono h1.size)⟩
  · have t1 : decide (0 ≤ a) = true := by simp; omega
    have t2 : decide (a ≤ 9007199254740992) = false := by simp; omega
    clear h
    go_enter Tryd.func5, Tryd.ntmps5
    go_wp2_with fail
    refine (lives_any _ hL).mono ?_
    rintro e w1 ⟨rfl, h1⟩
    go_wp2_with fail
    refine (A.out _).mono ?_
    rintro e w' ⟨rfl, rfl⟩
    go_wp2_with fail
    refine (S.out _).mono ?_
    rintro e w' ⟨rfl, rfl⟩
    go_wp2_with fail
    refine (T.out _).mono ?_
    rintro e w2 ⟨rfl, h2⟩
    go_wp2
    go_ret
    exact ⟨rfl, h1.trans (h2.mono h1.size)⟩

/-- The second one alone isn't right. -/
theorem bad_second (a b n : Int) (w : World) (hL : Laid w) (ha : Fine a) (hn : n < 9223372036854775808) (hb : Bad b) :
    Calls Tryd.prog 5 #[.int .i64 a, .int .i64 b, .int .i64 n] w fun e w' => e = .returned (.bool true) ∧ Below w.heap.size w w' := by
  have A := Lib.hid (fun W : World => add_arg a b W (.inr hb))
  have S := Lib.hid (fun W : World => sub_arg a b W (.inr hb))
  have T := Lib.hid (fun W : World => times_some a n W ha hn)
  obtain ⟨g1, g2⟩ := ha
  clear hn
  rcases hb with h | h
  · have t1 : decide (0 ≤ b) = false := by simpa using h
    clear h
    go_enter Tryd.func5, Tryd.ntmps5
    go_wp2_with fail
    refine (lives_any _ hL).mono ?_
    rintro e w1 ⟨rfl, h1⟩
    go_wp2_with fail
    refine (A.out _).mono ?_
    rintro e w' ⟨rfl, rfl⟩
    go_wp2_with fail
    refine (S.out _).mono ?_
    rintro e w' ⟨rfl, rfl⟩
    go_wp2_with fail
    refine (T.out _).mono ?_
    rintro e w2 ⟨p, g, rfl, h2⟩
    go_wp2
    go_ret
    exact ⟨rfl, h1.trans (h2.mono h1.size)⟩
  · have t1 : decide (0 ≤ b) = true := by simp; omega
    have t2 : decide (b ≤ 9007199254740992) = false := by simp; omega
    clear h
    go_enter Tryd.func5, Tryd.ntmps5
    go_wp2_with fail
    refine (lives_any _ hL).mono ?_
    rintro e w1 ⟨rfl, h1⟩
    go_wp2_with fail
    refine (A.out _).mono ?_
    rintro e w' ⟨rfl, rfl⟩
    go_wp2_with fail
    refine (S.out _).mono ?_
    rintro e w' ⟨rfl, rfl⟩
    go_wp2_with fail
    refine (T.out _).mono ?_
    rintro e w2 ⟨p, g, rfl, h2⟩
    go_wp2
    go_ret
    exact ⟨rfl, h1.trans (h2.mono h1.size)⟩

theorem fine_or (a : Int) : Bad a ∨ Fine a := by unfold Bad Fine; omega
/-- Both are right; the count is below nought. -/
theorem right_neg (x : Nat) (b n : Int) (w : World) (hL : Laid w) (ha : x ≤ 9007199254740992) (hb : Fine b) (hn : n < 0) :
    Calls Tryd.prog 5 #[.int .i64 (x : Int), .int .i64 b, .int .i64 n] w fun e w' => e = .returned (.bool true) ∧ Below w.heap.size w w' := by
  obtain ⟨b0, b1⟩ := hb
  have A : (9007199254740992 < (x : Int) + b ∧ Hid (∀ W : World, Calls Tryd.prog 17 #[.int .i64 (x : Int), .int .i64 b] W fun e w' => e = .returned (.tuple #[.int .i64 0, .int .i64 3]) ∧ W = w')) ∨
      (¬ 9007199254740992 < (x : Int) + b ∧ Hid (∀ W : World, Calls Tryd.prog 17 #[.int .i64 (x : Int), .int .i64 b] W fun e w' => e = .returned (.tuple #[.int .i64 ((x : Int) + b), .int .i64 0]) ∧ W = w')) := by
    by_cases h : 9007199254740992 < (x : Int) + b
    · exact .inl ⟨h, Lib.hid fun W => add_over _ _ W (by omega) (by omega) b0 b1 h⟩
    · exact .inr ⟨h, Lib.hid fun W => add_within _ _ W (by omega) (by omega) b0 b1 (by omega)⟩
  have S : ((x : Int) < b ∧ Hid (∀ W : World, Calls Tryd.prog 18 #[.int .i64 (x : Int), .int .i64 b] W fun e w' => e = .returned (.tuple #[.int .i64 0, .int .i64 14]) ∧ W = w')) ∨
      (¬ (x : Int) < b ∧ Hid (∀ W : World, Calls Tryd.prog 18 #[.int .i64 (x : Int), .int .i64 b] W fun e w' => e = .returned (.tuple #[.int .i64 ((x : Int) - b), .int .i64 0]) ∧ W = w')) := by
    by_cases h : (x : Int) < b
    · exact .inl ⟨h, Lib.hid fun W => sub_few _ _ W (by omega) (by omega) b0 b1 h⟩
    · exact .inr ⟨h, Lib.hid fun W => sub_within _ _ W (by omega) (by omega) b0 b1 (by omega)⟩
  have g2 : (x : Int) ≤ 9007199254740992 := by omega
  have c1 : IntKind.u64.wrap (x : Int) = (x : Int) := by rw [IntKind.wrap_u64]; omega
  have T := Lib.hid (fun W : World => times_arg (x : Int) n W (.inr hn))
  clear ha
  rcases A with ⟨t1, A⟩ | ⟨t1, A⟩ <;> rcases S with ⟨t2, S⟩ | ⟨t2, S⟩
  all_goals
    go_enter Tryd.func5, Tryd.ntmps5
    go_wp2_with fail
    refine (lives_any _ hL).mono ?_
    rintro e w1 ⟨rfl, h1⟩
    go_wp2_with fail
    refine (A.out _).mono ?_
    rintro e w' ⟨rfl, rfl⟩
    go_wp2_with fail
    refine (S.out _).mono ?_
    rintro e w' ⟨rfl, rfl⟩
    go_wp2_with fail
    refine (T.out _).mono ?_
    rintro e w2 ⟨rfl, h2⟩
    go_wp2
    go_ret
    exact ⟨rfl, h1.trans (h2.mono h1.size)⟩

/-- Both are right; the multiple is too great. -/
theorem right_over (x y : Nat) (b : Int) (w : World) (hL : Laid w) (ha : x ≤ 9007199254740992) (hb : Fine b) (hy : y < 9223372036854775808) (h : 9007199254740992 < x * y) :
    Calls Tryd.prog 5 #[.int .i64 (x : Int), .int .i64 b, .int .i64 (y : Int)] w fun e w' => e = .returned (.bool true) ∧ Below w.heap.size w w' := by
  obtain ⟨b0, b1⟩ := hb
  have A : (9007199254740992 < (x : Int) + b ∧ Hid (∀ W : World, Calls Tryd.prog 17 #[.int .i64 (x : Int), .int .i64 b] W fun e w' => e = .returned (.tuple #[.int .i64 0, .int .i64 3]) ∧ W = w')) ∨
      (¬ 9007199254740992 < (x : Int) + b ∧ Hid (∀ W : World, Calls Tryd.prog 17 #[.int .i64 (x : Int), .int .i64 b] W fun e w' => e = .returned (.tuple #[.int .i64 ((x : Int) + b), .int .i64 0]) ∧ W = w')) := by
    by_cases h : 9007199254740992 < (x : Int) + b
    · exact .inl ⟨h, Lib.hid fun W => add_over _ _ W (by omega) (by omega) b0 b1 h⟩
    · exact .inr ⟨h, Lib.hid fun W => add_within _ _ W (by omega) (by omega) b0 b1 (by omega)⟩
  have S : ((x : Int) < b ∧ Hid (∀ W : World, Calls Tryd.prog 18 #[.int .i64 (x : Int), .int .i64 b] W fun e w' => e = .returned (.tuple #[.int .i64 0, .int .i64 14]) ∧ W = w')) ∨
      (¬ (x : Int) < b ∧ Hid (∀ W : World, Calls Tryd.prog 18 #[.int .i64 (x : Int), .int .i64 b] W fun e w' => e = .returned (.tuple #[.int .i64 ((x : Int) - b), .int .i64 0]) ∧ W = w')) := by
    by_cases h : (x : Int) < b
    · exact .inl ⟨h, Lib.hid fun W => sub_few _ _ W (by omega) (by omega) b0 b1 h⟩
    · exact .inr ⟨h, Lib.hid fun W => sub_within _ _ W (by omega) (by omega) b0 b1 (by omega)⟩
  have g2 : (x : Int) ≤ 9007199254740992 := by omega
  have c1 : IntKind.u64.wrap (x : Int) = (x : Int) := by rw [IntKind.wrap_u64]; omega
  have c2 : IntKind.u64.wrap (y : Int) = (y : Int) := by rw [IntKind.wrap_u64]; omega
  have c3 : decide ((y : Int) < 0) = false := by simp
  have T := Lib.hid (fun W : World => times_over x y W (by omega) (by omega) h)
  have O1 := Lib.hid (fun W : World => of_any W x (by omega))
  have O2 := Lib.hid (fun W : World => of_any W y (by omega))
  have O3 := Lib.hid (fun W : World => of_any W 9007199254740992 (by decide))
  have HX := Lib.hid (show x < 2 ^ 64 by omega)
  have HY := Lib.hid (show y < 2 ^ 64 by omega)
  have HP := Lib.hid (mul_lt_pow HX.out HY.out)
  obtain ⟨m, hm⟩ : ∃ m, x * y = m := ⟨_, rfl⟩
  rw [hm] at h HP
  have HM := Lib.hid hm
  have T4 := Lib.hid (sgn_over h)
  clear ha hm h hy
  rcases A with ⟨t1, A⟩ | ⟨t1, A⟩ <;> rcases S with ⟨t2, S⟩ | ⟨t2, S⟩
  all_goals
    go_enter Tryd.func5, Tryd.ntmps5
    go_wp2_with fail
    refine (lives_any _ hL).mono ?_
    rintro e w1 ⟨rfl, h1⟩
    go_wp2_with fail
    refine (A.out _).mono ?_
    rintro e w' ⟨rfl, rfl⟩
    go_wp2_with fail
    refine (S.out _).mono ?_
    rintro e w' ⟨rfl, rfl⟩
    go_wp2_with fail
    refine (T.out _).mono ?_
    rintro e w2 ⟨rfl, h2⟩
    go_wp2_with fail
    refine (O1.out _).mono ?_
    rintro e w3 ⟨v3, rfl, n3, h3⟩
    go_wp2_with fail
    refine (O2.out _).mono ?_
    rintro e w4 ⟨v4, rfl, n4, h4⟩
    go_wp2_with fail
    refine (mul_any 64 64 (n3.below h4) n4 HX.out HY.out (by decide)).mono ?_
    rintro e w5 ⟨v5, rfl, n5, h5⟩
    rw [HM.out] at n5
    go_wp2_with fail
    refine (O3.out _).mono ?_
    rintro e w6 ⟨v6, rfl, n6, h6⟩
    go_wp2_with fail
    refine (cmp_num 128 (n5.below h6) n6 HP.out (by decide) (by decide)).mono ?_
    rintro e w' ⟨rfl, rfl⟩
    have t4 := T4.out
    go_wp2
    go_ret
    have z1 := h1.size
    have z2 := h2.size
    have z3 := h3.size
    have z4 := h4.size
    have z5 := h5.size
    exact ⟨rfl, ((((h1.trans (h2.mono z1)).trans (h3.mono (by omega))).trans (h4.mono (by omega))).trans (h5.mono (by omega))).trans (h6.mono (by omega))⟩

/-- Both are right, and the multiple too. -/
theorem right_within (x y : Nat) (b : Int) (w : World) (hL : Laid w) (ha : x ≤ 9007199254740992) (hb : Fine b) (hy : y < 9223372036854775808) (h : x * y ≤ 9007199254740992) :
    Calls Tryd.prog 5 #[.int .i64 (x : Int), .int .i64 b, .int .i64 (y : Int)] w fun e w' => e = .returned (.bool true) ∧ Below w.heap.size w w' := by
  obtain ⟨b0, b1⟩ := hb
  have A : (9007199254740992 < (x : Int) + b ∧ Hid (∀ W : World, Calls Tryd.prog 17 #[.int .i64 (x : Int), .int .i64 b] W fun e w' => e = .returned (.tuple #[.int .i64 0, .int .i64 3]) ∧ W = w')) ∨
      (¬ 9007199254740992 < (x : Int) + b ∧ Hid (∀ W : World, Calls Tryd.prog 17 #[.int .i64 (x : Int), .int .i64 b] W fun e w' => e = .returned (.tuple #[.int .i64 ((x : Int) + b), .int .i64 0]) ∧ W = w')) := by
    by_cases h : 9007199254740992 < (x : Int) + b
    · exact .inl ⟨h, Lib.hid fun W => add_over _ _ W (by omega) (by omega) b0 b1 h⟩
    · exact .inr ⟨h, Lib.hid fun W => add_within _ _ W (by omega) (by omega) b0 b1 (by omega)⟩
  have S : ((x : Int) < b ∧ Hid (∀ W : World, Calls Tryd.prog 18 #[.int .i64 (x : Int), .int .i64 b] W fun e w' => e = .returned (.tuple #[.int .i64 0, .int .i64 14]) ∧ W = w')) ∨
      (¬ (x : Int) < b ∧ Hid (∀ W : World, Calls Tryd.prog 18 #[.int .i64 (x : Int), .int .i64 b] W fun e w' => e = .returned (.tuple #[.int .i64 ((x : Int) - b), .int .i64 0]) ∧ W = w')) := by
    by_cases h : (x : Int) < b
    · exact .inl ⟨h, Lib.hid fun W => sub_few _ _ W (by omega) (by omega) b0 b1 h⟩
    · exact .inr ⟨h, Lib.hid fun W => sub_within _ _ W (by omega) (by omega) b0 b1 (by omega)⟩
  have g2 : (x : Int) ≤ 9007199254740992 := by omega
  have c1 : IntKind.u64.wrap (x : Int) = (x : Int) := by rw [IntKind.wrap_u64]; omega
  have c2 : IntKind.u64.wrap (y : Int) = (y : Int) := by rw [IntKind.wrap_u64]; omega
  have c3 : decide ((y : Int) < 0) = false := by simp
  have T := Lib.hid (fun W : World => times_within x y W (by omega) (by omega) h)
  have O1 := Lib.hid (fun W : World => of_any W x (by omega))
  have O2 := Lib.hid (fun W : World => of_any W y (by omega))
  have O3 := Lib.hid (fun W : World => of_any W 9007199254740992 (by decide))
  have HX := Lib.hid (show x < 2 ^ 64 by omega)
  have HY := Lib.hid (show y < 2 ^ 64 by omega)
  have HP := Lib.hid (mul_lt_pow HX.out HY.out)
  obtain ⟨m, hm⟩ : ∃ m, x * y = m := ⟨_, rfl⟩
  rw [hm] at h HP
  have HM := Lib.hid hm
  rw [hm] at T
  have T4 := Lib.hid (sgn_within h)
  have c4 : IntKind.u64.wrap (m : Int) = (m : Int) := by rw [IntKind.wrap_u64]; omega
  have HL := Lib.hid (low_of (n := m) (by omega))
  clear ha hm h hy
  rcases A with ⟨t1, A⟩ | ⟨t1, A⟩ <;> rcases S with ⟨t2, S⟩ | ⟨t2, S⟩
  all_goals
    go_enter Tryd.func5, Tryd.ntmps5
    go_wp2_with fail
    refine (lives_any _ hL).mono ?_
    rintro e w1 ⟨rfl, h1⟩
    go_wp2_with fail
    refine (A.out _).mono ?_
    rintro e w' ⟨rfl, rfl⟩
    go_wp2_with fail
    refine (S.out _).mono ?_
    rintro e w' ⟨rfl, rfl⟩
    go_wp2_with fail
    refine (T.out _).mono ?_
    rintro e w2 ⟨rfl, h2⟩
    go_wp2_with fail
    refine (O1.out _).mono ?_
    rintro e w3 ⟨v3, rfl, n3, h3⟩
    go_wp2_with fail
    refine (O2.out _).mono ?_
    rintro e w4 ⟨v4, rfl, n4, h4⟩
    go_wp2_with fail
    refine (mul_any 64 64 (n3.below h4) n4 HX.out HY.out (by decide)).mono ?_
    rintro e w5 ⟨v5, rfl, n5, h5⟩
    rw [HM.out] at n5
    go_wp2_with fail
    refine (O3.out _).mono ?_
    rintro e w6 ⟨v6, rfl, n6, h6⟩
    go_wp2_with fail
    refine (cmp_num 128 (n5.below h6) n6 HP.out (by decide) (by decide)).mono ?_
    rintro e w' ⟨rfl, rfl⟩
    have t4 := T4.out
    go_wp2_with fail
    refine (number_num (n5.below h6) 128 HP.out (by decide)).mono ?_
    rintro e w' ⟨rfl, rfl⟩
    rw [HL.out]
    go_wp2
    go_ret
    have z1 := h1.size
    have z2 := h2.size
    have z3 := h3.size
    have z4 := h4.size
    have z5 := h5.size
    exact ⟨rfl, ((((h1.trans (h2.mono z1)).trans (h3.mono (by omega))).trans (h4.mono (by omega))).trans (h5.mono (by omega))).trans (h6.mono (by omega))⟩

theorem walk (a0 : Int) (a1 : Int) (a2 : Int) (w0 : (Lit.int .i64 a0).wf = true) (w1 : (Lit.int .i64 a1).wf = true) (w2 : (Lit.int .i64 a2).wf = true) (w : World) (hL : Laid w) :
    Calls Tryd.prog 5 #[.int .i64 a0, .int .i64 a1, .int .i64 a2] w fun e w' => e = .returned (.bool true) ∧ Below w.heap.size w w' := by
  have hn : a2 < 9223372036854775808 := by
    simp [Lit.wf, IntKind.min, IntKind.max, IntKind.signed, IntKind.bits] at w2
    omega
  rcases fine_or a0 with ha | ha
  · exact bad_first a0 a1 a2 w hL ha
  · rcases fine_or a1 with hb | hb
    · exact bad_second a0 a1 a2 w hL ha hn hb
    · obtain ⟨x, rfl⟩ : ∃ x : Nat, a0 = x := ⟨a0.toNat, by have := ha.1; omega⟩
      have hx : x ≤ 9007199254740992 := by have := ha.2; omega
      by_cases hn0 : a2 < 0
      · exact right_neg x a1 a2 w hL hx hb hn0
      · obtain ⟨y, rfl⟩ : ∃ y : Nat, a2 = y := ⟨a2.toNat, by omega⟩
        rcases Nat.lt_or_ge 9007199254740992 (x * y) with h | h
        · exact right_over x y a1 w hL hx hb (by omega) h
        · exact right_within x y a1 w hL hx hb (by omega) h

/-! ### THE ROW's STEP: WRITTEN OUT: LEAVE IT -/
set_option maxRecDepth 100000 in
theorem lifted (os : Os) (started : os.Started) (H : Type) (enc : TypeId × Value → H) :
    ReturnsInHanded {} Tryd.checked os 5 .any (fun w args => (Rows.quantSumsSpec.pre enc Tryd.prog Tryd.f5 [] false w args ∧ laidMetH Tryd.prog lst w) ∧ sizedMet enc Tryd.prog Tryd.f5 (OpenSpec.ofChange Rows.quantSumsSpec) false w args)
      (Rows.quantSumsSpec.post enc Tryd.prog Tryd.f5 false true false false) := by
  refine returnsInHanded_of_change_and (C := Tryd.checked) (X := fun w _ => laidMetH Tryd.prog lst w) (fun _ _ _ hh h => h.of_heap hh) own started (by kernel_rfl) Tryd.func5
    (ChangeSpec.witness_shaped (enc := enc) (C := Tryd.checked) (os := os) (X := fun w _ => laidMetH Tryd.prog lst w) false (World.doorLaid Tryd.prog 2000 os) #[.int .i64 0, .int .i64 0, .int .i64 0] 8 rfl (World.shaped_of_RefB (by kernel_rfl) (by kernel_rfl)) (by kernel_rfl) (by kernel_rfl) (by kernel_rfl) (door_met os _)) ?_
  intro W base args ds gs before hval0 hW _ _ hL _
  have hval : ∀ (j : Nat) t v, Tryd.f5.params[j]? = some t → args[j]? = some v → Value.okWide Tryd.prog W .any base t v := hval0
  have hW' := hW
  obtain ⟨p, q, hA0, hV, rfl, hfz, hnd⟩ := hW
  have hA : DataW.TrodAll enc Tryd.prog W 0 (fun _ => true) true Tryd.f5.params.toList args.toList ds p := hA0
  rw [Tryd.params5] at hA hval
  obtain ⟨v0, vs0, d0, ds0, p0, q0, hargs, rfl, rfl, h0, r0⟩ := trodAll_cons hA
  obtain ⟨v1, vs1, d1, ds1, p1, q1, rfl, rfl, rfl, h1, r1⟩ := trodAll_cons r0
  obtain ⟨v2, vs2, d2, ds2, p2, q2, rfl, rfl, rfl, h2, r2⟩ := trodAll_cons r1
  obtain ⟨rfl, rfl, rfl⟩ := trodAll_nil r2
  obtain rfl : args = #[v0, v1, v2] := by cases args; simp_all
  obtain ⟨rfl, rfl⟩ := trodVars_none hV
  obtain ⟨a0, rfl, rfl, rfl, w0⟩ := open_int Tryd.underlying29 (hval 0 29 v0 rfl rfl) h0
  obtain ⟨a1, rfl, rfl, rfl, w1⟩ := open_int Tryd.underlying29 (hval 1 29 v1 rfl rfl) h1
  obtain ⟨a2, rfl, rfl, rfl, w2⟩ := open_int Tryd.underlying3 (hval 2 3 v2 rfl rfl) h2
  clear hA0 hval0
  simp only [List.append_nil] at hW'
  refine (walk a0 a1 a2 w0 w1 w2 W (of_laid hL)).mono fun e W' ⟨he, hg⟩ => ?_
  subst he
  exact ⟨_, rfl, post_below hW' hg (fun _ _ _ => (trodAll_cons_mk (shut_bool Tryd.underlying4 _) trodAll_mk0)) (fun sp _ => (trodAll_cons_mk (shut_int Tryd.underlying29 w0) (trodAll_cons_mk (shut_int Tryd.underlying29 w1) (trodAll_cons_mk (shut_int Tryd.underlying3 w2) trodAll_mk0)))) (fun _ => rfl) (ok_one (by kernel_rfl) rfl (okWide_bool_mk Tryd.underlying4 _))⟩

theorem over : Rows.QuantSumsSaid :=
  OpenClaim.holds_of_wide 5 Tryd.f5 rfl rfl rfl rfl rfl rfl rfl ⟨rfl, rfl, rfl, rfl, rfl⟩ rfl rfl rfl rfl rfl (by kernel_rfl) Tryd.func5 (by kernel_rfl)
    (of_decide_eq_true (by kernel_rfl)) (by unfold Func.isWrapper; first | (rw [if_pos (by decide +kernel)]; kernel_rfl) | (rw [if_neg (by decide +kernel)]; exact ⟨rfl, rfl⟩))
    (fun os started H enc _ => lifted os started H enc)

/-- The statement: the row, with what it lists tied to the program's text. -/
theorem proved : Rows.QuantSumsCardSaid :=
  Claim7.holds_tied_plain_at .later [] _ true _ true
    over (fun _ h => by cases h) (by kernel_rfl) (fun _ h => by cases h) quantSums_row_tie rfl ⟨rfl, rfl⟩ (by kernel_rfl) rfl
    (fun f fn hf hfn => by
      obtain rfl : f = 5 := Option.some.inj ((show Tryd.prog.funcNamed Rows.quantSumsRow.func = some 5 by kernel_rfl).symm.trans hf) |>.symm
      obtain rfl : fn = Tryd.f5 := (Option.some.inj (Tryd.func5.symm.trans hfn)).symm
      exact ⟨by kernel_rfl, fun j t ht => by
        rw [Tryd.params5] at ht
        have hm : t ∈ [29, 3] := by simpa using Array.mem_of_getElem? ht
        have hall : ([29, 3].all fun u => !Tryd.prog.wantsStandIn u) = true := by kernel_rfl
        exact (show Tryd.prog.wantsStandIn t = false by simpa using List.all_eq_true.1 hall t hm)⟩)
    (by kernel_rfl)
#print axioms proved
end Go.Proofs.YtbocjgamlkoflaaDoor.quantSums

