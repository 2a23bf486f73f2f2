/- What the small functions of package quant answer: 'Right', 'product', 'Add', 'Sub', 'Times'. -/
import Derived.Test.YtajkhbdniadkkaaQRight
import Derived.Deep.QuietTactic
import Derived.BigQuiet
namespace Go.Proofs.Ytajkhbdniadkkaa
open Go.RowKit
set_option linter.unusedVariables false

theorem prod_lt {a b : Nat} (ha : a < 18446744073709551616) (hb : b < 18446744073709551616) : a * b < 340282366920938463463374607431768211456 := by
  have := Nat.mul_lt_mul'' ha hb
  omega
theorem product_over (a b : Nat) (w : World) (ha : a < 18446744073709551616) (hb : b < 18446744073709551616) (h : 9007199254740992 < a * b) :
    Calls Try.prog 48 #[.int .u64 (a : Int), .int .u64 (b : Int)] w fun e w' => e = .returned (.tuple #[.int .i64 0, .int .i64 3]) ∧ Below w.heap.size w w' := by
  obtain ⟨H, hH⟩ : ∃ H, H = a * b / 18446744073709551616 := ⟨_, rfl⟩
  obtain ⟨L, hL⟩ : ∃ L, L = a * b % 18446744073709551616 := ⟨_, rfl⟩
  have O := Lib.hid (fun W : World => wide_ofV a b H L W ha hb hH hL)
  have C := Lib.hid (fun W : World => wide_cmpN (m := a * b) (n := 9007199254740992) (c := 0) (d := 9007199254740992) W (prod_lt ha hb) hH hL rfl rfl)
  have T := Lib.hid (sgn_over h)
  clear h ha hb hH hL
  go_enter Try.func48, Try.ntmps48
  go_wp2_with fail
  refine (O.out _).mono ?_
  rintro e w1 ⟨rfl, h1⟩
  go_wp2_with fail
  refine (C.out _).mono ?_
  rintro e w2 ⟨rfl, h2⟩
  have t := T.out
  go_wp2
  go_ret2
  have s1 := h1.size
  simp at h2
  exact ⟨rfl, (h1.alloc s1 _).trans (h2.mono (by omega))⟩
theorem product_within (a b : Nat) (w : World) (ha : a < 18446744073709551616) (hb : b < 18446744073709551616) (h : a * b ≤ 9007199254740992) :
    Calls Try.prog 48 #[.int .u64 (a : Int), .int .u64 (b : Int)] w fun e w' => e = .returned (.tuple #[.int .i64 ((a * b : Nat) : Int), .int .i64 0]) ∧ Below w.heap.size w w' := by
  obtain ⟨H, hH⟩ : ∃ H, H = a * b / 18446744073709551616 := ⟨_, rfl⟩
  obtain ⟨L, hL⟩ : ∃ L, L = a * b % 18446744073709551616 := ⟨_, rfl⟩
  have O := Lib.hid (fun W : World => wide_ofV a b H L W ha hb hH hL)
  have C := Lib.hid (fun W : World => wide_cmpN (m := a * b) (n := 9007199254740992) (c := 0) (d := 9007199254740992) W (prod_lt ha hb) hH hL rfl rfl)
  have T := Lib.hid (sgn_within h)
  have hL2 : L = a * b := by omega
  rw [← hL2]
  have hLb : (L : Int) ≤ 9007199254740992 := by omega
  clear h ha hb hH hL hL2
  go_enter Try.func48, Try.ntmps48
  go_wp2_with fail
  refine (O.out _).mono ?_
  rintro e w1 ⟨rfl, h1⟩
  go_wp2_with fail
  refine (C.out _).mono ?_
  rintro e w2 ⟨rfl, h2⟩
  have t := T.out
  have hc : w2.cell? ⟨w1.heap.size, 1, none⟩ = some (.int .u64 (L : Int)) := (h2.cell (p := ⟨w1.heap.size, 1, none⟩) (by simp)).trans (by simp)
  go_wp2
  go_ret2
  have s1 := h1.size
  simp at h2
  exact ⟨rfl, (h1.alloc s1 _).trans (h2.mono (by omega))⟩

/-- What 'Add' answers. -/
theorem add_arg (a b : Int) (w : World) (h : (a < 0 ∨ 9007199254740992 < a) ∨ (b < 0 ∨ 9007199254740992 < b)) :
    Calls Try.prog 59 #[.int .i64 a, .int .i64 b] w fun e w' => e = .returned (.tuple #[.int .i64 0, .int .i64 1]) ∧ w = w' := by
  by_cases h1 : a < 0 ∨ 9007199254740992 < a
  · go_enter Try.func59, Try.ntmps59
    go_wp2_with fail
    refine (right_no _ _ h1).mono ?_
    rintro e w' ⟨rfl, rfl⟩
    go_wp2
    go_ret2
    exact ⟨rfl, rfl⟩
  · have h2 := h.resolve_left h1
    go_enter Try.func59, Try.ntmps59
    go_wp2_with fail
    refine (right_yes _ _ (by omega) (by omega)).mono ?_
    rintro e w' ⟨rfl, rfl⟩
    go_wp2_with fail
    refine (right_no _ _ h2).mono ?_
    rintro e w' ⟨rfl, rfl⟩
    go_wp2
    go_ret2
    exact ⟨rfl, rfl⟩
theorem add_over (a b : Int) (w : World) (ha : 0 ≤ a) (ha1 : a ≤ 9007199254740992) (hb : 0 ≤ b) (hb1 : b ≤ 9007199254740992) (h : 9007199254740992 < a + b) :
    Calls Try.prog 59 #[.int .i64 a, .int .i64 b] w fun e w' => e = .returned (.tuple #[.int .i64 0, .int .i64 3]) ∧ w = w' := by
  have t1 : 9007199254740992 - b < a := by omega
  go_enter Try.func59, Try.ntmps59
  go_wp2_with fail
  refine (right_yes _ _ ha ha1).mono ?_
  rintro e w' ⟨rfl, rfl⟩
  go_wp2_with fail
  refine (right_yes _ _ hb hb1).mono ?_
  rintro e w' ⟨rfl, rfl⟩
  go_wp2
  go_ret2
  exact ⟨rfl, rfl⟩
theorem add_within (a b : Int) (w : World) (ha : 0 ≤ a) (ha1 : a ≤ 9007199254740992) (hb : 0 ≤ b) (hb1 : b ≤ 9007199254740992) (h : a + b ≤ 9007199254740992) :
    Calls Try.prog 59 #[.int .i64 a, .int .i64 b] w fun e w' => e = .returned (.tuple #[.int .i64 (a + b), .int .i64 0]) ∧ w = w' := by
  have t1 : ¬ 9007199254740992 - b < a := by omega
  go_enter Try.func59, Try.ntmps59
  go_wp2_with fail
  refine (right_yes _ _ ha ha1).mono ?_
  rintro e w' ⟨rfl, rfl⟩
  go_wp2_with fail
  refine (right_yes _ _ hb hb1).mono ?_
  rintro e w' ⟨rfl, rfl⟩
  go_wp2
  go_ret2
  exact ⟨rfl, rfl⟩

/-- What 'Times' answers. -/
theorem times_arg (a n : Int) (w : World) (h : (a < 0 ∨ 9007199254740992 < a) ∨ n < 0) :
    Calls Try.prog 22 #[.int .i64 a, .int .i64 n] w fun e w' => e = .returned (.tuple #[.int .i64 0, .int .i64 1]) ∧ Below w.heap.size w w' := by
  by_cases h1 : a < 0 ∨ 9007199254740992 < a
  · go_enter Try.func22, Try.ntmps22
    go_wp2_with fail
    refine (right_no _ _ h1).mono ?_
    rintro e w' ⟨rfl, rfl⟩
    go_wp2
    go_ret2
    exact ⟨rfl, Below.refl _ _⟩
  · have h2 := h.resolve_left h1
    go_enter Try.func22, Try.ntmps22
    go_wp2_with fail
    refine (right_yes _ _ (by omega) (by omega)).mono ?_
    rintro e w' ⟨rfl, rfl⟩
    go_wp2
    go_ret2
    exact ⟨rfl, Below.refl _ _⟩
theorem times_over (a n : Nat) (w : World) (ha : a ≤ 9007199254740992) (hn : n < 9223372036854775808) (h : 9007199254740992 < a * n) :
    Calls Try.prog 22 #[.int .i64 (a : Int), .int .i64 (n : Int)] w fun e w' => e = .returned (.tuple #[.int .i64 0, .int .i64 3]) ∧ Below w.heap.size w w' := by
  have P := Lib.hid (fun W : World => product_over a n W (by omega) (by omega) h)
  clear h
  have h1 : (a : Int) ≤ 9007199254740992 := by omega
  have c1 : IntKind.u64.wrap (a : Int) = (a : Int) := by rw [IntKind.wrap_u64]; omega
  have c2 : IntKind.u64.wrap (n : Int) = (n : Int) := by rw [IntKind.wrap_u64]; omega
  have c3 : decide ((n : Int) < 0) = false := by simp
  clear ha hn
  go_enter Try.func22, Try.ntmps22
  go_wp2_with fail
  refine (right_yes _ _ (by omega) h1).mono ?_
  rintro e w' ⟨rfl, rfl⟩
  go_wp2_with fail
  refine (P.out _).mono ?_
  rintro e w1 ⟨rfl, g1⟩
  go_wp2
  go_ret2
  exact ⟨rfl, g1⟩
theorem times_within (a n : Nat) (w : World) (ha : a ≤ 9007199254740992) (hn : n < 9223372036854775808) (h : a * n ≤ 9007199254740992) :
    Calls Try.prog 22 #[.int .i64 (a : Int), .int .i64 (n : Int)] w fun e w' => e = .returned (.tuple #[.int .i64 ((a * n : Nat) : Int), .int .i64 0]) ∧ Below w.heap.size w w' := by
  obtain ⟨x, hx⟩ : ∃ x, x = a * n := ⟨_, rfl⟩
  have P := Lib.hid (fun W : World => product_within a n W (by omega) (by omega) h)
  rw [← hx] at P ⊢
  clear h hx
  have h1 : (a : Int) ≤ 9007199254740992 := by omega
  have c1 : IntKind.u64.wrap (a : Int) = (a : Int) := by rw [IntKind.wrap_u64]; omega
  have c2 : IntKind.u64.wrap (n : Int) = (n : Int) := by rw [IntKind.wrap_u64]; omega
  have c3 : decide ((n : Int) < 0) = false := by simp
  clear ha hn
  go_enter Try.func22, Try.ntmps22
  go_wp2_with fail
  refine (right_yes _ _ (by omega) h1).mono ?_
  rintro e w' ⟨rfl, rfl⟩
  go_wp2_with fail
  refine (P.out _).mono ?_
  rintro e w1 ⟨rfl, g1⟩
  go_wp2
  go_ret2
  exact ⟨rfl, g1⟩

end Go.Proofs.Ytajkhbdniadkkaa
