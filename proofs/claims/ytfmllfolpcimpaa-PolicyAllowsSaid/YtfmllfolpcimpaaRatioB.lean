/- What 'Near', 'Percent' and 'Share' of package ratio answer. -/
import Derived.Test.YtfmllfolpcimpaaRatioA
import Derived.Deep.RegionWith
namespace Go.Proofs.Ytfmllfolpcimpaa
open Go.RowKit
set_option linter.unusedVariables false

def Wide_ (x : Int) : Prop := x < 0 ∨ 1000 < x
theorem wrap_milli {n : Nat} (h : n ≤ 9007199254740992) : IntKind.i64.wrap (n : Int) = (n : Int) := by rw [IntKind.wrap_i64]; omega
theorem ret_near {p q : Bool} (h : p = q) : Ending.returned (.tuple #[.bool p, .int .i64 0]) = .returned (.tuple #[.bool q, .int .i64 0]) := by rw [h]
/-! ### 'quotient', 'Percent', 'Share' -/
theorem quot_ok (a b y n : Nat) (up : Bool) (w : World) (ha : a < 18446744073709551616) (hb : b < 18446744073709551616) (hy : y < 18446744073709551616) (hy0 : 0 < y) (hw : mdWant a b y up = n) (hn : n ≤ 9007199254740992) :
    Calls Try.prog 18 #[.int .u64 (a : Int), .int .u64 (b : Int), .int .u64 (y : Int), .bool up] w fun e w' => e = .returned (.tuple #[.int .i64 (n : Int), .int .i64 0]) ∧ Below w.heap.size w w' := by
  have m := fun W : World => muldiv_any a b y up W ha hb hy
  obtain ⟨k1, k2⟩ := muldiv_ok (up := up) hy0 hw (by omega)
  rw [k1, k2] at m
  have M := Lib.hid m
  have W1 := wrap_milli hn
  clear m k1 k2 hw
  go_enter Try.func18, Try.ntmps18
  go_wp2_with fail
  refine (M.out _).mono ?_
  rintro e w1 ⟨rfl, h1⟩
  go_wp2
  go_ret2
  exact ⟨rfl, h1⟩
theorem quot_zero (a b : Nat) (up : Bool) (w : World) (ha : a < 18446744073709551616) (hb : b < 18446744073709551616) :
    Calls Try.prog 18 #[.int .u64 (a : Int), .int .u64 (b : Int), .int .u64 0, .bool up] w fun e w' => e = .returned (.tuple #[.int .i64 0, .int .i64 5]) ∧ Below w.heap.size w w' := by
  have m := fun W : World => muldiv_any a b 0 up W ha hb (by decide)
  rw [show mdVal a b 0 up = 0 from if_pos rfl, show mdErr a b 0 up = 5 from if_pos rfl] at m
  have m' : ∀ W : World, Calls Try.prog 19 #[.int .u64 (a : Int), .int .u64 (b : Int), .int .u64 0, .bool up] W fun e w' => e = .returned (.tuple #[.int .u64 0, .int .i64 5]) ∧ Below W.heap.size W w' := m
  have M := Lib.hid m'
  clear m m'
  go_enter Try.func18, Try.ntmps18
  go_wp2_with fail
  refine (M.out _).mono ?_
  rintro e w1 ⟨rfl, h1⟩
  go_wp2
  go_ret2
  exact ⟨rfl, h1⟩

theorem percent_odd (n k : Int) (up : Bool) (w : World) (h : Odd_ n ∨ (Some_ n ∧ Odd_ k)) : Calls Try.prog 16 #[.int .i64 n, .int .i64 k, .bool up] w fun e w' => e = .returned (.tuple #[.int .i64 0, .int .i64 1]) ∧ w = w' := by
  rcases h with h | ⟨h, g | g⟩
  · have C := Lib.hid (fun W : World => count_no n W h)
    clear h
    go_enter Try.func16, Try.ntmps16
    go_wp2_with fail
    refine (C.out _).mono ?_
    rintro e w' ⟨rfl, rfl⟩
    go_wp2
    go_ret2
    exact ⟨rfl, rfl⟩
  · have C := Lib.hid (fun W : World => count_yes n W h)
    clear h
    go_enter Try.func16, Try.ntmps16
    go_wp2_with fail
    refine (C.out _).mono ?_
    rintro e w' ⟨rfl, rfl⟩
    go_wp2
    go_ret2
    exact ⟨rfl, rfl⟩
  · have C := Lib.hid (fun W : World => count_yes n W h)
    have g2 : ¬ k < 0 := by omega
    clear h
    go_enter Try.func16, Try.ntmps16
    go_wp2_with fail
    refine (C.out _).mono ?_
    rintro e w' ⟨rfl, rfl⟩
    go_wp2
    go_ret2
    exact ⟨rfl, rfl⟩
theorem percent_ok (n k p : Nat) (up : Bool) (w : World) (hn : n ≤ 1000000) (hk : k ≤ 1000000) (hp : mdWant n k 1000 up = p) :
    Calls Try.prog 16 #[.int .i64 (n : Int), .int .i64 (k : Int), .bool up] w fun e w' => e = .returned (.tuple #[.int .i64 (p : Int), .int .i64 0]) ∧ Below w.heap.size w w' := by
  have C := Lib.hid (fun W : World => count_yes (n : Int) W ⟨by omega, by omega⟩)
  have hb : p ≤ 9007199254740992 := by
    have h1 : n * k ≤ 1000000 * 1000000 := Nat.mul_le_mul hn hk
    rw [← hp]
    unfold mdWant
    split <;> omega
  have q : ∀ W : World, Calls Try.prog 18 #[.int .u64 (n : Int), .int .u64 (k : Int), .int .u64 1000, .bool up] W fun e w' => e = .returned (.tuple #[.int .i64 (p : Int), .int .i64 0]) ∧ Below W.heap.size W w' :=
    fun W => quot_ok n k 1000 p up W (by omega) (by omega) (by decide) (by decide) hp hb
  have Q := Lib.hid q
  clear q hp hb
  go_enter Try.func16, Try.ntmps16
  go_wp2_with fail
  refine (C.out _).mono ?_
  rintro e w' ⟨rfl, rfl⟩
  go_wp2_with fail
  refine (Q.out _).mono ?_
  rintro e w1 ⟨rfl, h1⟩
  go_wp2
  go_ret2
  exact ⟨rfl, h1⟩

theorem share_le {p t : Nat} (h : p ≤ t) (h0 : 0 < t) : p * 1000 / t ≤ 1000 := by
  rw [Nat.div_le_iff_le_mul_add_pred h0]
  have := Nat.mul_le_mul_right 1000 h
  rw [Nat.mul_comm t 1000] at this
  omega
end Go.Proofs.Ytfmllfolpcimpaa
