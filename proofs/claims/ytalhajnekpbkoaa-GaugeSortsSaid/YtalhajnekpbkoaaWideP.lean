/- What 'Add' of package wide answers. -/
import Derived.Test.YtalhajnekpbkoaaWideM
namespace Go.Proofs.Ytalhajnekpbkoaa
open Go.RowKit
set_option linter.unusedVariables false

theorem add64_run (x y c : Nat) (hc : c ≤ 1) (w : World) :
    (callFunc 43 #[.int .u64 (x : Int), .int .u64 (y : Int), .int .u64 (c : Int)]).run Try.prog w =
      .ok (.value (.tuple #[.int .u64 (((x + y + c) % 18446744073709551616 : Nat) : Int), .int .u64 (((x + y + c) / 18446744073709551616 : Nat) : Int)])) w := by
  rw [run_callFunc_extern Try.func43 (by kernel_rfl) (by kernel_rfl) (by kernel_rfl) (e := add64Entry) (by kernel_rfl), run_add64 (x : Int) (y : Int) (c : Int) (by omega) (by omega) (by omega) (by omega)]
  have e1 : ((x : Int) + y + c) % 18446744073709551616 = (((x + y + c) % 18446744073709551616 : Nat) : Int) := by omega
  have e2 : ((x : Int) + y + c) / 18446744073709551616 = (((x + y + c) / 18446744073709551616 : Nat) : Int) := by omega
  rw [e1, e2]
  rfl
theorem wide_add (a b c d : Nat) (w : World) (ha : a < 18446744073709551616) (hb : b < 18446744073709551616) (hc : c < 18446744073709551616) (hd : d < 18446744073709551616) :
    Calls Try.prog 34 #[wd (a : Int) (b : Int), wd (c : Int) (d : Int)] w fun e w' =>
      e = .returned (.tuple #[wd (((a + c + (b + d) / 18446744073709551616) % 18446744073709551616 : Nat) : Int) (((b + d) % 18446744073709551616 : Nat) : Int),
        .bool ((((a + c + (b + d) / 18446744073709551616) / 18446744073709551616 : Nat) : Int) == 1)]) ∧ Below w.heap.size w w' := by
  have r1 : ∀ W : World, (callFunc 43 #[.int .u64 (b : Int), .int .u64 (d : Int), .int .u64 0]).run Try.prog W = .ok (.value (.tuple #[.int .u64 (((b + d) % 18446744073709551616 : Nat) : Int), .int .u64 (((b + d) / 18446744073709551616 : Nat) : Int)])) W := fun W => add64_run b d 0 (by decide) W
  have r2 : ∀ W : World, _ := fun W => add64_run a c ((b + d) / 18446744073709551616) (by omega) W
  generalize (b + d) % 18446744073709551616 = s0 at *
  generalize (b + d) / 18446744073709551616 = c0 at *
  generalize (a + c + c0) % 18446744073709551616 = s1 at *
  generalize (a + c + c0) / 18446744073709551616 = c1 at *
  go_enter Try.func34, Try.ntmps34
  go_wp2_with (simp only [r1, r2])
  refine bodyPost_ret (v := .tuple #[wd (s1 : Int) (s0 : Int), .bool ((c1 : Int) == 1)]) (by simp [results, Try.results34, go_sem]) rfl ⟨rfl, ?_⟩
  exact (((Below.refl _ _).alloc (Nat.le_refl _) _).alloc (by simp) _).alloc (by simp; omega) _
/-- A small number, added to a sum that stays within 128 bits. -/
theorem wide_addN (S m : Nat) (w : World) (hm : m < 18446744073709551616) (hS : S + m < 340282366920938463463374607431768211456) :
    Calls Try.prog 34 #[wd ((S / 18446744073709551616 : Nat) : Int) ((S % 18446744073709551616 : Nat) : Int), wd 0 (m : Int)] w fun e w' =>
      (∃ b, e = .returned (.tuple #[wd (((S + m) / 18446744073709551616 : Nat) : Int) (((S + m) % 18446744073709551616 : Nat) : Int), .bool b])) ∧ Below w.heap.size w w' := by
  refine (wide_add (S / 18446744073709551616) (S % 18446744073709551616) 0 m w (by omega) (by omega) (by decide) hm).mono ?_
  rintro e w' ⟨rfl, hb⟩
  have e1 : (S / 18446744073709551616 + 0 + (S % 18446744073709551616 + m) / 18446744073709551616) % 18446744073709551616 = (S + m) / 18446744073709551616 := by omega
  have e2 : (S % 18446744073709551616 + m) % 18446744073709551616 = (S + m) % 18446744073709551616 := by omega
  rw [e1, e2]
  exact ⟨⟨_, rfl⟩, hb⟩

end Go.Proofs.Ytalhajnekpbkoaa
