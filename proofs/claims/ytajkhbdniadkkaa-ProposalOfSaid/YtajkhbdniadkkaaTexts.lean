/- Texts compared, for whatever layer: strings.Compare. -/
import Derived.Test.YtajkhbdniadkkaaProg
import Derived.WalkKit
import Derived.Below
import Derived.Lib.Hide
import Derived.Lib.Bytealg
import Derived.Shelf.Abstract
import Derived.Test.YtajkhbdniadkkaaObOp
import Derived.Sort.Walk0
namespace Go.Proofs.Ytajkhbdniadkkaa.Tx
open Go.RowKit Go.Shelf Go.Lib Go.Sort Go.Deep
set_option linter.unusedVariables false
set_option linter.unusedSimpArgs false
set_option maxRecDepth 20000

theorem compare_neg : ∀ a b : List UInt8, compareBytes a b < 0 ↔ a < b
  | [], [] => by simp [compareBytes]
  | [], _ :: _ => by simp [compareBytes]
  | _ :: _, [] => by simp [compareBytes]
  | a :: r, b :: t => by
    rw [compareBytes, List.cons_lt_cons_iff]
    by_cases h1 : a < b
    · simp [h1]
    · by_cases h2 : b < a
      · have : a ≠ b := by intro e; subst e; exact h1 h2
        simp [h1, h2, this]
      · have e : a = b := UInt8.le_antisymm (UInt8.not_lt.1 h2) (UInt8.not_lt.1 h1)
        subst e
        simp [compare_neg r t]
theorem run_cmp (a b : ByteArray) (w : World) : (callFunc 83 #[.string a, .string b]).run Try.prog w = .ok (.value (.int .i64 (compareBytes a.toList b.toList))) w := by
  rw [run_callFunc_extern Try.func83 (by kernel_rfl) (by kernel_rfl) (by kernel_rfl) (e := Extern.BytealgCompare.compare) (by kernel_rfl), Lib.run_compareString, Lib.toList_data, Lib.toList_data]
  rfl
theorem bytes_any (a b : ByteArray) (w : World) : Calls Try.prog 65 #[.string a, .string b] w fun e w' => e = .returned (.int .i64 (compareBytes a.toList b.toList)) ∧ w = w' := by
  have h := run_cmp a b
  go_enter Try.func65, Try.ntmps65
  go_wp2
  go_ret
  exact ⟨rfl, rfl⟩
theorem text_any (a b : ByteArray) (w : World) : Calls Try.prog 41 #[.string a, .string b] w fun e w' => e = .returned (.int .i64 (compareBytes a.toList b.toList)) ∧ w = w' := by
  have C := Lib.hid (bytes_any a b)
  go_enter Try.func41, Try.ntmps41
  go_wp2_with fail
  refine (C.out _).mono ?_
  rintro e w1 ⟨rfl, rfl⟩
  go_wp2
  go_ret
  exact ⟨rfl, rfl⟩
theorem tx_tri (a b : List UInt8) : a < b ∨ a = b ∨ b < a := by
  by_cases h1 : a < b
  · exact .inl h1
  by_cases h2 : b < a
  · exact .inr (.inr h2)
  exact .inr (.inl (List.le_antisymm (List.not_lt.1 h2) (List.not_lt.1 h1)))
end Go.Proofs.Ytajkhbdniadkkaa.Tx
