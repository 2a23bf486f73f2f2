/- The document's Same, and its Sort. -/
import Derived.Test.YtmdpkblkbokhoaaStI
import Derived.Laws.StructEq
import Derived.Deep.QuietTactic
import Derived.BigQuiet
namespace Go.Proofs.Ytmdpkblkbokhoaa
open Go.Shelf Go.RowKit Go.Lib Go.Sort
set_option linter.unusedVariables false

theorem neq_same (x : Lab) (w : World) : (binOp .neq 33 (.agg #[.string x.1, .string x.2]) (.agg #[.string x.1, .string x.2])).run Try.prog w = .ok (.bool false) w := by
  have hS : Try.prog.underlying 33 = some (.struct (Try.prog.fieldsOf 33)) := by kernel_rfl
  have hp : Try.prog.stoodInHeld 33 = false := by kernel_rfl
  rw [run_neq_struct, show (10000 : Nat) = 9999 + 1 from rfl, run_equalIn_agg w 9999 33 _ _ hS hp]
  simp only [Program.fieldsOf, Try.underlying33]
  go_simp

set_option maxHeartbeats 1000000 in
theorem same_true (w : World) (q p : Option Addr) (c d : Nat) (l : List Lab) (ha : Labs w q l) (hb : Labs w p l) (hl : l.length ≤ 1000000) :
    Calls Try.prog 13 #[.slice q l.length c, .slice p l.length d] w fun e w' => e = .returned (.bool true) ∧ Below w.heap.size w w' := by
  have mixed : Try.prog.follows .mixedOrders = true := by kernel_rfl
  have HA := Lib.hid ha
  have HB := Lib.hid hb
  have HN := Lib.hid neq_same
  have hg : Try.prog.eqGuardType Try.prog.depth 33 = false := by kernel_rfl
  clear ha hb
  go_enter Try.func13, Try.ntmps13
  go_wp2_with fail
  go_loopg [5, 13] l.length (fun g _ vk wr => ∃ k : Nat, vk = .int .i64 (k : Int) ∧ k ≤ l.length ∧ l.length - k ≤ g ∧ Hid (Below w.heap.size w wr))
  case atStart => exact ⟨0, rfl, Nat.zero_le _, Nat.le_refl _, Below.refl _ _⟩
  case round =>
    obtain ⟨k, rfl, hk, hgg, HW⟩ := hrel
    by_cases hlt : k < l.length
    · obtain ⟨x, hx⟩ : ∃ x, l[k]? = some x := ⟨l[k], List.getElem?_eq_getElem hlt⟩
      obtain ⟨b1, o1, rfl, h1, c1, c2⟩ := (HA.out.below HW.out) k x hx
      obtain ⟨b2, o2, rfl, h2, d1, d2⟩ := (HB.out.below HW.out) k x hx
      have hn := HN.out x
      clear hx
      go_wp2_with fail
      go_quiet (fail)
      go_wp2_with fail
      go_roundg (l.length - (k + 1))
      case measure => omega
      case rel => exact ⟨k + 1, by go_num, hlt, Nat.le_refl _, bel_drew HW.out _⟩
    · obtain rfl : k = l.length := by omega
      go_wp2
      go_ret
      exact ⟨rfl, HW.out⟩
end Go.Proofs.Ytmdpkblkbokhoaa
