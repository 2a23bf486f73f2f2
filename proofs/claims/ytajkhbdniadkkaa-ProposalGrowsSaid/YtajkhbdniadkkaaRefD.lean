/- What 'Number', 'Two' and 'Join' answer. -/
import Derived.Test.YtajkhbdniadkkaaRefC
namespace Go.Proofs.Ytajkhbdniadkkaa
open Go.RowKit
set_option linter.unusedVariables false

/-- The 64 lowest digits of a number. -/
def low (n : Nat) : Nat := n % 18446744073709551616
theorem low_lt (n : Nat) : low n < 18446744073709551616 := Nat.mod_lt _ (by decide)
theorem low_of {n : Nat} (h : n < 18446744073709551616) : low n = n := Nat.mod_eq_of_lt h
theorem low_step (a j : Nat) : low (a / 2 ^ j) = (low (a / 2 ^ (j + 1)) * 2 + bit a j) % 18446744073709551616 := by
  rw [div_step a j]; unfold low; omega
theorem wrap_step (X b : Nat) : IntKind.u64.wrap (IntKind.u64.wrap ((X : Int) * 2) + (b : Int)) = (((X * 2 + b) % 18446744073709551616 : Nat) : Int) := by
  rw [IntKind.wrap_u64, IntKind.wrap_u64]; omega
theorem ret_num {a b : Nat} {p q : Bool} (h : a = b) (g : p = q) : Ending.returned (.tuple #[.int .u64 (a : Int), .bool p]) = .returned (.tuple #[.int .u64 (b : Int), .bool q]) := by rw [h, g]
set_option maxHeartbeats 1000000 in
theorem number_any {w : World} {base : Nat} {v : Value} {l : List Nat} (hr : Row w base v l) (hb : Bin l) (hl : l.length ≤ 1000000) :
    Calls Try.prog 54 #[v] w fun e w' => e = .returned (.tuple #[.int .u64 ((low (val l) : Nat) : Int), .bool (decide (l.length ≤ 64))]) ∧ w = w' := by
  have VL := Lib.hid (val_lt l hb)
  obtain ⟨ad, c, rfl, hc, ha1, ha2, hcells⟩ := id hr
  have HC := Lib.hid hcells
  clear hcells
  go_enter Try.func54, Try.ntmps54
  go_wp2
  go_loop [4, 5] (fun x i => ∃ (X j : Nat) (z : Int), x = .int .u64 (X : Int) ∧ X < 18446744073709551616 ∧ i = .int .i64 z ∧ z + 1 = (j : Int) ∧ j ≤ l.length ∧ Hid (X = low (val l / 2 ^ j))) (fun _ i => (intOf i + 1).toNat)
  case atStart => exact ⟨0, l.length, _, rfl, by omega, rfl, by omega, Nat.le_refl _, by show _ = _; rw [Nat.div_eq_of_lt VL.out]; rfl⟩
  case round =>
    obtain ⟨X, j, z, rfl, hX, rfl, hz, hj, hrel⟩ := hrel
    rcases j with _ | j
    · obtain rfl : z = -1 := by omega
      go_wp2
      go_ret2
      exact ⟨ret_num (by rw [hrel.out]; simp) (by rw [decide_eq_decide]; omega), rfl⟩
    · obtain rfl : z = (j : Int) := by omega
      have hcell : w.cell? (ad.add j) = some (.int .u8 ((bit (val l) j : Nat) : Int)) := by rw [← get_bit l hb]; exact Cells.at_ HC.out hj
      have hb1 := bit_le (val l) j
      go_wp2
      go_round
      case rel =>
        refine ⟨(X * 2 + bit (val l) j) % 18446744073709551616, j, _, ?_, Nat.mod_lt _ (by decide), rfl, by omega, by omega, ?_⟩
        · rw [wrap_step]
        · show _ = _
          rw [low_step, ← hrel.out]
      case measure => simp [intOf]
theorem number_num {w : World} {base : Nat} {v : Value} {n : Nat} (h : Num w base v n) (k : Nat) (hn : n < 2 ^ k) (hk : k ≤ 1000000) :
    Calls Try.prog 54 #[v] w fun e w' => e = .returned (.tuple #[.int .u64 ((low n : Nat) : Int), .bool (decide (n < 18446744073709551616))]) ∧ w = w' := by
  obtain ⟨l, hr, hb, ht, rfl⟩ := h
  refine (number_any hr hb (Nat.le_trans (ht.len_le hn) hk)).mono ?_
  rintro e w' ⟨rfl, rfl⟩
  refine ⟨ret_num rfl ?_, rfl⟩
  rw [decide_eq_decide]
  have := ht.lt_iff hb 64
  have e : (2 : Nat) ^ 64 = 18446744073709551616 := by decide
  omega



end Go.Proofs.Ytajkhbdniadkkaa
