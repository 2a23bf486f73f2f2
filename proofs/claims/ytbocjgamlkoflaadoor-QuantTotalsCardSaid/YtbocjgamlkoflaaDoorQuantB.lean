/- What 'digits' and 'unit' of package quant answer. -/
import Derived.Test.YtbocjgamlkoflaaDoorQuantA
import Derived.IntWalk
namespace Go.Proofs.YtbocjgamlkoflaaDoor
open Go.RowKit
set_option linter.unusedVariables false

/-- How many digits stand ahead of all else. -/
def lead : List UInt8 → Nat
  | [] => 0
  | c :: r => if 48 ≤ c.toNat ∧ c.toNat ≤ 57 then lead r + 1 else 0
theorem lead_le : ∀ l, lead l ≤ l.length
  | [] => Nat.le_refl _
  | c :: r => by
    unfold lead
    have := lead_le r
    split <;> simp <;> omega
theorem lead_yes {c : UInt8} {r : List UInt8} (h : 48 ≤ c.toNat) (h1 : c.toNat ≤ 57) : lead (c :: r) = lead r + 1 := by
  rw [lead, if_pos ⟨h, h1⟩]
theorem lead_no {c : UInt8} {r : List UInt8} (h : ¬ (48 ≤ c.toNat ∧ c.toNat ≤ 57)) : lead (c :: r) = 0 := by
  rw [lead, if_neg h]

/-- How many thousandths a unit has; 0: it is none. -/
def unitOf (l : List UInt8) : Nat :=
  if (l == [109]) = true then 1 else if l.isEmpty = true then 1000 else if (l == [107]) = true then 1000000 else if (l == [77]) = true then 1000000000 else if (l == [71]) = true then 1000000000000
  else if (l == [75, 105]) = true then 1024000 else if (l == [77, 105]) = true then 1048576000 else if (l == [71, 105]) = true then 1073741824000 else 0
theorem unit_lt (l : List UInt8) : unitOf l ≤ 1073741824000 := by
  unfold unitOf
  repeat (first | omega | split)

theorem unit_any (s : ByteArray) (w : World) :
    Calls Tryd.prog 25 #[.string s] w fun e w' => e = .returned (.tuple #[.int .u64 (unitOf s.toList : Int), .bool (unitOf s.toList != 0)]) ∧ w = w' := by
  go_enter Tryd.func25, Tryd.ntmps25
  go_wp2
  all_goals
    go_ret2
    refine ⟨?_, rfl⟩
    simp only [unitOf, *]
    rfl

theorem drop_at (s : ByteArray) (k : Nat) (h : k < s.size) : s.data.toList.drop k = s[k] :: s.data.toList.drop (k + 1) := by
  rw [List.drop_eq_getElem_cons (by simpa using h)]
  rfl
theorem lead_end {s : ByteArray} {k : Nat} (hk : Hid (lead (s.data.toList.drop k) + k = lead s.data.toList)) (h : lead (s.data.toList.drop k) = 0) : Ending.returned (.int .i64 (k : Int)) = .returned (.int .i64 (lead s.data.toList : Int)) := by
  have := hk.out
  rw [show k = lead s.data.toList by omega]
theorem digits_any (s : ByteArray) (w : World) (hs : s.size ≤ maxLen) :
    Calls Tryd.prog 24 #[.string s] w fun e w' => e = .returned (.int .i64 (lead s.data.toList : Int)) ∧ w = w' := by
  unfold maxLen at hs
  go_enter Tryd.func24, Tryd.ntmps24
  go_wp2
  go_loop [3] (fun i => ∃ k : Nat, k ≤ s.size ∧ i = .int .i64 k ∧ Hid (lead (s.data.toList.drop k) + k = lead s.data.toList)) (fun i => s.size - (intOf i).toNat)
  case atStart => exact ⟨0, Nat.zero_le _, rfl, rfl⟩
  case round =>
    obtain ⟨k, hk, rfl, hrel⟩ := hrel
    by_cases hlt : k < s.size
    · have D := Lib.hid (drop_at s k hlt)
      by_cases h1 : 48 ≤ s[k].toNat ∧ s[k].toNat ≤ 57
      · obtain ⟨g1, g2⟩ := h1
        have t1 : (48 : Int) ≤ (s[k].toNat : Int) := by omega
        have t2 : (s[k].toNat : Int) ≤ 57 := by omega
        have Y := Lib.hid (lead_yes (r := s.data.toList.drop (k + 1)) g1 g2)
        clear g1 g2
        go_wp2
        go_round
        case rel => exact ⟨k + 1, by omega, by go_num, by show _ = _; have := hrel.out; rw [D.out, Y.out] at this; omega⟩
        case measure => simp [intOf]; omega
      · have N := Lib.hid (lead_no (r := s.data.toList.drop (k + 1)) h1)
        by_cases h2 : 48 ≤ s[k].toNat
        · have t1 : (48 : Int) ≤ (s[k].toNat : Int) := by omega
          have t2 : ¬ (s[k].toNat : Int) ≤ 57 := by omega
          clear h1 h2
          go_wp2
          go_ret
          exact ⟨lead_end hrel (by rw [D.out]; exact N.out), rfl⟩
        · have t1 : ¬ (48 : Int) ≤ (s[k].toNat : Int) := by omega
          clear h1 h2
          go_wp2
          go_ret
          exact ⟨lead_end hrel (by rw [D.out]; exact N.out), rfl⟩
    · go_wp2
      go_ret
      exact ⟨lead_end hrel (by rw [List.drop_eq_nil_of_le (by simp; exact Nat.le_of_not_lt hlt)]; rfl), rfl⟩

end Go.Proofs.YtbocjgamlkoflaaDoor
