/- Names: the program's and the document's. -/
import Derived.Test.YtdphooobgbminaaObB
import Derived.IntWalk
namespace Go.Proofs.Ytdphooobgbminaa
open Go.RowKit Go.Shelf Go.Lib Go.Sort
set_option linter.unusedVariables false
set_option linter.unusedSimpArgs false

def lowB (c : Nat) : Bool := decide (97 ≤ c ∧ c ≤ 122 ∨ 48 ≤ c ∧ c ≤ 57)
def signB (c : Nat) : Bool := lowB c || decide (c = 45)
def byAt (s : ByteArray) (i : Nat) : Nat := (s.data.getD i 0).toNat
theorem byAt_eq {s : ByteArray} {i : Nat} (h : i < s.size) : byAt s i = s[i].toNat := by
  unfold byAt
  rw [Array.getD_eq_getD_getElem?, Array.getElem?_eq_getElem (by simpa using h)]
  rfl
def okAt (s : ByteArray) (i : Nat) : Bool := lowB (byAt s i) || (decide (byAt s i = 45) && decide (i ≠ 0) && decide (i ≠ s.size - 1))
/-- Is a text a name? -/
def nameB (s : ByteArray) : Bool := decide (1 ≤ s.size) && decide (s.size ≤ 32) && (List.range s.size).all (okAt s)
/-- A name or empty. -/
def mayB (s : ByteArray) : Bool := decide (s.size = 0) || nameB s
theorem name_bad {s : ByteArray} {i : Nat} (hi : i < s.size) (h : okAt s i = false) : nameB s = false := by
  have : (List.range s.size).all (okAt s) = false := List.all_eq_false.2 ⟨i, List.mem_range.2 hi, by rw [h]; decide⟩
  rw [nameB, this, Bool.and_false]
theorem name_long {s : ByteArray} (h : ¬ (1 ≤ s.size ∧ s.size ≤ 32)) : nameB s = false := by
  have : (decide (1 ≤ s.size) && decide (s.size ≤ 32)) = false := by simp; omega
  rw [nameB, this, Bool.false_and]
theorem name_ok {s : ByteArray} (h1 : 1 ≤ s.size) (h2 : s.size ≤ 32) (h : ∀ i, i < s.size → okAt s i = true) : nameB s = true := by
  rw [nameB, decide_eq_true h1, decide_eq_true h2, List.all_eq_true.2 (fun i hi => h i (List.mem_range.1 hi))]
  rfl

theorem ret_b {a b : Bool} (h : a = b) : Ending.returned (.bool a) = .returned (.bool b) := by rw [h]
theorem empty_of {s : ByteArray} (h : s.size = 0) : s = ⟨#[]⟩ := by
  cases s with
  | mk d => 
    have : d = #[] := Array.eq_empty_of_size_eq_zero h
    rw [this]
theorem bne_empty {s : ByteArray} (h : ¬ s.size = 0) : (s.toList == ([] : List UInt8)) = false := by
  rw [ByteArray.toList_eq]
  have : s.data.toList ≠ [] := fun e => h (by have := congrArg List.length e; simpa using this)
  simpa using this

theorem empty_test (s : ByteArray) : (s.toList == ([] : List UInt8)) = decide (s.size = 0) := by
  by_cases h : s.size = 0
  · obtain rfl := empty_of h
    rw [ByteArray.toList_eq]
    rfl
  · rw [bne_empty h, decide_eq_false h]
theorem num_test (x : Int) : (x == 0) = decide (x = 0) := by rw [Bool.eq_iff_iff]; simp
theorem len_test1 (a : Nat) : ((a : Int) == 0) = decide (a = 0) := by rw [Bool.eq_iff_iff]; simp
theorem len_test2 (a b : Nat) : ((a : Int) + (b : Int) == 0) = (decide (a = 0) && decide (b = 0)) := by rw [Bool.eq_iff_iff]; simp; omega
theorem len_test3 (a b c : Nat) : ((a : Int) + (b : Int) + (c : Int) == 0) = (decide (a = 0) && decide (b = 0) && decide (c = 0)) := by rw [Bool.eq_iff_iff]; simp; omega


set_option maxHeartbeats 1000000 in
theorem rname_any (w : World) (s : ByteArray) (hs : s.size ≤ 9223372036854775807) : Calls Try.prog 24 #[.string s] w fun e w' => e = .returned (.bool (nameB s)) ∧ w = w' := by
  go_enter Try.func24, Try.ntmps24
  go_wp2_with fail
  go_loopg [3] s.size (fun g vi wr => ∃ (k : Nat), k ≤ s.size ∧ s.size - k ≤ g ∧ vi = .int .i64 (k : Int) ∧ Hid (∀ i, i < k → okAt s i = true) ∧ w = wr)
  case atStart => exact ⟨0, Nat.zero_le _, by omega, rfl, fun i h => absurd h (Nat.not_lt_zero _), rfl⟩
  case round =>
    obtain ⟨k, hk, hg, rfl, HS, rfl⟩ := hrel
    by_cases hlt : k < s.size
    · obtain ⟨c, hc⟩ : ∃ c : Nat, s[k].toNat = c := ⟨_, rfl⟩
      have hb : byAt s k = c := (byAt_eq hlt).trans hc
      have ei : (s[k].toNat : Int) = (c : Int) := by rw [hc]
      obtain ⟨m, hm⟩ : ∃ m, s.size = m + 1 := ⟨s.size - 1, by omega⟩
      have em : (s.size : Int) - 1 = (m : Int) := by omega
      by_cases hl : (97 ≤ c ∧ c ≤ 122) ∨ (48 ≤ c ∧ c ≤ 57) ∨ (c = 45 ∧ k ≠ 0 ∧ k ≠ m)
      · have HK : Hid (okAt s k = true) := by
          show _ = _
          simp [okAt, lowB, hb]
          omega
        have HS2 : Hid (∀ i, i < k + 1 → okAt s i = true) := fun i hi => by
          by_cases h : i = k
          · subst h; exact HK.out
          · exact HS.out i (by omega)
        clear hc hb hm
        rcases hl with ⟨l1, l2⟩ | ⟨l1, l2⟩ | ⟨rfl, l1, l2⟩
        case inr.inr =>
          have g1 : ((k : Int) == 0) = false := by rw [beq_eq_false_iff_ne]; omega
          have g2 : ((k : Int) == (m : Int)) = false := by rw [beq_eq_false_iff_ne]; omega
          go_wp2
          go_roundg (s.size - (k + 1))
          case measure => omega
          case rel => exact ⟨k + 1, hlt, Nat.le_refl _, by go_num, HS2, rfl⟩
        all_goals
          go_wp2
          go_roundg (s.size - (k + 1))
          case measure => omega
          case rel => exact ⟨k + 1, hlt, Nat.le_refl _, by go_num, HS2, rfl⟩
      · have HK : Hid (okAt s k = false) := by
          show _ = _
          simp [okAt, lowB, hb]
          omega
        have HB := Lib.hid (name_bad hlt HK.out)
        clear hc hb
        have hq : (c ≠ 45 ∧ c < 48) ∨ (c ≠ 45 ∧ 57 < c ∧ c < 97) ∨ (c ≠ 45 ∧ 122 < c) ∨ (c = 45 ∧ k = 0) ∨ (c = 45 ∧ k = m) := by omega
        rcases hq with ⟨hq, l1⟩ | ⟨hq, l1, l2⟩ | ⟨hq, l1⟩ | ⟨rfl, rfl⟩ | ⟨rfl, hkm⟩
        case inr.inr.inr.inl =>
          have g2 : ((((0 : Nat) : Int)) == 0) = true := rfl
          go_wp2
          go_ret
          exact ⟨by rw [HB.out]; rfl, rfl⟩
        case inr.inr.inr.inr =>
          have g3 : ((k : Int) == (m : Int)) = true := by rw [beq_iff_eq]; omega
          clear hl hkm
          go_wp2
          all_goals
            go_ret
            exact ⟨by rw [HB.out]; rfl, rfl⟩
        case inl =>
          have g1 : ((c : Int) == 45) = false := by rw [beq_eq_false_iff_ne]; omega
          have g2 : ((c : Int) != 45) = true := by rw [bne_iff_ne]; omega
          clear hl
          go_wp2
          all_goals
            go_ret
            exact ⟨by rw [HB.out]; rfl, rfl⟩
        case inr.inl =>
          have g1 : ((c : Int) == 45) = false := by rw [beq_eq_false_iff_ne]; omega
          have g2 : ((c : Int) != 45) = true := by rw [bne_iff_ne]; omega
          have d1 : decide ((c : Int) ≤ 57) = false := decide_eq_false (by omega)
          clear hl
          go_wp2
          all_goals
            go_ret
            exact ⟨by rw [HB.out]; rfl, rfl⟩
        case inr.inr.inl =>
          have g1 : ((c : Int) == 45) = false := by rw [beq_eq_false_iff_ne]; omega
          have g2 : ((c : Int) != 45) = true := by rw [bne_iff_ne]; omega
          have d1 : decide ((c : Int) ≤ 57) = false := decide_eq_false (by omega)
          have d2 : decide ((c : Int) ≤ 122) = false := decide_eq_false (by omega)
          clear hl
          go_wp2
          all_goals
            go_ret
            exact ⟨by rw [HB.out]; rfl, rfl⟩
    · obtain rfl : k = s.size := by omega
      by_cases h1 : 1 ≤ s.size
      · by_cases h2 : s.size ≤ 32
        · have HR : Hid (nameB s = true) := name_ok h1 h2 HS.out
          go_wp2
          go_ret
          exact ⟨by rw [HR.out, decide_eq_true (by omega)]; rfl, rfl⟩
        · have HR : Hid (nameB s = false) := name_long (by omega)
          go_wp2
          go_ret
          exact ⟨by rw [HR.out, decide_eq_false (by omega)]; rfl, rfl⟩
      · have HR : Hid (nameB s = false) := name_long (by omega)
        go_wp2
        go_ret
        exact ⟨by rw [HR.out]; rfl, rfl⟩
end Go.Proofs.Ytdphooobgbminaa
