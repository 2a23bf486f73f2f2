/- Names: the program's and the document's. -/
import Derived.Test.YtajkhbdniadkkaaObB
import Derived.IntWalk
namespace Go.Proofs.Ytajkhbdniadkkaa
open Go.RowKit Go.Shelf Go.Lib Go.Sort
set_option linter.unusedVariables false
set_option linter.unusedSimpArgs false

def lowB (c : Nat) : Bool := decide (97 ≤ c ∧ c ≤ 122 ∨ 48 ≤ c ∧ c ≤ 57)
def signB (c : Nat) : Bool := lowB c || decide (c = 45)
def byAt (s : ByteArray) (i : Nat) : Nat := (s.data.getD i 0).toNat
theorem byAt_eq {s : ByteArray} {i : Nat} (h : i < s.size) : byAt s i = s[i].toNat := by
  unfold byAt
  rw [Array.getD_eq_getD_getElem?, Array.getElem?_eq_getElem (by simpa using h)]
  rfl
def okAt (s : ByteArray) (i : Nat) : Bool := lowB (byAt s i) || (decide (byAt s i = 45) && decide (i ≠ 0) && decide (i ≠ s.size - 1))
/-- Is a text a name? -/
def nameB (s : ByteArray) : Bool := decide (1 ≤ s.size) && decide (s.size ≤ 32) && (List.range s.size).all (okAt s)
/-- A name or empty. -/
def mayB (s : ByteArray) : Bool := decide (s.size = 0) || nameB s
theorem name_bad {s : ByteArray} {i : Nat} (hi : i < s.size) (h : okAt s i = false) : nameB s = false := by
  have : (List.range s.size).all (okAt s) = false := List.all_eq_false.2 ⟨i, List.mem_range.2 hi, by rw [h]; decide⟩
  rw [nameB, this, Bool.and_false]
theorem name_long {s : ByteArray} (h : ¬ (1 ≤ s.size ∧ s.size ≤ 32)) : nameB s = false := by
  have : (decide (1 ≤ s.size) && decide (s.size ≤ 32)) = false := by simp; omega
  rw [nameB, this, Bool.false_and]
theorem name_ok {s : ByteArray} (h1 : 1 ≤ s.size) (h2 : s.size ≤ 32) (h : ∀ i, i < s.size → okAt s i = true) : nameB s = true := by
  rw [nameB, decide_eq_true h1, decide_eq_true h2, List.all_eq_true.2 (fun i hi => h i (List.mem_range.1 hi))]
  rfl

theorem ret_b {a b : Bool} (h : a = b) : Ending.returned (.bool a) = .returned (.bool b) := by rw [h]
theorem sign_any (w : World) (c : Nat) : Calls Try.prog 73 #[.int .u8 (c : Int)] w fun e w' => e = .returned (.bool (signB c)) ∧ w = w' := by
  go_enter Try.func73, Try.ntmps73
  go_wp2
  all_goals
    go_ret
    refine ⟨ret_b ?_, rfl⟩
    rw [Bool.eq_iff_iff]
    simp [signB, lowB]
    omega

theorem empty_of {s : ByteArray} (h : s.size = 0) : s = ⟨#[]⟩ := by
  cases s with
  | mk d => 
    have : d = #[] := Array.eq_empty_of_size_eq_zero h
    rw [this]
theorem bne_empty {s : ByteArray} (h : ¬ s.size = 0) : (s.toList == ([] : List UInt8)) = false := by
  rw [ByteArray.toList_eq]
  have : s.data.toList ≠ [] := fun e => h (by have := congrArg List.length e; simpa using this)
  simpa using this

theorem empty_test (s : ByteArray) : (s.toList == ([] : List UInt8)) = decide (s.size = 0) := by
  by_cases h : s.size = 0
  · obtain rfl := empty_of h
    rw [ByteArray.toList_eq]
    rfl
  · rw [bne_empty h, decide_eq_false h]
theorem num_test (x : Int) : (x == 0) = decide (x = 0) := by rw [Bool.eq_iff_iff]; simp
theorem len_test1 (a : Nat) : ((a : Int) == 0) = decide (a = 0) := by rw [Bool.eq_iff_iff]; simp
theorem len_test2 (a b : Nat) : ((a : Int) + (b : Int) == 0) = (decide (a = 0) && decide (b = 0)) := by rw [Bool.eq_iff_iff]; simp; omega
theorem len_test3 (a b c : Nat) : ((a : Int) + (b : Int) + (c : Int) == 0) = (decide (a = 0) && decide (b = 0) && decide (c = 0)) := by rw [Bool.eq_iff_iff]; simp; omega


set_option maxHeartbeats 1000000 in
theorem name_any (w : World) (s : ByteArray) (hs : s.size ≤ 9223372036854775807) : Calls Try.prog 55 #[.string s] w fun e w' => e = .returned (.bool (nameB s)) ∧ w = w' := by
  by_cases h0 : s.size = 0
  · have H := Lib.hid (name_long (s := s) (by omega))
    go_enter Try.func55, Try.ntmps55
    go_wp2
    go_ret
    exact ⟨by rw [H.out]; rfl, rfl⟩
  by_cases h32 : 32 < s.size
  · have H := Lib.hid (name_long (s := s) (by omega))
    have t0 : ((s.size : Int) == 0) = false := by rw [beq_eq_false_iff_ne]; omega
    go_enter Try.func55, Try.ntmps55
    go_wp2
    go_ret
    exact ⟨by rw [H.out]; rfl, rfl⟩
  obtain ⟨m, hm⟩ : ∃ m, s.size = m + 1 := ⟨s.size - 1, by omega⟩
  have hm0 : 0 < s.size := by omega
  have hm1 : m < s.size := by omega
  have em : (s.size : Int) - 1 = (m : Int) := by omega
  have t0 : ((s.size : Int) == 0) = false := by rw [beq_eq_false_iff_ne]; omega
  have t32 : decide ((32 : Int) < (s.size : Int)) = false := decide_eq_false (by omega)
  by_cases c0 : s[0].toNat = 45
  · have H : Hid (nameB s = false) := name_bad (i := 0) hm0 (by simp [okAt, byAt_eq hm0, c0, lowB])
    have e0 : ((s[0].toNat : Int) == 45) = true := by rw [c0]; rfl
    clear c0
    go_enter Try.func55, Try.ntmps55
    go_wp2
    go_ret
    exact ⟨by rw [H.out]; rfl, rfl⟩
  have e0 : ((s[0].toNat : Int) == 45) = false := by rw [beq_eq_false_iff_ne]; omega
  by_cases c1 : s[m].toNat = 45
  · have H : Hid (nameB s = false) := name_bad (i := m) hm1 (by simp [okAt, byAt_eq hm1, c1, lowB]; omega)
    have e1 : ((s[m].toNat : Int) == 45) = true := by rw [c1]; rfl
    clear c0 c1 hm
    go_enter Try.func55, Try.ntmps55
    go_wp2
    go_ret
    exact ⟨by rw [H.out]; rfl, rfl⟩
  have e1 : ((s[m].toNat : Int) == 45) = false := by rw [beq_eq_false_iff_ne]; omega
  have each : ∀ k (h : k < s.size), okAt s k = signB s[k].toNat := by
    intro k h
    unfold okAt signB
    rw [byAt_eq h]
    by_cases ck : s[k].toNat = 45
    · have k0 : k ≠ 0 := by rintro rfl; exact c0 ck
      have k1 : k ≠ s.size - 1 := by
        intro e
        have e2 : k = m := by omega
        subst e2
        exact c1 ck
      simp [ck, k0, k1]
    · simp [ck]
  have HE := Lib.hid each
  have HF := Lib.hid (And.intro h0 (And.intro h32 hm))
  clear each c0 c1 h0 h32 hm
  go_enter Try.func55, Try.ntmps55
  go_wp2_with fail
  clear e0 e1 em
  go_loopg [26] s.size (fun g vi wr => ∃ (k : Nat), k ≤ s.size ∧ s.size - k ≤ g ∧ vi = .int .i64 (k : Int) ∧ Hid (∀ i, i < k → okAt s i = true) ∧ w = wr)
  case atStart => exact ⟨0, Nat.zero_le _, by omega, rfl, fun i h => absurd h (Nat.not_lt_zero _), rfl⟩
  case round =>
    obtain ⟨k, hk, hg, rfl, HS, rfl⟩ := hrel
    by_cases hlt : k < s.size
    · have C := Lib.hid (sign_any w s[k].toNat)
      have HK := Lib.hid (HE.out k hlt)
      generalize signB s[k].toNat = b at C HK
      go_wp2_with fail
      refine C.out.mono ?_
      rintro e w1 ⟨rfl, rfl⟩
      cases b with
      | false =>
        go_wp2
        go_ret
        exact ⟨by rw [name_bad hlt HK.out]; rfl, rfl⟩
      | true =>
        have HS2 : Hid (∀ i, i < k + 1 → okAt s i = true) := fun i hi => by
          by_cases h : i = k
          · subst h; exact HK.out
          · exact HS.out i (by omega)
        go_wp2
        go_roundg (s.size - (k + 1))
        case measure => omega
        case rel => exact ⟨k + 1, hlt, Nat.le_refl _, by go_num, HS2, rfl⟩
    · obtain rfl : k = s.size := by omega
      have HR : Hid (nameB s = true) := name_ok hm0 (by have := HF.out; omega) HS.out
      go_wp2
      go_ret
      exact ⟨by rw [HR.out]; rfl, rfl⟩

end Go.Proofs.Ytajkhbdniadkkaa
