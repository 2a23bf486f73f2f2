/- Numbers within bounds, quantities, resources: the program's and the law's. -/
import Derived.Test.YtdphooobgbminaaObR3
namespace Go.Proofs.Ytdphooobgbminaa
open Go.RowKit Go.Shelf Go.Lib Go.Sort
set_option linter.unusedVariables false
set_option linter.unusedSimpArgs false

def withinB (x a b : Int) : Bool := decide (a ≤ x) && decide (x ≤ b)
def milB (m : Int) : Bool := withinB m 0 9007199254740992
def someB (m : Int) : Bool := milB m && decide (1 ≤ m)
def resB (c m : Int) : Bool := someB c && milB m
theorem some_eq (m : Int) : someB m = (milB m && decide (m ≠ 0)) := by
  rw [Bool.eq_iff_iff]
  simp [someB, milB, withinB]
  omega

theorem mil_any (w : World) (m : Int) : Calls Try.prog 47 #[.int .i64 m] w fun e w' => e = .returned (.bool (milB m)) ∧ w = w' := by
  by_cases h : m ≤ 9007199254740992
  · have t : decide (m ≤ 9007199254740992) = true := decide_eq_true h
    have e : Hid (milB m = decide (0 ≤ m)) := by show _ = _; rw [milB, withinB, t, Bool.and_true]
    clear h
    by_cases h0 : 0 ≤ m
    · rw [decide_eq_true h0] at e
      go_enter Try.func47, Try.ntmps47
      go_wp2
      go_ret
      exact ⟨by rw [e.out]; rfl, rfl⟩
    · rw [decide_eq_false h0] at e
      go_enter Try.func47, Try.ntmps47
      go_wp2
      go_ret
      exact ⟨by rw [e.out]; rfl, rfl⟩
  · have t : decide (m ≤ 9007199254740992) = false := decide_eq_false h
    have e : Hid (milB m = false) := by show _ = _; rw [milB, withinB, t, Bool.and_false]
    have h0 : 0 ≤ m := by omega
    clear h
    go_enter Try.func47, Try.ntmps47
    go_wp2
    go_ret
    exact ⟨by rw [e.out]; rfl, rfl⟩
theorem whole_any (w : World) (m : Int) : Calls Try.prog 30 #[.int .i64 m] w fun e w' => e = .returned (.bool (milB m)) ∧ w = w' := by
  by_cases h : m ≤ 9007199254740992
  · have t : decide (m ≤ 9007199254740992) = true := decide_eq_true h
    have e : Hid (milB m = decide (0 ≤ m)) := by show _ = _; rw [milB, withinB, t, Bool.and_true]
    clear h
    by_cases h0 : 0 ≤ m
    · rw [decide_eq_true h0] at e
      go_enter Try.func30, Try.ntmps30
      go_wp2
      go_ret
      exact ⟨by rw [e.out]; rfl, rfl⟩
    · rw [decide_eq_false h0] at e
      go_enter Try.func30, Try.ntmps30
      go_wp2
      go_ret
      exact ⟨by rw [e.out]; rfl, rfl⟩
  · have t : decide (m ≤ 9007199254740992) = false := decide_eq_false h
    have e : Hid (milB m = false) := by show _ = _; rw [milB, withinB, t, Bool.and_false]
    have h0 : 0 ≤ m := by omega
    clear h
    go_enter Try.func30, Try.ntmps30
    go_wp2
    go_ret
    exact ⟨by rw [e.out]; rfl, rfl⟩
theorem sized_any (w : World) (c m : Int) : Calls Try.prog 27 #[.agg #[.int .i64 c, .int .i64 m]] w fun e w' => e = .returned (.bool (resB c m)) ∧ Gr w w' := by
  have G := Lib.hid ((Gr.refl w).alloc (.cells #[.int .i64 c, .int .i64 m] 25))
  have C1 := Lib.hid (fun W => whole_any W c)
  have C2 := Lib.hid (fun W => whole_any W m)
  have HO : Hid (resB c m = (milB c && (milB m && (c != 0)))) := by
    show _ = _
    have e : decide (c ≠ 0) = (c != 0) := by rw [Bool.eq_iff_iff]; simp
    rw [resB, some_eq, e]
    cases milB c <;> cases milB m <;> simp
  generalize milB c = b1 at C1 HO
  generalize milB m = b2 at C2 HO
  go_enter Try.func27, Try.ntmps27
  go_wp2_with fail
  refine (C1.out _).mono ?_
  rintro e w1 ⟨rfl, rfl⟩
  cases b1 with
  | false =>
    go_wp2
    go_ret
    exact ⟨by rw [HO.out]; rfl, G.out⟩
  | true =>
    go_wp2_with fail
    refine (C2.out _).mono ?_
    rintro e w1 ⟨rfl, rfl⟩
    cases b2 <;>
    · go_wp2
      go_ret
      exact ⟨by rw [HO.out]; rfl, G.out⟩
end Go.Proofs.Ytdphooobgbminaa
