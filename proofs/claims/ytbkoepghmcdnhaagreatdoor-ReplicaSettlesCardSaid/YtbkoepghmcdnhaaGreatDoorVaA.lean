/- Numbers within bounds, quantities, resources: the program's and the law's. -/
import Derived.Test.YtbkoepghmcdnhaaGreatDoorObR3
namespace Go.Proofs.YtbkoepghmcdnhaaGreatDoor
open Go.RowKit Go.Shelf Go.Lib Go.Sort
set_option linter.unusedVariables false
set_option linter.unusedSimpArgs false

def withinB (x a b : Int) : Bool := decide (a ≤ x) && decide (x ≤ b)
def milB (m : Int) : Bool := withinB m 0 9007199254740992
def someB (m : Int) : Bool := milB m && decide (1 ≤ m)
def resB (c m : Int) : Bool := someB c && milB m
theorem some_eq (m : Int) : someB m = (milB m && decide (m ≠ 0)) := by
  rw [Bool.eq_iff_iff]
  simp [someB, milB, withinB]
  omega

theorem within_any (w : World) (x a b : Int) : Calls Tryz.prog 60 #[.int .i64 x, .int .i64 a, .int .i64 b] w fun e w' => e = .returned (.bool (withinB x a b)) ∧ w = w' := by
  go_enter Tryz.func60, Tryz.ntmps60
  go_wp2
  all_goals
    go_ret
    refine ⟨ret_b ?_, rfl⟩
    rw [Bool.eq_iff_iff]
    simp [withinB]
    omega
theorem within64_any (w : World) (x a b : Int) : Calls Tryz.prog 122 #[.int .i64 x, .int .i64 a, .int .i64 b] w fun e w' => e = .returned (.bool (withinB x a b)) ∧ w = w' := by
  go_enter Tryz.func122, Tryz.ntmps122
  go_wp2
  all_goals
    go_ret
    refine ⟨ret_b ?_, rfl⟩
    rw [Bool.eq_iff_iff]
    simp [withinB]
    omega
theorem mil_any (w : World) (m : Int) : Calls Tryz.prog 137 #[.int .i64 m] w fun e w' => e = .returned (.bool (milB m)) ∧ w = w' := by
  by_cases h : m ≤ 9007199254740992
  · have t : decide (m ≤ 9007199254740992) = true := decide_eq_true h
    have e : Hid (milB m = decide (0 ≤ m)) := by show _ = _; rw [milB, withinB, t, Bool.and_true]
    clear h
    by_cases h0 : 0 ≤ m
    · rw [decide_eq_true h0] at e
      go_enter Tryz.func137, Tryz.ntmps137
      go_wp2
      go_ret
      exact ⟨by rw [e.out]; rfl, rfl⟩
    · rw [decide_eq_false h0] at e
      go_enter Tryz.func137, Tryz.ntmps137
      go_wp2
      go_ret
      exact ⟨by rw [e.out]; rfl, rfl⟩
  · have t : decide (m ≤ 9007199254740992) = false := decide_eq_false h
    have e : Hid (milB m = false) := by show _ = _; rw [milB, withinB, t, Bool.and_false]
    have h0 : 0 ≤ m := by omega
    clear h
    go_enter Tryz.func137, Tryz.ntmps137
    go_wp2
    go_ret
    exact ⟨by rw [e.out]; rfl, rfl⟩
theorem some_any (w : World) (m : Int) : Calls Tryz.prog 136 #[.int .i64 m] w fun e w' => e = .returned (.bool (someB m)) ∧ w = w' := by
  have C := Lib.hid (mil_any w m)
  have HO : Hid (someB m = (milB m && decide (1 ≤ m))) := rfl
  generalize milB m = b at C HO
  go_enter Tryz.func136, Tryz.ntmps136
  go_wp2_with fail
  refine C.out.mono ?_
  rintro e w1 ⟨rfl, rfl⟩
  cases b <;>
  · go_wp2
    go_ret
    exact ⟨by rw [HO.out]; rfl, rfl⟩

set_option maxHeartbeats 1000000 in
theorem res_any (w : World) (c m : Int) : Calls Tryz.prog 117 #[.agg #[.int .i64 c, .int .i64 m]] w fun e w' => e = .returned (.bool (resB c m)) ∧ Gr w w' := by
  have G := Lib.hid ((Gr.refl w).alloc (.cells #[.int .i64 c, .int .i64 m] 32))
  have C1 := Lib.hid (fun W => some_any W c)
  have C2 := Lib.hid (fun W => mil_any W m)
  have HO : Hid (resB c m = (someB c && milB m)) := rfl
  generalize someB c = b1 at C1 HO
  generalize milB m = b2 at C2 HO
  go_enter Tryz.func117, Tryz.ntmps117
  go_wp2_with fail
  refine (C1.out _).mono ?_
  rintro e w1 ⟨rfl, rfl⟩
  cases b1 with
  | false =>
    go_wp2
    go_ret
    exact ⟨by rw [HO.out]; rfl, G.out⟩
  | true =>
    go_wp2_with fail
    refine (C2.out _).mono ?_
    rintro e w1 ⟨rfl, rfl⟩
    go_wp2
    go_ret
    exact ⟨by rw [HO.out]; rfl, G.out⟩
end Go.Proofs.YtbkoepghmcdnhaaGreatDoor
