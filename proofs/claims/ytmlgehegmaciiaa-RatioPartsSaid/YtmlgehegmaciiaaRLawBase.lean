/- What the laws of layer 3 have in common: the example answer, what is right of a row of quantities. -/
import Derived.Test.YtmlgehegmaciiaaRows
import Derived.Test.YtmlgehegmaciiaaRatioB
import Derived.Test.YtmlgehegmaciiaaPost
import Derived.ProofKit
import Derived.OpenShut
namespace Go.Proofs.Ytmlgehegmaciiaa
open Go.ChangeShapes Go.WideShapes Go.ChangeAt Go.RowKit
set_option linter.unusedVariables false

theorem own : ownKnob Try.prog.godebug = none := by kernel_rfl

/-- The address 'ad' begins a row of quantities. -/
def Millis (w : World) (ad : Addr) (l : List Int) : Prop := ∀ (j : Nat) (z : Int), l[j]? = some z → w.cell? (ad.add j) = some (.int .i64 z)
def fine (z : Int) : Bool := decide (0 ≤ z) && decide (z ≤ 9007199254740992)
theorem fine_yes {z : Int} (h : Fine z) : fine z = true := by unfold fine; rw [decide_eq_true h.1, decide_eq_true h.2]; rfl
theorem fine_no {z : Int} (h : Bad z) : fine z = false := by
  unfold fine
  rcases h with h | h
  · rw [decide_eq_false (by omega)]; rfl
  · rw [decide_eq_false (p := z ≤ 9007199254740992) (by omega), Bool.and_false]
theorem ret_all {p q : Bool} (h : p = q) : Ending.returned (.bool p) = .returned (.bool q) := by rw [h]
theorem all_take {l : List Int} {k : Nat} {z : Int} (h : l[k]? = some z) : (l.take (k + 1)).all fine = ((l.take k).all fine && fine z) := by
  rw [List.take_add_one, h]
  simp
theorem all_bad {l : List Int} {k : Nat} {z : Int} (h : l[k]? = some z) (hz : Bad z) : l.all fine = false := by
  rw [List.all_eq_false]
  exact ⟨z, List.mem_of_getElem? h, by rw [fine_no hz]; decide⟩
theorem right_row (w : World) (ad : Addr) (c : Nat) (l : List Int) (hn : l.length ≤ 1000) (h : Millis w ad l) :
    Calls Try.prog 10 #[.slice (some ad) l.length c] w fun e w' => e = .returned (.bool (l.all fine)) ∧ w = w' := by
  have H := Lib.hid h
  clear h
  go_enter Try.func10, Try.ntmps10
  go_wp2
  go_loop [7] (fun i => ∃ k : Nat, k ≤ l.length ∧ i = .int .i64 (k : Int) ∧ Hid ((l.take k).all fine = true)) (fun i => l.length - (intOf i).toNat)
  case atStart => exact ⟨0, Nat.zero_le _, rfl, by show _ = _; simp⟩
  case round =>
    obtain ⟨k, hk, rfl, hrel⟩ := hrel
    by_cases hlt : k < l.length
    · obtain ⟨z, hz⟩ : ∃ z, l[k]? = some z := ⟨l[k], List.getElem?_eq_getElem hlt⟩
      have hcell := H.out k z hz
      have HZ := Lib.hid hz
      clear hz
      rcases fine_or_bad z with g | g
      · have HG := Lib.hid g
        obtain ⟨g1, g2⟩ := g
        have t1 : ¬ z < 0 := by omega
        have t2 : decide (9007199254740992 < z) = false := by simp; omega
        clear g1 g2
        go_wp2
        go_round
        case rel => exact ⟨k + 1, by omega, by go_num, by show _ = _; rw [all_take HZ.out, hrel.out, fine_yes HG.out]; rfl⟩
        case measure => simp [intOf]; omega
      · have HG := Lib.hid g
        rcases g with g | g
        · have t1 : z < 0 := g
          go_wp2
          go_ret
          exact ⟨ret_all (all_bad HZ.out HG.out).symm, rfl⟩
        · have t1 : ¬ z < 0 := by omega
          have t2 : decide (9007199254740992 < z) = true := by simp; omega
          clear g
          go_wp2
          go_ret
          exact ⟨ret_all (all_bad HZ.out HG.out).symm, rfl⟩
    · obtain rfl : k = l.length := by omega
      go_wp2
      go_ret
      exact ⟨ret_all (by have := hrel.out; rw [List.take_length] at this; exact this.symm), rfl⟩

theorem right_two (u t : Int) (b : Bool) (W : World) (hb : [u, t].all fine = b) :
    Calls Try.prog 10 #[.slice (some ⟨W.heap.size, 0, none⟩) 2 2] (W.alloc (.cells #[.int .i64 u, .int .i64 t] 22)) fun e w' => e = .returned (.bool b) ∧ W.alloc (.cells #[.int .i64 u, .int .i64 t] 22) = w' := by
  subst hb
  refine right_row _ ⟨W.heap.size, 0, none⟩ 2 [u, t] (by simp) ?_
  intro j z hj
  match j, hj with
  | 0, hj => simp at hj; subst hj; simp [Addr.add]
  | 1, hj => simp at hj; subst hj; simp [Addr.add]
theorem right_four (u v t s : Int) (b : Bool) (W : World) (hb : [u, v, t, s].all fine = b) :
    Calls Try.prog 10 #[.slice (some ⟨W.heap.size, 0, none⟩) 4 4] (W.alloc (.cells #[.int .i64 u, .int .i64 v, .int .i64 t, .int .i64 s] 22)) fun e w' => e = .returned (.bool b) ∧ W.alloc (.cells #[.int .i64 u, .int .i64 v, .int .i64 t, .int .i64 s] 22) = w' := by
  subst hb
  refine right_row _ ⟨W.heap.size, 0, none⟩ 4 [u, v, t, s] (by simp) ?_
  intro j z hj
  match j, hj with
  | 0, hj => simp at hj; subst hj; simp [Addr.add]
  | 1, hj => simp at hj; subst hj; simp [Addr.add]
  | 2, hj => simp at hj; subst hj; simp [Addr.add]
  | 3, hj => simp at hj; subst hj; simp [Addr.add]
theorem two_bad {u t : Int} (h : Bad u ∨ (Fine u ∧ Bad t)) : [u, t].all fine = false := by
  rcases h with h | ⟨h, g⟩
  · simp [fine_no h]
  · simp [fine_no g]
theorem two_fine {u t : Int} (h : Fine u) (g : Fine t) : [u, t].all fine = true := by simp [fine_yes h, fine_yes g]

/-- The chapter's example, with which each law begins. -/
theorem lives_any (w : World) : Calls Try.prog 7 #[] w fun e w' => e = .returned (.bool true) ∧ Below w.heap.size w w' := by
  have m1 : ∀ W : World, Calls Try.prog 8 #[.int .i64 3, .int .i64 900, .int .i64 500] W fun e w' => e = .returned (.tuple #[.int .i64 6, .int .i64 0]) ∧ Below W.heap.size W w' := fun W => by
    have h := need_ok 3 900 500 W (by decide) (by decide) (by decide) (by decide)
    rw [show min (upDiv 3 900 500) 1000000 = 6 by decide] at h
    exact h
  have M1 := Lib.hid m1
  clear m1
  go_enter Try.func7, Try.ntmps7
  go_wp2_with fail
  refine (M1.out _).mono ?_
  rintro e w1 ⟨rfl, h1⟩
  go_wp2
  go_ret
  exact ⟨rfl, h1⟩

/-! ### 'Whole' -/
theorem whole_bad (u t : Int) (w : World) (h : Bad u ∨ (Fine u ∧ Bad t)) : Calls Try.prog 9 #[.int .i64 u, .int .i64 t] w fun e w' => e = .returned (.tuple #[.int .i64 0, .int .i64 1]) ∧ w = w' := by
  have D := Lib.hid (fun W : World => need_bad 1 u t W h)
  clear h
  go_enter Try.func9, Try.ntmps9
  go_wp2_with fail
  refine (D.out _).mono ?_
  rintro e w' ⟨rfl, rfl⟩
  go_wp2
  go_ret2
  exact ⟨rfl, rfl⟩
theorem whole_zero (u : Int) (w : World) (h : Fine u) : Calls Try.prog 9 #[.int .i64 u, .int .i64 0] w fun e w' => e = .returned (.tuple #[.int .i64 0, .int .i64 5]) ∧ w = w' := by
  have D := Lib.hid (fun W : World => need_zero 1 u W ⟨by omega, by omega⟩ h)
  clear h
  go_enter Try.func9, Try.ntmps9
  go_wp2_with fail
  refine (D.out _).mono ?_
  rintro e w' ⟨rfl, rfl⟩
  go_wp2
  go_ret2
  exact ⟨rfl, rfl⟩
theorem whole_ok (u t n : Nat) (w : World) (hu : u ≤ 9007199254740992) (ht : t ≤ 9007199254740992) (h0 : 0 < t) (hn : n = min (upDiv 1 u t) 1000000) :
    Calls Try.prog 9 #[.int .i64 (u : Int), .int .i64 (t : Int)] w fun e w' => e = .returned (.tuple #[.int .i64 (n : Int), .int .i64 0]) ∧ Below w.heap.size w w' := by
  have m : ∀ W : World, Calls Try.prog 8 #[.int .i64 1, .int .i64 (u : Int), .int .i64 (t : Int)] W fun e w' => e = .returned (.tuple #[.int .i64 (n : Int), .int .i64 0]) ∧ Below W.heap.size W w' := fun W => by
    rw [hn]
    exact need_ok 1 u t W (by decide) hu ht h0
  have M := Lib.hid m
  clear m hn
  go_enter Try.func9, Try.ntmps9
  go_wp2_with fail
  refine (M.out _).mono ?_
  rintro e w1 ⟨rfl, h1⟩
  go_wp2
  go_ret2
  exact ⟨rfl, h1⟩

end Go.Proofs.Ytmlgehegmaciiaa
