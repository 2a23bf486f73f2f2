/- Proved here: the law RatioParts of layer 3 holds for every two counts and every two quantities' numbers: so many thousandths of a number, rounded down and up, and shares in thousandths, are exact, or it is told what is wrong. No conditions. -/
import Derived.Test.YtmlgehegmaciiaaRLawBase
namespace Go.Proofs.Ytmlgehegmaciiaa.ratioParts
open Go.ChangeShapes Go.WideShapes Go.ChangeAt Go.RowKit
set_option linter.unusedVariables false

/-- What the law's first part finds of 'Share', said of any answer: the three cases of a part and a whole. -/
def ShareBad (p t : Int) : Prop := Bad p ∨ (Fine p ∧ Bad t) ∨ (Fine p ∧ Fine t ∧ t < p)
theorem share_cases (p t : Int) : ShareBad p t ∨ (p = 0 ∧ t = 0) ∨ (0 ≤ p ∧ p ≤ t ∧ t ≤ 9007199254740992 ∧ 0 < t) := by
  unfold ShareBad Bad Fine
  omega

def PartsBad (n k : Int) : Prop := Odd_ n ∨ (Some_ n ∧ Odd_ k)
theorem parts_cases (n k : Int) : PartsBad n k ∨ (Some_ n ∧ Some_ k) := by
  unfold PartsBad Odd_ Some_
  omega

abbrev Ok2 (w : World) (a b c d : Int) (e : Ending) (w' : World) : Prop := e = .returned (.tuple #[.int .i64 a, .int .i64 b]) ∧ Below w.heap.size w w'

/-- What 'Share' answers, and what the row of its two says. -/
inductive Shares (p t : Int) : Prop
  | wrong (S : Hid (∀ W : World, Calls Try.prog 15 #[.int .i64 p, .int .i64 t] W fun e w' => e = .returned (.tuple #[.int .i64 0, .int .i64 1]) ∧ Below W.heap.size W w')) (R : [p, t].all fine = false)
  | more (S : Hid (∀ W : World, Calls Try.prog 15 #[.int .i64 p, .int .i64 t] W fun e w' => e = .returned (.tuple #[.int .i64 0, .int .i64 1]) ∧ Below W.heap.size W w')) (R : [p, t].all fine = true) (h : t < p)
  | zero (S : Hid (∀ W : World, Calls Try.prog 15 #[.int .i64 p, .int .i64 t] W fun e w' => e = .returned (.tuple #[.int .i64 0, .int .i64 5]) ∧ Below W.heap.size W w')) (R : [p, t].all fine = true) (h : ¬ t < p) (h0 : (t == 0) = true)
  | some (n : Nat) (hn : n ≤ 1000) (S : Hid (∀ W : World, Calls Try.prog 15 #[.int .i64 p, .int .i64 t] W fun e w' => e = .returned (.tuple #[.int .i64 (n : Int), .int .i64 0]) ∧ Below W.heap.size W w')) (R : [p, t].all fine = true) (h : ¬ t < p) (h0 : (t == 0) = false)
      (c1 : IntKind.u64.wrap p = p) (c2 : IntKind.u64.wrap t = t) (c3 : IntKind.u64.wrap (n : Int) = (n : Int))
      (F : Hid (∀ W : World, Calls Try.prog 16 #[.int .u64 p, .int .u64 1000, .int .u64 t] W fun e w' => e = .returned (.int .u64 (n : Int)) ∧ Below W.heap.size W w'))
theorem shares (p t : Int) : Shares p t := by
  rcases share_cases p t with h | ⟨rfl, rfl⟩ | ⟨h0, h1, h2, h3⟩
  · have S : Hid (∀ W : World, Calls Try.prog 15 #[.int .i64 p, .int .i64 t] W fun e w' => e = .returned (.tuple #[.int .i64 0, .int .i64 1]) ∧ Below W.heap.size W w') := Lib.hid (fun W : World => (share_bad p t W h).mono fun e w' ⟨he, hw⟩ => ⟨he, hw ▸ Below.refl _ _⟩)
    rcases h with h | ⟨h, g⟩ | ⟨h, g, g2⟩
    · exact .wrong S (two_bad (.inl h))
    · exact .wrong S (two_bad (.inr ⟨h, g⟩))
    · exact .more S (two_fine h g) g2
  · exact .zero (Lib.hid fun W => share_zero W) (two_fine fine_zero fine_zero) (by decide) rfl
  · obtain ⟨p', rfl⟩ : ∃ y : Nat, p = y := ⟨p.toNat, by omega⟩
    obtain ⟨t', rfl⟩ : ∃ y : Nat, t = y := ⟨t.toNat, by omega⟩
    have hb : p' * 1000 / t' ≤ 1000 := share_le (by omega) (by omega)
    have f : ∀ W : World, Calls Try.prog 16 #[.int .u64 (p' : Int), .int .u64 1000, .int .u64 (t' : Int)] W fun e w' => e = .returned (.int .u64 ((p' * 1000 / t' : Nat) : Int)) ∧ Below W.heap.size W w' := fun W =>
      floor_any p' 1000 t' W (by omega) (by decide) (by omega) (by omega) (by omega)
    have s := fun W : World => share_ok p' t' _ W (by omega) (by omega) (by omega) rfl
    have F := Lib.hid f
    have S := Lib.hid s
    clear f s
    generalize p' * 1000 / t' = m at *
    exact .some m hb S (two_fine ⟨by omega, by omega⟩ ⟨by omega, by omega⟩) (by omega) (by simp; omega)
      (by rw [IntKind.wrap_u64]; omega) (by rw [IntKind.wrap_u64]; omega) (by rw [IntKind.wrap_u64]; omega)
      F

/-- What 'Percent' answers. -/
inductive Parts (n k : Int) : Prop
  | wrong (P : Hid (∀ (up : Bool) (W : World), Calls Try.prog 14 #[.int .i64 n, .int .i64 k, .bool up] W fun e w' => e = .returned (.tuple #[.int .i64 0, .int .i64 1]) ∧ W = w'))
      (h : (n < 0) ∨ (¬ n < 0 ∧ 1000000 < n) ∨ (¬ n < 0 ∧ ¬ 1000000 < n ∧ k < 0) ∨ (¬ n < 0 ∧ ¬ 1000000 < n ∧ ¬ k < 0 ∧ 1000000 < k))
  | some (a b : Nat) (ha : a ≤ 9007199254740992) (hb : b ≤ 9007199254740992) (P : Hid (∀ W : World, Calls Try.prog 14 #[.int .i64 n, .int .i64 k, .bool false] W fun e w' => e = .returned (.tuple #[.int .i64 (a : Int), .int .i64 0]) ∧ Below W.heap.size W w'))
      (Q : Hid (∀ W : World, Calls Try.prog 14 #[.int .i64 n, .int .i64 k, .bool true] W fun e w' => e = .returned (.tuple #[.int .i64 (b : Int), .int .i64 0]) ∧ Below W.heap.size W w'))
      (n0 : ¬ n < 0) (n1 : ¬ 1000000 < n) (k0 : ¬ k < 0) (k1 : ¬ 1000000 < k) (c4 : IntKind.u64.wrap n = n) (c5 : IntKind.u64.wrap k = k) (c6 : IntKind.u64.wrap (a : Int) = (a : Int)) (c7 : IntKind.u64.wrap (b : Int) = (b : Int))
      (F : Hid (∀ W : World, Calls Try.prog 16 #[.int .u64 n, .int .u64 k, .int .u64 1000] W fun e w' => e = .returned (.int .u64 (a : Int)) ∧ Below W.heap.size W w'))
      (C : Hid (∀ W : World, Calls Try.prog 11 #[.int .u64 n, .int .u64 k, .int .u64 1000, .int .u64 4611686018427387904] W fun e w' => e = .returned (.int .u64 (b : Int)) ∧ Below W.heap.size W w'))
theorem parts (n k : Int) : Parts n k := by
  rcases parts_cases n k with h | ⟨⟨h0, h1⟩, h2, h3⟩
  · refine .wrong (Lib.hid fun up W => percent_odd n k up W h) ?_
    unfold PartsBad Odd_ Some_ at h
    omega
  · obtain ⟨n', rfl⟩ : ∃ y : Nat, n = y := ⟨n.toNat, by omega⟩
    obtain ⟨k', rfl⟩ : ∃ y : Nat, k = y := ⟨k.toNat, by omega⟩
    have hm : n' * k' ≤ 1000000 * 1000000 := Nat.mul_le_mul (by omega) (by omega)
    have ha : n' * k' / 1000 ≤ 1000000000 := by omega
    have hb : upDiv n' k' 1000 ≤ 1000000001 := by unfold upDiv; split <;> omega
    have c : ∀ W : World, Calls Try.prog 11 #[.int .u64 (n' : Int), .int .u64 (k' : Int), .int .u64 1000, .int .u64 4611686018427387904] W fun e w' => e = .returned (.int .u64 ((upDiv n' k' 1000 : Nat) : Int)) ∧ Below W.heap.size W w' := fun W => by
      have h := ceil_any n' k' 1000 4611686018427387904 W (by omega) (by omega) (by decide) (by decide) (by decide)
      rw [Nat.min_eq_left (by omega)] at h
      exact h
    have f : ∀ W : World, Calls Try.prog 16 #[.int .u64 (n' : Int), .int .u64 (k' : Int), .int .u64 1000] W fun e w' => e = .returned (.int .u64 ((n' * k' / 1000 : Nat) : Int)) ∧ Below W.heap.size W w' := fun W =>
      floor_any n' k' 1000 W (by omega) (by omega) (by decide) (by decide) (by omega)
    have C := Lib.hid c
    have F := Lib.hid f
    have P := Lib.hid (fun W : World => percent_ok n' k' _ false W (by omega) (by omega) (mdWant_down n' k' 1000))
    have Q := Lib.hid (fun W : World => percent_ok n' k' _ true W (by omega) (by omega) (mdWant_up n' k' 1000))
    clear c f
    generalize n' * k' / 1000 = a at *
    generalize upDiv n' k' 1000 = b at *
    exact .some a b (by omega) (by omega) P Q (by omega) (by omega) (by omega) (by omega) (by rw [IntKind.wrap_u64]; omega) (by rw [IntKind.wrap_u64]; omega) (by rw [IntKind.wrap_u64]; omega) (by rw [IntKind.wrap_u64]; omega) F C

set_option maxHeartbeats 4000000 in
theorem wrong_case (n k p t : Int) (w : World) (P : Hid (∀ (up : Bool) (W : World), Calls Try.prog 14 #[.int .i64 n, .int .i64 k, .bool up] W fun e w' => e = .returned (.tuple #[.int .i64 0, .int .i64 1]) ∧ W = w'))
      (h : (n < 0) ∨ (¬ n < 0 ∧ 1000000 < n) ∨ (¬ n < 0 ∧ ¬ 1000000 < n ∧ k < 0) ∨ (¬ n < 0 ∧ ¬ 1000000 < n ∧ ¬ k < 0 ∧ 1000000 < k)) :
    Calls Try.prog 5 #[.int .i64 n, .int .i64 k, .int .i64 p, .int .i64 t] w fun e w' => e = .returned (.bool true) ∧ Below w.heap.size w w' := by
  rcases shares p t with ⟨S, R⟩ | ⟨S, R, g⟩ | ⟨S, R, g, g0⟩ | ⟨m, hm, S, R, g, g0, c1, c2, c3, F⟩ <;> rcases h with h | ⟨k1, k2⟩ | ⟨k1, k2, k3⟩ | ⟨k1, k2, k3, k4⟩
  all_goals
    have R' := Lib.hid (fun W : World => right_two p t _ W R)
    clear R
    go_enter Try.func5, Try.ntmps5
    go_wp2_with fail
    refine (lives_any _).mono ?_
    rintro e w1 ⟨rfl, h1⟩
    go_wp2_with fail
    refine (P.out _ _).mono ?_
    rintro e w' ⟨rfl, rfl⟩
    go_wp2_with fail
    refine (P.out _ _).mono ?_
    rintro e w' ⟨rfl, rfl⟩
    go_wp2_with fail
    refine (S.out _).mono ?_
    rintro e w2 ⟨rfl, h2⟩
    go_wp2_with fail
    refine (R'.out _).mono ?_
    rintro e w' ⟨rfl, rfl⟩
    have hA := h1.trans (h2.mono h1.size)
    have hB := hA.alloc hA.size (.cells #[.int .i64 p, .int .i64 t] 22)
    first
      | (go_wp2_with fail
         refine (F.out _).mono ?_
         rintro e w3 ⟨rfl, h3⟩
         have hB := hB.trans (h3.mono hB.size)
         go_wp2
         go_ret
         exact ⟨rfl, hB⟩)
      | (go_wp2
         go_ret
         exact ⟨rfl, hB⟩)

set_option maxHeartbeats 4000000 in
theorem some_case (n k p t : Int) (w : World) (a b : Nat) (ha : a ≤ 9007199254740992) (hb : b ≤ 9007199254740992) (P : Hid (∀ W : World, Calls Try.prog 14 #[.int .i64 n, .int .i64 k, .bool false] W fun e w' => e = .returned (.tuple #[.int .i64 (a : Int), .int .i64 0]) ∧ Below W.heap.size W w'))
      (Q : Hid (∀ W : World, Calls Try.prog 14 #[.int .i64 n, .int .i64 k, .bool true] W fun e w' => e = .returned (.tuple #[.int .i64 (b : Int), .int .i64 0]) ∧ Below W.heap.size W w'))
      (n0 : ¬ n < 0) (n1 : ¬ 1000000 < n) (k0 : ¬ k < 0) (k1 : ¬ 1000000 < k) (c4 : IntKind.u64.wrap n = n) (c5 : IntKind.u64.wrap k = k) (c6 : IntKind.u64.wrap (a : Int) = (a : Int)) (c7 : IntKind.u64.wrap (b : Int) = (b : Int))
      (F2 : Hid (∀ W : World, Calls Try.prog 16 #[.int .u64 n, .int .u64 k, .int .u64 1000] W fun e w' => e = .returned (.int .u64 (a : Int)) ∧ Below W.heap.size W w'))
      (C : Hid (∀ W : World, Calls Try.prog 11 #[.int .u64 n, .int .u64 k, .int .u64 1000, .int .u64 4611686018427387904] W fun e w' => e = .returned (.int .u64 (b : Int)) ∧ Below W.heap.size W w')) :
    Calls Try.prog 5 #[.int .i64 n, .int .i64 k, .int .i64 p, .int .i64 t] w fun e w' => e = .returned (.bool true) ∧ Below w.heap.size w w' := by
  rcases shares p t with ⟨S, R⟩ | ⟨S, R, g⟩ | ⟨S, R, g, g0⟩ | ⟨m, hm, S, R, g, g0, c1, c2, c3, F⟩
  all_goals
    have R' := Lib.hid (fun W : World => right_two p t _ W R)
    clear R
    go_enter Try.func5, Try.ntmps5
    go_wp2_with fail
    refine (lives_any _).mono ?_
    rintro e w1 ⟨rfl, h1⟩
    go_wp2_with fail
    refine (P.out _).mono ?_
    rintro e w2 ⟨rfl, h2⟩
    have hA := h1.trans (h2.mono h1.size)
    clear h1 h2
    go_wp2_with fail
    refine (Q.out _).mono ?_
    rintro e w3 ⟨rfl, h3⟩
    have hA := hA.trans (h3.mono hA.size)
    clear h3
    go_wp2_with fail
    refine (S.out _).mono ?_
    rintro e w4 ⟨rfl, h4⟩
    have hA := hA.trans (h4.mono hA.size)
    clear h4
    go_wp2_with fail
    refine (R'.out _).mono ?_
    rintro e w' ⟨rfl, rfl⟩
    have hB := hA.alloc hA.size (.cells #[.int .i64 p, .int .i64 t] 22)
    go_wp2_with fail
    first
      | (refine (F.out _).mono ?_
         rintro e w5 ⟨rfl, h5⟩
         have hB := hB.trans (h5.mono hB.size)
         go_wp2_with fail
         refine (F2.out _).mono ?_
         rintro e w6 ⟨rfl, h6⟩
         have hB := hB.trans (h6.mono hB.size)
         go_wp2_with fail
         refine (C.out _).mono ?_
         rintro e w7 ⟨rfl, h7⟩
         have hB := hB.trans (h7.mono hB.size)
         go_wp2
         go_ret
         exact ⟨rfl, hB⟩)
      | (refine (F2.out _).mono ?_
         rintro e w6 ⟨rfl, h6⟩
         have hB := hB.trans (h6.mono hB.size)
         go_wp2_with fail
         refine (C.out _).mono ?_
         rintro e w7 ⟨rfl, h7⟩
         have hB := hB.trans (h7.mono hB.size)
         go_wp2
         go_ret
         exact ⟨rfl, hB⟩)

theorem walk (n k p t : Int) (w0 : (Lit.int .i64 n).wf = true) (w1 : (Lit.int .i64 k).wf = true) (w2 : (Lit.int .i64 p).wf = true) (w3 : (Lit.int .i64 t).wf = true) (w : World) :
    Calls Try.prog 5 #[.int .i64 n, .int .i64 k, .int .i64 p, .int .i64 t] w fun e w' => e = .returned (.bool true) ∧ Below w.heap.size w w' := by
  rcases parts n k with ⟨P, h⟩ | ⟨a, b, ha, hb, P, Q, n0, n1, k0, k1, c4, c5, c6, c7, F2, C⟩
  · exact wrong_case n k p t w P h
  · exact some_case n k p t w a b ha hb P Q n0 n1 k0 k1 c4 c5 c6 c7 F2 C

/-! ### THE ROW's STEP: WRITTEN OUT: LEAVE IT -/
set_option maxRecDepth 100000 in
theorem lifted (os : Os) (started : os.Started) (H : Type) (enc : TypeId × Value → H) :
    ReturnsInHanded {} Try.checked os 5 .any (Rows.ratioPartsSpec.pre6 enc Try.prog Try.f5 Rows.ratioPartsRow.domain false) (Rows.ratioPartsSpec.post enc Try.prog Try.f5 false true false false) := by
  refine returnsInHanded_of_change (C := Try.checked) own started (by kernel_rfl) Try.func5
    (ChangeSpec.witness6 (enc := enc) (C := Try.checked) false ⟨#[], #[.int .i64 0, .int .i64 0, .int .i64 0, .int .i64 0], []⟩ 8 (by kernel_rfl) (by kernel_rfl) (by kernel_rfl) (by kernel_rfl)) ?_
  intro W base args ds gs before hval0 hW hcnd _
  have hval : ∀ (j : Nat) t v, Try.f5.params[j]? = some t → args[j]? = some v → Value.okWide Try.prog W .any base t v := hval0
  have hW' := hW
  obtain ⟨p, q, hA0, hV, rfl, hfz, hnd⟩ := hW
  have hA : DataW.TrodAll enc Try.prog W 0 (fun _ => true) true Try.f5.params.toList args.toList ds p := hA0
  rw [Try.params5] at hA hval
  obtain ⟨v0, vs0, d0, ds0, p0, q0, hargs, rfl, rfl, h0, r0⟩ := trodAll_cons hA
  obtain ⟨v1, vs1, d1, ds1, p1, q1, rfl, rfl, rfl, h1, r1⟩ := trodAll_cons r0
  obtain ⟨v2, vs2, d2, ds2, p2, q2, rfl, rfl, rfl, h2, r2⟩ := trodAll_cons r1
  obtain ⟨v3, vs3, d3, ds3, p3, q3, rfl, rfl, rfl, h3, r3⟩ := trodAll_cons r2
  obtain ⟨rfl, rfl, rfl⟩ := trodAll_nil r3
  obtain rfl : args = #[v0, v1, v2, v3] := by cases args; simp_all
  obtain ⟨rfl, rfl⟩ := trodVars_none hV
  obtain ⟨a0, rfl, rfl, rfl, w0⟩ := open_int Try.underlying3 (hval 0 3 v0 rfl rfl) h0
  obtain ⟨a1, rfl, rfl, rfl, w1⟩ := open_int Try.underlying3 (hval 1 3 v1 rfl rfl) h1
  obtain ⟨a2, rfl, rfl, rfl, w2⟩ := open_int Try.underlying22 (hval 2 22 v2 rfl rfl) h2
  obtain ⟨a3, rfl, rfl, rfl, w3⟩ := open_int Try.underlying22 (hval 3 22 v3 rfl rfl) h3
  clear hA0 hval0
  simp only [List.append_nil] at hW'
  refine (walk a0 a1 a2 a3 w0 w1 w2 w3 W).mono fun e W' ⟨he, hg⟩ => ?_
  subst he
  exact ⟨_, rfl, post_below hW' hg (fun _ _ _ => (trodAll_cons_mk (shut_bool Try.underlying4 _) trodAll_mk0)) (fun sp _ => (trodAll_cons_mk (shut_int Try.underlying3 w0) (trodAll_cons_mk (shut_int Try.underlying3 w1) (trodAll_cons_mk (shut_int Try.underlying22 w2) (trodAll_cons_mk (shut_int Try.underlying22 w3) trodAll_mk0))))) (fun _ => rfl) (ok_one (by kernel_rfl) rfl (okWide_bool_mk Try.underlying4 _))⟩

theorem over : Rows.ratioPartsRow.holds Try.pinned (OpenSpec.ofChange Rows.ratioPartsSpec) :=
  OpenClaim.holds_of_wide 5 Try.f5 rfl rfl rfl rfl rfl rfl rfl ⟨rfl, rfl, rfl, rfl, rfl⟩ rfl rfl rfl rfl rfl (by kernel_rfl) Try.func5 (by kernel_rfl)
    (of_decide_eq_true (by kernel_rfl)) (by unfold Func.isWrapper; first | (rw [if_pos (by decide +kernel)]; kernel_rfl) | (rw [if_neg (by decide +kernel)]; exact ⟨rfl, rfl⟩))
    (fun os started H enc _ => lifted os started H enc)

/-- The statement. -/
theorem proved : Rows.RatioPartsSaid :=
  over
#print axioms proved
end Go.Proofs.Ytmlgehegmaciiaa.ratioParts

