/- What 'Near', 'Percent' and 'Share' of package ratio answer. -/
import Derived.Test.YtmlgehegmaciiaaRatioA
import Derived.Deep.RegionWith
namespace Go.Proofs.Ytmlgehegmaciiaa
open Go.RowKit
set_option linter.unusedVariables false

def Wide_ (x : Int) : Prop := x < 0 ∨ 1000 < x
theorem near_odd (u t x : Int) (w : World) (h : Wide_ x) : Calls Try.prog 12 #[.int .i64 u, .int .i64 t, .int .i64 x] w fun e w' => e = .returned (.tuple #[.bool false, .int .i64 1]) ∧ w = w' := by
  rcases h with h | h
  · go_enter Try.func12, Try.ntmps12
    go_wp2
    go_ret2
    exact ⟨rfl, rfl⟩
  · have t1 : ¬ x < 0 := by omega
    go_enter Try.func12, Try.ntmps12
    go_wp2
    go_ret2
    exact ⟨rfl, rfl⟩
theorem near_bad (u t x : Int) (w : World) (h0 : 0 ≤ x) (h1 : x ≤ 1000) (h : Bad u ∨ (Fine u ∧ Bad t)) : Calls Try.prog 12 #[.int .i64 u, .int .i64 t, .int .i64 x] w fun e w' => e = .returned (.tuple #[.bool false, .int .i64 1]) ∧ w = w' := by
  have D := Lib.hid (fun W : World => against_bad u t W h)
  clear h
  go_enter Try.func12, Try.ntmps12
  go_wp2_with fail
  refine (D.out _).mono ?_
  rintro e w' ⟨rfl, rfl⟩
  go_wp2
  go_ret2
  exact ⟨rfl, rfl⟩
theorem near_zero (u x : Int) (w : World) (h0 : 0 ≤ x) (h1 : x ≤ 1000) (h : Fine u) : Calls Try.prog 12 #[.int .i64 u, .int .i64 0, .int .i64 x] w fun e w' => e = .returned (.tuple #[.bool false, .int .i64 5]) ∧ w = w' := by
  have D := Lib.hid (fun W : World => against_zero u W h)
  clear h
  go_enter Try.func12, Try.ntmps12
  go_wp2_with fail
  refine (D.out _).mono ?_
  rintro e w' ⟨rfl, rfl⟩
  go_wp2
  go_ret2
  exact ⟨rfl, rfl⟩
theorem wrap_milli {n : Nat} (h : n ≤ 9007199254740992) : IntKind.i64.wrap (n : Int) = (n : Int) := by rw [IntKind.wrap_i64]; omega
theorem ret_near {p q : Bool} (h : p = q) : Ending.returned (.tuple #[.bool p, .int .i64 0]) = .returned (.tuple #[.bool q, .int .i64 0]) := by rw [h]
set_option maxHeartbeats 1000000 in
theorem near_ok (u t x : Nat) (w : World) (hu : u ≤ 9007199254740992) (ht : t ≤ 9007199254740992) (h0 : 0 < t) (hx : x ≤ 1000) :
    Calls Try.prog 12 #[.int .i64 (u : Int), .int .i64 (t : Int), .int .i64 (x : Int)] w fun e w' => e = .returned (.tuple #[.bool (decide (apart u t * 1000 ≤ t * x)), .int .i64 0]) ∧ Below w.heap.size w w' := by
  have D := Lib.hid (fun W : World => against_ok (u : Int) (t : Int) W ⟨by omega, by omega⟩ ⟨by omega, by omega⟩ (by omega))
  obtain ⟨d, hd⟩ : ∃ d, d = apart u t := ⟨_, rfl⟩
  rw [← hd]
  have hdb : d ≤ 9007199254740992 := by rw [hd]; unfold apart; omega
  obtain ⟨H, hH⟩ : ∃ n, n = t * x / 18446744073709551616 := ⟨_, rfl⟩
  obtain ⟨L, hL⟩ : ∃ n, n = t * x % 18446744073709551616 := ⟨_, rfl⟩
  obtain ⟨H', hH'⟩ : ∃ n, n = d * 1000 / 18446744073709551616 := ⟨_, rfl⟩
  obtain ⟨L', hL'⟩ : ∃ n, n = d * 1000 % 18446744073709551616 := ⟨_, rfl⟩
  have C1 := Lib.hid (fun W : World => wide_ofV t x H L W (by omega) (by omega) hH hL)
  have C2 : Hid (∀ W : World, Calls Try.prog 26 #[.int .u64 (d : Int), .int .u64 1000] W fun e w' => e = .returned (wd (H' : Int) (L' : Int)) ∧ Below W.heap.size W w') := Lib.hid (fun W : World => wide_ofV d 1000 H' L' W (by omega) (by omega) hH' hL')
  have C3 := Lib.hid (fun W : World => wide_cmpN (m := d * 1000) (n := t * x) W (by omega) hH' hL' hH hL)
  have HD := Lib.hid hdb
  have W1 := Lib.hid (wrap_milli hdb)
  have W2 : IntKind.u64.wrap (d : Int) = (d : Int) := by rw [IntKind.wrap_u64]; omega
  have c1 : max (u : Int) (t : Int) - min (u : Int) (t : Int) = (d : Int) := by rw [hd]; unfold apart; omega
  clear hd hdb hH hL hH' hL'
  go_enter Try.func12, Try.ntmps12
  go_wp2_with fail
  refine (D.out _).mono ?_
  rintro e w' ⟨rfl, rfl⟩
  go_wp2_with fail
  refine (C1.out _).mono ?_
  rintro e w1 ⟨rfl, h1⟩
  go_wp2_with fail
  have hB : Below w.heap.size w (w1.alloc (.cells #[.int .u64 (H : Int), .int .u64 (L : Int)] 55)) := h1.alloc h1.size _
  have k0 : (w1.alloc (.cells #[.int .u64 (H : Int), .int .u64 (L : Int)] 55)).cell? ⟨w1.heap.size, 0, none⟩ = some (.int .u64 (H : Int)) := by simp
  have k1 : (w1.alloc (.cells #[.int .u64 (H : Int), .int .u64 (L : Int)] 55)).cell? ⟨w1.heap.size, 1, none⟩ = some (.int .u64 (L : Int)) := by simp
  have kb : w1.heap.size < (w1.alloc (.cells #[.int .u64 (H : Int), .int .u64 (L : Int)] 55)).heap.size := by simp
  generalize w1.alloc (.cells #[.int .u64 (H : Int), .int .u64 (L : Int)] 55) = w2 at *
  generalize w1.heap.size = b at *
  have hB := hB.drew
  have k0 : w2.drew.cell? ⟨b, 0, none⟩ = some (.int .u64 (H : Int)) := k0
  have k1 : w2.drew.cell? ⟨b, 1, none⟩ = some (.int .u64 (L : Int)) := k1
  have kb : b < w2.drew.heap.size := kb
  clear h1
  go_region_with (first
    | (go_at_call 26; (with_reducible refine (C2.out _).mono ?_); rintro e w3 ⟨rfl, h3⟩; have k0 := (h3.cell (p := ⟨b, 0, none⟩) kb).trans k0; have k1 := (h3.cell (p := ⟨b, 1, none⟩) kb).trans k1; have kb := Nat.lt_of_lt_of_le kb h3.size; have hB := hB.trans (h3.mono hB.size))
    | (go_at_call 27; refine (C3.out _).mono ?_; rintro e w4 ⟨rfl, h4⟩; have hB := hB.trans (h4.mono hB.size)))
  all_goals
    go_wp2_with fail
    go_ret2
    exact ⟨ret_near sgn_le, hB⟩

/-! ### 'quotient', 'Percent', 'Share' -/
theorem quot_ok (a b y n : Nat) (up : Bool) (w : World) (ha : a < 18446744073709551616) (hb : b < 18446744073709551616) (hy : y < 18446744073709551616) (hy0 : 0 < y) (hw : mdWant a b y up = n) (hn : n ≤ 9007199254740992) :
    Calls Try.prog 28 #[.int .u64 (a : Int), .int .u64 (b : Int), .int .u64 (y : Int), .bool up] w fun e w' => e = .returned (.tuple #[.int .i64 (n : Int), .int .i64 0]) ∧ Below w.heap.size w w' := by
  have m := fun W : World => muldiv_any a b y up W ha hb hy
  obtain ⟨k1, k2⟩ := muldiv_ok (up := up) hy0 hw (by omega)
  rw [k1, k2] at m
  have M := Lib.hid m
  have W1 := wrap_milli hn
  clear m k1 k2 hw
  go_enter Try.func28, Try.ntmps28
  go_wp2_with fail
  refine (M.out _).mono ?_
  rintro e w1 ⟨rfl, h1⟩
  go_wp2
  go_ret2
  exact ⟨rfl, h1⟩
theorem quot_zero (a b : Nat) (up : Bool) (w : World) (ha : a < 18446744073709551616) (hb : b < 18446744073709551616) :
    Calls Try.prog 28 #[.int .u64 (a : Int), .int .u64 (b : Int), .int .u64 0, .bool up] w fun e w' => e = .returned (.tuple #[.int .i64 0, .int .i64 5]) ∧ Below w.heap.size w w' := by
  have m := fun W : World => muldiv_any a b 0 up W ha hb (by decide)
  rw [show mdVal a b 0 up = 0 from if_pos rfl, show mdErr a b 0 up = 5 from if_pos rfl] at m
  have m' : ∀ W : World, Calls Try.prog 19 #[.int .u64 (a : Int), .int .u64 (b : Int), .int .u64 0, .bool up] W fun e w' => e = .returned (.tuple #[.int .u64 0, .int .i64 5]) ∧ Below W.heap.size W w' := m
  have M := Lib.hid m'
  clear m m'
  go_enter Try.func28, Try.ntmps28
  go_wp2_with fail
  refine (M.out _).mono ?_
  rintro e w1 ⟨rfl, h1⟩
  go_wp2
  go_ret2
  exact ⟨rfl, h1⟩

theorem percent_odd (n k : Int) (up : Bool) (w : World) (h : Odd_ n ∨ (Some_ n ∧ Odd_ k)) : Calls Try.prog 14 #[.int .i64 n, .int .i64 k, .bool up] w fun e w' => e = .returned (.tuple #[.int .i64 0, .int .i64 1]) ∧ w = w' := by
  rcases h with h | ⟨h, g | g⟩
  · have C := Lib.hid (fun W : World => count_no n W h)
    clear h
    go_enter Try.func14, Try.ntmps14
    go_wp2_with fail
    refine (C.out _).mono ?_
    rintro e w' ⟨rfl, rfl⟩
    go_wp2
    go_ret2
    exact ⟨rfl, rfl⟩
  · have C := Lib.hid (fun W : World => count_yes n W h)
    clear h
    go_enter Try.func14, Try.ntmps14
    go_wp2_with fail
    refine (C.out _).mono ?_
    rintro e w' ⟨rfl, rfl⟩
    go_wp2
    go_ret2
    exact ⟨rfl, rfl⟩
  · have C := Lib.hid (fun W : World => count_yes n W h)
    have g2 : ¬ k < 0 := by omega
    clear h
    go_enter Try.func14, Try.ntmps14
    go_wp2_with fail
    refine (C.out _).mono ?_
    rintro e w' ⟨rfl, rfl⟩
    go_wp2
    go_ret2
    exact ⟨rfl, rfl⟩
theorem percent_ok (n k p : Nat) (up : Bool) (w : World) (hn : n ≤ 1000000) (hk : k ≤ 1000000) (hp : mdWant n k 1000 up = p) :
    Calls Try.prog 14 #[.int .i64 (n : Int), .int .i64 (k : Int), .bool up] w fun e w' => e = .returned (.tuple #[.int .i64 (p : Int), .int .i64 0]) ∧ Below w.heap.size w w' := by
  have C := Lib.hid (fun W : World => count_yes (n : Int) W ⟨by omega, by omega⟩)
  have hb : p ≤ 9007199254740992 := by
    have h1 : n * k ≤ 1000000 * 1000000 := Nat.mul_le_mul hn hk
    rw [← hp]
    unfold mdWant
    split <;> omega
  have q : ∀ W : World, Calls Try.prog 28 #[.int .u64 (n : Int), .int .u64 (k : Int), .int .u64 1000, .bool up] W fun e w' => e = .returned (.tuple #[.int .i64 (p : Int), .int .i64 0]) ∧ Below W.heap.size W w' :=
    fun W => quot_ok n k 1000 p up W (by omega) (by omega) (by decide) (by decide) hp hb
  have Q := Lib.hid q
  clear q hp hb
  go_enter Try.func14, Try.ntmps14
  go_wp2_with fail
  refine (C.out _).mono ?_
  rintro e w' ⟨rfl, rfl⟩
  go_wp2_with fail
  refine (Q.out _).mono ?_
  rintro e w1 ⟨rfl, h1⟩
  go_wp2
  go_ret2
  exact ⟨rfl, h1⟩

theorem share_bad (p t : Int) (w : World) (h : Bad p ∨ (Fine p ∧ Bad t) ∨ (Fine p ∧ Fine t ∧ t < p)) : Calls Try.prog 15 #[.int .i64 p, .int .i64 t] w fun e w' => e = .returned (.tuple #[.int .i64 0, .int .i64 1]) ∧ w = w' := by
  rcases h with h | ⟨h, g⟩ | ⟨h, g, hlt⟩
  · go_enter Try.func15, Try.ntmps15
    go_wp2_with fail
    refine (right_no p _ h).mono ?_
    rintro e w' ⟨rfl, rfl⟩
    go_wp2
    go_ret2
    exact ⟨rfl, rfl⟩
  · go_enter Try.func15, Try.ntmps15
    go_wp2_with fail
    refine (right_yes p _ h.1 h.2).mono ?_
    rintro e w' ⟨rfl, rfl⟩
    go_wp2_with fail
    refine (right_no t _ g).mono ?_
    rintro e w' ⟨rfl, rfl⟩
    go_wp2
    go_ret2
    exact ⟨rfl, rfl⟩
  · go_enter Try.func15, Try.ntmps15
    go_wp2_with fail
    refine (right_yes p _ h.1 h.2).mono ?_
    rintro e w' ⟨rfl, rfl⟩
    go_wp2_with fail
    refine (right_yes t _ g.1 g.2).mono ?_
    rintro e w' ⟨rfl, rfl⟩
    go_wp2
    go_ret2
    exact ⟨rfl, rfl⟩
theorem share_zero (w : World) : Calls Try.prog 15 #[.int .i64 0, .int .i64 0] w fun e w' => e = .returned (.tuple #[.int .i64 0, .int .i64 5]) ∧ Below w.heap.size w w' := by
  have Q : Hid (∀ W : World, Calls Try.prog 28 #[.int .u64 0, .int .u64 1000, .int .u64 0, .bool false] W fun e w' => e = .returned (.tuple #[.int .i64 0, .int .i64 5]) ∧ Below W.heap.size W w') := Lib.hid (fun W : World => quot_zero 0 1000 false W (by decide) (by decide))
  go_enter Try.func15, Try.ntmps15
  go_wp2_with fail
  refine (right_yes 0 _ fine_zero.1 fine_zero.2).mono ?_
  rintro e w' ⟨rfl, rfl⟩
  go_wp2_with fail
  refine (right_yes 0 _ fine_zero.1 fine_zero.2).mono ?_
  rintro e w' ⟨rfl, rfl⟩
  go_wp2_with fail
  refine (Q.out _).mono ?_
  rintro e w1 ⟨rfl, h1⟩
  go_wp2
  go_ret2
  exact ⟨rfl, h1⟩
theorem share_le {p t : Nat} (h : p ≤ t) (h0 : 0 < t) : p * 1000 / t ≤ 1000 := by
  rw [Nat.div_le_iff_le_mul_add_pred h0]
  have := Nat.mul_le_mul_right 1000 h
  rw [Nat.mul_comm t 1000] at this
  omega
theorem share_ok (p t n : Nat) (w : World) (hp : p ≤ t) (ht : t ≤ 9007199254740992) (h0 : 0 < t) (hn : n = p * 1000 / t) :
    Calls Try.prog 15 #[.int .i64 (p : Int), .int .i64 (t : Int)] w fun e w' => e = .returned (.tuple #[.int .i64 (n : Int), .int .i64 0]) ∧ Below w.heap.size w w' := by
  have hb : n ≤ 1000 := by rw [hn]; exact share_le hp h0
  have q : ∀ W : World, Calls Try.prog 28 #[.int .u64 (p : Int), .int .u64 1000, .int .u64 (t : Int), .bool false] W fun e w' => e = .returned (.tuple #[.int .i64 (n : Int), .int .i64 0]) ∧ Below W.heap.size W w' :=
    fun W => quot_ok p 1000 t n false W (by omega) (by decide) (by omega) h0 (by rw [mdWant_down, hn]) (by omega)
  have Q := Lib.hid q
  have R1 := Lib.hid (fun W : World => right_yes (p : Int) W (by omega) (by omega))
  have R2 := Lib.hid (fun W : World => right_yes (t : Int) W (by omega) (by omega))
  clear q hn hb
  go_enter Try.func15, Try.ntmps15
  go_wp2_with fail
  refine (R1.out _).mono ?_
  rintro e w' ⟨rfl, rfl⟩
  go_wp2_with fail
  refine (R2.out _).mono ?_
  rintro e w' ⟨rfl, rfl⟩
  go_wp2_with fail
  refine (Q.out _).mono ?_
  rintro e w1 ⟨rfl, h1⟩
  go_wp2
  go_ret2
  exact ⟨rfl, h1⟩
end Go.Proofs.Ytmlgehegmaciiaa
