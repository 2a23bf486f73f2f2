/- What 'Near', 'Percent' and 'Share' of package ratio answer. -/
import Derived.Test.YtajkhbdniadkkaaRatioA
import Derived.Deep.RegionWith
namespace Go.Proofs.Ytajkhbdniadkkaa
open Go.RowKit
set_option linter.unusedVariables false

def Wide_ (x : Int) : Prop := x < 0 ∨ 1000 < x
theorem near_odd (u t x : Int) (w : World) (h : Wide_ x) : Calls Try.prog 44 #[.int .i64 u, .int .i64 t, .int .i64 x] w fun e w' => e = .returned (.tuple #[.bool false, .int .i64 1]) ∧ w = w' := by
  rcases h with h | h
  · go_enter Try.func44, Try.ntmps44
    go_wp2
    go_ret2
    exact ⟨rfl, rfl⟩
  · have t1 : ¬ x < 0 := by omega
    go_enter Try.func44, Try.ntmps44
    go_wp2
    go_ret2
    exact ⟨rfl, rfl⟩
theorem near_bad (u t x : Int) (w : World) (h0 : 0 ≤ x) (h1 : x ≤ 1000) (h : Bad u ∨ (Fine u ∧ Bad t)) : Calls Try.prog 44 #[.int .i64 u, .int .i64 t, .int .i64 x] w fun e w' => e = .returned (.tuple #[.bool false, .int .i64 1]) ∧ w = w' := by
  have D := Lib.hid (fun W : World => against_bad u t W h)
  clear h
  go_enter Try.func44, Try.ntmps44
  go_wp2_with fail
  refine (D.out _).mono ?_
  rintro e w' ⟨rfl, rfl⟩
  go_wp2
  go_ret2
  exact ⟨rfl, rfl⟩
theorem near_zero (u x : Int) (w : World) (h0 : 0 ≤ x) (h1 : x ≤ 1000) (h : Fine u) : Calls Try.prog 44 #[.int .i64 u, .int .i64 0, .int .i64 x] w fun e w' => e = .returned (.tuple #[.bool false, .int .i64 5]) ∧ w = w' := by
  have D := Lib.hid (fun W : World => against_zero u W h)
  clear h
  go_enter Try.func44, Try.ntmps44
  go_wp2_with fail
  refine (D.out _).mono ?_
  rintro e w' ⟨rfl, rfl⟩
  go_wp2
  go_ret2
  exact ⟨rfl, rfl⟩
theorem wrap_milli {n : Nat} (h : n ≤ 9007199254740992) : IntKind.i64.wrap (n : Int) = (n : Int) := by rw [IntKind.wrap_i64]; omega
theorem ret_near {p q : Bool} (h : p = q) : Ending.returned (.tuple #[.bool p, .int .i64 0]) = .returned (.tuple #[.bool q, .int .i64 0]) := by rw [h]
set_option maxHeartbeats 1000000 in
theorem near_ok (u t x : Nat) (w : World) (hu : u ≤ 9007199254740992) (ht : t ≤ 9007199254740992) (h0 : 0 < t) (hx : x ≤ 1000) :
    Calls Try.prog 44 #[.int .i64 (u : Int), .int .i64 (t : Int), .int .i64 (x : Int)] w fun e w' => e = .returned (.tuple #[.bool (decide (apart u t * 1000 ≤ t * x)), .int .i64 0]) ∧ Below w.heap.size w w' := by
  have D := Lib.hid (fun W : World => against_ok (u : Int) (t : Int) W ⟨by omega, by omega⟩ ⟨by omega, by omega⟩ (by omega))
  obtain ⟨d, hd⟩ : ∃ d, d = apart u t := ⟨_, rfl⟩
  rw [← hd]
  have hdb : d ≤ 9007199254740992 := by rw [hd]; unfold apart; omega
  obtain ⟨H, hH⟩ : ∃ n, n = t * x / 18446744073709551616 := ⟨_, rfl⟩
  obtain ⟨L, hL⟩ : ∃ n, n = t * x % 18446744073709551616 := ⟨_, rfl⟩
  obtain ⟨H', hH'⟩ : ∃ n, n = d * 1000 / 18446744073709551616 := ⟨_, rfl⟩
  obtain ⟨L', hL'⟩ : ∃ n, n = d * 1000 % 18446744073709551616 := ⟨_, rfl⟩
  have C1 := Lib.hid (fun W : World => wide_ofV t x H L W (by omega) (by omega) hH hL)
  have C2 : Hid (∀ W : World, Calls Try.prog 67 #[.int .u64 (d : Int), .int .u64 1000] W fun e w' => e = .returned (wd (H' : Int) (L' : Int)) ∧ Below W.heap.size W w') := Lib.hid (fun W : World => wide_ofV d 1000 H' L' W (by omega) (by omega) hH' hL')
  have C3 := Lib.hid (fun W : World => wide_cmpN (m := d * 1000) (n := t * x) W (by omega) hH' hL' hH hL)
  have HD := Lib.hid hdb
  have W1 := Lib.hid (wrap_milli hdb)
  have W2 : IntKind.u64.wrap (d : Int) = (d : Int) := by rw [IntKind.wrap_u64]; omega
  have c1 : max (u : Int) (t : Int) - min (u : Int) (t : Int) = (d : Int) := by rw [hd]; unfold apart; omega
  clear hd hdb hH hL hH' hL'
  go_enter Try.func44, Try.ntmps44
  go_wp2_with fail
  refine (D.out _).mono ?_
  rintro e w' ⟨rfl, rfl⟩
  go_wp2_with fail
  refine (C1.out _).mono ?_
  rintro e w1 ⟨rfl, h1⟩
  go_wp2_with fail
  have hB : Below w.heap.size w (w1.alloc (.cells #[.int .u64 (H : Int), .int .u64 (L : Int)] 144)) := h1.alloc h1.size _
  have k0 : (w1.alloc (.cells #[.int .u64 (H : Int), .int .u64 (L : Int)] 144)).cell? ⟨w1.heap.size, 0, none⟩ = some (.int .u64 (H : Int)) := by simp
  have k1 : (w1.alloc (.cells #[.int .u64 (H : Int), .int .u64 (L : Int)] 144)).cell? ⟨w1.heap.size, 1, none⟩ = some (.int .u64 (L : Int)) := by simp
  have kb : w1.heap.size < (w1.alloc (.cells #[.int .u64 (H : Int), .int .u64 (L : Int)] 144)).heap.size := by simp
  generalize w1.alloc (.cells #[.int .u64 (H : Int), .int .u64 (L : Int)] 144) = w2 at *
  generalize w1.heap.size = b at *
  have hB := hB.drew
  have k0 : w2.drew.cell? ⟨b, 0, none⟩ = some (.int .u64 (H : Int)) := k0
  have k1 : w2.drew.cell? ⟨b, 1, none⟩ = some (.int .u64 (L : Int)) := k1
  have kb : b < w2.drew.heap.size := kb
  clear h1
  go_region_with (first
    | (go_at_call 67; (with_reducible refine (C2.out _).mono ?_); rintro e w3 ⟨rfl, h3⟩; have k0 := (h3.cell (p := ⟨b, 0, none⟩) kb).trans k0; have k1 := (h3.cell (p := ⟨b, 1, none⟩) kb).trans k1; have kb := Nat.lt_of_lt_of_le kb h3.size; have hB := hB.trans (h3.mono hB.size))
    | (go_at_call 68; refine (C3.out _).mono ?_; rintro e w4 ⟨rfl, h4⟩; have hB := hB.trans (h4.mono hB.size)))
  all_goals
    go_wp2_with fail
    go_ret2
    exact ⟨ret_near sgn_le, hB⟩

/-! ### 'quotient', 'Percent', 'Share' -/
theorem share_le {p t : Nat} (h : p ≤ t) (h0 : 0 < t) : p * 1000 / t ≤ 1000 := by
  rw [Nat.div_le_iff_le_mul_add_pred h0]
  have := Nat.mul_le_mul_right 1000 h
  rw [Nat.mul_comm t 1000] at this
  omega
end Go.Proofs.Ytajkhbdniadkkaa
