/- Layer 21 (window): a binary search (sort.Search). -/
import Derived.Test.YtcejaeeliedldaaWnA
namespace Go.Proofs.Ytcejaeeliedldaa.Wn
open Go.RowKit Go.Shelf Go.Lib Go.Sort Go.Deep
open Go.Joins (cell_of_block unfrozen_of_block block_setCell)
open Go.Proofs.Ytcejaeeliedldaa.Ow
set_option linter.unusedVariables false
set_option linter.unusedSimpArgs false
set_option maxRecDepth 20000

set_option maxHeartbeats 4000000 in
/-- The first place from which on it holds, of anything that holds from some place on. -/
theorem search_any (w : World) (n : Nat) (hn : n ≤ 1000000) (g : Nat) (cb : Array Value) (P : Nat → Bool) (mono : ∀ i j, i ≤ j → j < n → P i = true → P j = true) (eg : ∀ args w, (callFunc g args).run Try.prog w = .ok (.enter g args) w)
    (ask : ∀ (ws : World) (i : Nat), i < n → Below w.heap.size w ws → Calls Try.prog g (#[.int .i64 (i : Int)] ++ cb) ws fun e w' => e = .returned (.bool (P i)) ∧ Below ws.heap.size ws w') :
    Calls Try.prog 27 #[.int .i64 (n : Int), .func (.func g) #[] cb] w fun e w' => (∃ k : Nat, e = .returned (.int .i64 (k : Int)) ∧ k ≤ n ∧ (∀ i, i < k → P i = false) ∧ ∀ i, k ≤ i → i < n → P i = true) ∧ Below w.heap.size w w' := by
  have HA := Lib.hid ask
  have HM := Lib.hid mono
  clear ask mono
  go_enter Try.func27, Try.ntmps27
  go_wp2_with fail
  go_loopg [5, 6] n (fun gg vi vj wr => ∃ i j : Nat, vi = .int .i64 (i : Int) ∧ vj = .int .i64 (j : Int) ∧ i ≤ j ∧ j ≤ n ∧ j - i ≤ gg ∧ Hid (∀ t, t < i → P t = false) ∧ Hid (∀ t, j ≤ t → t < n → P t = true) ∧ Hid (Below w.heap.size w wr))
  case atStart => exact ⟨0, n, rfl, rfl, Nat.zero_le _, Nat.le_refl _, by omega, fun t h => absurd h (Nat.not_lt_zero _), fun t h1 h2 => by omega, Below.refl _ _⟩
  case round =>
    obtain ⟨i, j, rfl, rfl, h1, h2, h3, HL, HR, HB⟩ := hrel
    by_cases hlt : i < j
    · obtain ⟨m, hm⟩ : ∃ m, m = (i + j) / 2 := ⟨_, rfl⟩
      obtain ⟨s, hs⟩ : ∃ s, s = i + j := ⟨_, rfl⟩
      have ws : (i : Int) + (j : Int) = (s : Int) := by omega
      have C := Lib.hid (HA.out wr m (by omega) HB.out)
      have wi : IntKind.i64.wrap ((i : Int) + (j : Int)) = (s : Int) := by rw [IntKind.wrap_i64]; omega
      have wu : IntKind.u64.wrap (s : Int) = (s : Int) := by rw [IntKind.wrap_u64]; omega
      have sd : (s : Int) / 2 = (m : Int) := by rw [hm, ← hs]; omega
      have wm : IntKind.i64.wrap (m : Int) = (m : Int) := by rw [IntKind.wrap_i64]; omega
      have wm1 : IntKind.i64.wrap ((m : Int) + 1) = ((m + 1 : Nat) : Int) := by rw [IntKind.wrap_i64]; omega
      obtain ⟨hm1, hm2⟩ : i ≤ m ∧ m < j := by omega
      have hm3 : m < n := by omega
      clear hm hs
      cases hp : P m with
      | true =>
        rw [hp] at C
        have NR : Hid (∀ t, m ≤ t → t < n → P t = true) := fun t ht hn => HM.out m t ht hn hp
        clear hp
        go_wp2_with (go_at_fn g; refine C.out.mono ?_; rintro e w1 ⟨rfl, b1⟩)
        go_roundg (m - i)
        case measure => omega
        case rel => exact ⟨i, m, rfl, rfl, hm1, by omega, Nat.le_refl _, HL.out, NR.out, HB.out.trans (b1.mono HB.out.size)⟩
      | false =>
        rw [hp] at C
        have NL : Hid (∀ t, t < m + 1 → P t = false) := fun t ht => by
          cases h : P t with
          | false => rfl
          | true =>
            have := HM.out t m (by omega) hm3 h
            rw [hp] at this
            cases this
        clear hp
        go_wp2_with (go_at_fn g; refine C.out.mono ?_; rintro e w1 ⟨rfl, b1⟩)
        go_roundg (j - (m + 1))
        case measure => omega
        case rel => exact ⟨m + 1, j, by push_cast; rfl, rfl, by omega, h2, Nat.le_refl _, NL.out, HR.out, HB.out.trans (b1.mono HB.out.size)⟩
    · obtain rfl : i = j := by omega
      go_wp2
      go_ret
      exact ⟨⟨i, rfl, h2, HL.out, HR.out⟩, HB.out⟩
end Go.Proofs.Ytcejaeeliedldaa.Wn
