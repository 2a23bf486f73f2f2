/- A ring of int: a new one. -/
import Derived.Test.YthpmdaioekpipaaRgDI
namespace Go.Proofs.Ythpmdaioekpipaa
open Go.RowKit Go.Lib
open Go.Joins (cell_of_block unfrozen_of_block block_setCell)
set_option linter.unusedVariables false
set_option linter.unusedSimpArgs false
set_option maxRecDepth 20000

theorem new_badI (w : World) (n : Int) (h : n < 1 ∨ 32 < n) : Calls Try.prog 6 #[.int .i64 n] w fun e w' => e = .returned (.tuple #[.pointer none, .int .i64 1]) ∧ w = w' := by
  by_cases h1 : n < 1
  · go_enter Try.func6, Try.ntmps6
    go_wp2
    go_ret2
    exact ⟨rfl, rfl⟩
  · have h2 : 32 < n := by omega
    go_enter Try.func6, Try.ntmps6
    go_wp2
    go_ret2
    exact ⟨rfl, rfl⟩
theorem madeI (n : Nat) {j : Nat} (hj : j < n) : (madeCells (Value.cells (.agg #[.int .i64 0, (.int .i64 0)])) (n * 2))[j * 2]? = some (.int .i64 0) ∧ (madeCells (Value.cells (.agg #[.int .i64 0, (.int .i64 0)])) (n * 2))[j * 2 + 1]? = some (.int .i64 0) := by
  have e : Value.cells (.agg #[.int .i64 0, (.int .i64 0)]) = #[.int .i64 0, (.int .i64 0)] := by rfl
  rw [e]
  unfold madeCells
  refine ⟨?_, ?_⟩
  · rw [Array.getElem?_map, Array.getElem?_range, if_pos (by omega)]
    have : j * 2 % 2 = 0 := by omega
    simp [this]
  · rw [Array.getElem?_map, Array.getElem?_range, if_pos (by omega)]
    have : (j * 2 + 1) % 2 = 1 := by omega
    simp [this]
/-- A new ring lies behind all that was. -/
def NewI (w w' : World) (rb n : Nat) : Prop := ∃ gb, w.heap.size ≤ rb ∧ w.heap.size ≤ gb ∧ HasI w' rb gb n [] ∧ Below w.heap.size w w'
theorem new_okI (w : World) (n : Nat) (h : 1 ≤ n ∧ n ≤ 32) : Calls Try.prog 6 #[.int .i64 (n : Int)] w fun e w' => ∃ rb, e = .returned (.tuple #[.pointer (some ⟨rb, 0, none⟩), .int .i64 0]) ∧ NewI w w' rb n := by
  obtain ⟨inf, i1, i2, i3, i4⟩ := infoI
  have HI := Lib.hid (And.intro i1 (And.intro i2 (And.intro i3 i4)))
  clear i1 i2 i3 i4
  have h1 : ¬ ((n : Int) < 1) := by omega
  have h2 : ¬ (32 < (n : Int)) := by omega
  go_enter Try.func6, Try.ntmps6
  go_upto_region 3 with fail
  go_wp2_with (at_make; refine wpList_make_full w rfl (.tmp 10) (.tmp 10) _ rfl w.heap.size TSI inf _ 2 Try.underlying28 HI.out.1 HI.out.2.1 HI.out.2.2.1 .i64 .i64 n n n rfl rfl rfl rfl (by rw [HI.out.2.2.2]; omega) (by unfold maxLen; omega) (Nat.le_refl _) ?_; intro w1 hq hg1)
  obtain ⟨G, hG⟩ : ∃ G, G = w.heap.size := ⟨_, rfl⟩
  obtain ⟨R, hR⟩ : ∃ R, R = w1.heap.size := ⟨_, rfl⟩
  obtain ⟨w2, hw2⟩ : ∃ w2, w2 = w1.alloc (.cells #[.slice (some ⟨w.heap.size, 0, none⟩) n n, .int .i64 0, .int .i64 0] TRI) := ⟨_, rfl⟩
  have FIN : Hid (w.heap.size ≤ R ∧ w.heap.size ≤ G ∧ HasI w2 R G n [] ∧ Below w.heap.size w w2) := by
    have b1 : Below w.heap.size w w1 := (Below.refl _ _).grown hg1 (Nat.le_refl _) (by simp)
    have hGR : G < R := by rw [hG, hR]; exact (hq.lt w.heap.size rfl).2
    rcases hq.2 with ⟨h0, _⟩ | ⟨g, cap, cur, hv, hb, hgb, hnc, hcm, hcs, hct⟩
    · simp at h0
    · simp only [Value.slice.injEq, Option.some.injEq, Addr.mk.injEq] at hv
      obtain ⟨⟨rfl, -, -⟩, -, rfl⟩ := hv
      have hcur : ∀ i : Nat, i < n * 2 → cur[i]? = (madeCells (Value.cells (.agg #[.int .i64 0, (.int .i64 0)])) (n * 2))[i]? := fun i hi => by
        have := congrArg (fun l => l[i]?) hct
        simp only [List.getElem?_take_of_lt hi, Array.getElem?_toList] at this
        exact this
      refine ⟨by omega, by omega, ⟨n, 0, fun _ => (0, 0), ⟨?_, ⟨cur, ?_, by omega, fun j hj => ?_⟩, by omega, h, by omega, by simp⟩, fun i x hx => by simp at hx⟩, ?_⟩
      · rw [hw2, hR, hG]; exact heap_alloc_new w1 _
      · rw [hw2, hG]; exact (Below.heap_alloc w1 _ _ (Array.getElem?_eq_some_iff.1 hgb).1).trans hgb
      · rw [hcur _ (by omega), hcur _ (by omega)]
        exact madeI n hj
      · rw [hw2]; exact b1.alloc b1.size _
  have HW := Lib.hid (And.intro hR hw2)
  clear hq hg1 hR hw2 hG
  go_wp2
  rw [← HW.out.1, ← HW.out.2]
  go_ret2
  exact ⟨R, rfl, G, FIN.out⟩
end Go.Proofs.Ythpmdaioekpipaa
