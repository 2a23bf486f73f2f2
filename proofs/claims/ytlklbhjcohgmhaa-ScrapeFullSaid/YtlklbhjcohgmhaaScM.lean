/- A book that is filled. -/
import Derived.Test.YtlklbhjcohgmhaaScN
import Derived.Test.YtlklbhjcohgmhaaScI
import Derived.Test.YtlklbhjcohgmhaaScL
namespace Go.Proofs.Ytlklbhjcohgmhaa
open Go.RowKit Go.Shelf Go.Lib Go.Sort
open Go.Joins (cell_of_block unfrozen_of_block block_setCell)
set_option linter.unusedVariables false
set_option linter.unusedSimpArgs false
set_option maxRecDepth 20000

/-- A book with i series. -/
structure Fl (N : Nat) (w W : World) (bb mb i : Nat) (E : List En) : Prop where
  bk : Bk W bb mb 2 10 E
  keys : E.map (·.s) = (List.range i).map (fun j => (nm j, vM))
  lows : ∀ g ∈ foot bb mb E, N ≤ g
  low : Below N w W
theorem Fl.len {N : Nat} {w W : World} {bb mb i : Nat} {E : List En} (h : Fl N w W bb mb i E) : E.length = i := by
  have := congrArg List.length h.keys
  simpa using this
theorem Fl.mem {N : Nat} {w W : World} {bb mb i : Nat} {E : List En} (h : Fl N w W bb mb i E) {e : En} (he : e ∈ E) : ∃ j, j < i ∧ e.s = (nm j, vM) := by
  have : e.s ∈ E.map (·.s) := List.mem_map.2 ⟨e, he, rfl⟩
  rw [h.keys, List.mem_map] at this
  obtain ⟨j, hj, hs⟩ := this
  exact ⟨j, List.mem_range.1 hj, hs.symm⟩
theorem Fl.at_ {N : Nat} {w W : World} {bb mb i : Nat} {E : List En} (h : Fl N w W bb mb i E) {j : Nat} (hj : j < i) : ∃ e ∈ E, e.s = (nm j, vM) := by
  have : (nm j, vM) ∈ E.map (·.s) := by rw [h.keys]; exact List.mem_map.2 ⟨j, List.mem_range.2 hj, rfl⟩
  obtain ⟨e, he, hs⟩ := List.mem_map.1 this
  exact ⟨e, he, hs⟩
theorem Fl.gr {N : Nat} {w W W' : World} {bb mb i : Nat} {E : List En} (h : Fl N w W bb mb i E) (b : Below W.heap.size W W') (hN : N ≤ W.heap.size) : Fl N w W' bb mb i E := ⟨h.bk.gr b, h.keys, h.lows, h.low.trans (b.mono hN)⟩
theorem Fl.hN {N : Nat} {w W : World} {bb mb i : Nat} {E : List En} (h : Fl N w W bb mb i E) : N ≤ W.heap.size := by
  have h1 : bb ∈ foot bb mb E := foot_mem.2 (.inl rfl)
  have := h.lows bb h1
  have := h.bk.lt bb h1
  omega
theorem rd0 : rdE 0 = 0 ∧ rdV 0 = 0 := ⟨by decide +kernel, by decide +kernel⟩
theorem name_i {i : Nat} (h : i < 512) : (nameB (nm i, vM).1 && nameB (nm i, vM).2) = true := by
  show (nameB (nm i) && nameB vM) = true
  rw [nm_name i h, name_M]; rfl
theorem name_o : (nameB (vO, vM).1 && nameB (vO, vM).2) = true := by
  show (nameB vO && nameB vM) = true
  rw [name_O, name_M]; rfl
theorem full_put (N : Nat) (w W : World) (bb mb i : Nat) (E : List En) (h : Fl N w W bb mb i E) (hi : i < 512) (hl : ∀ e ∈ E, e.l = [(1, 0)]) :
    Calls Try.prog 8 #[.pointer (some ⟨bb, 0, none⟩), .int .i64 1, ser (nm i, vM), .int .u64 0] W fun r w' => r = .returned (.tuple #[.int .i64 0, .int .i64 0]) ∧ ∃ E', Fl N w w' bb mb (i + 1) E' ∧ ∀ e ∈ E', e.l = [(1, 0)] := by
  have hs : ∀ e ∈ E, e.s ≠ (nm i, vM) := fun e he e1 => by
    obtain ⟨j, hj, h2⟩ := h.mem he
    rw [h2, Prod.mk.injEq] at e1
    have := nm_inj (by omega) hi e1.1
    omega
  have C := fun (V : World) (b : Below W.heap.size W V) => bput_new V bb mb 2 10 E (h.bk.gr b) (nm i, vM) (ok_nm i) hs (by rw [h.len]; exact hi) 1 0 (by omega)
  have G := scr_goes W bb 1 (nm i, vM) 0 (by omega) (ok_nm i) (name_i hi) (by omega) rd0.1 0 _ (fun V b => by rw [rd0.2]; exact C V b)
  rw [rd0.2] at G
  refine G.mono ?_
  rintro r w' ⟨rfl, V, bV, rb, gb, hr, hg, K, t⟩
  have hz := bV.size
  have hN := h.hN
  refine ⟨rfl, _, ⟨K, ?_, fun g hg' => ?_, (h.low.trans (bV.mono hN)).trans (t.below (fun g hg => ?_) (by omega))⟩, fun e he => ?_⟩
  · rw [List.map_append, h.keys, List.range_succ, List.map_append]
    rfl
  · rcases foot_mem.1 hg' with rfl | rfl | ⟨e, he, hg'⟩
    · exact h.lows _ (foot_mem.2 (.inl rfl))
    · exact h.lows _ (foot_mem.2 (.inr (.inl rfl)))
    · rcases List.mem_append.1 he with he | he
      · exact h.lows _ (foot_mem.2 (.inr (.inr ⟨e, he, hg'⟩)))
      · rw [List.mem_singleton] at he
        subst he
        simp only at hg'
        rcases hg' with rfl | rfl <;> omega
  · rw [List.mem_singleton] at hg
    subst hg
    exact h.lows _ (foot_mem.2 (.inr (.inl rfl)))
  · rcases List.mem_append.1 he with he | he
    · exact hl e he
    · rw [List.mem_singleton] at he
      subst he
      rfl
theorem full_other (N : Nat) (w W : World) (bb mb : Nat) (E : List En) (h : Fl N w W bb mb 512 E) :
    Calls Try.prog 8 #[.pointer (some ⟨bb, 0, none⟩), .int .i64 1, ser (vO, vM), .int .u64 0] W fun r w' => r = .returned (.tuple #[.int .i64 0, .int .i64 10]) ∧ Fl N w w' bb mb 512 E := by
  have hs : ∀ e ∈ E, e.s ≠ (vO, vM) := fun e he e1 => by
    obtain ⟨j, hj, h2⟩ := h.mem he
    rw [h2, Prod.mk.injEq] at e1
    exact nm_other j e1.1
  have C := fun (V : World) (b : Below W.heap.size W V) => bput_full V bb mb 2 10 E (h.bk.gr b) (vO, vM) ok_O hs h.len 1 0
  have G := scr_goes W bb 1 (vO, vM) 0 (by omega) ok_O name_o (by omega) rd0.1 10 _ (fun V b => by rw [rd0.2]; exact C V b)
  refine G.mono ?_
  rintro r w' ⟨rfl, V, bV, b2⟩
  have b : Below W.heap.size W w' := bV.trans (b2.mono bV.size)
  exact ⟨rfl, h.gr b h.hN⟩
theorem keys_turn {E1 E2 : List En} {e : En} {l : List (Int × Int)} : (E1 ++ { e with l := l } :: E2).map (·.s) = (E1 ++ e :: E2).map (·.s) := by simp
theorem foot_turn {bb mb : Nat} {E1 E2 : List En} {e : En} {l : List (Int × Int)} : foot bb mb (E1 ++ { e with l := l } :: E2) = foot bb mb (E1 ++ e :: E2) := by simp [foot]
theorem full_more (N : Nat) (w W : World) (bb mb j : Nat) (E : List En) (h : Fl N w W bb mb 512 E) (hl : ∀ e ∈ E, e.l = [(1, 0)]) (hj : j < 512) :
    Calls Try.prog 8 #[.pointer (some ⟨bb, 0, none⟩), .int .i64 2, ser (nm j, vM), .int .u64 0] W fun r w' => r = .returned (.tuple #[.int .i64 0, .int .i64 0]) ∧ ∃ E', Fl N w w' bb mb 512 E' := by
  obtain ⟨e, he, hs⟩ := h.at_ hj
  obtain ⟨E1, E2, rfl⟩ := List.mem_iff_append.1 he
  have hle := hl e he
  have C := fun (V : World) (b : Below W.heap.size W V) => bput_more V bb mb 2 10 E1 E2 e (h.bk.gr b) 2 0 (by omega) (by rw [hle]; intro y hy; simp at hy; rw [← hy]; decide)
  rw [hs] at C
  have G := scr_goes W bb 2 (nm j, vM) 0 (by omega) (ok_nm j) (name_i hj) (by omega) rd0.1 0 _ (fun V b => by rw [rd0.2]; exact C V b)
  rw [rd0.2] at G
  refine G.mono ?_
  rintro r w' ⟨rfl, V, bV, K, t⟩
  have hz := bV.size
  have hN := h.hN
  refine ⟨rfl, _, ⟨K, by rw [← hs, keys_turn]; exact h.keys, by rw [← hs, foot_turn]; exact h.lows, (h.low.trans (bV.mono hN)).trans (t.below (fun g hg => ?_) (by omega))⟩⟩
  exact h.lows g (foot_mem.2 (.inr (.inr ⟨e, he, by simpa using hg⟩)))
theorem full_forget (N : Nat) (w W : World) (bb mb j : Nat) (E : List En) (h : Fl N w W bb mb 512 E) (hj : j < 512) :
    Calls Try.prog 10 #[.pointer (some ⟨bb, 0, none⟩), .string (nm j)] W fun r w' => r = .returned (.int .i64 1) ∧ ∃ E', Bk w' bb mb 2 10 E' ∧ E'.length = 511 ∧ (∀ e ∈ E', e.s ≠ (vO, vM)) ∧ N ≤ mb ∧ Below N w w' ∧ N ≤ w'.heap.size := by
  have hw : (without (nm j) E).length = 511 := by
    have h1 : (without (nm j) E).length = ((E.map (·.s)).filter (fun s => !decide (s.1 = nm j))).length := by
      unfold without
      rw [List.filter_map, List.length_map]
      rfl
    rw [h1, h.keys, List.filter_map, List.length_map]
    have h2 : (List.range 512).filter ((fun s : Sr => !decide (s.1 = nm j)) ∘ fun i => (nm i, vM)) = (List.range 512).filter (fun i => !decide (i = j)) := by
      refine List.filter_congr (fun i hi => ?_)
      have hi := List.mem_range.1 hi
      simp only [Function.comp]
      congr 1
      by_cases e : i = j
      · simp [e]
      · have : nm i ≠ nm j := fun e2 => e (nm_inj hi hj e2)
        simp [e, this]
    rw [h2]
    have h3 := List.length_eq_countP_add_countP (fun i => decide (i = j)) (l := List.range 512)
    have h4 : (List.range 512).countP (fun i => decide (i = j)) = 1 := by
      have e : (List.range 512).count j = (List.range 512).countP (fun i => decide (i = j)) := by
        unfold List.count
        congr 1
      rw [← e, List.count_range, if_pos hj]
    have h6 : (List.range 512).countP (fun i => !decide (i = j)) = (List.range 512).countP (fun a => decide (¬ (decide (a = j)) = true)) := by
      congr 1
      funext i
      simp
    rw [h4, List.length_range, ← h6] at h3
    rw [← List.countP_eq_length_filter]
    omega
  have hN := h.hN
  refine (forget_any W bb mb 2 10 E h.bk (nm j)).mono ?_
  rintro r w' ⟨rfl, K, t⟩
  have hm : N ≤ mb := h.lows _ (foot_mem.2 (.inr (.inl rfl)))
  refine ⟨by rw [h.len, hw]; rfl, _, K, hw, fun e he e1 => ?_, hm, h.low.trans (t.below (fun g hg => by rw [List.mem_singleton] at hg; omega) hN), by have := t.size; omega⟩
  obtain ⟨i, hi, h2⟩ := h.mem (List.mem_filter.1 he).1
  rw [h2, Prod.mk.injEq] at e1
  exact nm_other i e1.1
theorem full_last (N : Nat) (w W : World) (bb mb : Nat) (E : List En) (K : Bk W bb mb 2 10 E) (hl : E.length = 511) (hs : ∀ e ∈ E, e.s ≠ (vO, vM)) (hm : N ≤ mb) (low : Below N w W) (hN : N ≤ W.heap.size) :
    Calls Try.prog 8 #[.pointer (some ⟨bb, 0, none⟩), .int .i64 1, ser (vO, vM), .int .u64 0] W fun r w' => r = .returned (.tuple #[.int .i64 0, .int .i64 0]) ∧ Below N w w' := by
  have C := fun (V : World) (b : Below W.heap.size W V) => bput_new V bb mb 2 10 E (K.gr b) (vO, vM) ok_O hs (by omega) 1 0 (by omega)
  have G := scr_goes W bb 1 (vO, vM) 0 (by omega) ok_O name_o (by omega) rd0.1 0 _ (fun V b => by rw [rd0.2]; exact C V b)
  rw [rd0.2] at G
  refine G.mono ?_
  rintro r w' ⟨rfl, V, bV, rb, gb, hr, hg, K, t⟩
  have hz := bV.size
  exact ⟨rfl, (low.trans (bV.mono hN)).trans (t.below (fun g hg => by rw [List.mem_singleton] at hg; omega) (by omega))⟩
end Go.Proofs.Ytlklbhjcohgmhaa
