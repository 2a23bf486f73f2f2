/- A book: its rings; a new one. -/
import Derived.Test.YtajkhbdniadkkaaScA
namespace Go.Proofs.Ytajkhbdniadkkaa
open Go.RowKit Go.Shelf Go.Lib Go.Sort
open Go.Joins (cell_of_block unfrozen_of_block block_setCell)
set_option linter.unusedVariables false
set_option linter.unusedSimpArgs false
set_option maxRecDepth 20000

abbrev Up (l : List (Int × Int)) : Prop := l.Pairwise (fun a b => a.1 < b.1)
/-- What is left of a ring's samples where one more comes. -/
def keepQ (n : Nat) (l : List (Int × Int)) : List (Int × Int) := if l.length = n then l.drop 1 else l
theorem up_drop {l : List (Int × Int)} (h : Up l) (k : Nat) : Up (l.drop k) := List.Pairwise.sublist (List.drop_sublist k l) h
theorem up_snoc {l : List (Int × Int)} {x : Int × Int} (h : Up l) (hx : ∀ y, l.getLast? = some y → y.1 < x.1) : Up (l ++ [x]) := by
  refine List.pairwise_append.2 ⟨h, List.pairwise_singleton _ _, fun a ha b hb => ?_⟩
  rw [List.mem_singleton] at hb
  subst hb
  rcases List.eq_nil_or_concat l with rfl | ⟨l1, y, rfl⟩
  · cases ha
  · rw [List.concat_eq_append] at h ha hx
    have hy := hx y (by simp)
    rcases List.mem_append.1 ha with ha | ha
    · have := (List.pairwise_append.1 h).2.2 a ha y (by simp)
      omega
    · rw [List.mem_singleton] at ha
      subst ha
      exact hy
theorem last_dropQ {l : List (Int × Int)} {k : Nat} {y : Int × Int} (h : (l.drop k).getLast? = some y) : l.getLast? = some y := by
  rw [List.getLast?_drop] at h
  split at h
  · cases h
  · exact h
theorem up_keep {n : Nat} {l : List (Int × Int)} {x : Int × Int} (h : Up l) (hx : ∀ y, l.getLast? = some y → y.1 < x.1) : Up (keepQ n l ++ [x]) := by
  unfold keepQ
  split
  · exact up_snoc (up_drop h 1) (fun y hy => hx y (last_dropQ hy))
  · exact up_snoc h hx
theorem mem_keep {n : Nat} {l : List (Int × Int)} {y : Int × Int} (h : y ∈ keepQ n l) : y ∈ l := by
  unfold keepQ at h
  split at h
  · exact List.mem_of_mem_drop h
  · exact h

abbrev TB : TypeId := 128
/-- A book's blocks. -/
def foot (bb mb : Nat) (E : List En) : List Nat := bb :: mb :: E.flatMap (fun e => [e.rb, e.gb])
theorem foot_mem {bb mb : Nat} {E : List En} {g : Nat} : g ∈ foot bb mb E ↔ g = bb ∨ g = mb ∨ ∃ e ∈ E, g = e.rb ∨ g = e.gb := by
  unfold foot
  simp [List.mem_flatMap]
/-- The samples of a series. -/
structure Smps (l : List (Int × Int)) : Prop where
  some : l ≠ []
  up : Up l
  at_ : ∀ x ∈ l, 0 ≤ x.1 ∧ x.1 ≤ 4611686018427387904
structure Bk (w : World) (bb mb n a : Nat) (E : List En) : Prop where
  book : w.heap[bb]? = some (.cells #[.int .i64 (n : Int), .int .i64 (a : Int), .map (some mb)] TB (0, 0))
  map : MapS w mb E
  hn : 1 ≤ n ∧ n ≤ 32
  ha : 1 ≤ a ∧ a ≤ 1800
  each : ∀ e ∈ E, HasQ w e.rb e.gb n e.l ∧ Smps e.l
  blks : (foot bb mb E).Nodup
  few : E.length ≤ 512
section
variable {w w' : World} {bb mb n a : Nat} {E : List En}
theorem Bk.lt (h : Bk w bb mb n a E) : ∀ g ∈ foot bb mb E, g < w.heap.size := fun g hg => by
  rcases foot_mem.1 hg with rfl | rfl | ⟨e, he, rfl | rfl⟩
  · exact (Array.getElem?_eq_some_iff.1 h.book).1
  · exact h.map.lt
  · exact (h.each e he).1.lt.1
  · exact (h.each e he).1.lt.2
theorem Bk.keep (h : Bk w bb mb n a E) (hk : ∀ g ∈ foot bb mb E, w'.heap[g]? = w.heap[g]?) : Bk w' bb mb n a E :=
  ⟨(hk bb (foot_mem.2 (.inl rfl))).trans h.book, h.map.keep (hk mb (foot_mem.2 (.inr (.inl rfl)))), h.hn, h.ha, fun e he => ⟨(h.each e he).1.keep (hk _ (foot_mem.2 (.inr (.inr ⟨e, he, .inl rfl⟩)))) (hk _ (foot_mem.2 (.inr (.inr ⟨e, he, .inr rfl⟩)))), (h.each e he).2⟩, h.blks, h.few⟩
theorem Bk.gr (h : Bk w bb mb n a E) (b : Below w.heap.size w w') : Bk w' bb mb n a E := h.keep (fun g hg => b.block g (h.lt g hg))
theorem Bk.tch {S : List Nat} (h : Bk w bb mb n a E) (t : Tch S w w') (hS : ∀ g ∈ foot bb mb E, g ∉ S) : Bk w' bb mb n a E := h.keep (fun g hg => t.block g (h.lt g hg) (hS g hg))
theorem Bk.drewN (h : Bk w bb mb n a E) (k : Nat) : Bk (w.drewN k) bb mb n a E := h.keep (fun _ _ => rfl)
theorem Bk.c0 (h : Bk w bb mb n a E) : w.cell? ⟨bb, 0, none⟩ = some (.int .i64 (n : Int)) := cell_of_block h.book 0
theorem Bk.c1 (h : Bk w bb mb n a E) : w.cell? ⟨bb, 1, none⟩ = some (.int .i64 (a : Int)) := cell_of_block h.book 1
theorem Bk.c2 (h : Bk w bb mb n a E) : w.cell? ⟨bb, 2, none⟩ = some (.map (some mb)) := cell_of_block h.book 2
end

/-- The book is new. -/
def NewBk (w w' : World) (bb n a : Nat) : Prop := ∃ mb, w.heap.size ≤ bb ∧ w.heap.size ≤ mb ∧ Bk w' bb mb n a [] ∧ Below w.heap.size w w'
set_option maxHeartbeats 1000000 in
theorem bnew_bad (w : World) (n a : Int) (h : n < 1 ∨ 32 < n ∨ a < 1 ∨ 1800 < a) : Calls Try.prog 28 #[.agg #[.int .i64 n, .int .i64 a]] w fun e w' => e = .returned (.tuple #[.pointer none, .int .i64 1]) ∧ Below w.heap.size w w' := by
  have F : Hid (∀ o, Below w.heap.size w (w.alloc o)) := fun o => (Below.refl _ _).alloc (Nat.le_refl _) _
  by_cases h1 : n < 1
  · go_enter Try.func28, Try.ntmps28
    go_wp2
    go_ret2
    exact ⟨rfl, F.out _⟩
  · by_cases h2 : 32 < n
    · go_enter Try.func28, Try.ntmps28
      go_wp2
      go_ret2
      exact ⟨rfl, F.out _⟩
    · by_cases h3 : a < 1
      · go_enter Try.func28, Try.ntmps28
        go_wp2
        go_ret2
        exact ⟨rfl, F.out _⟩
      · have h4 : 1800 < a := by omega
        go_enter Try.func28, Try.ntmps28
        go_wp2
        go_ret2
        exact ⟨rfl, F.out _⟩
set_option maxHeartbeats 1000000 in
theorem bnew_ok (w : World) (n a : Nat) (hn : 1 ≤ n ∧ n ≤ 32) (ha : 1 ≤ a ∧ a ≤ 1800) : Calls Try.prog 28 #[.agg #[.int .i64 (n : Int), .int .i64 (a : Int)]] w fun e w' => ∃ bb, e = .returned (.tuple #[.pointer (some ⟨bb, 0, none⟩), .int .i64 0]) ∧ NewBk w w' bb n a := by
  have h1 : ¬ ((n : Int) < 1) := by omega
  have h2 : ¬ (32 < (n : Int)) := by omega
  have h3 : ¬ ((a : Int) < 1) := by omega
  have h4 : ¬ (1800 < (a : Int)) := by omega
  obtain ⟨T, hT⟩ : ∃ T : TypeId, T = 31 := ⟨_, rfl⟩
  have FIN : Hid (NewBk w (((w.alloc (.cells #[.int .i64 (n : Int), .int .i64 (a : Int)] T)).alloc (.map #[] 0)).alloc (.cells #[.int .i64 (n : Int), .int .i64 (a : Int), .map (some (w.heap.size + 1))] TB)) (w.heap.size + 1 + 1) n a) := by
    obtain ⟨w1, hw1⟩ : ∃ x, x = w.alloc (.cells #[.int .i64 (n : Int), .int .i64 (a : Int)] T) := ⟨_, rfl⟩
    obtain ⟨w2, hw2⟩ : ∃ x, x = w1.alloc (.map #[] 0) := ⟨_, rfl⟩
    have z1 : w1.heap.size = w.heap.size + 1 := by rw [hw1]; simp
    have z2 : w2.heap.size = w.heap.size + 1 + 1 := by rw [hw2, ← z1]; simp
    rw [← hw1, ← hw2, ← z2, ← z1]
    have m2 : MapS w2 w1.heap.size [] := hw2 ▸ MapS.made w1
    refine ⟨w1.heap.size, by omega, by omega, ⟨heap_alloc_new w2 _, m2.keep (Below.heap_alloc _ _ _ (by omega)), hn, ha, (by simp), by simp [foot]; omega, by simp⟩, ?_⟩
    exact (((hw1 ▸ (Below.refl _ _).alloc (Nat.le_refl _) _ : Below w.heap.size w w1).trans (hw2 ▸ (Below.refl _ _).alloc (by omega) _ : Below w.heap.size w1 w2))).alloc (by omega) _
  subst hT
  have mk := @run_makeMap Try.prog
  go_enter Try.func28, Try.ntmps28
  go_wp2
  go_ret2
  exact ⟨_, rfl, FIN.out⟩
end Go.Proofs.Ytajkhbdniadkkaa
