/- An object that a call answered, laid into a variable of its own; memory of the call's own stays. -/
import Derived.Test.YtlajiochpdlhaaaOctD
import Derived.Test.YtlajiochpdlhaaaOctP
import Derived.Test.YtlajiochpdlhaaaOctEa
import Derived.Test.YtlajiochpdlhaaaOLawBase
namespace Go.Proofs.Ytlajiochpdlhaaa
open Go.RowKit Go.Shelf Go.Lib Go.Sort
open Go.Joins (cell_of_block unfrozen_of_block block_setCell)
set_option linter.unusedVariables false
set_option maxRecDepth 20000

theorem slR_one {α : Type} {k : Nat} {enc : α → List Value} {w : World} {v : Option Value} {l : List α} (h : SlR k enc w v l) : ∃ u, v = some u ∧ u.oneCell' = true := by
  obtain ⟨q, c, e, _⟩ := h
  exact ⟨_, e, rfl⟩
theorem objV_one {w : World} {L : Array Value} {x : Ob} (h : ObjV w L x) : L.all (·.oneCell') = true := by
  obtain ⟨hs, ⟨a0, a1, a2, _⟩, hW, hP, hN, hG, hH⟩ := h
  obtain ⟨a3, a4, a5, a6, a7, a8, a9⟩ := hW
  obtain ⟨a10, a11, a12, a13, a14, a15, a16, a17, a18, a19⟩ := hP
  obtain ⟨a20, a21, a22, a23, a24, a25, a26⟩ := hN
  obtain ⟨a27, a28, a29, a30, a31, a32, a33, a34⟩ := hG
  obtain ⟨a35, a36, a37, a38, a39, a40, a41, a42, a43, a44, a45, a46⟩ := hH
  have each : ∀ i, i < 47 → ∃ u, L[i]? = some u ∧ u.oneCell' = true := by
    intro i hi
    match i, hi with
    | 0, _ => exact ⟨_, a0, rfl⟩
    | 1, _ => exact ⟨_, a1, rfl⟩
    | 2, _ => exact ⟨_, a2, rfl⟩
    | 3, _ => exact ⟨_, a3, rfl⟩
    | 4, _ => exact ⟨_, a4, rfl⟩
    | 5, _ => exact ⟨_, a5, rfl⟩
    | 6, _ => exact slR_one a6
    | 7, _ => exact slR_one a7
    | 8, _ => exact slR_one a8
    | 9, _ => exact ⟨_, a9, rfl⟩
    | 10, _ => exact ⟨_, a10, rfl⟩
    | 11, _ => exact ⟨_, a11, rfl⟩
    | 12, _ => exact ⟨_, a12, rfl⟩
    | 13, _ => exact ⟨_, a13, rfl⟩
    | 14, _ => exact ⟨_, a14, rfl⟩
    | 15, _ => exact ⟨_, a15, rfl⟩
    | 16, _ => exact slR_one a16
    | 17, _ => exact slR_one a17
    | 18, _ => exact slR_one a18
    | 19, _ => exact ⟨_, a19, rfl⟩
    | 20, _ => exact ⟨_, a20, rfl⟩
    | 21, _ => exact ⟨_, a21, rfl⟩
    | 22, _ => exact ⟨_, a22, rfl⟩
    | 23, _ => exact slR_one a23
    | 24, _ => exact slR_one a24
    | 25, _ => exact ⟨_, a25, rfl⟩
    | 26, _ => exact ⟨_, a26, rfl⟩
    | 27, _ => exact ⟨_, a27, rfl⟩
    | 28, _ => exact ⟨_, a28, rfl⟩
    | 29, _ => exact ⟨_, a29, rfl⟩
    | 30, _ => exact ⟨_, a30, rfl⟩
    | 31, _ => exact ⟨_, a31, rfl⟩
    | 32, _ => exact slR_one a32
    | 33, _ => exact slR_one a33
    | 34, _ => exact ⟨_, a34, rfl⟩
    | 35, _ => exact ⟨_, a35, rfl⟩
    | 36, _ => exact ⟨_, a36, rfl⟩
    | 37, _ => exact ⟨_, a37, rfl⟩
    | 38, _ => exact slR_one a38
    | 39, _ => exact ⟨_, a39, rfl⟩
    | 40, _ => exact ⟨_, a40, rfl⟩
    | 41, _ => exact ⟨_, a41, rfl⟩
    | 42, _ => exact slR_one a42
    | 43, _ => exact ⟨_, a43, rfl⟩
    | 44, _ => exact ⟨_, a44, rfl⟩
    | 45, _ => exact slR_one a45
    | 46, _ => exact slR_one a46
    | n + 47, h => omega
  rw [Array.all_eq_true]
  intro i hi
  obtain ⟨u, h1, h2⟩ := each i (by omega)
  rw [Array.getElem?_eq_getElem hi] at h1
  injection h1 with h1
  rw [h1]
  exact h2

theorem zer_there (w : World) {n : Nat} (h : n = 47) : (w.alloc (.cells zerC 66)).there w.heap.size 0 n := by
  subst h
  intro j hj
  rw [Nat.zero_add, cell_of_block (heap_alloc_new w _), unfrozen_of_block (heap_alloc_new w _)]
  refine ⟨?_, rfl⟩
  rw [Array.getElem?_eq_getElem (by simpa using hj)]
  rfl
theorem laid_ob (w : World) {cs : Array Value} (hs : cs.size = 47) : ((w.alloc (.cells zerC 66)).setCells w.heap.size 0 cs.toList).heap[w.heap.size]? = some (.cells cs 66 (0, 0)) ∧ Gr w ((w.alloc (.cells zerC 66)).setCells w.heap.size 0 cs.toList) := by
  refine ⟨?_, ?_⟩
  · rw [setCells_block _ _ _ _ _ _ _ (heap_alloc_new w _), setAt_full (by rw [hs]; rfl)]
  · exact (bd_setCells ((Bd.refl w.heap.size w).alloc (Nat.le_refl _) _) w.heap.size 0 (Nat.le_refl _) cs.toList).gr
theorem own_below {w w' : World} {N n : Nat} {e : TypeId} {s : Nat} {v : Value} {xs : List Value} (h : w.ownsRow N e s v n xs) (k : Below w.heap.size w w') : w'.ownsRow N e s v n xs := by
  obtain ⟨h0, h⟩ := h
  refine ⟨h0, ?_⟩
  rcases h with h | ⟨g, cap, cur, e1, hb, hg, r⟩
  · exact .inl h
  · exact .inr ⟨g, cap, cur, e1, hb, (k.block g (Array.getElem?_eq_some_iff.1 hg).1).trans hg, r⟩
/-- A cell of a block below the reader's is set. -/
theorem RS.cellLow {W w : World} {N A : Nat} {s : Sr} (h : RS W w N A s) (g k : Nat) (v : Value) (h1 : W.heap.size ≤ g) (h2 : g < N) : RS W (w.setCell ⟨g, k, none⟩ v) N A s := by
  obtain ⟨a1, a2, a3, a4, a5, a6⟩ := h
  have hs : (w.setCell ⟨g, k, none⟩ v).heap.size = w.heap.size := by simp [World.setCell]
  have hA : (w.setCell ⟨g, k, none⟩ v).heap[A]? = w.heap[A]? := heap_setCell_other _ _ _ _ (by show A ≠ g; omega)
  refine ⟨a1.stay (by omega) (fun _ => hA) (fun b _ hb => heap_setCell_other _ _ _ _ (by show b ≠ g; have := (a5 b hb).1; omega)), a2, a3, by omega, fun b hb => ?_, a6.setCell (by exact h1) v⟩
  rw [yb_block hA] at hb
  have := a5 b hb
  omega
theorem RS.gr {W w w' : World} {N A : Nat} {s : Sr} (h : RS W w N A s) (k : Gr w w') : RS W w' N A s := by
  have hA : A < w.heap.size := by
    rcases rd_cases h.1 with ⟨h, _⟩ | ⟨_, _, h, _⟩ | ⟨_, _, _, _, _, h, _⟩
    · cases h
    · exact h
    · exact h
  exact h.step (h.1.gr k) (Mv.gr hA k)
end Go.Proofs.Ytlajiochpdlhaaa
