/- Objects laid into variables of their own. -/
import Derived.Test.YtfmllfolpcimpaaObS
import Derived.Laws.Rows
namespace Go.Proofs.Ytfmllfolpcimpaa
open Go.RowKit Go.Shelf Go.Lib Go.Sort
open Go.Joins (cell_of_block unfrozen_of_block block_setCell)
set_option linter.unusedVariables false
set_option maxRecDepth 20000

/-- The cells of an object without anything. -/
abbrev zerC : Array Value := #[.int .i64 0, .string { data := #[] }, .int .u64 0, .int .i64 0, .int .i64 0, .int .i64 0, .slice none 0 0, .slice none 0 0, .slice none 0 0, .int .i64 0, .string { data := #[] }, .string { data := #[] }, .int .i64 0, .int .i64 0, .int .i64 0, .int .i64 0, .slice none 0 0, .slice none 0 0, .slice none 0 0, .int .i64 0, .string { data := #[] }, .int .i64 0, .int .i64 0, .slice none 0 0, .slice none 0 0, .int .i64 0, .bool false, .int .i64 0, .int .i64 0, .int .i64 0, .int .i64 0, .int .i64 0, .slice none 0 0, .slice none 0 0, .int .i64 0, .string { data := #[] }, .int .i64 0, .int .i64 0, .slice none 0 0, .int .i64 0, .int .i64 0, .int .i64 0, .slice none 0 0, .int .i64 0, .int .i64 0, .slice none 0 0, .slice none 0 0]
def zerO : Ob := ⟨0, ⟨#[]⟩, 0, ⟨0, 0, 0, [], [], [], 0⟩, ⟨⟨#[]⟩, ⟨#[]⟩, 0, 0, 0, 0, [], [], [], 0⟩, ⟨⟨#[]⟩, 0, 0, [], [], 0, false⟩, ⟨0, 0, 0, 0, 0, [], [], 0⟩, ⟨⟨#[]⟩, 0, 0, [], 0, 0, 0, [], 0, 0, [], []⟩⟩
def setAt : Array Value → Nat → List Value → Array Value
  | L, _, [] => L
  | L, i, v :: r => setAt (L.setIfInBounds i v) (i + 1) r
theorem setAt_lt : ∀ (vs : List Value) (L : Array Value) (i j : Nat), j < i → (setAt L i vs)[j]? = L[j]?
  | [], L, i, j, h => rfl
  | v :: r, L, i, j, h => by
    rw [setAt, setAt_lt r _ (i + 1) j (by omega), Array.getElem?_setIfInBounds_ne (by omega)]
theorem setCells_block : ∀ (vs : List Value) (w : World) (b o : Nat) (cs : Array Value) (T : TypeId) (fz : Nat × Nat), w.heap[b]? = some (.cells cs T fz) → (w.setCells b o vs).heap[b]? = some (.cells (setAt cs o vs) T fz)
  | [], w, b, o, cs, T, fz, h => h
  | v :: r, w, b, o, cs, T, fz, h => by
    rw [World.setCells, setAt]
    exact setCells_block r _ b (o + 1) _ T fz (block_setCell h v)
theorem setCells_out : ∀ (vs : List Value) (w : World) (b o k : Nat), k ≠ b → (w.setCells b o vs).heap[k]? = w.heap[k]?
  | [], w, b, o, k, h => rfl
  | v :: r, w, b, o, k, h => by
    rw [World.setCells, setCells_out r _ b (o + 1) k h]
    exact heap_setCell_other _ _ _ _ h
theorem setCells_size : ∀ (vs : List Value) (w : World) (b o : Nat), (w.setCells b o vs).heap.size = w.heap.size
  | [], w, b, o => rfl
  | v :: r, w, b, o => by
    rw [World.setCells, setCells_size r]
    simp [World.setCell]
theorem setCells_rest : ∀ (vs : List Value) (w : World) (b o : Nat), (w.setCells b o vs).os = w.os ∧ (w.setCells b o vs).tape = w.tape ∧ (w.setCells b o vs).output = w.output
  | [], w, b, o => ⟨rfl, rfl, rfl⟩
  | v :: r, w, b, o => by
    rw [World.setCells]
    exact setCells_rest r _ b (o + 1)
theorem setAt_size : ∀ (vs : List Value) (L : Array Value) (i : Nat), (setAt L i vs).size = L.size
  | [], L, i => rfl
  | v :: r, L, i => by rw [setAt, setAt_size r]; simp
theorem setAt_get : ∀ (vs : List Value) (L : Array Value) (i j : Nat), j < vs.length → i + vs.length ≤ L.size → (setAt L i vs)[i + j]? = vs[j]?
  | [], L, i, j, h, _ => by simp at h
  | v :: r, L, i, j, h, hL => by
    rw [setAt]
    simp only [List.length_cons] at h hL
    cases j with
    | zero =>
      show (setAt (L.setIfInBounds i v) (i + 1) r)[i]? = some v
      rw [setAt_lt r _ (i + 1) i (by omega)]
      exact Array.getElem?_setIfInBounds_self_of_lt (by omega)
    | succ j =>
      rw [show i + (j + 1) = (i + 1) + j by omega, setAt_get r _ (i + 1) j (by omega) (by simp; omega)]
      rfl
theorem setAt_full {L L' : Array Value} (h : L.size = L'.size) : setAt L 0 L'.toList = L' := by
  apply Array.ext
  · rw [setAt_size, h]
  · intro j h1 h2
    have := setAt_get L'.toList L 0 j (by simpa using h2) (by simp; omega)
    rw [Nat.zero_add] at this
    rw [Array.getElem?_eq_getElem h1, Array.getElem?_toList, Array.getElem?_eq_getElem h2] at this
    exact Option.some.inj this
theorem slR_one {α : Type} {k : Nat} {enc : α → List Value} {w : World} {v : Option Value} {l : List α} (h : SlR k enc w v l) : ∃ u, v = some u ∧ u.oneCell' = true := by
  obtain ⟨q, c, e, _⟩ := h
  exact ⟨_, e, rfl⟩
theorem objV_one {w : World} {L : Array Value} {x : Ob} (h : ObjV w L x) : L.all (·.oneCell') = true := by
  obtain ⟨hs, ⟨a0, a1, a2, _⟩, hW, hP, hN, hG, hH⟩ := h
  obtain ⟨a3, a4, a5, a6, a7, a8, a9⟩ := hW
  obtain ⟨a10, a11, a12, a13, a14, a15, a16, a17, a18, a19⟩ := hP
  obtain ⟨a20, a21, a22, a23, a24, a25, a26⟩ := hN
  obtain ⟨a27, a28, a29, a30, a31, a32, a33, a34⟩ := hG
  obtain ⟨a35, a36, a37, a38, a39, a40, a41, a42, a43, a44, a45, a46⟩ := hH
  have each : ∀ i, i < 47 → ∃ u, L[i]? = some u ∧ u.oneCell' = true := by
    intro i hi
    match i, hi with
    | 0, _ => exact ⟨_, a0, rfl⟩
    | 1, _ => exact ⟨_, a1, rfl⟩
    | 2, _ => exact ⟨_, a2, rfl⟩
    | 3, _ => exact ⟨_, a3, rfl⟩
    | 4, _ => exact ⟨_, a4, rfl⟩
    | 5, _ => exact ⟨_, a5, rfl⟩
    | 6, _ => exact slR_one a6
    | 7, _ => exact slR_one a7
    | 8, _ => exact slR_one a8
    | 9, _ => exact ⟨_, a9, rfl⟩
    | 10, _ => exact ⟨_, a10, rfl⟩
    | 11, _ => exact ⟨_, a11, rfl⟩
    | 12, _ => exact ⟨_, a12, rfl⟩
    | 13, _ => exact ⟨_, a13, rfl⟩
    | 14, _ => exact ⟨_, a14, rfl⟩
    | 15, _ => exact ⟨_, a15, rfl⟩
    | 16, _ => exact slR_one a16
    | 17, _ => exact slR_one a17
    | 18, _ => exact slR_one a18
    | 19, _ => exact ⟨_, a19, rfl⟩
    | 20, _ => exact ⟨_, a20, rfl⟩
    | 21, _ => exact ⟨_, a21, rfl⟩
    | 22, _ => exact ⟨_, a22, rfl⟩
    | 23, _ => exact slR_one a23
    | 24, _ => exact slR_one a24
    | 25, _ => exact ⟨_, a25, rfl⟩
    | 26, _ => exact ⟨_, a26, rfl⟩
    | 27, _ => exact ⟨_, a27, rfl⟩
    | 28, _ => exact ⟨_, a28, rfl⟩
    | 29, _ => exact ⟨_, a29, rfl⟩
    | 30, _ => exact ⟨_, a30, rfl⟩
    | 31, _ => exact ⟨_, a31, rfl⟩
    | 32, _ => exact slR_one a32
    | 33, _ => exact slR_one a33
    | 34, _ => exact ⟨_, a34, rfl⟩
    | 35, _ => exact ⟨_, a35, rfl⟩
    | 36, _ => exact ⟨_, a36, rfl⟩
    | 37, _ => exact ⟨_, a37, rfl⟩
    | 38, _ => exact slR_one a38
    | 39, _ => exact ⟨_, a39, rfl⟩
    | 40, _ => exact ⟨_, a40, rfl⟩
    | 41, _ => exact ⟨_, a41, rfl⟩
    | 42, _ => exact slR_one a42
    | 43, _ => exact ⟨_, a43, rfl⟩
    | 44, _ => exact ⟨_, a44, rfl⟩
    | 45, _ => exact slR_one a45
    | 46, _ => exact slR_one a46
    | n + 47, h => omega
  rw [Array.all_eq_true]
  intro i hi
  obtain ⟨u, h1, h2⟩ := each i (by omega)
  rw [Array.getElem?_eq_getElem hi] at h1
  injection h1 with h1
  rw [h1]
  exact h2

end Go.Proofs.Ytfmllfolpcimpaa
