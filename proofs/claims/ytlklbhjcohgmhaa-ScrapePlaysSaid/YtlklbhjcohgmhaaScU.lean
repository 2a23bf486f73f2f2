/- The law's model: a slice of series, each with a slice of samples. -/
import Derived.Test.YtlklbhjcohgmhaaScT
import Derived.Laws.StructEq
import Derived.Laws.OwnMore
import Derived.Sort.CutIn
namespace Go.Proofs.Ytlklbhjcohgmhaa
open Go.RowKit Go.Lib Go.Shelf Go.Sort
open Go.Joins (cell_of_block unfrozen_of_block block_setCell)
set_option linter.unusedVariables false
set_option linter.unusedSimpArgs false
set_option maxRecDepth 20000

abbrev TSer : TypeId := 44
abbrev SlSer : TypeId := 31
/-- A series of the model: its samples' slice. -/
structure Me where
  (s : Sr)
  (l : List (Int × Int))
  (q : Option Addr)
  (c : Nat)
def enMe (x : Me) : List Value := [.string x.s.1, .string x.s.2, .slice x.q x.l.length x.c]
def flM (M : List Me) : List Value := M.flatMap enMe
theorem flM_len : ∀ M : List Me, (flM M).length = M.length * 3
  | [] => rfl
  | x :: M => by
    have := flM_len M
    unfold flM at this ⊢
    rw [List.flatMap_cons, List.length_append, this]
    simp only [enMe, List.length_cons, List.length_nil]
    omega
theorem flM_app (A B : List Me) : flM (A ++ B) = flM A ++ flM B := by unfold flM; rw [List.flatMap_append]
theorem flM_cons (x : Me) (B : List Me) : flM (x :: B) = enMe x ++ flM B := by unfold flM; rw [List.flatMap_cons]
theorem flM_at (M : List Me) (i : Nat) (x : Me) (h : M[i]? = some x) : (flM M)[i * 3]? = some (.string x.s.1) ∧ (flM M)[i * 3 + 1]? = some (.string x.s.2) ∧ (flM M)[i * 3 + 2]? = some (.slice x.q x.l.length x.c) := by
  obtain ⟨hl, rfl⟩ := List.getElem?_eq_some_iff.1 h
  have e : M = M.take i ++ M[i] :: M.drop (i + 1) := by simp
  have e1 : (flM (M.take i)).length = i * 3 := by rw [flM_len, List.length_take]; congr 1; omega
  have e2 : flM M = flM (M.take i) ++ (enMe M[i] ++ flM (M.drop (i + 1))) := by rw [← flM_cons, ← flM_app, ← e]
  rw [e2]
  refine ⟨?_, ?_, ?_⟩
  · rw [List.getElem?_append_right (by omega), e1, show i * 3 - i * 3 = 0 by omega]; rfl
  · rw [List.getElem?_append_right (by omega), e1, show i * 3 + 1 - i * 3 = 1 by omega]; rfl
  · rw [List.getElem?_append_right (by omega), e1, show i * 3 + 2 - i * 3 = 2 by omega]; rfl
theorem flM_set (A B : List Me) (x x' : Me) (hs : x'.s = x.s) : (flM (A ++ x :: B)).set (A.length * 3 + 2) (.slice x'.q x'.l.length x'.c) = flM (A ++ x' :: B) := by
  rw [flM_app, flM_app, flM_cons, flM_cons, ← flM_len A, List.set_append_right _ _ (by omega)]
  congr 1
  rw [show (flM A).length + 2 - (flM A).length = 2 by omega, List.set_append_left _ _ (by simp [enMe])]
  congr 1
  simp [enMe, hs]
def blkOf (q : Option Addr) : List Nat := match q with | some a => [a.block] | none => []
theorem blk_iff {q : Option Addr} {g : Nat} : g ∈ blkOf q ↔ ownBQ q g := by
  unfold blkOf ownBQ
  cases q with
  | none => simp
  | some a => simp [eq_comm]
/-- The model's blocks. -/
def mfoot (bx : Nat) (q : Option Addr) (M : List Me) : List Nat := bx :: (blkOf q ++ M.flatMap (fun x => blkOf x.q))
theorem mfoot_mem {bx : Nat} {q : Option Addr} {M : List Me} {g : Nat} : g ∈ mfoot bx q M ↔ g = bx ∨ ownBQ q g ∨ ∃ x ∈ M, ownBQ x.q g := by
  unfold mfoot
  rw [List.mem_cons, List.mem_append, blk_iff, List.mem_flatMap]
  refine or_congr Iff.rfl (or_congr Iff.rfl ⟨fun ⟨x, h1, h2⟩ => ⟨x, h1, blk_iff.1 h2⟩, fun ⟨x, h1, h2⟩ => ⟨x, h1, blk_iff.2 h2⟩⟩)
/-- The cell holds the slice of these. -/
structure Mod (N : Nat) (w : World) (bx : Nat) (q : Option Addr) (c : Nat) (M : List Me) : Prop where
  box : w.heap[bx]? = some (.cells #[.slice q M.length c] SlSer (0, 0))
  row : w.ownsRow N TSer 3 (.slice q M.length c) M.length (flM M)
  mo : ∀ x ∈ M, MoQ N w x.q x.c x.l
  blks : (mfoot bx q M).Nodup
  low : N ≤ bx
section
variable {N : Nat} {w w' : World} {bx : Nat} {q : Option Addr} {c : Nat} {M : List Me}
theorem row_blk {w : World} {N n c s : Nat} {T : TypeId} {q : Option Addr} {xs : List Value} (h : w.ownsRow N T s (.slice q n c) n xs) {g : Nat} (hg : ownBQ q g) : N ≤ g ∧ g < w.heap.size ∧ (Value.slice q n c).ownBlock = some g ∧ q = some ⟨g, 0, none⟩ := by
  obtain ⟨a, rfl, rfl⟩ := hg
  rcases h.2 with ⟨e, _⟩ | ⟨g, cap, cur, e, hb, hg, _⟩
  · cases e
  · simp only [Value.slice.injEq, Option.some.injEq] at e
    obtain ⟨rfl, _⟩ := e
    exact ⟨hb, (Array.getElem?_eq_some_iff.1 hg).1, rfl, rfl⟩
theorem row_own {w : World} {N n c s : Nat} {T : TypeId} {q : Option Addr} {xs : List Value} (h : w.ownsRow N T s (.slice q n c) n xs) {g : Nat} (hg : (Value.slice q n c).ownBlock = some g) : ownBQ q g := by
  rcases h.2 with ⟨e, _⟩ | ⟨g', cap, cur, e, hb, hg', _⟩
  · cases e; cases hg
  · simp only [Value.slice.injEq] at e
    obtain ⟨rfl, _⟩ := e
    simp [Value.ownBlock] at hg
    subst hg
    exact ⟨_, rfl, rfl⟩
theorem row_keep {w w' : World} {N n c s : Nat} {T : TypeId} {q : Option Addr} {xs : List Value} (h : w.ownsRow N T s (.slice q n c) n xs) (hk : ∀ g, ownBQ q g → w'.heap[g]? = w.heap[g]?) : w'.ownsRow N T s (.slice q n c) n xs := by
  obtain ⟨h0, h⟩ := h
  refine ⟨h0, ?_⟩
  rcases h with h | ⟨g, cap, cur, e, hb, hg, r⟩
  · exact .inl h
  · simp only [Value.slice.injEq] at e
    obtain ⟨rfl, e2⟩ := e
    exact .inr ⟨g, cap, cur, by rw [e2.2], hb, (hk g ⟨_, rfl, rfl⟩).trans hg, r⟩
theorem Mod.lt (h : Mod N w bx q c M) : ∀ g ∈ mfoot bx q M, N ≤ g ∧ g < w.heap.size := fun g hg => by
  rcases mfoot_mem.1 hg with rfl | hg | ⟨x, hx, hg⟩
  · exact ⟨h.low, (Array.getElem?_eq_some_iff.1 h.box).1⟩
  · have := row_blk h.row hg
    exact ⟨this.1, this.2.1⟩
  · exact (h.mo x hx).lt hg
theorem Mod.keep (h : Mod N w bx q c M) (hk : ∀ g ∈ mfoot bx q M, w'.heap[g]? = w.heap[g]?) : Mod N w' bx q c M :=
  ⟨(hk bx (mfoot_mem.2 (.inl rfl))).trans h.box, row_keep h.row (fun g hg => hk g (mfoot_mem.2 (.inr (.inl hg)))), fun x hx => (h.mo x hx).keep (fun g hg _ => hk g (mfoot_mem.2 (.inr (.inr ⟨x, hx, hg⟩)))), h.blks, h.low⟩
theorem Mod.gr (h : Mod N w bx q c M) (b : Below w.heap.size w w') : Mod N w' bx q c M := h.keep (fun g hg => b.block g (h.lt g hg).2)
theorem Mod.tch {S : List Nat} (h : Mod N w bx q c M) (t : Tch S w w') (hS : ∀ g ∈ mfoot bx q M, g ∉ S) : Mod N w' bx q c M := h.keep (fun g hg => t.block g (h.lt g hg).2 (hS g hg))
/-- The row's cells. -/
theorem row_cells {N : Nat} {w : World} {q : Option Addr} {c : Nat} {M : List Me} (h : w.ownsRow N TSer 3 (.slice q M.length c) M.length (flM M)) {i : Nat} {x : Me} (hx : M[i]? = some x) : ∃ g : Nat, q = some ⟨g, 0, none⟩ ∧ N ≤ g ∧ g < w.heap.size ∧ w.cell? ⟨g, i * 3, none⟩ = some (.string x.s.1) ∧ w.cell? ⟨g, i * 3 + 1, none⟩ = some (.string x.s.2) ∧ w.cell? ⟨g, i * 3 + 2, none⟩ = some (.slice x.q x.l.length x.c) ∧ w.frozen? ⟨g, i * 3 + 2, none⟩ = false := by
  have hi := (List.getElem?_eq_some_iff.1 hx).1
  rcases h.2 with ⟨e, h0⟩ | ⟨g, cap, cur, e, hb, hg, hn, hm, hc, ht⟩
  · omega
  · simp only [Value.slice.injEq] at e
    obtain ⟨rfl, _⟩ := e
    have f := flM_at M i x hx
    have e2 : ∀ j v, j < M.length * 3 → (flM M)[j]? = some v → cur[j]? = some v := fun j v hj hv => by
      rw [← ht, List.getElem?_take_of_lt hj, Array.getElem?_toList] at hv
      exact hv
    exact ⟨g, rfl, hb, (Array.getElem?_eq_some_iff.1 hg).1, by rw [cell_of_block hg]; exact e2 _ _ (by omega) f.1, by rw [cell_of_block hg]; exact e2 _ _ (by omega) f.2.1, by rw [cell_of_block hg]; exact e2 _ _ (by omega) f.2.2, unfrozen_of_block hg _⟩
end
/-- The row, where one slice in it is set. -/
theorem row_set {N : Nat} {w : World} {g c : Nat} {A B : List Me} {x x' : Me} (hs : x'.s = x.s) (h : w.ownsRow N TSer 3 (.slice (some ⟨g, 0, none⟩) (A ++ x :: B).length c) (A ++ x :: B).length (flM (A ++ x :: B))) :
    (w.setCell ⟨g, A.length * 3 + 2, none⟩ (.slice x'.q x'.l.length x'.c)).ownsRow N TSer 3 (.slice (some ⟨g, 0, none⟩) (A ++ x' :: B).length c) (A ++ x' :: B).length (flM (A ++ x' :: B)) := by
  have hlen : (A ++ x' :: B).length = (A ++ x :: B).length := by simp
  rw [hlen]
  obtain ⟨h0, h⟩ := h
  refine ⟨by rw [flM_len, hlen], ?_⟩
  rcases h with ⟨e, _⟩ | ⟨g', cap, cur, e, hb, hg, hn, hm, hc, ht⟩
  · cases e
  · simp only [Value.slice.injEq, Option.some.injEq, Addr.mk.injEq, and_true, true_and] at e
    obtain ⟨rfl, rfl⟩ := e
    refine .inr ⟨g, c, cur.setIfInBounds (A.length * 3 + 2) (.slice x'.q x'.l.length x'.c), rfl, hb, block_setCell hg _, hn, hm, by simpa using hc, ?_⟩
    rw [Array.toList_setIfInBounds, List.take_set, ht, flM_set A B x x' hs]
end Go.Proofs.Ytlklbhjcohgmhaa
