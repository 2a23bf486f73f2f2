/- The law's model: a series' samples set, a series more, others alone. -/
import Derived.Test.YtlklbhjcohgmhaaScU
import Derived.Test.YtlklbhjcohgmhaaScB
namespace Go.Proofs.Ytlklbhjcohgmhaa
open Go.RowKit Go.Lib Go.Shelf Go.Sort
open Go.Joins (cell_of_block unfrozen_of_block block_setCell)
set_option linter.unusedVariables false
set_option linter.unusedSimpArgs false
set_option maxRecDepth 20000

def mrest (bx : Nat) (q : Option Addr) (A B : List Me) : List Nat := bx :: (blkOf q ++ (A.flatMap (fun x => blkOf x.q) ++ B.flatMap (fun x => blkOf x.q)))
theorem mfoot_perm (bx : Nat) (q : Option Addr) (A B : List Me) (x : Me) : (mfoot bx q (A ++ x :: B)).Perm (blkOf x.q ++ mrest bx q A B) := by
  unfold mfoot mrest
  rw [List.flatMap_append, List.flatMap_cons]
  have h1 : (A.flatMap (fun x => blkOf x.q) ++ (blkOf x.q ++ B.flatMap (fun x => blkOf x.q))).Perm (blkOf x.q ++ (A.flatMap (fun x => blkOf x.q) ++ B.flatMap (fun x => blkOf x.q))) := by
    rw [← List.append_assoc, ← List.append_assoc]
    exact List.Perm.append_right _ List.perm_append_comm
  have h2 : (blkOf q ++ (A.flatMap (fun x => blkOf x.q) ++ (blkOf x.q ++ B.flatMap (fun x => blkOf x.q)))).Perm (blkOf x.q ++ (blkOf q ++ (A.flatMap (fun x => blkOf x.q) ++ B.flatMap (fun x => blkOf x.q)))) := by
    refine (List.Perm.append_left _ h1).trans ?_
    rw [← List.append_assoc, ← List.append_assoc (blkOf x.q)]
    exact List.Perm.append_right _ List.perm_append_comm
  refine (List.Perm.cons _ h2).trans ?_
  exact (List.perm_middle (a := bx) (l₁ := blkOf x.q)).symm
theorem mrest_mem {bx : Nat} {q : Option Addr} {A B : List Me} {g : Nat} : g ∈ mrest bx q A B ↔ g = bx ∨ ownBQ q g ∨ ∃ x ∈ A ++ B, ownBQ x.q g := by
  unfold mrest
  rw [← List.flatMap_append]
  exact mfoot_mem (M := A ++ B)
theorem blk_nodup (q : Option Addr) : (blkOf q).Nodup := by
  unfold blkOf
  cases q <;> simp
section
variable {N : Nat} {w : World} {bx : Nat} {q : Option Addr} {c : Nat} {A B : List Me} {x : Me}
theorem Mod.sep (h : Mod N w bx q c (A ++ x :: B)) : (mrest bx q A B).Nodup ∧ ∀ g ∈ mrest bx q A B, ¬ ownBQ x.q g := by
  have := (mfoot_perm bx q A B x).nodup_iff.1 h.blks
  rw [List.nodup_append] at this
  exact ⟨this.2.1, fun g hg ho => this.2.2 g (blk_iff.2 ho) g hg rfl⟩
/-- The rest stays. -/
theorem Mod.still {w5 w6 : World} (h : Mod N w bx q c (A ++ x :: B)) (b5 : Below w.heap.size w w5) (t6 : ∃ S, Tch S w5 w6 ∧ ∀ g ∈ S, ownBQ x.q g) : ∀ k ∈ mrest bx q A B, w6.heap[k]? = w.heap[k]? := fun k hk => by
  obtain ⟨S, t6, hS⟩ := t6
  have t : Tch S w w6 := (Tch.ofBelow b5 S).trans t6 (fun g hg => .inl hg)
  have hk' : k ∈ mfoot bx q (A ++ x :: B) := (mfoot_perm bx q A B x).mem_iff.2 (List.mem_append_right _ hk)
  exact t.block k (h.lt k hk').2 (fun hm => h.sep.2 k hk (hS k hm))
/-- One's samples are set anew. -/
theorem Mod.push {w5 w6 : World} (h : Mod N w bx q c (A ++ x :: B)) (b5 : Below w.heap.size w w5) {q6 : Option Addr} {c6 : Nat} {l6 : List (Int × Int)} (mo6 : MoQ N w6 q6 c6 l6) (t6 : ∃ S, Tch S w5 w6 ∧ ∀ g ∈ S, ownBQ x.q g) (hq : ∀ g, ownBQ q6 g → ownBQ x.q g ∨ w.heap.size ≤ g) {g : Nat} (hqg : q = some ⟨g, 0, none⟩) :
    Mod N (w6.setCell ⟨g, A.length * 3 + 2, none⟩ (.slice q6 l6.length c6)) bx q c (A ++ { x with l := l6, q := q6, c := c6 } :: B) ∧ (∃ S, Tch S w (w6.setCell ⟨g, A.length * 3 + 2, none⟩ (.slice q6 l6.length c6)) ∧ ∀ k ∈ S, k ∈ mfoot bx q (A ++ x :: B)) ∧ ∀ k ∈ mfoot bx q (A ++ { x with l := l6, q := q6, c := c6 } :: B), k ∈ mfoot bx q (A ++ x :: B) ∨ w.heap.size ≤ k := by
  obtain ⟨S, t6, hS⟩ := t6
  obtain ⟨s1, s2⟩ := h.sep
  have t : Tch S w w6 := (Tch.ofBelow b5 S).trans t6 (fun g hg => .inl hg)
  have hg : ownBQ q g := ⟨_, hqg, rfl⟩
  have rest : ∀ k, k ∈ mrest bx q A B → k < w.heap.size ∧ w6.heap[k]? = w.heap[k]? := fun k hk => by
    have hk' : k ∈ mfoot bx q (A ++ x :: B) := (mfoot_perm bx q A B x).mem_iff.2 (List.mem_append_right _ hk)
    have hl := (h.lt k hk').2
    exact ⟨hl, t.block k hl (fun hm => s2 k hk (hS k hm))⟩
  have gm : g ∈ mrest bx q A B := mrest_mem.2 (.inr (.inl hg))
  have bm : bx ∈ mrest bx q A B := mrest_mem.2 (.inl rfl)
  have hbg : bx ≠ g := by
    unfold mrest at s1
    rw [List.nodup_cons] at s1
    intro e
    exact s1.1 (List.mem_append_left _ (blk_iff.2 (e ▸ hg)))
  have hyg : ∀ y ∈ A ++ B, ¬ ownBQ y.q g := fun y hy ho => by
    unfold mrest at s1
    rw [List.nodup_cons, List.nodup_append, ← List.flatMap_append] at s1
    exact s1.2.2.2 g (blk_iff.2 hg) g (List.mem_flatMap.2 ⟨y, hy, blk_iff.2 ho⟩) rfl
  have h6g : ¬ ownBQ q6 g := fun ho => by
    rcases hq g ho with h1 | h1
    · exact s2 g gm h1
    · have := (rest g gm).1
      omega
  have keep7 : ∀ k, k ≠ g → (w6.setCell ⟨g, A.length * 3 + 2, none⟩ (.slice q6 l6.length c6)).heap[k]? = w6.heap[k]? := fun k hk => Below.heap_setCell _ _ _ _ (by show k ≠ g; exact hk)
  refine ⟨⟨?_, ?_, fun y hy => ?_, ?_, h.low⟩, ⟨g :: S, (t.less (fun k hk => .inl (List.mem_cons_of_mem _ hk))).setCell _ _ (.inl List.mem_cons_self), fun k hk => ?_⟩, fun k hk => ?_⟩
  · rw [keep7 bx hbg, (rest bx bm).2, h.box]
    simp
  · have r6 : w6.ownsRow N TSer 3 (.slice (some ⟨g, 0, none⟩) (A ++ x :: B).length c) (A ++ x :: B).length (flM (A ++ x :: B)) := by
      have := row_keep h.row (w' := w6) (fun k hk => (rest k (mrest_mem.2 (.inr (.inl hk)))).2)
      rw [hqg] at this
      exact this
    have := row_set (x := x) (x' := { x with l := l6, q := q6, c := c6 }) rfl r6
    rw [hqg]
    exact this
  · rcases List.mem_append.1 hy with hy | hy
    · refine ((h.mo y (List.mem_append_left _ hy)).keep (fun k hk _ => (rest k (mrest_mem.2 (.inr (.inr ⟨y, List.mem_append_left _ hy, hk⟩)))).2)).keep (fun k hk _ => keep7 k (fun e => hyg y (List.mem_append_left _ hy) (e ▸ hk)))
    · rcases List.mem_cons.1 hy with rfl | hy
      · exact mo6.keep (fun k hk _ => keep7 k (fun e => h6g (e ▸ hk)))
      · refine ((h.mo y (List.mem_append_right _ (List.mem_cons_of_mem _ hy))).keep (fun k hk _ => (rest k (mrest_mem.2 (.inr (.inr ⟨y, List.mem_append_right _ hy, hk⟩)))).2)).keep (fun k hk _ => keep7 k (fun e => hyg y (List.mem_append_right _ hy) (e ▸ hk)))
  · refine (mfoot_perm bx q A B _).nodup_iff.2 (List.nodup_append.2 ⟨blk_nodup _, s1, fun a ha b hb e => ?_⟩)
    subst e
    rcases hq a (blk_iff.1 ha) with h1 | h1
    · exact s2 a hb h1
    · have := (rest a hb).1
      omega
  · rcases List.mem_cons.1 hk with rfl | hk
    · exact mfoot_mem.2 (.inr (.inl hg))
    · exact mfoot_mem.2 (.inr (.inr ⟨x, by simp, hS k hk⟩))
  · rcases List.mem_append.1 ((mfoot_perm bx q A B _).mem_iff.1 hk) with hk | hk
    · rcases hq k (blk_iff.1 hk) with h1 | h1
      · exact .inl (mfoot_mem.2 (.inr (.inr ⟨x, by simp, h1⟩)))
      · exact .inr h1
    · exact .inl ((mfoot_perm bx q A B x).mem_iff.2 (List.mem_append_right _ hk))
end
/-- A series without samples. -/
def me0 (s : Sr) : Me := ⟨s, [], none, 0⟩
theorem Mod.add {N : Nat} {w w5 w6 : World} {bx : Nat} {q : Option Addr} {c : Nat} {M : List Me} {s : Sr} {g cap : Nat} (h : Mod N w bx q c M) (b5 : Below w.heap.size w w5) (hNw : N ≤ w.heap.size)
    (own : w6.ownsRow N TSer 3 (.slice (some ⟨g, 0, none⟩) (M.length + 1) cap) (M.length + 1) (flM M ++ enMe (me0 s))) (hgr : w5.grownBy w6 (Value.slice q M.length c).ownBlock) (hat : (Value.slice q M.length c).ownBlock = some g ∨ g = w5.heap.size) :
    w6.cell? ⟨bx, 0, none⟩ = some (.slice q M.length c) ∧ w6.frozen? ⟨bx, 0, none⟩ = false ∧ Mod N (w6.setCell ⟨bx, 0, none⟩ (.slice (some ⟨g, 0, none⟩) (M.length + 1) cap)) bx (some ⟨g, 0, none⟩) cap (M ++ [me0 s]) ∧
    (∃ S, Tch S w (w6.setCell ⟨bx, 0, none⟩ (.slice (some ⟨g, 0, none⟩) (M.length + 1) cap)) ∧ ∀ k ∈ S, k ∈ mfoot bx q M) ∧ ∀ k ∈ mfoot bx (some ⟨g, 0, none⟩) (M ++ [me0 s]), k ∈ mfoot bx q M ∨ w.heap.size ≤ k := by
  have hsz5 := b5.size
  have t : Tch (Value.slice q M.length c).ownBlock.toList w w6 := (Tch.ofBelow b5 _).trans (Tch.ofGrown hgr (fun g e => .inl (by rw [e]; simp))) (fun g hg => .inl hg)
  have hob : ∀ k, k ∈ (Value.slice q M.length c).ownBlock.toList → ownBQ q k := fun k hk => row_own h.row (by simpa using hk)
  have hn := h.blks
  unfold mfoot at hn
  rw [List.nodup_cons, List.nodup_append] at hn
  have hbq : ¬ ownBQ q bx := fun ho => hn.1 (List.mem_append_left _ (blk_iff.2 ho))
  have hyq : ∀ y ∈ M, ∀ k, ownBQ y.q k → ¬ ownBQ q k := fun y hy k h1 h2 => hn.2.2.2 k (blk_iff.2 h2) k (List.mem_flatMap.2 ⟨y, hy, blk_iff.2 h1⟩) rfl
  have hyb : ∀ y ∈ M, ¬ ownBQ y.q bx := fun y hy ho => hn.1 (List.mem_append_right _ (List.mem_flatMap.2 ⟨y, hy, blk_iff.2 ho⟩))
  have lt := h.lt
  have hbl := (lt bx (mfoot_mem.2 (.inl rfl))).2
  have b6 : w6.heap[bx]? = some (.cells #[.slice q M.length c] SlSer (0, 0)) := (t.block bx hbl (fun hm => hbq (hob _ hm))).trans h.box
  have gq : ownBQ q g ∨ w.heap.size ≤ g := by
    rcases hat with e | e
    · exact .inl (row_own h.row e)
    · exact .inr (by omega)
  have hbg : bx ≠ g := fun e => by
    rcases gq with h1 | h1
    · exact hbq (e ▸ h1)
    · omega
  have keep7 : ∀ k, k ≠ bx → (w6.setCell ⟨bx, 0, none⟩ (.slice (some ⟨g, 0, none⟩) (M.length + 1) cap)).heap[k]? = w6.heap[k]? := fun k hk => Below.heap_setCell _ _ _ _ (by show k ≠ bx; exact hk)
  have hg1 : ∀ k, ownBQ (some ⟨g, 0, none⟩) k → k = g := fun k ⟨a, h1, h2⟩ => by cases h1; exact h2.symm
  have mo7 : ∀ y ∈ M ++ [me0 s], MoQ N (w6.setCell ⟨bx, 0, none⟩ (.slice (some ⟨g, 0, none⟩) (M.length + 1) cap)) y.q y.c y.l := fun y hy => by
    rcases List.mem_append.1 hy with hy | hy
    · exact ((h.mo y hy).keep (fun k hk hl => t.block k hl (fun hm => hyq y hy k hk (hob k hm)))).keep (fun k hk _ => keep7 k (fun e => hyb y hy (e ▸ hk)))
    · rw [List.mem_singleton] at hy
      subst hy
      exact MoQ.nil _ _
  have hrow : (w6.setCell ⟨bx, 0, none⟩ (.slice (some ⟨g, 0, none⟩) (M.length + 1) cap)).ownsRow N TSer 3 (.slice (some ⟨g, 0, none⟩) (M ++ [me0 s]).length cap) (M ++ [me0 s]).length (flM (M ++ [me0 s])) := by
    rw [List.length_append, flM_app]
    have e : flM [me0 s] = enMe (me0 s) := by unfold flM; simp
    rw [e]
    exact row_keep own (fun k hk => keep7 k (by rw [hg1 k hk]; exact fun e => hbg e.symm))
  refine ⟨cell_of_block b6 0, unfrozen_of_block b6 0, ⟨?_, hrow, mo7, ?_, h.low⟩, ⟨bx :: (Value.slice q M.length c).ownBlock.toList, (t.less (fun k hk => .inl (List.mem_cons_of_mem _ hk))).setCell _ _ (.inl List.mem_cons_self), fun k hk => ?_⟩, fun k hk => ?_⟩
  · rw [block_setCell b6, List.length_append]
    rfl
  · unfold mfoot
    rw [List.flatMap_append, List.nodup_cons, List.nodup_append]
    have e0 : [me0 s].flatMap (fun x => blkOf x.q) = [] := by simp [me0, blkOf]
    rw [e0, List.append_nil]
    refine ⟨fun hm => ?_, blk_nodup _, hn.2.2.1, fun a ha b hb e => ?_⟩
    · rcases List.mem_append.1 hm with hm | hm
      · exact hbg (hg1 _ (blk_iff.1 hm))
      · exact hn.1 (List.mem_append_right _ hm)
    · subst e
      have hag := hg1 _ (blk_iff.1 ha)
      obtain ⟨y, hy, hyk⟩ := List.mem_flatMap.1 hb
      have hyk := blk_iff.1 hyk
      rcases gq with h1 | h1
      · exact hyq y hy a hyk (hag ▸ h1)
      · have := (lt a (mfoot_mem.2 (.inr (.inr ⟨y, hy, hyk⟩)))).2
        omega
  · rcases List.mem_cons.1 hk with rfl | hk
    · exact mfoot_mem.2 (.inl rfl)
    · exact mfoot_mem.2 (.inr (.inl (hob k hk)))
  · rcases mfoot_mem.1 hk with rfl | hk | ⟨y, hy, hk⟩
    · exact .inl (mfoot_mem.2 (.inl rfl))
    · have e := hg1 k hk
      subst e
      rcases gq with h1 | h1
      · exact .inl (mfoot_mem.2 (.inr (.inl h1)))
      · exact .inr h1
    · rcases List.mem_append.1 hy with hy | hy
      · exact .inl (mfoot_mem.2 (.inr (.inr ⟨y, hy, hk⟩)))
      · rw [List.mem_singleton] at hy
        subst hy
        obtain ⟨a, h1, _⟩ := hk
        cases h1
/-- Another row in the place of this one, of some of these. -/
theorem Mod.swap {N : Nat} {w w6 : World} {bx : Nat} {q q' : Option Addr} {c c' : Nat} {M M' : List Me} (h : Mod N w bx q c M) (b6 : Below w.heap.size w w6) (hN : N ≤ w.heap.size) (sub : List.Sublist M' M)
    (own : w6.ownsRow w.heap.size TSer 3 (.slice q' M'.length c') M'.length (flM M')) :
    w6.cell? ⟨bx, 0, none⟩ = some (.slice q M.length c) ∧ w6.frozen? ⟨bx, 0, none⟩ = false ∧ Mod N (w6.setCell ⟨bx, 0, none⟩ (.slice q' M'.length c')) bx q' c' M' ∧ Tch [bx] w (w6.setCell ⟨bx, 0, none⟩ (.slice q' M'.length c')) ∧ ∀ k ∈ mfoot bx q' M', k ∈ mfoot bx q M ∨ w.heap.size ≤ k := by
  have h6 := h.gr b6
  have hn := h.blks
  unfold mfoot at hn
  rw [List.nodup_cons, List.nodup_append] at hn
  have hyb : ∀ y ∈ M, ¬ ownBQ y.q bx := fun y hy ho => hn.1 (List.mem_append_right _ (List.mem_flatMap.2 ⟨y, hy, blk_iff.2 ho⟩))
  have lt := h.lt
  have hbl := (lt bx (mfoot_mem.2 (.inl rfl))).2
  have keep7 : ∀ k, k ≠ bx → (w6.setCell ⟨bx, 0, none⟩ (.slice q' M'.length c')).heap[k]? = w6.heap[k]? := fun k hk => Below.heap_setCell _ _ _ _ (by show k ≠ bx; exact hk)
  have hq' : ∀ k, ownBQ q' k → w.heap.size ≤ k := fun k hk => (row_blk own hk).1
  refine ⟨cell_of_block h6.box 0, unfrozen_of_block h6.box 0, ⟨?_, ?_, fun y hy => ?_, ?_, h.low⟩, (Tch.ofBelow b6 [bx]).setCell _ _ (.inl (by simp)), fun k hk => ?_⟩
  · rw [block_setCell h6.box]
    rfl
  · have o2 := row_keep own (w' := w6.setCell ⟨bx, 0, none⟩ (.slice q' M'.length c')) (fun k hk => keep7 k (by have := hq' k hk; omega))
    obtain ⟨h0, o2⟩ := o2
    refine ⟨h0, ?_⟩
    rcases o2 with o2 | ⟨g, cap, cur, e, hb, r⟩
    · exact .inl o2
    · exact .inr ⟨g, cap, cur, e, by omega, r⟩
  · exact (h6.mo y (sub.subset hy)).keep (fun k hk _ => keep7 k (fun e => hyb y (sub.subset hy) (e ▸ hk)))
  · unfold mfoot
    rw [List.nodup_cons, List.nodup_append]
    have hsub : List.Sublist (M'.flatMap (fun x => blkOf x.q)) (M.flatMap (fun x => blkOf x.q)) := by
      clear own hq' keep7 hyb hn lt h6 h
      induction sub with
      | slnil => exact List.Sublist.refl _
      | cons a h ih => rw [List.flatMap_cons]; exact ih.trans (List.sublist_append_right _ _)
      | cons_cons a h ih => rw [List.flatMap_cons, List.flatMap_cons]; exact (List.Sublist.refl _).append ih
    refine ⟨fun hm => ?_, blk_nodup _, hn.2.2.1.sublist hsub, fun a ha b hb e => ?_⟩
    · rcases List.mem_append.1 hm with hm | hm
      · have := hq' _ (blk_iff.1 hm); omega
      · exact hn.1 (List.mem_append_right _ (hsub.subset hm))
    · subst e
      obtain ⟨y, hy, hyk⟩ := List.mem_flatMap.1 hb
      have := hq' _ (blk_iff.1 ha)
      have := (lt a (mfoot_mem.2 (.inr (.inr ⟨y, sub.subset hy, blk_iff.1 hyk⟩)))).2
      omega
  · rcases mfoot_mem.1 hk with rfl | hk | ⟨y, hy, hk⟩
    · exact .inl (mfoot_mem.2 (.inl rfl))
    · exact .inr (hq' k hk)
    · exact .inl (mfoot_mem.2 (.inr (.inr ⟨y, sub.subset hy, hk⟩)))
end Go.Proofs.Ytlklbhjcohgmhaa
