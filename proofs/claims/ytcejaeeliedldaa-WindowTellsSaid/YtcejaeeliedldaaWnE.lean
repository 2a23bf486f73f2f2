/- Layer 21 (window): a memory, in memory; the last tick; how many ticks; none. -/
import Derived.Test.YtcejaeeliedldaaWnA
namespace Go.Proofs.Ytcejaeeliedldaa.Wn
open Go.RowKit Go.Shelf Go.Lib Go.Sort Go.Deep
open Go.Joins (cell_of_block unfrozen_of_block block_setCell)
open Go.Proofs.Ytcejaeeliedldaa.Ow
set_option linter.unusedVariables false
set_option linter.unusedSimpArgs false
set_option maxRecDepth 20000

/-- The block is a memory of these ticks, in a row of the call's own. -/
structure Mem (N : Nat) (w : World) (mb : Nat) (v : Value) (l : List Tk) : Prop where
  blk : w.heap[mb]? = some (.cells #[v] MT (0, 0))
  own : OwnK N w v l
  bs : N ≤ mb
section
variable {N : Nat} {w w' : World} {mb : Nat} {v : Value} {l : List Tk}
theorem Mem.lt (h : Mem N w mb v l) : mb < w.heap.size := (Array.getElem?_eq_some_iff.1 h.blk).1
theorem Mem.ne (h : Mem N w mb v l) : v.ownBlock ≠ some mb := own_ne h.own h.blk (by decide)
theorem Mem.ownLt (h : Mem N w mb v l) {g : Nat} (hg : v.ownBlock = some g) : N ≤ g ∧ g < w.heap.size := lt_own h.own hg
theorem Mem.below (h : Mem N w mb v l) (b : Below w.heap.size w w') : Mem N w' mb v l := ⟨(b.block _ h.lt).trans h.blk, below_own h.own b, h.bs⟩
theorem Mem.drewN (h : Mem N w mb v l) (k : Nat) : Mem N (w.drewN k) mb v l := ⟨h.blk, own_block h.own (fun _ _ => rfl), h.bs⟩
theorem Mem.tch {S : List Nat} (h : Mem N w mb v l) (t : Tch S w w') (h1 : mb ∉ S) (h2 : ∀ g, v.ownBlock = some g → g ∉ S) : Mem N w' mb v l :=
  ⟨(t.block _ h.lt h1).trans h.blk, own_block h.own (fun g hg => t.block g (h.ownLt hg).2 (h2 g hg)), h.bs⟩
theorem Mem.c0 (h : Mem N w mb v l) : w.cell? ⟨mb, 0, none⟩ = some v := cell_of_block h.blk 0
/-- How its row lies. -/
theorem Mem.row (h : Mem N w mb v l) : ∃ q c, v = .slice q l.length c ∧ RowR 3 encS w q l ∧ (q = none → c = 0) ∧ l.length ≤ c ∧ c ≤ maxLen := by
  obtain ⟨q, c, e, r, z, _⟩ := own_lies lenS h.own
  refine ⟨q, c, e, r, z, ?_⟩
  rcases h.own.2 with ⟨e1, e2⟩ | ⟨g, cap, cur, e1, _, _, hc, hm, _⟩
  · rw [e] at e1
    simp only [Value.slice.injEq] at e1
    obtain ⟨_, _, rfl⟩ := e1
    rw [e2]
    exact ⟨Nat.le_refl _, Nat.zero_le _⟩
  · rw [e] at e1
    simp only [Value.slice.injEq] at e1
    obtain ⟨_, _, rfl⟩ := e1
    exact ⟨hc, hm⟩
/-- The tick at a place. -/
theorem Mem.at (h : Mem N w mb v l) {i : Nat} {x : Tk} (hx : l[i]? = some x) : ∃ g c, v = .slice (some ⟨g, 0, none⟩) l.length c ∧ v.ownBlock = some g ∧ N ≤ g ∧ g < w.heap.size ∧ w.rangeAt g (i * 3) (encS x) := by
  obtain ⟨q, c, e⟩ := slc_own h.own
  have ho := h.own
  unfold OwnK at ho
  rw [e] at ho
  obtain ⟨g, rfl, h1, h2, h3⟩ := own_el lenS ho rfl hx
  exact ⟨g, c, e, by rw [e]; rfl, h1, h2, h3⟩
end
theorem range3 {w : World} {g o : Nat} {x : Tk} (h : w.rangeAt g o (encS x)) : w.cell? ⟨g, o, none⟩ = some (.int .i64 x.tm) ∧ w.cell? ⟨g, o + 1, none⟩ = some (.int .i64 x.lo) ∧ w.cell? ⟨g, o + 2, none⟩ = some (.int .i64 x.hi) := ⟨by have := h 0 _ rfl; rwa [Nat.add_zero] at this, h 1 _ rfl, h 2 _ rfl⟩

theorem info_MT : (Try.prog.info? MT).map (·.size) = some 1 := by kernel_rfl
set_option maxHeartbeats 1000000 in
theorem new_any (w : World) : Calls Try.prog 7 #[] w fun e w' => (∃ v, e = .returned (.pointer (some ⟨w.heap.size, 0, none⟩)) ∧ Mem w.heap.size w' w.heap.size v []) ∧ Below w.heap.size w w' := by
  obtain ⟨w1, hw1⟩ : ∃ w1, w1 = w.alloc (.cells #[.slice none 0 0] MT) := ⟨_, rfl⟩
  have b1 : w1.heap[w.heap.size]? = some (.cells #[.slice none 0 0] MT (0, 0)) := by rw [hw1]; exact heap_alloc_new w _
  have FIN : Hid (Mem w.heap.size w1 w.heap.size (.slice none 0 0) [] ∧ Below w.heap.size w w1) := ⟨⟨b1, World.ownsRow_nil _ _ _ _, Nat.le_refl _⟩, by rw [hw1]; exact ((Gr.refl w).alloc _).below⟩
  have HW : Hid (w.alloc (.cells #[.slice none 0 0] MT) = w1) := hw1.symm
  clear hw1 b1
  go_enter Try.func7, Try.ntmps7
  go_wp2
  go_ret
  rw [HW.out]
  exact ⟨⟨_, rfl, FIN.out.1⟩, FIN.out.2⟩
set_option maxHeartbeats 1000000 in
theorem len_any (N : Nat) (w : World) (mb : Nat) (v : Value) (l : List Tk) (h : Mem N w mb v l) : Calls Try.prog 11 #[.pointer (some ⟨mb, 0, none⟩)] w fun e w' => e = .returned (.int .i64 (l.length : Int)) ∧ w = w' := by
  have c0 := h.c0
  obtain ⟨q, c, rfl, _⟩ := h.row
  clear h
  go_enter Try.func11, Try.ntmps11
  go_wp2
  go_ret
  exact ⟨rfl, rfl⟩
theorem len_nil (w : World) : Calls Try.prog 11 #[.pointer none] w fun e w' => e = .returned (.int .i64 0) ∧ w = w' := by
  go_enter Try.func11, Try.ntmps11
  go_wp2
  go_ret
  exact ⟨rfl, rfl⟩
theorem copy_nil (w : World) : Calls Try.prog 9 #[.pointer none] w fun e w' => e = .returned (.pointer none) ∧ w = w' := by
  go_enter Try.func9, Try.ntmps9
  go_wp2
  go_ret
  exact ⟨rfl, rfl⟩
theorem note_nil (w : World) (at_ n : Int) : Calls Try.prog 10 #[.pointer none, .int .i64 at_, .int .i64 n] w fun e w' => e = .returned (.int .i64 1) ∧ w = w' := by
  go_enter Try.func10, Try.ntmps10
  go_wp2
  go_ret
  exact ⟨rfl, rfl⟩
/-- The last tick, below all if there is none. -/
def lastT (l : List Tk) : Int := match l.getLast? with | none => -1 | some x => x.tm
set_option maxHeartbeats 2000000 in
theorem last_any (N : Nat) (w : World) (mb : Nat) (v : Value) (l : List Tk) (h : Mem N w mb v l) (hl : l.length ≤ 1000000) : Calls Try.prog 17 #[.pointer (some ⟨mb, 0, none⟩)] w fun e w' => e = .returned (.int .i64 (lastT l)) ∧ Gr w w' := by
  have mixed : Try.prog.follows .mixedOrders = true := by kernel_rfl
  have c0 := h.c0
  rcases List.eq_nil_or_concat l with rfl | ⟨l1, x, rfl⟩
  · obtain ⟨q, c, rfl, _⟩ := h.row
    clear h
    go_enter Try.func17, Try.ntmps17
    go_wp2
    go_ret
    exact ⟨rfl, Gr.refl _⟩
  · rw [List.concat_eq_append] at h hl ⊢
    have hx : (l1 ++ [x])[l1.length]? = some x := by simp
    obtain ⟨g, c, rfl, _, _, _, hr⟩ := h.at hx
    obtain ⟨r0, r1, r2⟩ := range3 hr
    have HL : Hid (lastT (l1 ++ [x]) = x.tm) := by show _ = _; unfold lastT; simp
    obtain ⟨n, hn⟩ : ∃ n, n = (l1 ++ [x]).length := ⟨_, rfl⟩
    have e1 : n = l1.length + 1 := by rw [hn]; simp
    rw [← hn] at c0 hl
    have n0 : ((n : Int) == 0) = false := by simp; omega
    have wn : IntKind.i64.wrap ((n : Int) - 1) = (l1.length : Int) := by rw [IntKind.wrap_i64]; omega
    have i0 : (0 : Int) ≤ (l1.length : Int) := by omega
    have i1 : (l1.length : Int) < (n : Int) := by omega
    generalize lastT (l1 ++ [x]) = L at HL ⊢
    obtain rfl := HL.out
    generalize x.tm = t at r0 ⊢
    generalize l1.length = k at *
    clear h hn hx hr HL r1 r2 e1
    go_enter Try.func17, Try.ntmps17
    go_wp2_with fail
    go_quiet (fail)
    go_wp2
    go_ret
    exact ⟨rfl, (Gr.refl _).drewN _⟩
end Go.Proofs.Ytcejaeeliedldaa.Wn
