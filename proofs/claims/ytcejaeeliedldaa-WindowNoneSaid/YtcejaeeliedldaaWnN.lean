/- Layer 21 (window): the law's rows of notes that are appended to; a memory beside what was noted. -/
import Derived.Test.YtcejaeeliedldaaWnM
namespace Go.Proofs.Ytcejaeeliedldaa.Wn
open Go.RowKit Go.Shelf Go.Lib Go.Sort Go.Deep
open Go.Joins (cell_of_block unfrozen_of_block block_setCell)
open Go.Proofs.Ytcejaeeliedldaa.Ow
set_option linter.unusedVariables false
set_option linter.unusedSimpArgs false
set_option maxRecDepth 20000

theorem info_NT : ∃ i : TypeInfo, Try.prog.info? NT = some i ∧ i.zero = some (.agg zerN) ∧ i.size = 2 ∧ i.bytes = 16 := by
  have hinf : (Try.prog.info? NT).map (fun i => (i.zero, i.size, i.bytes)) = some (some (.agg zerN), 2, 16) := by kernel_rfl
  cases hi : Try.prog.info? NT with
  | none => rw [hi] at hinf; cases hinf
  | some i =>
    rw [hi] at hinf
    simp only [Option.map_some, Option.some.injEq, Prod.mk.injEq] at hinf
    exact ⟨i, rfl, hinf.1, hinf.2.1, hinf.2.2⟩
/-- The call owns the slice v, which reads as these notes. -/
def OwnNt (N : Nat) (w : World) (v : Value) (l : List Nt) : Prop := w.ownsRow N NT 2 v l.length (flat encN l)
theorem OwnNt.below {N : Nat} {w w' : World} {v : Value} {l : List Nt} (h : OwnNt N w v l) (b : Below w.heap.size w w') : OwnNt N w' v l := below_own h b
theorem OwnNt.row {N : Nat} {w : World} {q : Option Addr} {n c : Nat} {l : List Nt} (h : OwnNt N w (.slice q n c) l) : n = l.length ∧ RowR 2 encN w q l := by
  obtain ⟨q', c', e, r, _⟩ := own_lies lenN h
  simp only [Value.slice.injEq] at e
  obtain ⟨rfl, rfl, rfl⟩ := e
  exact ⟨rfl, r⟩
theorem wpList_push_nt {N : Nat} {w : World} {ops : Array Oper} {rest : List Oper} {o : Oper} {a : Act} {Q : Exit → Act → World → Prop} (hgd : o.guard = none) (s y : Operand)
    (ho : o.op = .call { callee := .builtin .append, args := #[s, y], argTypes := #[SlN, SlN] }) {v : Value} {n : Nat} {l : List Nt} (x : Nt) (hn : l.length = n) (hs : a.eval s = v) (h : OwnNt N w v l) (hb : N ≤ w.heap.size) (hl : n ≤ 1000000)
    (B : Nat) (hx : a.eval y = .slice (some ⟨B, 0, none⟩) 1 1) (hB : w.heap[B]? = some (.cells #[.int .i64 x.1, .int .i64 x.2] NT (0, 0)))
    (hK : ∀ q' c' w', OwnNt N w' (.slice q' (n + 1) c') (l ++ [x]) → w.grownBy w' v.ownBlock → wpList Try.prog ops Q rest (a.put o.dst (.slice q' (n + 1) c')) w') : wpList Try.prog ops Q (o :: rest) a w := by
  subst hn
  obtain ⟨i, hi, hz0, hz1, hz2⟩ := info_NT
  refine wpList_append_own_at w hgd s y SlN ho N NT i (.agg zerN) 2 16 Try.underlying22 hi hz0 hz1 hz2 rfl (by decide) v l.length (flat encN l) hs h ⟨B, 0, none⟩ 1 1 (encN x) hx
    rfl (fun j u hu => ?_) (oneN x) (by unfold maxLen; omega) (by omega) hb ?_
  · have ea : (⟨B, 0, none⟩ : Addr).add j = ⟨B, j, none⟩ := by unfold Addr.add; split <;> simp_all
    rw [ea, cell_of_block hB, ← hu]
    simp [encN]
  · intro v' w' h1 h2 h3 h4
    obtain ⟨q', c', rfl⟩ := slc_own h1
    refine hK q' c' w' ?_ h2
    unfold OwnNt
    rw [flat_appN, List.length_append]
    exact h1
theorem own_apart {w : World} {N M : Nat} {E F : TypeId} {k k' n n' : Nat} {v v' : Value} {xs ys : List Value} (h : w.ownsRow N E k v n xs) (h' : w.ownsRow M F k' v' n' ys) (hne : F ≠ E) {g : Nat} (hg : v'.ownBlock = some g) : v.ownBlock ≠ some g := by
  rcases h'.2 with ⟨rfl, _⟩ | ⟨b, cap, cur, rfl, _, hb, _⟩
  · cases hg
  · cases hg
    exact own_ne h hb hne
/-- A memory beside the notes that were taken. -/
structure Kp (N mb : Nat) (W w : World) (vo : Value) (o : List Nt) (v : Value) (L : List Tk) : Prop where
  low : Below N W w
  mem : Mem N w mb v L
  out : OwnNt N w vo o
  rep : Rep o L
section
variable {N mb : Nat} {W w w' : World} {vo v v' : Value} {o : List Nt} {L L' : List Tk}
theorem Kp.gr (h : Kp N mb W w vo o v L) (hN : N ≤ w.heap.size) (b : Below w.heap.size w w') : Kp N mb W w' vo o v L := ⟨h.low.trans (b.mono hN), h.mem.below b, h.out.below b, h.rep⟩
theorem Kp.size (h : Kp N mb W w vo o v L) : N ≤ w.heap.size := Nat.le_of_lt (Nat.lt_of_le_of_lt h.mem.bs h.mem.lt)
/-- What Note touches. -/
theorem foot_below (h : Mem N w mb v L) (t : Tch (Foot mb v) w w') : Below N w w' :=
  t.below (fun g hg => by
    rcases List.mem_cons.1 hg with rfl | hg
    · exact h.bs
    · exact (h.ownLt (by simpa using hg)).1) (Nat.le_of_lt (Nat.lt_of_le_of_lt h.bs h.lt))
theorem foot_block (h : Mem N w mb v L) (t : Tch (Foot mb v) w w') {b : Nat} {cs : Array Value} {T : TypeId} {fz : Nat × Nat} (hb : w.heap[b]? = some (.cells cs T fz)) (h1 : T ≠ MT) (h2 : T ≠ TT) : w'.heap[b]? = some (.cells cs T fz) := by
  refine (t.block b (Array.getElem?_eq_some_iff.1 hb).1 (fun hm => ?_)).trans hb
  rcases List.mem_cons.1 hm with rfl | hg
  · rw [h.blk] at hb
    simp only [Option.some.injEq, Obj.cells.injEq] at hb
    exact h1 hb.2.1.symm
  · exact own_ne h.own hb h2 (by simpa using hg)
theorem foot_out (h : Mem N w mb v L) (t : Tch (Foot mb v) w w') (ho : OwnNt N w vo o) : OwnNt N w' vo o := by
  refine own_block ho (fun g hg => ?_)
  rcases ho.2 with ⟨rfl, _⟩ | ⟨b, cap, cur, rfl, _, hb, _⟩
  · cases hg
  · cases hg
    rw [foot_block h t hb (by decide) (by decide), hb]
/-- What an append touches. -/
theorem grown_mem (h : Mem N w mb v L) (ho : OwnNt N w vo o) (g : w.grownBy w' vo.ownBlock) : Mem N w' mb v L := by
  have nm : ∀ b, vo.ownBlock = some b → b ≠ mb ∧ v.ownBlock ≠ some b := fun b hb => ⟨fun e => own_ne ho h.blk (by decide) (by rw [hb, e]), own_apart h.own ho (by decide) hb⟩
  refine ⟨(g.block mb h.lt (fun e => (nm mb e.symm).1 rfl)).trans h.blk, own_block h.own (fun b hb => g.block b (h.ownLt hb).2 (fun e => (nm b e.symm).2 hb)), h.bs⟩
theorem grown_low (hN : N ≤ w.heap.size) (ho : OwnNt N w vo o) (g : w.grownBy w' vo.ownBlock) : Below N w w' :=
  (Below.refl N w).grown g hN (fun k e => (lt_own ho e).1)
end
end Go.Proofs.Ytcejaeeliedldaa.Wn
