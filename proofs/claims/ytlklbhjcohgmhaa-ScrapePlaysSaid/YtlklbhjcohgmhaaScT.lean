/- The law's model: a slice of samples that is appended to, and cut at its front. -/
import Derived.Test.YtlklbhjcohgmhaaScF
import Derived.ArgAppend
namespace Go.Proofs.Ytlklbhjcohgmhaa
open Go.RowKit Go.Lib
open Go.Joins (cell_of_block unfrozen_of_block block_setCell)
set_option linter.unusedVariables false
set_option linter.unusedSimpArgs false
set_option maxRecDepth 20000

/-- A row of the call's own, that may begin behind its block's head. -/
structure MoQ (base : Nat) (w : World) (q : Option Addr) (c : Nat) (l : List (Int × Int)) : Prop where
  le : l.length ≤ c
  few : c ≤ maxLen
  nul : q = none → c = 0
  row : ∀ a, q = some a → ∃ (g o : Nat) (cur : Array Value), a = ⟨g, o, none⟩ ∧ base ≤ g ∧ w.heap[g]? = some (.cells cur TSQ (0, 0)) ∧ o + c * 2 ≤ cur.size ∧ ∀ (t : Nat) u, (flQ l)[t]? = some u → cur[o + t]? = some u
def ownBQ (q : Option Addr) (g : Nat) : Prop := ∃ a, q = some a ∧ a.block = g
theorem MoQ.nil (base : Nat) (w : World) : MoQ base w none 0 [] := ⟨Nat.le_refl _, Nat.zero_le _, fun _ => rfl, fun a h => by cases h⟩
theorem MoQ.keep {base : Nat} {w w' : World} {q : Option Addr} {c : Nat} {l : List (Int × Int)} (h : MoQ base w q c l) (hk : ∀ g, ownBQ q g → g < w.heap.size → w'.heap[g]? = w.heap[g]?) : MoQ base w' q c l :=
  ⟨h.le, h.few, h.nul, fun a ha => by
    obtain ⟨g, o, cur, rfl, h1, h2, h3⟩ := h.row a ha
    exact ⟨g, o, cur, rfl, h1, (hk g ⟨_, ha, rfl⟩ (Array.getElem?_eq_some_iff.1 h2).1).trans h2, h3⟩⟩
theorem MoQ.lt {base : Nat} {w : World} {q : Option Addr} {c : Nat} {l : List (Int × Int)} (h : MoQ base w q c l) {g : Nat} (hg : ownBQ q g) : base ≤ g ∧ g < w.heap.size := by
  obtain ⟨a, ha, rfl⟩ := hg
  obtain ⟨g, o, cur, rfl, h1, h2, _⟩ := h.row a ha
  exact ⟨h1, (Array.getElem?_eq_some_iff.1 h2).1⟩
theorem MoQ.gr {base : Nat} {w w' : World} {q : Option Addr} {c : Nat} {l : List (Int × Int)} (h : MoQ base w q c l) (b : Below w.heap.size w w') : MoQ base w' q c l := h.keep (fun g _ hl => b.block g hl)
theorem MoQ.tch {base : Nat} {w w' : World} {q : Option Addr} {c : Nat} {l : List (Int × Int)} {S : List Nat} (h : MoQ base w q c l) (t : Tch S w w') (hS : ∀ g, ownBQ q g → g ∉ S) : MoQ base w' q c l := h.keep (fun g hg hl => t.block g hl (hS g hg))
/-- Its cells. -/
theorem MoQ.cells {base : Nat} {w : World} {q : Option Addr} {c : Nat} {l : List (Int × Int)} (h : MoQ base w q c l) {j : Nat} {x : Int × Int} (hx : l[j]? = some x) :
    ∃ g o : Nat, q = some ⟨g, o, none⟩ ∧ base ≤ g ∧ g < w.heap.size ∧ w.cell? ⟨g, o + j * 2, none⟩ = some (.int .i64 x.1) ∧ w.cell? ⟨g, o + j * 2 + 1, none⟩ = some (.int .i64 x.2) := by
  have hj := (List.getElem?_eq_some_iff.1 hx).1
  cases hq : q with
  | none => have := h.nul hq; have := h.le; omega
  | some a =>
    obtain ⟨g, o, cur, rfl, h1, h2, h3, h4⟩ := h.row a hq
    have e := fl_atQ l j x hx
    refine ⟨g, o, rfl, h1, (Array.getElem?_eq_some_iff.1 h2).1, ?_, ?_⟩
    · rw [cell_of_block h2]; exact h4 _ _ e.1
    · rw [cell_of_block h2, Nat.add_assoc]; exact h4 _ _ e.2
/-- The first one goes. -/
theorem MoQ.tail {base : Nat} {w : World} {g o c : Nat} {x : Int × Int} {l : List (Int × Int)} (h : MoQ base w (some ⟨g, o, none⟩) c (x :: l)) : MoQ base w (some ⟨g, if c = 1 then o else o + 2, none⟩) (c - 1) l := by
  have hle := h.le
  have hfew := h.few
  simp only [List.length_cons] at hle
  refine ⟨by omega, by omega, (fun e => by cases e), fun a ha => ?_⟩
  obtain ⟨g', o', cur, e, h1, h2, h3, h4⟩ := h.row _ rfl
  cases e
  cases ha
  refine ⟨g, _, cur, rfl, h1, h2, ?_, fun t u hu => ?_⟩
  · split <;> omega
  · have hlen : (flQ l).length = l.length * 2 := fl_lenQ l
    have ht := (List.getElem?_eq_some_iff.1 hu).1
    rw [if_neg (by omega), show o + 2 + t = o + (t + 2) by omega]
    exact h4 (t + 2) u hu
theorem setCells_get'Q : ∀ (vs : List Value) (w : World) (b o : Nat) (cs : Array Value) (T : TypeId) (fz : Nat × Nat), w.heap[b]? = some (.cells cs T fz) → o + vs.length ≤ cs.size →
    ∃ cs' : Array Value, (w.setCells b o vs).heap[b]? = some (.cells cs' T fz) ∧ cs'.size = cs.size ∧ (∀ j, j < o → cs'[j]? = cs[j]?) ∧ (∀ (j : Nat) v, vs[j]? = some v → cs'[o + j]? = some v)
  | [], w, b, o, cs, T, fz, h, _ => ⟨cs, h, rfl, fun _ _ => rfl, fun j v hv => by simp at hv⟩
  | v :: r, w, b, o, cs, T, fz, h, hl => by
    simp only [List.length_cons] at hl
    obtain ⟨cs', h1, h2, h3, h4⟩ := setCells_get'Q r (w.setCell ⟨b, o, none⟩ v) b (o + 1) (cs.setIfInBounds o v) T fz (block_setCell h v) (by simp; omega)
    refine ⟨cs', by rw [World.setCells]; exact h1, by rw [h2]; simp, fun j hj => ?_, fun j u hu => ?_⟩
    · rw [h3 j (by omega), Array.getElem?_setIfInBounds_ne (by omega)]
    · cases j with
      | zero =>
        simp only [List.getElem?_cons_zero, Option.some.injEq] at hu
        subst hu
        rw [Nat.add_zero, h3 o (by omega)]
        exact Array.getElem?_setIfInBounds_self_of_lt (by omega)
      | succ j =>
        rw [show o + (j + 1) = o + 1 + j by omega]
        exact h4 j u (by simpa using hu)
theorem setCells_tchQ : ∀ (vs : List Value) (w : World) (b o : Nat), Tch [b] w (w.setCells b o vs)
  | [], w, b, o => Tch.refl _ _
  | v :: r, w, b, o => by
    rw [World.setCells]
    exact ((Tch.refl [b] w).setCell o v (.inl (by simp))).trans (setCells_tchQ r _ b (o + 1)) (fun g hg => .inl hg)
/-- What a push leaves: the row longer; of what was, its own block alone was touched; it lies where it lay, or in new memory. -/
def PushedQ (base : Nat) (w : World) (q : Option Addr) (l : List (Int × Int)) (x : Int × Int) (v' : Value) (w' : World) : Prop :=
  ∃ q' c', v' = .slice q' (l.length + 1) c' ∧ MoQ base w' q' c' (l ++ [x]) ∧ (∃ S, Tch S w w' ∧ ∀ g ∈ S, ownBQ q g) ∧ (∀ g, ownBQ q' g → ownBQ q g ∨ w.heap.size ≤ g)
theorem push_roomQ {base : Nat} {w : World} {g o c : Nat} {l : List (Int × Int)} {x : Int × Int} (h : MoQ base w (some ⟨g, o, none⟩) c l) (hr : l.length + 1 ≤ c) :
    PushedQ base w (some ⟨g, o, none⟩) l x (.slice (some ⟨g, o, none⟩) (l.length + 1) c) (w.setCells g (o + l.length * 2) [.int .i64 x.1, .int .i64 x.2]) := by
  obtain ⟨g', o', cur, e, h1, h2, h3, h4⟩ := h.row _ rfl
  cases e
  obtain ⟨cs', k1, k2, k3, k4⟩ := setCells_get'Q [.int .i64 x.1, .int .i64 x.2] w g (o + l.length * 2) cur _ _ h2 (by simp; omega)
  have hlen : (flQ l).length = l.length * 2 := fl_lenQ l
  refine ⟨_, c, rfl, ⟨by simp; omega, h.few, (fun e => by cases e), fun a ha => ?_⟩, ⟨[g], setCells_tchQ _ _ _ _, fun k hk => by simp at hk; exact ⟨_, rfl, hk.symm⟩⟩, fun k hk => .inl hk⟩
  cases ha
  refine ⟨g, o, cs', rfl, h1, k1, by omega, fun t u hu => ?_⟩
  rw [fl_snocQ] at hu
  by_cases ht : t < l.length * 2
  · rw [List.getElem?_append_left (by omega)] at hu
    rw [k3 _ (by omega)]
    exact h4 t u hu
  · rw [List.getElem?_append_right (by omega), hlen] at hu
    have := k4 (t - l.length * 2) u hu
    rw [show o + l.length * 2 + (t - l.length * 2) = o + t by omega] at this
    exact this
theorem push_growsQ {base : Nat} {w w' : World} {q : Option Addr} {c : Nat} {l : List (Int × Int)} {x : Int × Int} {v' : Value} (h : MoQ base w q c l) (hb : base ≤ w.heap.size) (own : w'.ownsRow w.heap.size TSQ 2 v' (l.length + 1) (flQ l ++ [.int .i64 x.1, .int .i64 x.2])) (hg : w.grownBy w' none) :
    PushedQ base w q l x v' w' := by
  rcases own.2 with ⟨_, h0⟩ | ⟨g, cap, cur, rfl, hb2, hgb, hnc, hcm, hcs, hct⟩
  · omega
  · refine ⟨_, cap, rfl, ⟨by simp; exact hnc, hcm, (fun e => by cases e), fun a ha => ?_⟩, ⟨[], ⟨hg.os, hg.tape, hg.output, hg.size, fun k hk _ => hg.block k hk (by simp)⟩, fun k hk => by cases hk⟩, fun k ⟨a, ha, hk⟩ => ?_⟩
    · cases ha
      refine ⟨g, 0, cur, rfl, by omega, hgb, by omega, fun t u hu => ?_⟩
      rw [fl_snocQ, ← hct] at hu
      have ht := (List.getElem?_eq_some_iff.1 hu).1
      rw [List.length_take] at ht
      rw [List.getElem?_take_of_lt (by omega), Array.getElem?_toList] at hu
      rw [Nat.zero_add]
      exact hu
    · cases ha
      right
      rw [← hk]
      exact hb2
/-- One more, at the walk. -/
theorem wpList_pushQ {base : Nat} {w : World} {ops : Array Oper} {rest : List Oper} {o : Oper} {a : Act} {Q : Exit → Act → World → Prop} (hgd : o.guard = none) (s y : Operand)
    (ho : o.op = .call { callee := .builtin .append, args := #[s, y], argTypes := #[SlQ, SlQ] }) {q : Option Addr} {n c : Nat} {l : List (Int × Int)} {x : Int × Int} (hn : l.length = n) (hs : a.eval s = .slice q n c) (h : MoQ base w q c l) (hb : base ≤ w.heap.size) (hl : l.length ≤ 1000000)
    (ad : Addr) (cx : Nat) (hx : a.eval y = .slice (some ad) 1 cx) (hnew : ∀ (j : Nat) u, ([.int .i64 x.1, .int .i64 x.2] : List Value)[j]? = some u → w.cell? (ad.add j) = some u)
    (hK : ∀ v' w', PushedQ base w q l x v' w' → wpList Try.prog ops Q rest (a.put o.dst v') w') : wpList Try.prog ops Q (o :: rest) a w := by
  subst hn
  obtain ⟨inf, i1, i2, i3, i4⟩ := infoQ
  have hlen : (flQ l).length = l.length * 2 := fl_lenQ l
  have one : ∀ u ∈ ([.int .i64 x.1, .int .i64 x.2] : List Value), u.oneCell' = true := fun u hu => by simp at hu; rcases hu with rfl | rfl <;> rfl
  by_cases hr : l.length + 1 ≤ c
  · cases hq : q with
    | none => have := h.nul hq; omega
    | some a0 =>
      obtain ⟨g, off, cur, rfl, h1, h2, h3, h4⟩ := h.row a0 hq
      subst hq
      refine wpList_append_arg w hgd s y SlQ ho TSQ inf _ 2 16 Try.underlying42 i1 i2 i3 i4 rfl (by decide) g off l.length c (flQ l) hs hlen (fun j u hu => by rw [cell_of_block h2]; exact h4 j u hu) ad 1 cx [.int .i64 x.1, .int .i64 x.2] hx rfl hnew one (fun _ j hj => ?_) (by unfold maxLen; omega) (by omega) (fun _ => hK _ _ (push_roomQ h hr)) (fun hlt => by omega)
      simp only [List.length_cons, List.length_nil] at hj
      refine ⟨?_, unfrozen_of_block h2 _⟩
      rw [cell_of_block h2, Array.getElem?_eq_getElem (by omega)]
      rfl
  · refine wpList_append_grows w hgd s y SlQ ho TSQ inf _ 2 16 Try.underlying42 i1 i2 i3 i4 rfl (by decide) q l.length c (flQ l) hs (fun e => ⟨by have := h.nul e; have := h.le; omega, h.nul e⟩) hlen (fun b hb2 j u hu => ?_) ad 1 cx [.int .i64 x.1, .int .i64 x.2] hx rfl hnew one (by omega) (by unfold maxLen; omega) (by omega) (fun v' w' own hg => hK v' w' (push_growsQ h hb own hg))
    obtain ⟨g, off, cur, rfl, h1, h2, h3, h4⟩ := h.row b hb2
    have hadd : (⟨g, off, none⟩ : Addr).add j = ⟨g, off + j, none⟩ := by unfold Addr.add; split <;> simp_all
    rw [hadd, cell_of_block h2]
    exact h4 j u hu
end Go.Proofs.Ytlklbhjcohgmhaa
