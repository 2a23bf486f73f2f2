/- All samples of a series up to a tick. A slice in a cell that a range over a function appends to. -/
import Derived.Test.YtajkhbdniadkkaaScD
import Derived.Test.YtajkhbdniadkkaaTold
import Derived.Deep.AppendLies
import Derived.Sort.CutIn
namespace Go.Proofs.Ytajkhbdniadkkaa
open Go.RowKit Go.Shelf Go.Lib Go.Sort
open Go.Joins (cell_of_block unfrozen_of_block block_setCell)
set_option linter.unusedVariables false
set_option linter.unusedSimpArgs false
set_option maxRecDepth 20000

/-- A piece that doesn't leave but at its end. -/
theorem wp_calmS {P : Program} {c : Code} {K : Act → World → Prop} {Q : Exit → Act → World → Prop} {a : Act} {w : World} (h : c.wp P (Exit.then K (fun _ _ _ => False)) a w) : c.wp P (Exit.then K Q) a w :=
  Code.wp_mono (fun e a' w' q => by
    cases e with
    | normal => exact q
    | _ => exact q.elim) h
/-- A slice in a cell; what it names was made behind C. -/
def GrowS {β : Type} (SlT ET : TypeId) (fl : List β → List Value) (N A C : Nat) (w : World) (out : List β) (W : World) : Prop :=
  ∃ q c, W.heap[A]? = some (.cells #[.slice q out.length c] SlT (0, 0)) ∧ W.ownsRow C ET 2 (.slice q out.length c) out.length (fl out) ∧ Below N w W
section
variable {β : Type} {SlT ET : TypeId} {fl : List β → List Value} {N A C : Nat} {w : World} {out : List β}
theorem GrowS.keep {W W' : World} (h : GrowS SlT ET fl N A C w out W) (b : Below N W W') (hA : W'.heap[A]? = W.heap[A]?) (hk : ∀ g cs T fz, C ≤ g → W.heap[g]? = some (.cells cs T fz) → W'.heap[g]? = W.heap[g]?) : GrowS SlT ET fl N A C w out W' := by
  obtain ⟨q, c, h1, h2, h3⟩ := h
  refine ⟨q, c, hA.trans h1, ?_, h3.trans b⟩
  obtain ⟨h0, h2⟩ := h2
  refine ⟨h0, ?_⟩
  rcases h2 with h2 | ⟨g, cap, cur, e, hb, hg, r⟩
  · exact .inl h2
  · exact .inr ⟨g, cap, cur, e, hb, (hk g _ _ _ hb hg).trans hg, r⟩
theorem GrowS.bears {B : Nat} (hN : N ≤ A) (hAB : A < B) : BearsD B (fun (_ : Unit) W => GrowS SlT ET fl N A C w out W) := by
  intro _ V V' T h t hT
  have hz : A < V.heap.size := by obtain ⟨q, c, h1, _⟩ := h; exact (Array.getElem?_eq_some_iff.1 h1).1
  refine h.keep (t.below (fun g hg => by have := (hT g hg).1; omega) (by omega)) (t.block A hz (fun hm => by have := (hT A hm).1; omega)) (fun g cs T' fz _ hg => t.block g (Array.getElem?_eq_some_iff.1 hg).1 (fun hm => ?_))
  obtain ⟨_, o, ho, hc⟩ := hT g hm
  rw [hg] at ho
  cases ho
  cases hc
theorem GrowS.low {W : World} (h : GrowS SlT ET fl N A C w out W) : Below N w W := by obtain ⟨q, c, h1, h2, h3⟩ := h; exact h3
/-- A round's end: one more. -/
theorem GrowS.next {W w5 : World} {q : Option Addr} {c g cap B : Nat} {x : β} {xs : List Value} (h1 : W.heap[A]? = some (.cells #[.slice q out.length c] SlT (0, 0))) (h2 : W.ownsRow C ET 2 (.slice q out.length c) out.length (fl out)) (h3 : Below N w W)
    (hN : N ≤ A) (hAB : A < B) (hBC : B ≤ C) (hC : C ≤ W.heap.size) (hx : fl (out ++ [x]) = fl out ++ xs)
    (own : w5.ownsRow C ET 2 (.slice (some ⟨g, 0, none⟩) (out.length + 1) cap) (out.length + 1) (fl out ++ xs)) (hg : W.grownBy w5 (Value.slice q out.length c).ownBlock) :
    w5.cell? ⟨A, 0, none⟩ = some (.slice q out.length c) ∧ w5.frozen? ⟨A, 0, none⟩ = false ∧ StaysD N B C W (w5.setCell ⟨A, 0, none⟩ (.slice (some ⟨g, 0, none⟩) (out.length + 1) cap)) ∧ GrowS SlT ET fl N A C w (out ++ [x]) (w5.setCell ⟨A, 0, none⟩ (.slice (some ⟨g, 0, none⟩) (out.length + 1) cap)) := by
  have hA := (Array.getElem?_eq_some_iff.1 h1).1
  have hob : ∀ k, (Value.slice q out.length c).ownBlock = some k → C ≤ k := fun k e => (h2.lt k e).1
  have t5 : Tch (Value.slice q out.length c).ownBlock.toList W w5 := Tch.ofGrown hg (fun g e => .inl (by rw [e]; simp))
  have a5 : w5.heap[A]? = some (.cells #[.slice q out.length c] SlT (0, 0)) := (t5.block A hA (fun hm => by have := hob A (by simpa using hm); omega)).trans h1
  obtain ⟨w6, hw6⟩ : ∃ x, x = w5.setCell ⟨A, 0, none⟩ (.slice (some ⟨g, 0, none⟩) (out.length + 1) cap) := ⟨_, rfl⟩
  have t6 : Tch [A] w5 w6 := by rw [hw6]; exact (Tch.refl [A] w5).setCell 0 _ (.inl (by simp))
  have t : Tch (A :: (Value.slice q out.length c).ownBlock.toList) W w6 := (t5.less (fun g hg => .inl (List.mem_cons_of_mem _ hg))).trans t6 (fun g hg => .inl (by rw [List.mem_singleton] at hg; rw [hg]; exact List.mem_cons_self))
  have gC : C ≤ g := (own.lt g rfl).1
  rw [← hw6]
  refine ⟨cell_of_block a5 0, unfrozen_of_block a5 0, StaysD.ofTch t (by omega) (fun k hk => ?_), some ⟨g, 0, none⟩, cap, ?_, ?_, h3.trans (t.below (fun k hk => ?_) (by omega))⟩
  · rcases List.mem_cons.1 hk with rfl | hk
    · exact ⟨.inl hAB, hN⟩
    · have := hob k (by simpa using hk)
      exact ⟨.inr this, by omega⟩
  · rw [hw6, block_setCell a5, List.length_append]
    rfl
  · rw [hx, List.length_append, hw6]
    exact ownsRow_setCell_other own (a := ⟨A, 0, none⟩) (by simp [Value.ownBlock]; omega) _
  · rcases List.mem_cons.1 hk with rfl | hk
    · exact hN
    · have := hob k (by simpa using hk)
      omega
end
/-- The row, where the function is left: behind the mark. -/
theorem GrowS.fin {β : Type} {SlT ET : TypeId} {fl : List β → List Value} {N A C D : Nat} {w : World} {out : List β} {Wd w' : World} (h : GrowS SlT ET fl N A C w out Wd) (hC : N ≤ C) (hD : N ≤ D) (hd : Wd.heap[D]? = some (.deferred (some []))) (hN : N ≤ Wd.heap.size) (t : Tch [D] Wd w') :
    ∃ q c, Wd.heap[A]? = some (.cells #[.slice q out.length c] SlT (0, 0)) ∧ w'.ownsRow N ET 2 (.slice q out.length c) out.length (fl out) ∧ Below N w w' := by
  obtain ⟨q, c, h1, h2, h3⟩ := h
  refine ⟨q, c, h1, ?_, h3.trans (t.below (fun g hg => by rw [List.mem_singleton] at hg; omega) hN)⟩
  obtain ⟨h0, h2⟩ := h2
  refine ⟨h0, ?_⟩
  rcases h2 with h2 | ⟨g, cap, cur, e, hb, hg, r⟩
  · exact .inl h2
  · refine .inr ⟨g, cap, cur, e, by omega, (t.block g (Array.getElem?_eq_some_iff.1 hg).1 (fun hm => ?_)).trans hg, r⟩
    rw [List.mem_singleton] at hm
    subst hm
    rw [hd] at hg
    cases hg
/-- A range that hands nothing on. -/
theorem tells_none {α : Type} {n : Nat} {P : Program} {gf : Nat} {lb : Array Value} {encs : α → Array Value} {Gv : List α → α → World → Prop} {Sp : List α → Prop} {base : Nat} {w : World}
    (h : TellsD n P gf lb (fun x : Empty => x.elim) (fun pre x _ => x.elim) (fun xs => xs = []) (fun _ => False) base w) : TellsD n P gf lb encs Gv (fun xs => xs = []) Sp base w := fun l J Jx W hW bJ hY h0 => by
  refine (h l (fun C _ W => J C [] W) (fun _ _ _ => False) W hW (fun C s A A' T hs c hT => bJ C [] A A' T hs c hT) (fun C pre x => x.elim) h0).mono ?_
  rintro e W' ⟨he, h1⟩
  refine ⟨he, ?_⟩
  rcases h1 with ⟨C, xs, h2, rfl, h3⟩ | ⟨C, pre, h2, _⟩
  · exact .inl ⟨C, [], h2, rfl, h3⟩
  · exact h2.elim
/-- A ring, or none: what is gone through. -/
def Pts (w : World) (n : Nat) (p : Option Addr) (L : List (Int × Int)) : Prop := (p = none ∧ L = []) ∨ ∃ rb gb, p = some ⟨rb, 0, none⟩ ∧ HasQ w rb gb n L
theorem tells_pts (n base : Nat) (w : World) (nn b : Nat) (p : Option Addr) (L : List (Int × Int)) (at_ : Int) (H : Pts w nn p L) (h1 : w.cell? ⟨b, 0, none⟩ = some (.pointer p)) (h2 : w.cell? ⟨b + 1, 0, none⟩ = some (.int .i64 at_)) (hb : b + 1 < w.heap.size) (hbase : base ≤ w.heap.size) :
    TellsD n Try.prog 84 #[.pointer (some ⟨b, 0, none⟩), .pointer (some ⟨b + 1, 0, none⟩)] (fun x : Int × Int => #[.agg #[.int .i64 x.1, .int .i64 x.2]]) (fun pre x _ => (frmQ at_ L)[pre.length]? = some x ∧ pre = (frmQ at_ L).take pre.length) (fun xs => xs = frmQ at_ L) (fun _ => True) base w := by
  rcases H with ⟨rfl, rfl⟩ | ⟨rb, gb, rfl, H⟩
  · exact tells_none (tells_nilQ n base w b at_ h1 h2 hb)
  · have := tellsQ n base w rb gb nn b L at_ H h1 h2 hb hbase
    intro l J Jx W hW bJ hY h0
    refine (this l J Jx W hW bJ hY h0).mono ?_
    rintro e W' ⟨he, h3⟩
    exact ⟨he, h3.imp id (fun ⟨C, pre, _, h⟩ => ⟨C, pre, trivial, h⟩)⟩

/-- A series' samples; those up to a tick. -/
def smpsOf (E : List En) (s : Sr) : List (Int × Int) := match E.find? (hitS s) with | some e => e.l | none => []
def upto (now : Int) (l : List (Int × Int)) : List (Int × Int) := l.filter (fun x => decide (x.1 ≤ now))
theorem upto_few (now : Int) (l : List (Int × Int)) : (upto now l).length ≤ l.length := List.length_filter_le _ _
theorem upto_snoc (now : Int) (l : List (Int × Int)) (x : Int × Int) : upto now (l ++ [x]) = upto now l ++ (if x.1 ≤ now then [x] else []) := by
  unfold upto
  rw [List.filter_append]
  by_cases h : x.1 ≤ now <;> simp [h]
theorem frm_all {l : List (Int × Int)} (h : ∀ x ∈ l, 0 ≤ x.1) : frmQ 0 l = l := by
  unfold frmQ
  rw [List.filter_eq_self]
  exact fun x hx => by simpa using h x hx
theorem find_none {E : List En} {s : Sr} (h : ∀ e ∈ E, e.s ≠ s) : E.find? (hitS s) = none := List.find?_eq_none.2 (fun e he hh => h e he (hitS_iff.1 hh))
theorem find_some {E : List En} {e : En} (ha : ApartS E) (he : e ∈ E) : E.find? (hitS e.s) = some e := by
  cases hf : E.find? (hitS e.s) with
  | none => exact absurd (hitS_iff.2 rfl) (List.find?_eq_none.1 hf e he)
  | some x =>
    have h1 := List.mem_of_find?_eq_some hf
    have h2 := hitS_iff.1 (List.find?_some hf)
    by_cases e1 : x = e
    · rw [e1]
    · exfalso
      rcases List.mem_iff_append.1 he with ⟨A, B, rfl⟩
      unfold ApartS at ha
      rw [List.pairwise_append, List.pairwise_cons] at ha
      rcases List.mem_append.1 h1 with h3 | h3
      · exact ha.2.2 x h3 e List.mem_cons_self h2
      · rcases List.mem_cons.1 h3 with h3 | h3
        · exact e1 h3
        · exact ha.2.1.1 x h3 h2.symm
theorem has_or (E : List En) (s : Sr) : (∃ e ∈ E, e.s = s) ∨ (∀ e ∈ E, e.s ≠ s) := by
  by_cases h : ∃ e ∈ E, e.s = s
  · exact .inl h
  · exact .inr (fun e he hs => h ⟨e, he, hs⟩)
theorem Bk.apart {w : World} {bb mb n a : Nat} {E : List En} (h : Bk w bb mb n a E) : ApartS E := by obtain ⟨D, _, hr⟩ := h.map; exact hr.apart
theorem Bk.pts {w : World} {bb mb n a : Nat} {E : List En} (h : Bk w bb mb n a E) {s : Sr} (hk : OkS s) : ∃ p, (∀ w', Below w.heap.size w w' → Pts w' n p (smpsOf E s) ∧ (Instr.lookup MS (.map (some mb)) (ser s) false).run Try.prog w' = .ok (.pointer p) w') ∧ (∀ x ∈ smpsOf E s, 0 ≤ x.1) ∧ (smpsOf E s).length ≤ 32 := by
  rcases has_or E s with ⟨e, he, rfl⟩ | hs
  · have hf : smpsOf E e.s = e.l := by unfold smpsOf; rw [find_some h.apart he]
    rw [hf]
    refine ⟨some ⟨e.rb, 0, none⟩, fun w' b => ⟨.inr ⟨e.rb, e.gb, rfl, ((h.gr b).each e he).1⟩, (h.gr b).map.yes he false⟩, fun x hx => ((h.each e he).2.at_ x hx).1, by have := (h.each e he).1.few; omega⟩
  · have hf : smpsOf E s = [] := by unfold smpsOf; rw [find_none hs]
    rw [hf]
    exact ⟨none, fun w' b => ⟨.inl ⟨rfl, rfl⟩, (h.gr b).map.no hk hs false⟩, by simp, by simp⟩

end Go.Proofs.Ytajkhbdniadkkaa
