/- The reader: Bad, Left, End, spoil, take, Get, Int, Text, Read. -/
import Derived.Test.YtlajiochpdlhaaaOctW
namespace Go.Proofs.Ytlajiochpdlhaaa
open Go.RowKit Go.Shelf Go.Lib Go.Sort
open Go.Joins (cell_of_block unfrozen_of_block block_setCell)
set_option linter.unusedVariables false

abbrev Sr := Option (List UInt8)
def takeS (n : Nat) : Sr → List UInt8
  | none => []
  | some l => if n ≤ l.length then l.take n else []
def dropS (n : Nat) : Sr → Sr
  | none => none
  | some l => if n ≤ l.length then some (l.drop n) else none

theorem RdM.stay {w w' : World} {N A : Nat} {ro : Option Addr} {s : Sr} (h : RdM w N A ro s) (hs : w.heap.size ≤ w'.heap.size) (hA : A < w.heap.size → w'.heap[A]? = w.heap[A]?) (hy : ∀ b, b < w.heap.size → yb w A = some b → w'.heap[b]? = w.heap[b]?) : RdM w' N A ro s := by
  rcases h with ⟨g1, g2, g3⟩ | ⟨h1, h2, h3, h4⟩
  · exact .inl ⟨g1, g2, g3.imp id (fun e => (hA (Array.getElem?_eq_some_iff.1 e).1).trans e)⟩
  · refine .inr ⟨h1, h2, Nat.lt_of_lt_of_le h3 hs, ?_⟩
    rcases h4 with ⟨h, k⟩ | ⟨l, q, c, e1, e2, e3, e4, e5, e6⟩
    · exact .inl ⟨h, (hA h3).trans k⟩
    · refine .inr ⟨l, q, c, e1, (hA h3).trans e2, e3, e4, ?_, e6⟩
      intro j x hx
      obtain ⟨b, off, e, hb, hc⟩ := e5 j x hx
      refine ⟨b, off, e, Nat.lt_of_lt_of_le hb hs, fun t v hv => ?_⟩
      have hyb : yb w A = some b := by rw [yb_of (v := .slice q l.length c) e2 rfl, e]; rfl
      exact (World.cell?_of_block (a := ⟨b, off + j * 1 + t, none⟩) (hy b hb hyb)).trans (hc t v hv)
theorem RdM.gr {w w' : World} {N A : Nat} {ro : Option Addr} {s : Sr} (h : RdM w N A ro s) (k : Gr w w') : RdM w' N A ro s :=
  h.stay k.size (fun h => k.heap h) (fun b h _ => k.heap h)

/-- What the tests on a reader see. -/
theorem rd_cases {w : World} {N A : Nat} {ro : Option Addr} {s : Sr} (h : RdM w N A ro s) :
    (ro = none ∧ s = none) ∨ (ro = some ⟨A, 0, none⟩ ∧ s = none ∧ A < w.heap.size ∧ w.heap[A]? = some (.cells #[.slice none 0 0, .bool true] 79 (0, 0))) ∨
    (∃ l q c, ro = some ⟨A, 0, none⟩ ∧ s = some l ∧ A < w.heap.size ∧ w.heap[A]? = some (.cells #[.slice q l.length c, .bool false] 79 (0, 0)) ∧ l.length ≤ c ∧ c ≤ 9223372036854775807 ∧ RowR 1 encU w q l ∧ (∀ p, q = some p → N ≤ p.block ∧ p.block ≠ A) ∧ N ≤ A) := by
  rcases h with h | ⟨h1, h2, h3, h4⟩
  · exact .inl ⟨h.1, h.2.1⟩
  · rcases h4 with ⟨h, k⟩ | ⟨l, q, c, e1, e2, e3, e4, e5, e6⟩
    · exact .inr (.inl ⟨h1, h, h3, k⟩)
    · exact .inr (.inr ⟨l, q, c, h1, e1, h3, e2, e3, e4, e5, e6, h2⟩)

theorem bad_any (w : World) (N A : Nat) (ro : Option Addr) (s : Sr) (h : RdM w N A ro s) :
    Calls Try.prog 19 #[.pointer ro] w fun e w' => e = .returned (.bool s.isNone) ∧ w = w' := by
  rcases rd_cases h with ⟨rfl, rfl⟩ | ⟨rfl, rfl, hA, h1⟩ | ⟨l, q, c, rfl, rfl, hA, h1, _⟩
  · go_enter Try.func19, Try.ntmps19
    go_wp2
    go_ret
    exact ⟨rfl, rfl⟩
  all_goals
    have c1 := cell_of_block h1 1
    clear h h1
    go_enter Try.func19, Try.ntmps19
    go_wp2
    go_ret
    exact ⟨rfl, rfl⟩

def leftS : Sr → Nat
  | none => 0
  | some l => l.length
theorem left_any (w : World) (N A : Nat) (ro : Option Addr) (s : Sr) (h : RdM w N A ro s) :
    Calls Try.prog 21 #[.pointer ro] w fun e w' => e = .returned (.int .i64 (leftS s : Int)) ∧ w = w' := by
  have C := Lib.hid (bad_any w N A ro s h)
  rcases rd_cases h with ⟨rfl, rfl⟩ | ⟨rfl, rfl, hA, h1⟩ | ⟨l, q, c, rfl, rfl, hA, h1, _⟩
  · clear h
    go_enter Try.func21, Try.ntmps21
    go_wp2_with fail
    refine C.out.mono ?_
    rintro e w1 ⟨rfl, rfl⟩
    go_wp2
    go_ret
    exact ⟨rfl, rfl⟩
  all_goals
    have c1 := cell_of_block h1 0
    clear h h1
    go_enter Try.func21, Try.ntmps21
    go_wp2_with fail
    refine C.out.mono ?_
    rintro e w1 ⟨rfl, rfl⟩
    go_wp2
    go_ret
    exact ⟨rfl, rfl⟩

theorem end_any (w : World) (N A : Nat) (ro : Option Addr) (s : Sr) (h : RdM w N A ro s) :
    Calls Try.prog 20 #[.pointer ro] w fun e w' => e = .returned (.bool (!s.isNone && leftS s == 0)) ∧ w = w' := by
  have C := Lib.hid (bad_any w N A ro s h)
  have D := Lib.hid (left_any w N A ro s h)
  clear h
  cases s with
  | none =>
    go_enter Try.func20, Try.ntmps20
    go_wp2_with fail
    refine C.out.mono ?_
    rintro e w1 ⟨rfl, rfl⟩
    go_wp2
    go_ret
    exact ⟨rfl, rfl⟩
  | some l =>
    unfold leftS at D ⊢
    dsimp only at D ⊢
    generalize l.length = n at D ⊢
    cases n with
    | zero =>
      go_enter Try.func20, Try.ntmps20
      go_wp2_with fail
      refine C.out.mono ?_
      rintro e w1 ⟨rfl, rfl⟩
      go_wp2_with fail
      refine D.out.mono ?_
      rintro e w2 ⟨rfl, rfl⟩
      go_wp2
      go_ret
      exact ⟨rfl, rfl⟩
    | succ n =>
      have hn : (((n + 1 : Nat) : Int) == 0) = false := beq_eq_false_iff_ne.2 (by omega)
      obtain ⟨m, hm⟩ : ∃ m, m = n + 1 := ⟨_, rfl⟩
      have hb : (!(some l).isNone && n + 1 == 0) = false := by simp
      rw [hb]
      rw [← hm] at D hn
      clear hm hb
      go_enter Try.func20, Try.ntmps20
      go_wp2_with fail
      refine C.out.mono ?_
      rintro e w1 ⟨rfl, rfl⟩
      go_wp2_with fail
      refine D.out.mono ?_
      rintro e w2 ⟨rfl, rfl⟩
      go_wp2
      go_ret
      exact ⟨rfl, rfl⟩

theorem spoil_any (w : World) (N A : Nat) (ro : Option Addr) (s : Sr) (h : RdM w N A ro s) :
    Calls Try.prog 32 #[.pointer ro] w fun e w' => e = .returned (.tuple #[]) ∧ RdM w' N A ro none ∧ Mv A A A w w' := by
  have fin : ∀ (v : Value) (b : Bool), A < w.heap.size → N ≤ A → w.heap[A]? = some (.cells #[v, .bool b] 79 (0, 0)) →
      RdM ((w.setCell ⟨A, 0, none⟩ (.slice none 0 0)).setCell ⟨A, 1, none⟩ (.bool true)) N A (some ⟨A, 0, none⟩) none ∧ Mv A A A w ((w.setCell ⟨A, 0, none⟩ (.slice none 0 0)).setCell ⟨A, 1, none⟩ (.bool true)) := by
    intro v b hA hN h1
    have h2 := block_setCell (i := 0) h1 (.slice none 0 0)
    have h3 := block_setCell (i := 1) h2 (.bool true)
    refine ⟨.inr ⟨rfl, hN, by simpa [World.setCell] using hA, .inl ⟨rfl, h3⟩⟩, rfl, rfl, rfl, by simp [World.setCell], fun k hk h1 _ _ _ => ?_, fun k e => ?_⟩
    · rw [heap_setCell_other _ _ _ _ h1, heap_setCell_other _ _ _ _ h1]
    · rw [yb_of (v := .slice none 0 0) h3 rfl] at e
      simp [Value.ownBlock] at e
  rcases rd_cases h with ⟨rfl, rfl⟩ | ⟨rfl, rfl, hA, h1⟩ | ⟨l, q, c, rfl, rfl, hA, h1, _, _, _, _, hN⟩
  · have hz := Lib.hid h
    clear h fin
    go_enter Try.func32, Try.ntmps32
    go_wp2
    go_end0
    exact ⟨rfl, hz.out, Mv.refl _ _ _ _⟩
  · have hN : N ≤ A := by
      rcases h with ⟨h, _⟩ | ⟨_, h, _⟩
      · cases h
      · exact h
    have F := Lib.hid (fin _ _ hA hN h1)
    have c0 := cell_of_block h1 0
    have c1 := cell_of_block h1 1
    have f0 := unfrozen_of_block h1 0
    have f1 := unfrozen_of_block h1 1
    clear h fin h1
    go_enter Try.func32, Try.ntmps32
    go_wp2
    go_end0
    exact ⟨rfl, F.out⟩
  · have F := Lib.hid (fin _ _ hA hN h1)
    have c0 := cell_of_block h1 0
    have c1 := cell_of_block h1 1
    have f0 := unfrozen_of_block h1 0
    have f1 := unfrozen_of_block h1 1
    clear h fin h1
    go_enter Try.func32, Try.ntmps32
    go_wp2
    go_end0
    exact ⟨rfl, F.out⟩
end Go.Proofs.Ytlajiochpdlhaaa
