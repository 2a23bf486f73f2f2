/- Layer 21 (window): the stable number, of any memory; a memory copied. -/
import Derived.Test.YtcejaeeliedldaaWnH
namespace Go.Proofs.Ytcejaeeliedldaa.Wn
open Go.RowKit Go.Shelf Go.Lib Go.Sort Go.Deep
open Go.Joins (cell_of_block unfrozen_of_block block_setCell)
open Go.Proofs.Ytcejaeeliedldaa.Ow
set_option linter.unusedVariables false
set_option linter.unusedSimpArgs false
set_option maxRecDepth 20000

/-- The stable number, by what is told of either window. -/
def stab (a : Bool) (low : Int) (b : Bool) (high there : Int) : Int := if a = true ∧ there < low then low else if b = true ∧ there > high then high else there
set_option maxHeartbeats 4000000 in
theorem stable_of (w : World) (p : Value) (now there up down : Int) (a b : Bool) (low high : Int)
    (CL : ∀ W, Below w.heap.size w W → Calls Try.prog 13 #[p, .int .i64 now, .int .i64 up] W fun e w' => e = .returned (.tuple #[.int .i64 low, .bool a]) ∧ Below W.heap.size W w')
    (CG : ∀ W, Below w.heap.size w W → Calls Try.prog 14 #[p, .int .i64 now, .int .i64 down] W fun e w' => e = .returned (.tuple #[.int .i64 high, .bool b]) ∧ Below W.heap.size W w') :
    Calls Try.prog 15 #[p, .int .i64 now, .int .i64 there, .int .i64 up, .int .i64 down] w fun e w' => e = .returned (.int .i64 (stab a low b high there)) ∧ Below w.heap.size w w' := by
  have HL := Lib.hid (CL w (Below.refl _ _))
  have HG := Lib.hid CG
  have ES : Hid (stab a low b high there = if a = true ∧ there < low then low else if b = true ∧ there > high then high else there) := rfl
  generalize stab a low b high there = S at ES ⊢
  clear CL CG
  by_cases hl : a = true ∧ there < low
  · obtain ⟨rfl, h2⟩ := hl
    have E : Hid (S = low) := by show _ = _; rw [ES.out, if_pos ⟨rfl, h2⟩]
    have d : decide (there < low) = true := decide_eq_true h2
    clear ES HG h2
    obtain rfl := E.out
    go_enter Try.func15, Try.ntmps15
    go_wp2_with fail
    refine HL.out.mono ?_
    rintro e w1 ⟨rfl, b1⟩
    go_wp2
    go_ret
    exact ⟨rfl, b1⟩
  · have E : Hid (S = if b = true ∧ there > high then high else there) := by show _ = _; rw [ES.out, if_neg hl]
    clear ES
    have key : Hid (a = false ∨ (a = true ∧ decide (there < low) = false)) := by
      cases a with
      | false => exact .inl rfl
      | true => exact .inr ⟨rfl, decide_eq_false (fun h => hl ⟨rfl, h⟩)⟩
    have key2 : Hid ((b = true ∧ decide (there > high) = true ∧ S = high) ∨ (b = true ∧ decide (there > high) = false ∧ S = there) ∨ (b = false ∧ S = there)) := by
      cases b with
      | false => exact .inr (.inr ⟨rfl, by rw [E.out]; simp⟩)
      | true =>
        by_cases h : there > high
        · exact .inl ⟨rfl, decide_eq_true h, by rw [E.out, if_pos ⟨rfl, h⟩]⟩
        · exact .inr (.inl ⟨rfl, decide_eq_false h, by rw [E.out, if_neg (fun q => h q.2)]⟩)
    clear E hl
    rcases key.out with rfl | ⟨rfl, d⟩ <;> rcases key2.out with ⟨rfl, d2, rfl⟩ | ⟨rfl, d2, rfl⟩ | ⟨rfl, rfl⟩
    all_goals
      clear key key2
      go_enter Try.func15, Try.ntmps15
      go_wp2_with fail
      refine HL.out.mono ?_
      rintro e w1 ⟨rfl, b1⟩
      have G := Lib.hid (HG.out w1 b1)
      have B1 := Lib.hid b1
      clear b1 HG
      go_wp2_with fail
      refine G.out.mono ?_
      rintro e w2 ⟨rfl, b2⟩
      have B2 := Lib.hid (B1.out.trans (b2.mono B1.out.size))
      clear G b2
      go_wp2
      go_ret
      exact ⟨rfl, B2.out⟩
theorem stable_nil (w : World) (now there up down : Int) : Calls Try.prog 15 #[.pointer none, .int .i64 now, .int .i64 there, .int .i64 up, .int .i64 down] w fun e w' => e = .returned (.int .i64 there) ∧ Below w.heap.size w w' :=
  stable_of w (.pointer none) now there up down false false 0 0 (fun W _ => leastF_nil W now up) (fun W _ => greatestF_nil W now down)
/-- The stable number of a memory's ticks. -/
def stV (l : List Tk) (now there up down : Int) : Int := stab (anyT l now up) (leV l now up) (anyT l now down) (grV l now down) there
theorem stable_any (N : Nat) (w : World) (mb : Nat) (v : Value) (l : List Tk) (h : Mem N w mb v l) (hl : l.length ≤ 1000000) (hr : Ris l) (now there up down : Int) (hn : now < 9223372036854775808) :
    Calls Try.prog 15 #[.pointer (some ⟨mb, 0, none⟩), .int .i64 now, .int .i64 there, .int .i64 up, .int .i64 down] w fun e w' => e = .returned (.int .i64 (stV l now there up down)) ∧ Below w.heap.size w w' :=
  stable_of w _ now there up down _ _ _ _ (fun W b => leastF_any N W mb v l (h.below b) hl hr now up hn) (fun W b => greatestF_any N W mb v l (h.below b) hl hr now down hn)

set_option maxHeartbeats 2000000 in
theorem copy_any (N : Nat) (w : World) (mb : Nat) (v : Value) (l : List Tk) (h : Mem N w mb v l) (hl : l.length ≤ 1000000) :
    Calls Try.prog 9 #[.pointer (some ⟨mb, 0, none⟩)] w fun e w' => (∃ cb vc, e = .returned (.pointer (some ⟨cb, 0, none⟩)) ∧ Mem w.heap.size w' cb vc l) ∧ Below w.heap.size w w' := by
  have c0 := h.c0
  obtain ⟨q, c, rfl, hr, hq, _⟩ := h.row
  have C := Lib.hid (clone_K w q c l hr hq (by omega))
  clear h hr hq
  obtain ⟨n, hn⟩ : ∃ n, n = l.length := ⟨_, rfl⟩
  have HN := Lib.hid hn
  rw [← hn] at c0 C hl
  clear hn
  go_enter Try.func9, Try.ntmps9
  go_wp2_with fail
  refine C.out.mono ?_
  rintro e w1 ⟨⟨q', c', rfl, ho⟩, b1⟩
  obtain ⟨B, hB⟩ : ∃ B, B = w1.heap.size := ⟨_, rfl⟩
  obtain ⟨w2, hw2⟩ : ∃ w2, w2 = w1.alloc (.cells #[.slice q' n c'] MT) := ⟨_, rfl⟩
  have G2 : Below w1.heap.size w1 w2 := by rw [hw2]; exact ((Gr.refl w1).alloc _).below
  have m2 : w2.heap[B]? = some (.cells #[.slice q' n c'] MT (0, 0)) := by rw [hw2, hB]; exact heap_alloc_new w1 _
  have FIN : Hid (Mem w.heap.size w2 B (.slice q' n c') l ∧ Below w.heap.size w w2) := ⟨⟨m2, by unfold OwnK; rw [← HN.out]; exact below_own ho G2, by rw [hB]; exact b1.size⟩, b1.trans (G2.mono b1.size)⟩
  have HW : Hid (w1.alloc (.cells #[.slice q' n c'] MT) = w2 ∧ w1.heap.size = B) := ⟨hw2.symm, hB.symm⟩
  clear ho b1 hB hw2 G2 m2 C
  go_wp2
  go_ret
  rw [HW.out.1, HW.out.2]
  exact ⟨⟨B, _, rfl, FIN.out.1⟩, FIN.out.2⟩
end Go.Proofs.Ytcejaeeliedldaa.Wn
