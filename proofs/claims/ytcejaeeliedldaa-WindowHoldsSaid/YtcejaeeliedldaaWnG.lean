/- Layer 21 (window): the ticks within a window (within), of any memory. -/
import Derived.Test.YtcejaeeliedldaaWnF
namespace Go.Proofs.Ytcejaeeliedldaa.Wn
open Go.RowKit Go.Shelf Go.Lib Go.Sort Go.Deep
open Go.Joins (cell_of_block unfrozen_of_block block_setCell)
open Go.Proofs.Ytcejaeeliedldaa.Ow
set_option linter.unusedVariables false
set_option linter.unusedSimpArgs false
set_option maxRecDepth 20000

theorem row_cut {w : World} {q : Option Addr} {l : List Tk} (h : RowR 3 encS w q l) (b e : Nat) : RowR 3 encS w (Option.map (fun x => x.add (b * 3)) q) ((l.take e).drop b) := fun j x hx => by
  rw [List.getElem?_drop] at hx
  have hje : b + j < e := by have := (List.getElem?_eq_some_iff.1 hx).1; rw [List.length_take] at this; omega
  rw [List.getElem?_take_of_lt hje] at hx
  obtain ⟨g, off, rfl, hg, hc⟩ := h (b + j) x hx
  have ea : (⟨g, off, none⟩ : Addr).add (b * 3) = ⟨g, off + b * 3, none⟩ := by unfold Addr.add; split <;> simp_all
  refine ⟨g, off + b * 3, by rw [Option.map_some, ea], hg, fun t v hv => ?_⟩
  have := hc t v hv
  rw [Nat.add_mul, ← Nat.add_assoc] at this
  exact this
theorem within_nil (w : World) (now win : Int) : Calls Try.prog 19 #[.pointer none, .int .i64 now, .int .i64 win] w fun e w' => e = .returned (.slice none 0 0) ∧ Below w.heap.size w w' := by
  obtain ⟨w1, hw1⟩ : ∃ w1, w1 = (w.alloc (.cells #[.pointer none] PT)).alloc (.cells #[.int .i64 now] AT) := ⟨_, rfl⟩
  obtain ⟨A, hA⟩ : ∃ A, A = w.heap.size := ⟨_, rfl⟩
  have G1 : Gr w w1 := by rw [hw1]; exact ((Gr.refl w).alloc _).alloc _
  have a1 : w1.heap[A]? = some (.cells #[.pointer none] PT (0, 0)) := by rw [hw1, hA, Below.heap_alloc _ _ _ (by simp)]; exact heap_alloc_new w _
  have c1 : w1.cell? ⟨A, 0, none⟩ = some (.pointer none) := cell_of_block a1 0
  have FIN := Lib.hid G1.below
  have HW : Hid ((w.alloc (.cells #[.pointer none] PT)).alloc (.cells #[.int .i64 now] AT) = w1 ∧ w.heap.size = A) := ⟨hw1.symm, hA.symm⟩
  clear hw1 hA G1 a1
  go_enter Try.func19, Try.ntmps19
  go_upto_region 1 with fail
  rw [HW.out.1, HW.out.2]
  go_wp2
  go_ret
  exact ⟨rfl, FIN.out⟩

set_option maxHeartbeats 8000000 in
theorem within_any (N : Nat) (w : World) (mb : Nat) (v : Value) (l : List Tk) (h : Mem N w mb v l) (hl : l.length ≤ 1000000) (hr : Ris l) (now win : Int) (hn : now < 9223372036854775808) :
    Calls Try.prog 19 #[.pointer (some ⟨mb, 0, none⟩), .int .i64 now, .int .i64 win] w fun e w' => (∃ q c, e = .returned (.slice q (wtn l now win).length c) ∧ RowR 3 encS w' q (wtn l now win)) ∧ Below w.heap.size w w' := by
  obtain ⟨A, hA⟩ : ∃ A, A = w.heap.size := ⟨_, rfl⟩
  obtain ⟨w1, hw1⟩ : ∃ w1, w1 = (w.alloc (.cells #[.pointer (some ⟨mb, 0, none⟩)] PT)).alloc (.cells #[.int .i64 now] AT) := ⟨_, rfl⟩
  have G1 : Gr w w1 := by rw [hw1]; exact ((Gr.refl w).alloc _).alloc _
  have s1 : w1.heap.size = A + 2 := by rw [hw1, hA]; simp
  have a1 : w1.heap[A]? = some (.cells #[.pointer (some ⟨mb, 0, none⟩)] PT (0, 0)) := by rw [hw1, hA, Below.heap_alloc _ _ _ (by simp)]; exact heap_alloc_new w _
  have b1 : w1.heap[A + 1]? = some (.cells #[.int .i64 now] AT (0, 0)) := by
    rw [hw1, hA]
    have := heap_alloc_new (w.alloc (.cells #[.pointer (some ⟨mb, 0, none⟩)] PT)) (.cells #[.int .i64 now] AT)
    simpa using this
  obtain ⟨wd, hwd⟩ : ∃ d, d = wid win := ⟨_, rfl⟩
  have hwd' : min (max win 1) 1800 = wd := hwd.symm
  obtain ⟨w2, hw2⟩ : ∃ w2, w2 = w1.alloc (.cells #[.int .i64 wd] AT) := ⟨_, rfl⟩
  have d2 : w2.heap[A + 2]? = some (.cells #[.int .i64 wd] AT (0, 0)) := by rw [hw2, ← s1]; exact heap_alloc_new w1 _
  have G2 : Gr w w2 := by rw [hw2]; exact G1.alloc _
  have a2 : w2.heap[A]? = some (.cells #[.pointer (some ⟨mb, 0, none⟩)] PT (0, 0)) := by rw [hw2, Below.heap_alloc _ _ _ (by omega)]; exact a1
  have b2 : w2.heap[A + 1]? = some (.cells #[.int .i64 now] AT (0, 0)) := by rw [hw2, Below.heap_alloc _ _ _ (by omega)]; exact b1
  have HW : Hid ((w.alloc (.cells #[.pointer (some ⟨mb, 0, none⟩)] PT)).alloc (.cells #[.int .i64 now] AT) = w1 ∧ w.heap.size = A ∧ w1.heap.size = A + 2) := ⟨hw1.symm, hA.symm, s1⟩
  have HW2 : Hid (w1.alloc (.cells #[.int .i64 wd] AT) = w2) := hw2.symm
  have M2 := h.below G2.below
  have c1 : w1.cell? ⟨A, 0, none⟩ = some (.pointer (some ⟨mb, 0, none⟩)) := cell_of_block a1 0
  have e1 : w2.cell? ⟨A, 0, none⟩ = some (.pointer (some ⟨mb, 0, none⟩)) := cell_of_block a2 0
  obtain ⟨q, c, rfl, _, hq, hlc, hcm⟩ := M2.row
  have f1 := M2.c0
  obtain ⟨n, hnl⟩ : ∃ n, n = l.length := ⟨_, rfl⟩
  let P1 : Nat → Bool := fun i => match l[i]? with | some x => decide (x.tm > now) | none => true
  have C1 := Lib.hid (search_any w2 n (by omega) 28 #[.pointer (some ⟨A, 0, none⟩), .pointer (some ⟨A + 1, 0, none⟩)] P1
    (fun i j hij hj hi => by
      obtain ⟨x, hx⟩ : ∃ x, l[i]? = some x := ⟨l[i]'(by omega), List.getElem?_eq_getElem (by omega)⟩
      obtain ⟨y, hy⟩ : ∃ x, l[j]? = some x := ⟨l[j]'(by omega), List.getElem?_eq_getElem (by omega)⟩
      simp only [P1, hx, hy, decide_eq_true_eq] at hi ⊢
      rcases Nat.lt_or_ge i j with h1 | h1
      · have := ris_at hr h1 hx hy; omega
      · obtain rfl : i = j := by omega
        rw [hx] at hy; cases hy; exact hi) enters_w1
    (fun ws i hi bs => by
      obtain ⟨x, hx⟩ : ∃ x, l[i]? = some x := ⟨l[i]'(by omega), List.getElem?_eq_getElem (by omega)⟩
      have hp : P1 i = decide (x.tm > now) := by simp only [P1, hx]
      rw [hp]
      exact (w1_any N ws mb _ l (M2.below bs) hl A (A + 1) now ((bs.block _ (Array.getElem?_eq_some_iff.1 a2).1).trans a2) ((bs.block _ (Array.getElem?_eq_some_iff.1 b2).1).trans b2) i x hx).mono (fun e w' q => ⟨q.1, q.2.below⟩)))
  let P2 : Nat → Bool := fun i => match l[i]? with | some x => decide (now - x.tm < wd) | none => true
  have C2 : Hid (∀ (e : Nat) (ws : World), e ≤ n → (∀ i, i < e → P1 i = false) → Below w2.heap.size w2 ws → Calls Try.prog 27 #[.int .i64 (e : Int), .func (.func 29) #[] #[.pointer (some ⟨A + 1, 0, none⟩), .pointer (some ⟨A, 0, none⟩), .pointer (some ⟨A + 2, 0, none⟩)]] ws fun r w' => (∃ k : Nat, r = .returned (.int .i64 (k : Int)) ∧ k ≤ e ∧ (∀ i, i < k → P2 i = false) ∧ ∀ i, k ≤ i → i < e → P2 i = true) ∧ Below ws.heap.size ws w') := fun e ws he hP bs =>
    search_any ws e (by omega) _ _ P2
      (fun i j hij hj hi => by
        obtain ⟨x, hx⟩ : ∃ x, l[i]? = some x := ⟨l[i]'(by omega), List.getElem?_eq_getElem (by omega)⟩
        obtain ⟨y, hy⟩ : ∃ x, l[j]? = some x := ⟨l[j]'(by omega), List.getElem?_eq_getElem (by omega)⟩
        simp only [P2, hx, hy, decide_eq_true_eq] at hi ⊢
        rcases Nat.lt_or_ge i j with h1 | h1
        · have := ris_at hr h1 hx hy; omega
        · obtain rfl : i = j := by omega
          rw [hx] at hy; cases hy; exact hi) enters_w2
      (fun wt i hi bt => by
        obtain ⟨x, hx⟩ : ∃ x, l[i]? = some x := ⟨l[i]'(by omega), List.getElem?_eq_getElem (by omega)⟩
        have hp : P2 i = decide (now - x.tm < wd) := by simp only [P2, hx]
        have h1 := hP i hi
        simp only [P1, hx, decide_eq_false_iff_not] at h1
        have b3 : Below w2.heap.size w2 wt := bs.trans (bt.mono bs.size)
        rw [hp]
        exact (w2_any N wt mb _ l (M2.below b3) hl A (A + 1) (A + 2) now wd ((b3.block _ (Array.getElem?_eq_some_iff.1 a2).1).trans a2) ((b3.block _ (Array.getElem?_eq_some_iff.1 b2).1).trans b2) ((b3.block _ (Array.getElem?_eq_some_iff.1 d2).1).trans d2) i x hx (hr.2 x (List.mem_of_getElem? hx)).1 (by omega) hn).mono (fun e w' q => ⟨q.1, q.2.below⟩))
  have CUT : Hid (∀ b e : Nat, b ≤ e → e ≤ n → (∀ i, i < e → P1 i = false) → (∀ i, e ≤ i → i < n → P1 i = true) → (∀ i, i < b → P2 i = false) → (∀ i, b ≤ i → i < e → P2 i = true) → (l.take e).drop b = wtn l now win) := fun b e hbe he p1 p2 p3 p4 => by
    unfold wtn
    rw [← hwd]
    refine cut_in hbe (by omega) (fun i x hx => ?_) (fun i x hx hi => ?_)
    · have hi : i < n := by rw [hnl]; exact (List.getElem?_eq_some_iff.1 hx).1
      constructor
      · intro h
        have := p1 i h
        simp only [P1, hx, decide_eq_false_iff_not] at this
        omega
      · intro h
        rcases Nat.lt_or_ge i e with h1 | h1
        · exact h1
        · have := p2 i h1 hi
          simp only [P1, hx, decide_eq_true_eq] at this
          omega
    · constructor
      · intro h
        have := p4 i h hi
        simpa only [P2, hx, decide_eq_true_eq] using this
      · intro h
        rcases Nat.lt_or_ge i b with h1 | h1
        · have := p3 i h1
          simp only [P2, hx, decide_eq_false_iff_not] at this
          omega
        · exact h1
  generalize P1 = Q1 at C1 C2 CUT
  generalize P2 = Q2 at C2 CUT
  have HH := Lib.hid (And.intro M2 (And.intro a2 (And.intro hlc (And.intro hcm (And.intro hnl (And.intro G2 hq))))))
  have hnc : n ≤ c := by omega
  rw [← hnl] at f1
  unfold maxLen at hcm
  clear hw1 hA hw2 hnl hwd G1 s1 a1 b1 d2 G2 a2 b2 M2 hq hlc h hr hl P1 P2
  go_enter Try.func19, Try.ntmps19
  go_upto_region 1 with fail
  rw [HW.out.1, HW.out.2.1]
  go_upto_region 4 with fail
  rw [HW2.out, HW.out.2.2]
  go_wp2_with fail
  refine C1.out.mono ?_
  rintro r w3 ⟨⟨e, rfl, he, p1, p2⟩, b3⟩
  have CC := Lib.hid (C2.out e w3 he p1 b3)
  have H3 := Lib.hid (And.intro p1 (And.intro p2 b3))
  clear p1 p2 b3 C1 C2 e1 f1 c1
  go_wp2_with fail
  refine CC.out.mono ?_
  rintro r w4 ⟨⟨b, rfl, hb, p3, p4⟩, b4⟩
  have EC := Lib.hid (CUT.out b e hb he H3.out.1 H3.out.2.1 p3 p4)
  have B4 := Lib.hid (H3.out.2.2.trans (b4.mono H3.out.2.2.size))
  have M4 := HH.out.1.below B4.out
  have f4 := M4.c0
  have e4 : w4.cell? ⟨A, 0, none⟩ = some (.pointer (some ⟨mb, 0, none⟩)) := cell_of_block ((B4.out.block _ (Array.getElem?_eq_some_iff.1 HH.out.2.1).1).trans HH.out.2.1) 0
  clear p3 p4 b4 CC CUT H3 M4
  go_wp2_with fail
  · have e0 : e = b := by have := HH.out.2.2.1; have := HH.out.2.2.2.2.1; omega
    have FIN : Hid (wtn l now win = []) := by
      show _ = _
      rw [← EC.out, e0]
      apply List.eq_nil_of_length_eq_zero
      rw [List.length_drop, List.length_take]
      omega
    have F2 := Lib.hid (HH.out.2.2.2.2.2.1.below.trans (B4.out.mono HH.out.2.2.2.2.2.1.size))
    subst e0
    go_ret
    rw [FIN.out]
    refine ⟨⟨q, ⟨0, ?_⟩, RowR.nil _ _ _ _⟩, F2.out⟩
    show Ending.returned (Value.slice q (e - e) 0) = .returned (.slice q 0 0)
    rw [Nat.sub_self]
  · have FIN : Hid (RowR 3 encS w4 (Option.map (fun x => x.add (b * 3)) q) (wtn l now win) ∧ (wtn l now win).length = e - b) := by
      have M4 := HH.out.1.below B4.out
      obtain ⟨q2, c2, ev, hr, _⟩ := M4.row
      simp only [Value.slice.injEq] at ev
      obtain ⟨rfl, _, _⟩ := ev
      rw [← EC.out]
      exact ⟨row_cut hr b e, by rw [List.length_drop, List.length_take]; have := HH.out.2.2.2.2.1; omega⟩
    have F2 := Lib.hid (HH.out.2.2.2.2.2.1.below.trans (B4.out.mono HH.out.2.2.2.2.2.1.size))
    go_ret
    refine ⟨⟨_, ⟨c - b, ?_⟩, FIN.out.1⟩, F2.out⟩
    rw [FIN.out.2]
    rfl
end Go.Proofs.Ytcejaeeliedldaa.Wn
