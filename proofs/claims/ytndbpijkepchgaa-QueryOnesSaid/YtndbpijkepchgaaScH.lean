/- What is fresh of a series: Row. -/
import Derived.Test.YtndbpijkepchgaaScG
namespace Go.Proofs.Ytndbpijkepchgaa
open Go.RowKit Go.Shelf Go.Lib Go.Sort
open Go.Joins (cell_of_block unfrozen_of_block block_setCell)
set_option linter.unusedVariables false
set_option linter.unusedSimpArgs false
set_option maxRecDepth 20000

theorem own_less {w : World} {B N n s : Nat} {T : TypeId} {v : Value} {xs : List Value} (h : w.ownsRow B T s v n xs) (hN : N ≤ B) : w.ownsRow N T s v n xs := by
  obtain ⟨h0, h⟩ := h
  refine ⟨h0, ?_⟩
  rcases h with h | ⟨g, cap, cur, e, hb, r⟩
  · exact .inl h
  · exact .inr ⟨g, cap, cur, e, by omega, r⟩
def rowOf (now a : Int) (l : List (Int × Int)) : List (Int × Int) := l.filter (fun x => !decide (a < now - x.1))
theorem row_few (now a : Int) (l : List (Int × Int)) : (rowOf now a l).length ≤ l.length := List.length_filter_le _ _
theorem row_next (now a : Int) {L : List (Int × Int)} {j : Nat} {x : Int × Int} (h : L[j]? = some x) : rowOf now a (L.take (j + 1)) = rowOf now a (L.take j) ++ (if a < now - x.1 then [] else [x]) := by
  obtain ⟨hl, rfl⟩ := List.getElem?_eq_some_iff.1 h
  unfold rowOf
  rw [List.take_succ_eq_append_getElem hl, List.filter_append]
  congr 1
  by_cases e : a < now - L[j].1 <;> simp [List.filter_cons, e]
theorem row_nil (w : World) (now : Int) (s : Sr) : Calls Try.prog 10 #[.pointer none, .int .i64 now, ser s] w fun r w' => r = .returned (.slice none 0 0) ∧ Below w.heap.size w w' := by
  have F : Hid (∀ o, Below w.heap.size w (w.alloc o)) := fun o => (Below.refl _ _).alloc (Nat.le_refl _) _
  unfold ser
  go_enter Try.func10, Try.ntmps10
  go_wp2
  go_ret
  exact ⟨rfl, F.out _⟩

set_option maxHeartbeats 4000000 in
theorem row_any (w : World) (bb mb n a : Nat) (E : List En) (h : Bk w bb mb n a E) (now : Int) (s : Sr) (hk : OkS s) (hn : now ≤ 9223372036854775807) :
    Calls Try.prog 10 #[.pointer (some ⟨bb, 0, none⟩), .int .i64 now, ser s] w fun r w' =>
      (∃ q c, r = .returned (.slice q (rowOf now a (upto now (smpsOf E s))).length c) ∧ w'.ownsRow w.heap.size TSQ 2 (.slice q (rowOf now a (upto now (smpsOf E s))).length c) (rowOf now a (upto now (smpsOf E s))).length (flQ (rowOf now a (upto now (smpsOf E s))))) ∧ Below w.heap.size w w' := by
  obtain ⟨w1, N, B⟩ := boxed w s
  have h1 := h.gr B.b
  have b0 := B.c0
  have b1 := B.c1
  have HW : Hid (w.alloc (.cells #[.string s.1, .string s.2] KS) = w1 ∧ w.heap.size = N) := ⟨B.eq, B.at_⟩
  have CU := Lib.hid (until_any w1 bb mb n a E h1 now s hk)
  obtain ⟨_, _, hpos, hfew⟩ := h.pts hk
  have hU : ∀ x ∈ upto now (smpsOf E s), 0 ≤ x.1 ∧ x.1 ≤ now := fun x hx => ⟨hpos x (upto_mem hx).1, (upto_mem hx).2⟩
  have hUl : (upto now (smpsOf E s)).length ≤ 32 := Nat.le_trans (upto_few _ _) hfew
  obtain ⟨U, hUe⟩ : ∃ U, U = upto now (smpsOf E s) := ⟨_, rfl⟩
  rw [← hUe] at CU hU hUl ⊢
  clear hUe hpos hfew
  unfold ser at CU ⊢
  obtain ⟨m, hm⟩ : ∃ m, m = U.length := ⟨_, rfl⟩
  rw [← hm] at CU hUl
  obtain ⟨inf, i1, i2, i3, i4⟩ := infoQ
  have HI := Lib.hid (And.intro i1 (And.intro i2 (And.intro i3 i4)))
  have HH := Lib.hid (And.intro B (And.intro h1 (And.intro hm (And.intro hU hn))))
  clear h h1 B hU hk hm hn i1 i2 i3 i4
  go_enter Try.func10, Try.ntmps10
  go_upto_region 4 with fail
  rw [HW.out.1, HW.out.2]
  go_wp2_with fail
  refine CU.out.mono ?_
  rintro r w2 ⟨⟨q, c, rfl, own⟩, b2⟩
  obtain ⟨M, hM⟩ : ∃ M, M = w2.heap.size := ⟨_, rfl⟩
  have S0 : Hid (w2.ownsRow M TSQ 2 (.slice none 0 0) (rowOf now a (U.take 0)).length (flQ (rowOf now a (U.take 0))) ∧ Below M w2 w2) := ⟨World.ownsRow_nil _ _ _ _, Below.refl _ _⟩
  have HO := Lib.hid (And.intro own (And.intro b2 hM))
  clear own b2 hM CU
  go_wp2_with fail
  go_loopg [17, 7] m (fun g vi v7 wr => ∃ j : Nat, vi = .int .i64 (j : Int) ∧ j ≤ m ∧ m - j ≤ g ∧ Hid (wr.ownsRow M TSQ 2 v7 (rowOf now a (U.take j)).length (flQ (rowOf now a (U.take j))) ∧ Below M w2 wr))
  case atStart => exact ⟨0, rfl, by omega, by omega, S0⟩
  case round =>
    obtain ⟨j, rfl, hj, hg, HR⟩ := hrel
    by_cases hlt : j < m
    · obtain ⟨ownr, low⟩ := HR.out
      obtain ⟨own, b2, hM⟩ := HO.out
      obtain ⟨B, h1, hm, hU, hn⟩ := HH.out
      obtain ⟨x, hx⟩ : ∃ x, U[j]? = some x := ⟨U[j]'(by omega), List.getElem?_eq_getElem (by omega)⟩
      obtain ⟨g, rfl, hg1, hg2, a0, a1⟩ := own_atQ own hm.symm hx
      have hxx := hU x (List.mem_of_getElem? hx)
      have e0 : wr.cell? ⟨g, j * 2, none⟩ = some (.int .i64 x.1) := (low.cell (p := ⟨g, j * 2, none⟩) (by show g < M; omega)).trans a0
      have e1 : wr.cell? ⟨g, j * 2 + 1, none⟩ = some (.int .i64 x.2) := (low.cell (p := ⟨g, j * 2 + 1, none⟩) (by show g < M; omega)).trans a1
      have hr : Bk wr bb mb n a E := (h1.gr b2).gr (by rw [← hM]; exact low)
      obtain ⟨O, hO⟩ : ∃ O, O = wr.heap.size := ⟨_, rfl⟩
      obtain ⟨w3, hw3⟩ : ∃ w3, w3 = wr.alloc (.cells #[.int .i64 x.1, .int .i64 x.2] TSQ) := ⟨_, rfl⟩
      have b3 : Below wr.heap.size wr w3 := hw3 ▸ (Below.refl _ _).alloc (Nat.le_refl _) _
      have k3 : w3.heap[O]? = some (.cells #[.int .i64 x.1, .int .i64 x.2] TSQ (0, 0)) := by rw [hw3, hO]; exact heap_alloc_new wr _
      have d0 : w3.cell? ⟨O, 0, none⟩ = some (.int .i64 x.1) := cell_of_block k3 0
      have d1 : w3.cell? ⟨O, 1, none⟩ = some (.int .i64 x.2) := cell_of_block k3 1
      have CST := Lib.hid (stale_any w3 bb a now x.1 x.2 (hr.gr b3).c1 hxx.1 hxx.2 hn)
      have HW3 : Hid (wr.alloc (.cells #[.int .i64 x.1, .int .i64 x.2] TSQ) = w3 ∧ wr.heap.size = O) := ⟨hw3.symm, hO.symm⟩
      have HN := Lib.hid (row_next now a hx)
      have low3 : Below M w2 w3 := low.trans (b3.mono (by have := low.size; omega))
      have own3 : w3.ownsRow M TSQ 2 u7 (rowOf now a (U.take j)).length (flQ (rowOf now a (U.take j))) := by rw [hw3]; exact ownr.alloc _
      have BB : Hid (∀ w', Below w3.heap.size w3 w' → Below M w2 w' ∧ w'.ownsRow M TSQ 2 u7 (rowOf now a (U.take j)).length (flQ (rowOf now a (U.take j))) ∧ w'.cell? ⟨O, 0, none⟩ = some (.int .i64 x.1) ∧ w'.cell? ⟨O, 1, none⟩ = some (.int .i64 x.2) ∧ M ≤ w'.heap.size) := fun w' b => by
        have l' : Below M w2 w' := low3.trans (b.mono (by have := low3.size; omega))
        refine ⟨l', ?_, (b.cell (p := ⟨O, 0, none⟩) (World.block_lt_of_cell? _ _ d0)).trans d0, (b.cell (p := ⟨O, 1, none⟩) (World.block_lt_of_cell? _ _ d1)).trans d1, by have := l'.size; omega⟩
        obtain ⟨z0, own3⟩ := own3
        refine ⟨z0, ?_⟩
        rcases own3 with own3 | ⟨g, cap, cur, e, hb, hg, r⟩
        · exact .inl own3
        · exact .inr ⟨g, cap, cur, e, hb, (b.block g (Array.getElem?_eq_some_iff.1 hg).1).trans hg, r⟩
      have hfa : (rowOf now a (U.take j)).length ≤ 32 := by have := row_few now a (U.take j); rw [List.length_take] at this; omega
      obtain ⟨acc, hacc⟩ : ∃ acc, acc = rowOf now a (U.take j) := ⟨_, rfl⟩
      rw [← hacc] at HN BB hfa
      obtain ⟨xa, xv⟩ := x
      simp only at e0 e1 d0 d1 CST BB HW3 HN
      have j0 : (0 : Int) ≤ (j : Int) := Int.natCast_nonneg _
      have j1 : (j : Int) < (m : Int) := by omega
      clear ownr low own b2 hM B h1 hm hU hn hx hg1 hg2 a0 a1 hxx hr hO hw3 b3 k3 low3 own3 hacc HR S0
      by_cases hst : (a : Int) < now - xa
      · rw [decide_eq_true hst] at CST
        rw [if_pos hst, List.append_nil] at HN
        clear hst
        go_upto_region 7 with fail
        rw [HW3.out.1, HW3.out.2]
        go_wp2_with fail
        refine CST.out.mono ?_
        rintro r w4 ⟨rfl, b4⟩
        have FIN : Hid (w4.ownsRow M TSQ 2 u7 (rowOf now a (U.take (j + 1))).length (flQ (rowOf now a (U.take (j + 1)))) ∧ Below M w2 w4) := by
          rw [HN.out]
          have := BB.out _ b4
          exact ⟨this.2.1, this.1⟩
        clear b4 d0 d1 e0 e1 BB
        go_wp2
        go_roundg (m - (j + 1))
        case measure => omega
        case rel => exact ⟨j + 1, by push_cast; rfl, by omega, by omega, FIN⟩
      · rw [decide_eq_false hst] at CST
        rw [if_neg hst] at HN
        clear hst
        go_upto_region 7 with fail
        rw [HW3.out.1, HW3.out.2]
        go_wp2_with fail
        refine CST.out.mono ?_
        rintro r w4 ⟨rfl, b4⟩
        obtain ⟨l4, o4, d40, d41, hM4⟩ := BB.out _ b4
        obtain ⟨w5, hw5⟩ : ∃ w5, w5 = w4.alloc (.cells #[.int .i64 xa, .int .i64 xv] TSQ) := ⟨_, rfl⟩
        obtain ⟨P, hP⟩ : ∃ P, P = w4.heap.size := ⟨_, rfl⟩
        have NEW : Hid (∀ (t : Nat) u, ([.int .i64 xa, .int .i64 xv] : List Value)[t]? = some u → w5.cell? ((⟨P, 0, none⟩ : Addr).add t) = some u) := by
          have := World.news_of_block (w := w5) (B := P) (cs := #[.int .i64 xa, .int .i64 xv]) (t := TSQ) (fr := (0, 0)) (by rw [hw5, hP]; exact heap_alloc_new w4 _)
          exact this
        have OW : Hid (w5.ownsRow M TSQ 2 u7 acc.length (flQ acc)) := by show World.ownsRow _ _ _ _ _ _ _; rw [hw5]; exact o4.alloc _
        have l5 : Below M w2 w5 := by rw [hw5]; exact l4.alloc hM4 _
        have BS : Hid (M ≤ w5.heap.size) := by show _ ≤ _; rw [hw5]; simp; omega
        have L5 := Lib.hid l5
        have HW5 : Hid (w4.alloc (.cells #[.int .i64 xa, .int .i64 xv] TSQ) = w5 ∧ w4.heap.size = P) := ⟨hw5.symm, hP.symm⟩
        clear b4 d0 d1 e0 e1 BB l4 o4 hw5 hP l5 hM4
        go_wp2_with (at_builtin; rw [HW5.out.1, HW5.out.2]; refine wpList_append_lies _ rfl _ _ SlQ (by rfl) M TSQ inf (.agg #[.int .i64 0, .int .i64 0]) 2 16 Try.underlying36 HI.out.1 HI.out.2.1 HI.out.2.2.1 HI.out.2.2.2 rfl (by omega) u7 acc.length (flQ acc) (by rfl) OW.out ⟨P, 0, none⟩ 1 1 [.int .i64 xa, .int .i64 xv] (by rfl) rfl NEW.out (by intro u hu; simp at hu; rcases hu with rfl | rfl <;> rfl) (by omega) (by unfold maxLen; omega) (by omega) BS.out _ rfl ?_; intro g cap w6 hown6 hgrow6 hat6 hlt6)
        have FIN : Hid (w6.ownsRow M TSQ 2 (.slice (some ⟨g, 0, none⟩) (acc.length + 1) cap) (rowOf now a (U.take (j + 1))).length (flQ (rowOf now a (U.take (j + 1)))) ∧ Below M w2 w6) := by
          refine ⟨?_, L5.out.grown hgrow6 BS.out (fun k e => (OW.out.lt k e).1)⟩
          rw [HN.out, fl_snocQ, List.length_append]
          exact hown6
        clear hown6 hgrow6 hat6 hlt6 OW BS NEW L5
        go_wp2
        go_roundg (m - (j + 1))
        case measure => omega
        case rel => exact ⟨j + 1, by push_cast; rfl, by omega, by omega, FIN⟩
    · have e : j = m := by omega
      subst e
      obtain ⟨ownr, low⟩ := HR.out
      rw [HH.out.2.2.1, List.take_length] at ownr
      have FIN : Hid (wr.ownsRow w.heap.size TSQ 2 u7 (rowOf now a U).length (flQ (rowOf now a U)) ∧ Below w.heap.size w wr) := by
        obtain ⟨own, b2, hM⟩ := HO.out
        have h0 := HH.out.1.b.size
        have h2 := b2.size
        exact ⟨own_less ownr (by omega), (HH.out.1.b.trans (b2.mono h0)).trans (low.mono (by omega))⟩
      clear ownr low HR S0
      obtain ⟨q7, c7, rfl⟩ := own_sliceQ FIN.out.1
      go_wp2
      go_ret
      exact ⟨⟨_, _, rfl, FIN.out.1⟩, FIN.out.2⟩
end Go.Proofs.Ytndbpijkepchgaa
