/- Layer 15 (victim): rows copied by slices.Clone; an object whose rows of an Hpa are in new memory (apart). -/
import Derived.Test.YtbkoepghmcdnhaaGreatDoorObRow
import Derived.Test.YtbkoepghmcdnhaaGreatDoorVaD
import Derived.Test.YtbkoepghmcdnhaaGreatDoorLoads
import Derived.Test.YtbkoepghmcdnhaaGreatDoorHeldG
import Derived.Laws.OwnMore
namespace Go.Proofs.YtbkoepghmcdnhaaGreatDoor.Vi
open Go.RowKit Go.Shelf Go.Lib Go.Sort Go.Deep
open Go.Joins (cell_of_block unfrozen_of_block block_setCell)
open Go.Proofs.YtbkoepghmcdnhaaGreatDoor.Ow
set_option linter.unusedVariables false
set_option linter.unusedSimpArgs false
set_option maxRecDepth 20000

abbrev OT : TypeId := 51
theorem news_row {α : Type} {k : Nat} {enc : α → List Value} (hk : ∀ x, (enc x).length = k) (h0 : 0 < k) {w w1 : World} {ad : Addr} {l : List α} (h : RowR k enc w (some ad) l) (g : Below w.heap.size w w1) :
    ∀ j u, (flat enc l)[j]? = some u → w1.cell? (ad.add j) = some u := by
  intro j u hu
  obtain ⟨i, t, x, hx, ht, hv, rfl⟩ := flat_get hk h0 hu
  obtain ⟨b, off, e, hb, hc⟩ := h i x hx
  injection e with e
  subst e
  rw [add_none', ← Nat.add_assoc, World.cell?_of_block (a := ⟨b, off + i * k + t, none⟩) (g.block b hb)]
  exact hc t u hv
theorem own_slc {w : World} {N : Nat} {E : TypeId} {k n : Nat} {v : Value} {xs : List Value} (h : w.ownsRow N E k v n xs) : ∃ q c, v = .slice q n c := by
  rcases h.2 with ⟨rfl, rfl⟩ | ⟨g, cap, cur, rfl, _⟩
  · exact ⟨_, _, rfl⟩
  · exact ⟨_, _, rfl⟩

set_option maxHeartbeats 4000000 in
theorem clone_M (w : World) (q : Option Addr) (c : Nat) (l : List Met) (hr : RowR 3 encM w q l) (hq : q = none → c = 0) (hn : l.length * 32 ≤ 140737488351232) :
    Calls Tryz.prog 93 #[.slice q l.length c] w fun e w' => (∃ q' c', e = .returned (.slice q' l.length c') ∧ w'.ownsRow w.heap.size 131 3 (.slice q' l.length c') l.length (flat encM l)) ∧ Below w.heap.size w w' := by
  cases q with
  | none =>
    obtain rfl := hq rfl
    have e0 : l = [] := by
      cases l with
      | nil => rfl
      | cons x r => obtain ⟨b, off, e, _⟩ := hr 0 x rfl; cases e
    subst e0
    have en := fun w => run_eql_slice_nil (P := Tryz.prog) w 43 131 none 0 0 0 0 Tryz.underlying43
    go_enter Tryz.func93, Tryz.ntmps93
    go_wp2
    go_ret
    exact ⟨⟨none, 0, rfl, World.ownsRow_nil _ _ _ _⟩, Below.refl _ _⟩
  | some ad =>
    have hinf : (Tryz.prog.info? 131).map (fun i => (i.zero, i.size, i.bytes)) = some (some (.agg #[.int .i64 0, .string ByteArray.empty, .int .i64 0]), 3, 32) := by kernel_rfl
    obtain ⟨ti, hi, hz0, hz1, hz2⟩ : ∃ i : TypeInfo, Tryz.prog.info? 131 = some i ∧ i.zero = some (.agg #[.int .i64 0, .string ByteArray.empty, .int .i64 0]) ∧ i.size = 3 ∧ i.bytes = 32 := by
      cases hi : Tryz.prog.info? 131 with
      | none => rw [hi] at hinf; cases hinf
      | some i =>
        rw [hi] at hinf
        simp only [Option.map_some, Option.some.injEq, Prod.mk.injEq] at hinf
        exact ⟨i, rfl, hinf.1, hinf.2.1, hinf.2.2⟩
    have HI := Lib.hid (And.intro hi (And.intro hz0 (And.intro hz1 hz2)))
    obtain ⟨E, hE⟩ : ∃ E, E = w.heap.size := ⟨_, rfl⟩
    obtain ⟨w1, hw1⟩ : ∃ x, x = w.alloc (.cells #[] 131) := ⟨_, rfl⟩
    have G1 : Below E w w1 := by rw [hw1, hE]; exact ((Gr.refl w).alloc _).below
    have e1 : w1.heap[E]? = some (.cells #[] 131 (0, 0)) := by rw [hw1, hE]; exact heap_alloc_new w _
    have o1 : w1.ownsRow E 131 3 (.slice (some ⟨E, 0, none⟩) 0 0) 0 [] := ⟨by simp, .inr ⟨E, 0, #[], rfl, Nat.le_refl _, e1, Nat.le_refl _, Nat.zero_le _, rfl, rfl⟩⟩
    have news : Hid (∀ j u, (flat encM l)[j]? = some u → w1.cell? (ad.add j) = some u) := news_row lenM (by decide) hr (hE ▸ G1)
    have hl : (flat encM l).length = l.length * 3 := flat_length lenM l
    have one : ∀ u ∈ flat encM l, u.oneCell' = true := flat_one oneM l
    obtain ⟨xs, hxs⟩ : ∃ xs, xs = flat encM l := ⟨_, rfl⟩
    obtain ⟨n, hk⟩ : ∃ n, n = l.length := ⟨_, rfl⟩
    rw [← hxs] at news hl one ⊢
    rw [← hk] at hl hn ⊢
    have z1 : E ≤ w1.heap.size := by rw [hE]; exact (hE ▸ G1).size
    have HW : Hid (w.alloc (.cells #[] 131) = w1 ∧ w.heap.size = E) := ⟨hw1.symm, hE.symm⟩
    have O1 := Lib.hid o1
    have HL := Lib.hid (And.intro hl (And.intro one G1))
    have en := fun w => run_eql_slice_nil (P := Tryz.prog) w 43 131 (some ad) n c 0 0 Tryz.underlying43
    clear hk hE hw1 G1 e1 o1 hxs hinf hi hz0 hz1 hz2 hl one hr hq
    go_enter Tryz.func93, Tryz.ntmps93
    go_upto_region 3 with fail
    go_wp2_with (first
      | (at_builtin; rw [HW.out.1, HW.out.2]; refine wpList_append_own_at w1 rfl _ _ 43 rfl E 131 ti _ 3 32 Tryz.underlying43 HI.out.1 HI.out.2.1 HI.out.2.2.1 HI.out.2.2.2 rfl (by decide) (.slice (some ⟨E, 0, none⟩) 0 0) 0 [] (by rfl) O1.out ad n c xs (by rfl) HL.out.1 news.out HL.out.2.1 (by unfold maxLen; omega) (by omega) z1 ?_; intro v5 w5 ho5 hg5 hn5 ha5; obtain ⟨q5, c5, rfl⟩ := own_slc ho5))
    have FIN : Hid (w5.ownsRow E 131 3 (.slice q5 (0 + n) c5) (0 + n) xs ∧ Below E w w5) := by
      refine ⟨by simpa using ho5, ?_⟩
      exact HL.out.2.2.trans ((Below.refl E w1).grown hg5 z1 (fun k e => by simp [Value.ownBlock] at e; omega))
    rw [Nat.zero_add] at FIN
    clear ho5 hg5 hn5 ha5 news O1 HL
    go_wp2
    go_ret
    exact ⟨⟨_, _, by first | rfl | (simp; done), by rw [HW.out.2]; exact FIN.out.1⟩, by rw [HW.out.2]; exact FIN.out.2⟩

set_option maxHeartbeats 4000000 in
theorem clone_P (w : World) (q : Option Addr) (c : Nat) (l : List Pol) (hr : RowR 3 encP w q l) (hq : q = none → c = 0) (hn : l.length * 24 ≤ 140737488351232) :
    Calls Tryz.prog 94 #[.slice q l.length c] w fun e w' => (∃ q' c', e = .returned (.slice q' l.length c') ∧ w'.ownsRow w.heap.size 135 3 (.slice q' l.length c') l.length (flat encP l)) ∧ Below w.heap.size w w' := by
  cases q with
  | none =>
    obtain rfl := hq rfl
    have e0 : l = [] := by
      cases l with
      | nil => rfl
      | cons x r => obtain ⟨b, off, e, _⟩ := hr 0 x rfl; cases e
    subst e0
    have en := fun w => run_eql_slice_nil (P := Tryz.prog) w 44 135 none 0 0 0 0 Tryz.underlying44
    go_enter Tryz.func94, Tryz.ntmps94
    go_wp2
    go_ret
    exact ⟨⟨none, 0, rfl, World.ownsRow_nil _ _ _ _⟩, Below.refl _ _⟩
  | some ad =>
    have hinf : (Tryz.prog.info? 135).map (fun i => (i.zero, i.size, i.bytes)) = some (some (.agg #[.bool false, .int .i64 0, .int .i64 0]), 3, 24) := by kernel_rfl
    obtain ⟨ti, hi, hz0, hz1, hz2⟩ : ∃ i : TypeInfo, Tryz.prog.info? 135 = some i ∧ i.zero = some (.agg #[.bool false, .int .i64 0, .int .i64 0]) ∧ i.size = 3 ∧ i.bytes = 24 := by
      cases hi : Tryz.prog.info? 135 with
      | none => rw [hi] at hinf; cases hinf
      | some i =>
        rw [hi] at hinf
        simp only [Option.map_some, Option.some.injEq, Prod.mk.injEq] at hinf
        exact ⟨i, rfl, hinf.1, hinf.2.1, hinf.2.2⟩
    have HI := Lib.hid (And.intro hi (And.intro hz0 (And.intro hz1 hz2)))
    obtain ⟨E, hE⟩ : ∃ E, E = w.heap.size := ⟨_, rfl⟩
    obtain ⟨w1, hw1⟩ : ∃ x, x = w.alloc (.cells #[] 135) := ⟨_, rfl⟩
    have G1 : Below E w w1 := by rw [hw1, hE]; exact ((Gr.refl w).alloc _).below
    have e1 : w1.heap[E]? = some (.cells #[] 135 (0, 0)) := by rw [hw1, hE]; exact heap_alloc_new w _
    have o1 : w1.ownsRow E 135 3 (.slice (some ⟨E, 0, none⟩) 0 0) 0 [] := ⟨by simp, .inr ⟨E, 0, #[], rfl, Nat.le_refl _, e1, Nat.le_refl _, Nat.zero_le _, rfl, rfl⟩⟩
    have news : Hid (∀ j u, (flat encP l)[j]? = some u → w1.cell? (ad.add j) = some u) := news_row lenP (by decide) hr (hE ▸ G1)
    have hl : (flat encP l).length = l.length * 3 := flat_length lenP l
    have one : ∀ u ∈ flat encP l, u.oneCell' = true := flat_one oneP l
    obtain ⟨xs, hxs⟩ : ∃ xs, xs = flat encP l := ⟨_, rfl⟩
    obtain ⟨n, hk⟩ : ∃ n, n = l.length := ⟨_, rfl⟩
    rw [← hxs] at news hl one ⊢
    rw [← hk] at hl hn ⊢
    have z1 : E ≤ w1.heap.size := by rw [hE]; exact (hE ▸ G1).size
    have HW : Hid (w.alloc (.cells #[] 135) = w1 ∧ w.heap.size = E) := ⟨hw1.symm, hE.symm⟩
    have O1 := Lib.hid o1
    have HL := Lib.hid (And.intro hl (And.intro one G1))
    have en := fun w => run_eql_slice_nil (P := Tryz.prog) w 44 135 (some ad) n c 0 0 Tryz.underlying44
    clear hk hE hw1 G1 e1 o1 hxs hinf hi hz0 hz1 hz2 hl one hr hq
    go_enter Tryz.func94, Tryz.ntmps94
    go_upto_region 3 with fail
    go_wp2_with (first
      | (at_builtin; rw [HW.out.1, HW.out.2]; refine wpList_append_own_at w1 rfl _ _ 44 rfl E 135 ti _ 3 24 Tryz.underlying44 HI.out.1 HI.out.2.1 HI.out.2.2.1 HI.out.2.2.2 rfl (by decide) (.slice (some ⟨E, 0, none⟩) 0 0) 0 [] (by rfl) O1.out ad n c xs (by rfl) HL.out.1 news.out HL.out.2.1 (by unfold maxLen; omega) (by omega) z1 ?_; intro v5 w5 ho5 hg5 hn5 ha5; obtain ⟨q5, c5, rfl⟩ := own_slc ho5))
    have FIN : Hid (w5.ownsRow E 135 3 (.slice q5 (0 + n) c5) (0 + n) xs ∧ Below E w w5) := by
      refine ⟨by simpa using ho5, ?_⟩
      exact HL.out.2.2.trans ((Below.refl E w1).grown hg5 z1 (fun k e => by simp [Value.ownBlock] at e; omega))
    rw [Nat.zero_add] at FIN
    clear ho5 hg5 hn5 ha5 news O1 HL
    go_wp2
    go_ret
    exact ⟨⟨_, _, by first | rfl | (simp; done), by rw [HW.out.2]; exact FIN.out.1⟩, by rw [HW.out.2]; exact FIN.out.2⟩

set_option maxHeartbeats 4000000 in
theorem clone_S (w : World) (q : Option Addr) (c : Nat) (l : List Sca) (hr : RowR 3 encS w q l) (hq : q = none → c = 0) (hn : l.length * 24 ≤ 140737488351232) :
    Calls Tryz.prog 95 #[.slice q l.length c] w fun e w' => (∃ q' c', e = .returned (.slice q' l.length c') ∧ w'.ownsRow w.heap.size 139 3 (.slice q' l.length c') l.length (flat encS l)) ∧ Below w.heap.size w w' := by
  cases q with
  | none =>
    obtain rfl := hq rfl
    have e0 : l = [] := by
      cases l with
      | nil => rfl
      | cons x r => obtain ⟨b, off, e, _⟩ := hr 0 x rfl; cases e
    subst e0
    have en := fun w => run_eql_slice_nil (P := Tryz.prog) w 47 139 none 0 0 0 0 Tryz.underlying47
    go_enter Tryz.func95, Tryz.ntmps95
    go_wp2
    go_ret
    exact ⟨⟨none, 0, rfl, World.ownsRow_nil _ _ _ _⟩, Below.refl _ _⟩
  | some ad =>
    have hinf : (Tryz.prog.info? 139).map (fun i => (i.zero, i.size, i.bytes)) = some (some (.agg #[.int .i64 0, .int .i64 0, .int .i64 0]), 3, 24) := by kernel_rfl
    obtain ⟨ti, hi, hz0, hz1, hz2⟩ : ∃ i : TypeInfo, Tryz.prog.info? 139 = some i ∧ i.zero = some (.agg #[.int .i64 0, .int .i64 0, .int .i64 0]) ∧ i.size = 3 ∧ i.bytes = 24 := by
      cases hi : Tryz.prog.info? 139 with
      | none => rw [hi] at hinf; cases hinf
      | some i =>
        rw [hi] at hinf
        simp only [Option.map_some, Option.some.injEq, Prod.mk.injEq] at hinf
        exact ⟨i, rfl, hinf.1, hinf.2.1, hinf.2.2⟩
    have HI := Lib.hid (And.intro hi (And.intro hz0 (And.intro hz1 hz2)))
    obtain ⟨E, hE⟩ : ∃ E, E = w.heap.size := ⟨_, rfl⟩
    obtain ⟨w1, hw1⟩ : ∃ x, x = w.alloc (.cells #[] 139) := ⟨_, rfl⟩
    have G1 : Below E w w1 := by rw [hw1, hE]; exact ((Gr.refl w).alloc _).below
    have e1 : w1.heap[E]? = some (.cells #[] 139 (0, 0)) := by rw [hw1, hE]; exact heap_alloc_new w _
    have o1 : w1.ownsRow E 139 3 (.slice (some ⟨E, 0, none⟩) 0 0) 0 [] := ⟨by simp, .inr ⟨E, 0, #[], rfl, Nat.le_refl _, e1, Nat.le_refl _, Nat.zero_le _, rfl, rfl⟩⟩
    have news : Hid (∀ j u, (flat encS l)[j]? = some u → w1.cell? (ad.add j) = some u) := news_row lenS (by decide) hr (hE ▸ G1)
    have hl : (flat encS l).length = l.length * 3 := flat_length lenS l
    have one : ∀ u ∈ flat encS l, u.oneCell' = true := flat_one oneS l
    obtain ⟨xs, hxs⟩ : ∃ xs, xs = flat encS l := ⟨_, rfl⟩
    obtain ⟨n, hk⟩ : ∃ n, n = l.length := ⟨_, rfl⟩
    rw [← hxs] at news hl one ⊢
    rw [← hk] at hl hn ⊢
    have z1 : E ≤ w1.heap.size := by rw [hE]; exact (hE ▸ G1).size
    have HW : Hid (w.alloc (.cells #[] 139) = w1 ∧ w.heap.size = E) := ⟨hw1.symm, hE.symm⟩
    have O1 := Lib.hid o1
    have HL := Lib.hid (And.intro hl (And.intro one G1))
    have en := fun w => run_eql_slice_nil (P := Tryz.prog) w 47 139 (some ad) n c 0 0 Tryz.underlying47
    clear hk hE hw1 G1 e1 o1 hxs hinf hi hz0 hz1 hz2 hl one hr hq
    go_enter Tryz.func95, Tryz.ntmps95
    go_upto_region 3 with fail
    go_wp2_with (first
      | (at_builtin; rw [HW.out.1, HW.out.2]; refine wpList_append_own_at w1 rfl _ _ 47 rfl E 139 ti _ 3 24 Tryz.underlying47 HI.out.1 HI.out.2.1 HI.out.2.2.1 HI.out.2.2.2 rfl (by decide) (.slice (some ⟨E, 0, none⟩) 0 0) 0 [] (by rfl) O1.out ad n c xs (by rfl) HL.out.1 news.out HL.out.2.1 (by unfold maxLen; omega) (by omega) z1 ?_; intro v5 w5 ho5 hg5 hn5 ha5; obtain ⟨q5, c5, rfl⟩ := own_slc ho5))
    have FIN : Hid (w5.ownsRow E 139 3 (.slice q5 (0 + n) c5) (0 + n) xs ∧ Below E w w5) := by
      refine ⟨by simpa using ho5, ?_⟩
      exact HL.out.2.2.trans ((Below.refl E w1).grown hg5 z1 (fun k e => by simp [Value.ownBlock] at e; omega))
    rw [Nat.zero_add] at FIN
    clear ho5 hg5 hn5 ha5 news O1 HL
    go_wp2
    go_ret
    exact ⟨⟨_, _, by first | rfl | (simp; done), by rw [HW.out.2]; exact FIN.out.1⟩, by rw [HW.out.2]; exact FIN.out.2⟩

/-- An object of which the rows of an Hpa are in memory from N on. -/
def CopyH (N : Nat) (w : World) (L D : Array Value) (o : Ob) : Prop := D.size = L.size ∧ (∀ i, i ∉ [38, 42, 45, 46] → D[i]? = L[i]?) ∧
  OwnC N w 131 3 encM D 38 o.h.met ∧ OwnC N w 135 3 encP D 42 o.h.upol ∧ OwnC N w 135 3 encP D 45 o.h.dpol ∧ OwnC N w 139 3 encS D 46 o.h.past
theorem CopyH.keep {N : Nat} {w w' : World} {L D : Array Value} {o : Ob} (h : CopyH N w L D o) (hw : ∀ g, N ≤ g → g < w.heap.size → w'.heap[g]? = w.heap[g]?) : CopyH N w' L D o := by
  obtain ⟨h1, h2, a, b, c, d⟩ := h
  exact ⟨h1, h2, a.keep hw rfl, b.keep hw rfl, c.keep hw rfl, d.keep hw rfl⟩
theorem CopyH.less {M N : Nat} {w : World} {L D : Array Value} {o : Ob} (h : CopyH N w L D o) (hm : M ≤ N) : CopyH M w L D o := by
  obtain ⟨h1, h2, a, b, c, d⟩ := h
  exact ⟨h1, h2, a.less hm, b.less hm, c.less hm, d.less hm⟩
/-- It reads as the object does, wherever that one does. -/
theorem CopyH.obj {N : Nat} {w0 w : World} {L D : Array Value} {o : Ob} (h : CopyH N w L D o) (hv : ObjV w L o) : ObjV w D o := by
  obtain ⟨h1, h2, r38, r42, r45, r46⟩ := h
  obtain ⟨hsz, ⟨c0, c1, c2, hver⟩, hW, hP, hN, hG, hH⟩ := hv
  obtain ⟨c3, c4, c5, c6, c7, c8, c9⟩ := hW
  obtain ⟨c10, c11, c12, c13, c14, c15, c16, c17, c18, c19⟩ := hP
  obtain ⟨c20, c21, c22, c23, c24, c25, c26⟩ := hN
  obtain ⟨c27, c28, c29, c30, c31, c32, c33, c34⟩ := hG
  obtain ⟨c35, c36, c37, c38, c39, c40, c41, c42, c43, c44, c45, c46⟩ := hH
  have e : ∀ i, i ∉ [38, 42, 45, 46] → D[i]? = L[i]? := h2
  exact ⟨h1.trans hsz, ⟨(e 0 (by decide)).trans c0, (e 1 (by decide)).trans c1, (e 2 (by decide)).trans c2, hver⟩,
    ⟨(e 3 (by decide)).trans c3, (e 4 (by decide)).trans c4, (e 5 (by decide)).trans c5, (e 6 (by decide)) ▸ c6, (e 7 (by decide)) ▸ c7, (e 8 (by decide)) ▸ c8, (e 9 (by decide)).trans c9⟩,
    ⟨(e 10 (by decide)).trans c10, (e 11 (by decide)).trans c11, (e 12 (by decide)).trans c12, (e 13 (by decide)).trans c13, (e 14 (by decide)).trans c14, (e 15 (by decide)).trans c15, (e 16 (by decide)) ▸ c16, (e 17 (by decide)) ▸ c17, (e 18 (by decide)) ▸ c18, (e 19 (by decide)).trans c19⟩,
    ⟨(e 20 (by decide)).trans c20, (e 21 (by decide)).trans c21, (e 22 (by decide)).trans c22, (e 23 (by decide)) ▸ c23, (e 24 (by decide)) ▸ c24, (e 25 (by decide)).trans c25, (e 26 (by decide)).trans c26⟩,
    ⟨(e 27 (by decide)).trans c27, (e 28 (by decide)).trans c28, (e 29 (by decide)).trans c29, (e 30 (by decide)).trans c30, (e 31 (by decide)).trans c31, (e 32 (by decide)) ▸ c32, (e 33 (by decide)) ▸ c33, (e 34 (by decide)).trans c34⟩,
    ⟨(e 35 (by decide)).trans c35, (e 36 (by decide)).trans c36, (e 37 (by decide)).trans c37, OwnC.slr lenM r38, (e 39 (by decide)).trans c39, (e 40 (by decide)).trans c40, (e 41 (by decide)).trans c41, OwnC.slr lenP r42, (e 43 (by decide)).trans c43, (e 44 (by decide)).trans c44, OwnC.slr lenP r45, OwnC.slr lenS r46⟩⟩
theorem CopyH.nil {N : Nat} {w : World} {L D : Array Value} {o : Ob} (h : CopyH N w L D o) (hn : NilO L) : NilO D := by
  obtain ⟨h1, h2, r38, r42, r45, r46⟩ := h
  have own : ∀ {α : Type} {E : TypeId} {enc : α → List Value} {i : Nat} {l : List α}, OwnC N w E 3 enc D i l → ∀ n c, D[i]? = some (.slice none n c) → c = 0 := by
    intro α E enc i l ⟨v, hv, ho⟩ n c hc
    rw [hv] at hc
    cases hc
    rcases ho.2 with ⟨e, _⟩ | ⟨g, cap, cur, e, _⟩
    · cases e; rfl
    · cases e
  intro i n c hi hc
  by_cases hm : i ∈ [38, 42, 45, 46]
  · simp only [List.mem_cons, List.not_mem_nil, or_false] at hm
    rcases hm with rfl | rfl | rfl | rfl
    · exact own r38 n c hc
    · exact own r42 n c hc
    · exact own r45 n c hc
    · exact own r46 n c hc
  · rw [h2 i hm] at hc
    exact hn i n c hi hc

set_option maxHeartbeats 8000000 in
theorem apart_any (w0 : World) (L : Array Value) (o : Ob) (hv : ObjV w0 L o) (hn : NilO L) (hf : FitO o) :
    Calls Tryz.prog 64 #[.agg L] w0 fun e w' => (∃ D, e = .returned (.agg D) ∧ CopyH w0.heap.size w' L D o) ∧ Below w0.heap.size w0 w' := by
  obtain ⟨B, hB⟩ : ∃ B, B = w0.heap.size := ⟨_, rfl⟩
  obtain ⟨w, hw⟩ : ∃ W, W = (w0.alloc (.cells L OT)).alloc (.cells zerC OT) := ⟨_, rfl⟩
  have G0 : Below B w0 w := by rw [hw, hB]; exact (((Gr.refl w0).alloc _).alloc _).below
  have b0 : w.heap[B]? = some (.cells L OT (0, 0)) := by
    rw [hw, hB, ((Gr.refl (w0.alloc (.cells L OT))).alloc _).heap (by simp)]
    exact heap_alloc_new w0 _
  have b1 : w.heap[B + 1]? = some (.cells zerC OT (0, 0)) := by
    rw [hw, hB]
    have := heap_alloc_new (w0.alloc (.cells L OT)) (.cells zerC OT)
    simpa using this
  have hws : w.heap.size = B + 2 := by rw [hw, hB]; simp
  have HW : Hid ((w0.alloc (.cells L OT)).alloc (.cells zerC OT) = w ∧ w0.heap.size = B) := ⟨hw.symm, hB.symm⟩
  have HV := Lib.hid hv
  obtain ⟨hsz, _, _, _, _, _, hH⟩ := hv
  obtain ⟨_, _, _, ⟨q1, k1, e1, r1⟩, _, _, _, ⟨q2, k2, e2, r2⟩, _, _, ⟨q3, k3, e3, r3⟩, ⟨q4, k4, e4, r4⟩⟩ := hH
  have z1 : q1 = none → k1 = 0 := fun h => hn 38 _ k1 (by decide) (by rw [e1, h])
  have z2 : q2 = none → k2 = 0 := fun h => hn 42 _ k2 (by decide) (by rw [e2, h])
  have z3 : q3 = none → k3 = 0 := fun h => hn 45 _ k3 (by decide) (by rw [e3, h])
  have z4 : q4 = none → k4 = 0 := fun h => hn 46 _ k4 (by decide) (by rw [e4, h])
  have f1 := hf.1
  have f2 := hf.2.1
  have f3 := hf.2.2.1
  have f4 := hf.2.2.2
  have C1 : Hid (∀ ws, Below B w0 ws → Calls Tryz.prog 93 #[.slice q1 o.h.met.length k1] ws fun e w' => (∃ q' c', e = .returned (.slice q' o.h.met.length c') ∧ w'.ownsRow ws.heap.size 131 3 (.slice q' o.h.met.length c') o.h.met.length (flat encM o.h.met)) ∧ Below ws.heap.size ws w') := fun ws b => clone_M ws q1 k1 o.h.met (r1.below (hB ▸ b)) z1 f1
  have C2 : Hid (∀ ws, Below B w0 ws → Calls Tryz.prog 94 #[.slice q2 o.h.upol.length k2] ws fun e w' => (∃ q' c', e = .returned (.slice q' o.h.upol.length c') ∧ w'.ownsRow ws.heap.size 135 3 (.slice q' o.h.upol.length c') o.h.upol.length (flat encP o.h.upol)) ∧ Below ws.heap.size ws w') := fun ws b => clone_P ws q2 k2 o.h.upol (r2.below (hB ▸ b)) z2 f2
  have C3 : Hid (∀ ws, Below B w0 ws → Calls Tryz.prog 94 #[.slice q3 o.h.dpol.length k3] ws fun e w' => (∃ q' c', e = .returned (.slice q' o.h.dpol.length c') ∧ w'.ownsRow ws.heap.size 135 3 (.slice q' o.h.dpol.length c') o.h.dpol.length (flat encP o.h.dpol)) ∧ Below ws.heap.size ws w') := fun ws b => clone_P ws q3 k3 o.h.dpol (r3.below (hB ▸ b)) z3 f3
  have C4 : Hid (∀ ws, Below B w0 ws → Calls Tryz.prog 95 #[.slice q4 o.h.past.length k4] ws fun e w' => (∃ q' c', e = .returned (.slice q' o.h.past.length c') ∧ w'.ownsRow ws.heap.size 139 3 (.slice q' o.h.past.length c') o.h.past.length (flat encS o.h.past)) ∧ Below ws.heap.size ws w') := fun ws b => clone_S ws q4 k4 o.h.past (r4.below (hB ▸ b)) z4 f4
  obtain ⟨n1, hn1⟩ : ∃ n, n = o.h.met.length := ⟨_, rfl⟩
  obtain ⟨n2, hn2⟩ : ∃ n, n = o.h.upol.length := ⟨_, rfl⟩
  obtain ⟨n3, hn3⟩ : ∃ n, n = o.h.dpol.length := ⟨_, rfl⟩
  obtain ⟨n4, hn4⟩ : ∃ n, n = o.h.past.length := ⟨_, rfl⟩
  rw [← hn1] at C1 e1
  rw [← hn2] at C2 e2
  rw [← hn3] at C3 e3
  rw [← hn4] at C4 e4
  have HN : Hid (n1 = o.h.met.length ∧ n2 = o.h.upol.length ∧ n3 = o.h.dpol.length ∧ n4 = o.h.past.length) := ⟨hn1, hn2, hn3, hn4⟩
  have HE : Hid (L[42]? = some (.slice q2 n2 k2) ∧ L[45]? = some (.slice q3 n3 k3) ∧ L[46]? = some (.slice q4 n4 k4)) := ⟨e2, e3, e4⟩
  have d1 : w.cell? ⟨B, 38, none⟩ = some (.slice q1 n1 k1) := (cell_of_block b0 38).trans e1
  have HG := Lib.hid (And.intro G0 (And.intro b0 (And.intro b1 (And.intro hws hsz))))
  clear hn hf r1 r2 r3 r4 z1 z2 z3 z4 f1 f2 f3 f4 e1 e2 e3 e4 hn1 hn2 hn3 hn4 G0 b0 b1 hws hsz hw hB
  go_enter Tryz.func64, Tryz.ntmps64
  go_upto_region 1 with fail
  rw [HW.out.1, HW.out.2]

  go_wp2_with fail
  refine (C1.out _ HG.out.1).mono ?_
  rintro e m1 ⟨⟨p1, t1, rfl, own1⟩, lo1⟩
  have bm1 : m1.heap[B]? = some (.cells L OT (0, 0)) := (lo1.block B (Array.getElem?_eq_some_iff.1 HG.out.2.1).1).trans HG.out.2.1
  have g1 : m1.cell? ⟨B, 38, none⟩ = some (.slice q1 n1 k1) := (World.cell?_of_block (a := ⟨B, 38, none⟩) (lo1.block B (Array.getElem?_eq_some_iff.1 HG.out.2.1).1)).trans d1
  have u1 := unfrozen_of_block bm1 38
  obtain ⟨x1, hx1⟩ : ∃ x, x = m1.setCell ⟨B, 38, none⟩ (.slice p1 n1 t1) := ⟨_, rfl⟩
  obtain ⟨L1, hL1⟩ : ∃ x, x = L.setIfInBounds 38 (.slice p1 n1 t1) := ⟨_, rfl⟩
  have H1 : Hid (x1.heap[B]? = some (.cells L1 OT (0, 0)) ∧ Below B w0 x1 ∧ Xb B w x1 ∧ w.heap.size ≤ x1.heap.size ∧ m1.ownsRow w.heap.size 131 3 (.slice p1 n1 t1) n1 (flat encM o.h.met) ∧ L1 = L.setIfInBounds 38 (.slice p1 n1 t1) ∧ Xb B m1 x1) := by
    have X1 : Xb B m1 x1 := by rw [hx1]; exact (Xb.refl B m1).setCell 38 _
    have X2 : Xb B w x1 := (Xb.ofBelow lo1 B).trans X1
    refine ⟨by rw [hx1, hL1]; exact block_setCell bm1 _, HG.out.1.trans (X2.below (Nat.le_refl _) (by have := HG.out.2.2.2.1; omega)), X2, X2.size, own1, hL1, X1⟩
  have hX1 : Hid (m1.setCell ⟨B, 38, none⟩ (.slice p1 n1 t1) = x1) := hx1.symm

  have d2 : x1.cell? ⟨B, 42, none⟩ = some (.slice q2 n2 k2) := by
    rw [cell_of_block H1.out.1, H1.out.2.2.2.2.2.1, Array.getElem?_setIfInBounds_ne (by decide)]
    exact HE.out.1
  clear bm1 hx1 hL1 own1 lo1 d1
  go_upto_region 3 with fail
  rw [hX1.out]
  clear g1 u1 hX1

  go_wp2_with fail
  refine (C2.out _ H1.out.2.1).mono ?_
  rintro e m2 ⟨⟨p2, t2, rfl, own2⟩, lo2⟩
  have bm2 : m2.heap[B]? = some (.cells L1 OT (0, 0)) := (lo2.block B (Array.getElem?_eq_some_iff.1 H1.out.1).1).trans H1.out.1
  have g2 : m2.cell? ⟨B, 42, none⟩ = some (.slice q2 n2 k2) := (World.cell?_of_block (a := ⟨B, 42, none⟩) (lo2.block B (Array.getElem?_eq_some_iff.1 H1.out.1).1)).trans d2
  have u2 := unfrozen_of_block bm2 42
  obtain ⟨x2, hx2⟩ : ∃ x, x = m2.setCell ⟨B, 42, none⟩ (.slice p2 n2 t2) := ⟨_, rfl⟩
  obtain ⟨L2, hL2⟩ : ∃ x, x = L1.setIfInBounds 42 (.slice p2 n2 t2) := ⟨_, rfl⟩
  have H2 : Hid (x2.heap[B]? = some (.cells L2 OT (0, 0)) ∧ Below B w0 x2 ∧ Xb B x1 x2 ∧ x1.heap.size ≤ x2.heap.size ∧ m2.ownsRow x1.heap.size 135 3 (.slice p2 n2 t2) n2 (flat encP o.h.upol) ∧ L2 = L1.setIfInBounds 42 (.slice p2 n2 t2) ∧ Xb B m2 x2) := by
    have X1 : Xb B m2 x2 := by rw [hx2]; exact (Xb.refl B m2).setCell 42 _
    have X2 : Xb B x1 x2 := (Xb.ofBelow lo2 B).trans X1
    refine ⟨by rw [hx2, hL2]; exact block_setCell bm2 _, H1.out.2.1.trans (X2.below (Nat.le_refl _) (by have := HG.out.2.2.2.1; have := H1.out.2.2.2.1; omega)), X2, X2.size, own2, hL2, X1⟩
  have hX2 : Hid (m2.setCell ⟨B, 42, none⟩ (.slice p2 n2 t2) = x2) := hx2.symm

  have d3 : x2.cell? ⟨B, 45, none⟩ = some (.slice q3 n3 k3) := by
    rw [cell_of_block H2.out.1, H2.out.2.2.2.2.2.1, Array.getElem?_setIfInBounds_ne (by decide), H1.out.2.2.2.2.2.1, Array.getElem?_setIfInBounds_ne (by decide)]
    exact HE.out.2.1
  clear bm2 hx2 hL2 own2 lo2 d2
  go_upto_region 4 with fail
  rw [hX2.out]
  clear g2 u2 hX2

  go_wp2_with fail
  refine (C3.out _ H2.out.2.1).mono ?_
  rintro e m3 ⟨⟨p3, t3, rfl, own3⟩, lo3⟩
  have bm3 : m3.heap[B]? = some (.cells L2 OT (0, 0)) := (lo3.block B (Array.getElem?_eq_some_iff.1 H2.out.1).1).trans H2.out.1
  have g3 : m3.cell? ⟨B, 45, none⟩ = some (.slice q3 n3 k3) := (World.cell?_of_block (a := ⟨B, 45, none⟩) (lo3.block B (Array.getElem?_eq_some_iff.1 H2.out.1).1)).trans d3
  have u3 := unfrozen_of_block bm3 45
  obtain ⟨x3, hx3⟩ : ∃ x, x = m3.setCell ⟨B, 45, none⟩ (.slice p3 n3 t3) := ⟨_, rfl⟩
  obtain ⟨L3, hL3⟩ : ∃ x, x = L2.setIfInBounds 45 (.slice p3 n3 t3) := ⟨_, rfl⟩
  have H3 : Hid (x3.heap[B]? = some (.cells L3 OT (0, 0)) ∧ Below B w0 x3 ∧ Xb B x2 x3 ∧ x2.heap.size ≤ x3.heap.size ∧ m3.ownsRow x2.heap.size 135 3 (.slice p3 n3 t3) n3 (flat encP o.h.dpol) ∧ L3 = L2.setIfInBounds 45 (.slice p3 n3 t3) ∧ Xb B m3 x3) := by
    have X1 : Xb B m3 x3 := by rw [hx3]; exact (Xb.refl B m3).setCell 45 _
    have X2 : Xb B x2 x3 := (Xb.ofBelow lo3 B).trans X1
    refine ⟨by rw [hx3, hL3]; exact block_setCell bm3 _, H2.out.2.1.trans (X2.below (Nat.le_refl _) (by have := HG.out.2.2.2.1; have := H1.out.2.2.2.1; have := H2.out.2.2.2.1; omega)), X2, X2.size, own3, hL3, X1⟩
  have hX3 : Hid (m3.setCell ⟨B, 45, none⟩ (.slice p3 n3 t3) = x3) := hx3.symm

  have d4 : x3.cell? ⟨B, 46, none⟩ = some (.slice q4 n4 k4) := by
    rw [cell_of_block H3.out.1, H3.out.2.2.2.2.2.1, Array.getElem?_setIfInBounds_ne (by decide), H2.out.2.2.2.2.2.1, Array.getElem?_setIfInBounds_ne (by decide), H1.out.2.2.2.2.2.1, Array.getElem?_setIfInBounds_ne (by decide)]
    exact HE.out.2.2
  clear bm3 hx3 hL3 own3 lo3 d3
  go_upto_region 5 with fail
  rw [hX3.out]
  clear g3 u3 hX3

  go_wp2_with fail
  refine (C4.out _ H3.out.2.1).mono ?_
  rintro e m4 ⟨⟨p4, t4, rfl, own4⟩, lo4⟩
  have bm4 : m4.heap[B]? = some (.cells L3 OT (0, 0)) := (lo4.block B (Array.getElem?_eq_some_iff.1 H3.out.1).1).trans H3.out.1
  have g4 : m4.cell? ⟨B, 46, none⟩ = some (.slice q4 n4 k4) := (World.cell?_of_block (a := ⟨B, 46, none⟩) (lo4.block B (Array.getElem?_eq_some_iff.1 H3.out.1).1)).trans d4
  have u4 := unfrozen_of_block bm4 46
  obtain ⟨x4, hx4⟩ : ∃ x, x = m4.setCell ⟨B, 46, none⟩ (.slice p4 n4 t4) := ⟨_, rfl⟩
  obtain ⟨L4, hL4⟩ : ∃ x, x = L3.setIfInBounds 46 (.slice p4 n4 t4) := ⟨_, rfl⟩
  have H4 : Hid (x4.heap[B]? = some (.cells L4 OT (0, 0)) ∧ Below B w0 x4 ∧ Xb B x3 x4 ∧ x3.heap.size ≤ x4.heap.size ∧ m4.ownsRow x3.heap.size 139 3 (.slice p4 n4 t4) n4 (flat encS o.h.past) ∧ L4 = L3.setIfInBounds 46 (.slice p4 n4 t4) ∧ Xb B m4 x4) := by
    have X1 : Xb B m4 x4 := by rw [hx4]; exact (Xb.refl B m4).setCell 46 _
    have X2 : Xb B x3 x4 := (Xb.ofBelow lo4 B).trans X1
    refine ⟨by rw [hx4, hL4]; exact block_setCell bm4 _, H3.out.2.1.trans (X2.below (Nat.le_refl _) (by have := HG.out.2.2.2.1; have := H1.out.2.2.2.1; have := H2.out.2.2.2.1; have := H3.out.2.2.2.1; omega)), X2, X2.size, own4, hL4, X1⟩
  have hX4 : Hid (m4.setCell ⟨B, 46, none⟩ (.slice p4 n4 t4) = x4) := hx4.symm

  clear bm4 hx4 hL4 own4 lo4 d4
  go_upto_region 6 with fail
  rw [hX4.out]
  clear g4 u4 hX4
  have S4 : L4.size = 47 := by rw [H4.out.2.2.2.2.2.1, H3.out.2.2.2.2.2.1, H2.out.2.2.2.2.2.1, H1.out.2.2.2.2.2.1]; simp [HG.out.2.2.2.2]
  have LO := Lib.hid (load_ob H4.out.1 S4)
  have by1 : x4.heap[B + 1]? = some (.cells zerC OT (0, 0)) := by
    have X : Xb B w x4 := H1.out.2.2.1.trans (H2.out.2.2.1.trans (H3.out.2.2.1.trans H4.out.2.2.1))
    exact (X.block (B + 1) (by have := HG.out.2.2.2.1; omega) (by omega)).trans HG.out.2.2.1
  have TH := Lib.hid (Ld.there_block by1 (n := L4.size) (by rw [S4]; rfl))
  have IN : Hid ((Tryz.prog.info? OT).map (·.size) = some L4.size) := by show _ = _; rw [S4]; exact info_ob47
  have CP : CopyH (B + 2) x4 L L4 o := by
    obtain ⟨a1, a2, a3, a4, a5, a6, a7⟩ := H1.out
    obtain ⟨b1, b2, b3, b4, b5, b6, b7⟩ := H2.out
    obtain ⟨c1, c2, c3, c4, c5, c6, c7⟩ := H3.out
    obtain ⟨d1, d2, d3, d4, d5, d6, d7⟩ := H4.out
    obtain ⟨hn1, hn2, hn3, hn4⟩ := HN.out
    have hws := HG.out.2.2.2.1
    have hsz := HG.out.2.2.2.2
    have keep : ∀ {E : TypeId} {v : Value} {n N : Nat} {xs : List Value} {m : World}, m.ownsRow N E 3 v n xs → B + 2 ≤ N → Xb B m x4 → x4.ownsRow (B + 2) E 3 v n xs := fun h hN X => own_mono (own_stays h fun g hg hl => X.block g hl (by omega)) (by omega)
    refine ⟨by rw [S4, hsz], fun i hi => ?_, ⟨.slice p1 n1 t1, ?_, ?_⟩, ⟨.slice p2 n2 t2, ?_, ?_⟩, ⟨.slice p3 n3 t3, ?_, ?_⟩, ⟨.slice p4 n4 t4, ?_, ?_⟩⟩
    · simp only [List.mem_cons, List.not_mem_nil, or_false, not_or] at hi
      rw [d6, Array.getElem?_setIfInBounds_ne (by omega), c6, Array.getElem?_setIfInBounds_ne (by omega), b6, Array.getElem?_setIfInBounds_ne (by omega), a6, Array.getElem?_setIfInBounds_ne (by omega)]
    · rw [d6, Array.getElem?_setIfInBounds_ne (by decide), c6, Array.getElem?_setIfInBounds_ne (by decide), b6, Array.getElem?_setIfInBounds_ne (by decide), a6, Array.getElem?_setIfInBounds_self_of_lt (by omega)]
    · rw [← hn1]; exact keep a5 (by omega) (a7.trans (b3.trans (c3.trans d3)))
    · rw [d6, Array.getElem?_setIfInBounds_ne (by decide), c6, Array.getElem?_setIfInBounds_ne (by decide), b6, Array.getElem?_setIfInBounds_self_of_lt (by rw [a6]; simp; omega)]
    · rw [← hn2]; exact keep b5 (by omega) (b7.trans (c3.trans d3))
    · rw [d6, Array.getElem?_setIfInBounds_ne (by decide), c6, Array.getElem?_setIfInBounds_self_of_lt (by rw [b6, a6]; simp; omega)]
    · rw [← hn3]; exact keep c5 (by omega) (c7.trans d3)
    · rw [d6, Array.getElem?_setIfInBounds_self_of_lt (by rw [c6, b6, a6]; simp; omega)]
    · rw [← hn4]; exact keep d5 (by omega) d7
  have ON : Hid (L4.all (·.oneCell') = true) := objV_one (CP.obj (w0 := w0) (HV.out.below (HW.out.2.symm ▸ H4.out.2.1)))
  have EB : Hid ((x4.setCells (B + 1) 0 L4.toList).heap[B + 1]? = some (.cells L4 OT (0, 0))) := Ld.laid by1 (by rw [S4]; rfl)
  have EF : Hid ((∃ D, Ending.returned (.agg L4) = .returned (.agg D) ∧ CopyH w0.heap.size (x4.setCells (B + 1) 0 L4.toList) L D o) ∧ Below w0.heap.size w0 (x4.setCells (B + 1) 0 L4.toList)) := by
    rw [HW.out.2]
    have hz : B + 2 ≤ x4.heap.size := by have := HG.out.2.2.2.1; have := H1.out.2.2.2.1; have := H2.out.2.2.2.1; have := H3.out.2.2.2.1; have := H4.out.2.2.2.1; omega
    exact ⟨⟨L4, rfl, (CP.keep fun g h1 h2 => setCells_out _ _ _ _ _ (by omega)).less (by omega)⟩, Ld.below_setCells _ _ _ (by omega) H4.out.2.1⟩
  clear CP by1 S4 H1 H2 H3 H4 HG HN HE C1 C2 C3 C4
  go_wp2_with (first | (refine wpList_load_by (by kernel_rfl) OT _ rfl (.pointer (some ⟨B, 0, none⟩)) (.agg L4) (by kernel_rfl) LO.out ?_) | (refine wpList_store_mid rfl _ _ _ rfl (B + 1) 0 L4 (by rfl) (by rfl) TH.out IN.out ON.out ?_))
  refine bodyPost_ret (results_cell_row rfl _ _ (B + 1) OT L4 (0, 0) _ (by rfl) EB.out Tryz.underlying51 rfl IN.out) rfl ?_
  exact EF.out
end Go.Proofs.YtbkoepghmcdnhaaGreatDoor.Vi
