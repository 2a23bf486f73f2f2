/- What is fresh of a series: Fresh, Row. -/
import Derived.Test.YtajkhbdniadkkaaScF
import Derived.IntWalk
namespace Go.Proofs.Ytajkhbdniadkkaa
open Go.RowKit Go.Shelf Go.Lib Go.Sort
open Go.Joins (cell_of_block unfrozen_of_block block_setCell)
set_option linter.unusedVariables false
set_option linter.unusedSimpArgs false
set_option maxRecDepth 20000

set_option maxHeartbeats 1000000 in
theorem stale_any (w : World) (bb a : Nat) (now xa xv : Int) (c1 : w.cell? ⟨bb, 1, none⟩ = some (.int .i64 (a : Int))) (h0 : 0 ≤ xa) (h1 : xa ≤ now) (hn : now ≤ 9223372036854775807) :
    Calls Try.prog 43 #[.pointer (some ⟨bb, 0, none⟩), .int .i64 now, .agg #[.int .i64 xa, .int .i64 xv]] w fun r w' => r = .returned (.bool (decide ((a : Int) < now - xa))) ∧ Below w.heap.size w w' := by
  have mixed : Try.prog.follows .mixedOrders = true := by kernel_rfl
  obtain ⟨N, hN⟩ : ∃ N, N = w.heap.size := ⟨_, rfl⟩
  obtain ⟨w1, hw1⟩ : ∃ w1, w1 = w.alloc (.cells #[.int .i64 xa, .int .i64 xv] TSQ) := ⟨_, rfl⟩
  have b1 : Below w.heap.size w w1 := hw1 ▸ (Below.refl _ _).alloc (Nat.le_refl _) _
  have k1 : w1.heap[N]? = some (.cells #[.int .i64 xa, .int .i64 xv] TSQ (0, 0)) := by rw [hw1, hN]; exact heap_alloc_new w _
  have d0 : w1.cell? ⟨N, 0, none⟩ = some (.int .i64 xa) := cell_of_block k1 0
  have c1' : w1.cell? ⟨bb, 1, none⟩ = some (.int .i64 (a : Int)) := (b1.cell (p := ⟨bb, 1, none⟩) (World.block_lt_of_cell? _ _ c1)).trans c1
  have WJ : IntKind.i64.wrap (now - xa) = now - xa := IntWalk.i64_in _ (by omega)
  obtain ⟨dt, hdt⟩ : ∃ d, d = now - xa := ⟨_, rfl⟩
  have HW : Hid (w.alloc (.cells #[.int .i64 xa, .int .i64 xv] TSQ) = w1 ∧ w.heap.size = N) := ⟨hw1.symm, hN.symm⟩
  have HB : Hid (∀ k, Below w.heap.size w (w1.drewN k)) := fun k => Below.drewN' b1 k
  rw [← hdt] at WJ ⊢
  have E : now - xa = dt := hdt.symm
  have WJ' : IntKind.i64.wrap (now - xa) = dt := by rw [E]; exact WJ
  clear hN hw1 b1 k1 c1 h0 h1 hn hdt WJ E
  go_enter Try.func43, Try.ntmps43
  go_upto_region 1 with fail
  rw [HW.out.1, HW.out.2]
  go_quiet (fail)
  go_wp2
  go_ret
  exact ⟨rfl, HB.out _⟩

theorem fresh_nil (w : World) (now : Int) (s : Sr) : Calls Try.prog 16 #[.pointer none, .int .i64 now, ser s] w fun r w' => r = .returned (.tuple #[.int .i64 0, .int .i64 1]) ∧ Below w.heap.size w w' := by
  have F : Hid (∀ o, Below w.heap.size w (w.alloc o)) := fun o => (Below.refl _ _).alloc (Nat.le_refl _) _
  unfold ser
  go_enter Try.func16, Try.ntmps16
  go_wp2
  go_ret2
  exact ⟨rfl, F.out _⟩
def freV (now a : Int) (l : List (Int × Int)) : Int := match l.getLast? with | some y => if a < now - y.1 then 0 else y.2 | none => 0
def freE (now a : Int) (l : List (Int × Int)) : Int := match l.getLast? with | some y => if a < now - y.1 then 13 else 0 | none => 7
theorem upto_mem {now : Int} {l : List (Int × Int)} {x : Int × Int} (h : x ∈ upto now l) : x ∈ l ∧ x.1 ≤ now := by
  unfold upto at h
  rw [List.mem_filter, decide_eq_true_eq] at h
  exact h

set_option maxHeartbeats 2000000 in
theorem fresh_any (w : World) (bb mb n a : Nat) (E : List En) (h : Bk w bb mb n a E) (now : Int) (s : Sr) (hk : OkS s) (hn : now ≤ 9223372036854775807) :
    Calls Try.prog 16 #[.pointer (some ⟨bb, 0, none⟩), .int .i64 now, ser s] w fun r w' => r = .returned (.tuple #[.int .i64 (freV now a (upto now (smpsOf E s))), .int .i64 (freE now a (upto now (smpsOf E s)))]) ∧ Below w.heap.size w w' := by
  obtain ⟨w1, N, B⟩ := boxed w s
  have h1 := h.gr B.b
  have b0 := B.c0
  have b1 := B.c1
  have HW : Hid (w.alloc (.cells #[.string s.1, .string s.2] KS) = w1 ∧ w.heap.size = N) := ⟨B.eq, B.at_⟩
  have CU := Lib.hid (until_any w1 bb mb n a E h1 now s hk)
  obtain ⟨_, _, hpos, hfew⟩ := h.pts hk
  have hU : ∀ x ∈ upto now (smpsOf E s), 0 ≤ x.1 ∧ x.1 ≤ now := fun x hx => ⟨hpos x (upto_mem hx).1, (upto_mem hx).2⟩
  have hUl : (upto now (smpsOf E s)).length ≤ 32 := Nat.le_trans (upto_few _ _) hfew
  obtain ⟨U, hUe⟩ : ∃ U, U = upto now (smpsOf E s) := ⟨_, rfl⟩
  rw [← hUe] at CU hU hUl ⊢
  clear hUe hpos hfew
  unfold ser at CU ⊢
  rcases List.eq_nil_or_concat U with rfl | ⟨l, y, rfl⟩
  · have HB := Lib.hid B.b
    clear h h1 B hU hUl hk hn
    have e1 : freV now (a : Int) [] = 0 := rfl
    have e2 : freE now (a : Int) [] = 7 := rfl
    rw [e1, e2]
    clear e1 e2
    go_enter Try.func16, Try.ntmps16
    go_upto_region 3 with fail
    rw [HW.out.1, HW.out.2]
    go_wp2_with fail
    refine CU.out.mono ?_
    rintro r w2 ⟨⟨q, c, rfl, own⟩, b2⟩
    have FIN : Hid (Below w.heap.size w w2) := HB.out.trans (b2.mono HB.out.size)
    clear own b2
    go_wp2
    go_ret2
    exact ⟨rfl, FIN.out⟩
  · rw [List.concat_eq_append] at CU hU hUl ⊢
    obtain ⟨m, hm⟩ : ∃ m, m = (l ++ [y]).length := ⟨_, rfl⟩
    obtain ⟨j, hj⟩ : ∃ j, j = l.length := ⟨_, rfl⟩
    have hmj : m = j + 1 := by rw [hm, hj]; simp
    have hy := hU y (by simp)
    have e1 : freV now (a : Int) (l ++ [y]) = if (a : Int) < now - y.1 then 0 else y.2 := by unfold freV; simp
    have e2 : freE now (a : Int) (l ++ [y]) = if (a : Int) < now - y.1 then 13 else 0 := by unfold freE; simp
    rw [e1, e2]
    rw [← hm] at CU hUl
    have WJ : IntKind.i64.wrap ((m : Int) - 1) = (j : Int) := by rw [show (m : Int) - 1 = (j : Int) by omega]; exact IntWalk.i64_in _ (by omega)
    have m0 : ((m : Int) == 0) = false := by rw [beq_eq_false_iff_ne]; omega
    have j0 : (0 : Int) ≤ (j : Int) := Int.natCast_nonneg _
    have j1 : (j : Int) < (m : Int) := by omega
    have HH := Lib.hid (And.intro B (And.intro h1 (And.intro hm (And.intro hj hy))))
    clear h h1 B hU hk hy e1 e2 hm hmj hUl hj
    by_cases hst : (a : Int) < now - y.1
    all_goals
      (try rw [if_pos hst, if_pos hst])
      (try rw [if_neg hst, if_neg hst])
      go_enter Try.func16, Try.ntmps16
      go_upto_region 3 with fail
      rw [HW.out.1, HW.out.2]
      go_wp2_with fail
      refine CU.out.mono ?_
      rintro r w2 ⟨⟨q, c, rfl, own⟩, b2⟩
      obtain ⟨B, h1, hm, hj, hy⟩ := HH.out
      obtain ⟨g, rfl, hg1, hg2, a0, a1⟩ := own_atQ own hm.symm (j := j) (x := y) (by rw [hj]; simp)
      have h2 := h1.gr b2
      have b02 : Below w.heap.size w w2 := B.b.trans (b2.mono B.b.size)
      obtain ⟨A, hA⟩ : ∃ A, A = w2.heap.size := ⟨_, rfl⟩
      obtain ⟨w3, hw3⟩ : ∃ w3, w3 = w2.alloc (.cells #[.int .i64 y.1, .int .i64 y.2] TSQ) := ⟨_, rfl⟩
      have b3 : Below w2.heap.size w2 w3 := hw3 ▸ (Below.refl _ _).alloc (Nat.le_refl _) _
      have k3 : w3.heap[A]? = some (.cells #[.int .i64 y.1, .int .i64 y.2] TSQ (0, 0)) := by rw [hw3, hA]; exact heap_alloc_new w2 _
      have d0 : w3.cell? ⟨A, 0, none⟩ = some (.int .i64 y.1) := cell_of_block k3 0
      have d1 : w3.cell? ⟨A, 1, none⟩ = some (.int .i64 y.2) := cell_of_block k3 1
      have CST := Lib.hid (stale_any w3 bb a now y.1 y.2 (h2.gr b3).c1 hy.1 hy.2 hn)
      first
        | rw [decide_eq_true (by omega : (a : Int) < now - y.1)] at CST
        | rw [decide_eq_false (by omega : ¬ (a : Int) < now - y.1)] at CST
      have HW3 : Hid (w2.alloc (.cells #[.int .i64 y.1, .int .i64 y.2] TSQ) = w3 ∧ w2.heap.size = A) := ⟨hw3.symm, hA.symm⟩
      have BB : Hid (∀ w', Below w3.heap.size w3 w' → Below w.heap.size w w' ∧ w'.cell? ⟨A, 1, none⟩ = some (.int .i64 y.2)) := fun w' b => ⟨(b02.trans (b3.mono b02.size)).trans (b.mono (by have := b02.size; have := b3.size; omega)), (b.cell (p := ⟨A, 1, none⟩) (World.block_lt_of_cell? _ _ d1)).trans d1⟩
      clear B h1 hm hj hy own b2 hg1 hg2 h2 b02 hA hw3 b3 k3 HH hst
      obtain ⟨ya, yv⟩ := y
      simp only at a0 a1 d0 d1 CST BB HW3 ⊢
      go_upto_region 7 with fail
      rw [HW3.out.1, HW3.out.2]
      go_wp2_with fail
      refine CST.out.mono ?_
      rintro r w4 ⟨rfl, b4⟩
      obtain ⟨FF, d14⟩ := BB.out _ b4
      have FIN := Lib.hid FF
      clear FF b4 d0 d1 a0 a1
      go_wp2
      go_ret2
      exact ⟨rfl, FIN.out⟩
end Go.Proofs.Ytajkhbdniadkkaa
