/- A sample that comes to a book: Scrape. -/
import Derived.Test.YtajkhbdniadkkaaScC
import Derived.Test.YtajkhbdniadkkaaObN
import Derived.Test.YtajkhbdniadkkaaGaugeB
namespace Go.Proofs.Ytajkhbdniadkkaa
open Go.RowKit Go.Shelf Go.Lib Go.Sort
open Go.Joins (cell_of_block unfrozen_of_block block_setCell)
set_option linter.unusedVariables false
set_option linter.unusedSimpArgs false
set_option maxRecDepth 20000

set_option maxHeartbeats 1000000 in
theorem scr_nil (w : World) (at_ : Int) (s : Sr) (x : Int) : Calls Try.prog 29 #[.pointer none, .int .i64 at_, ser s, .int .u64 x] w fun r w' => r = .returned (.tuple #[.int .i64 0, .int .i64 1]) ∧ Below w.heap.size w w' := by
  have F : Hid (∀ o, Below w.heap.size w (w.alloc o)) := fun o => (Below.refl _ _).alloc (Nat.le_refl _) _
  unfold ser
  go_enter Try.func29, Try.ntmps29
  go_wp2
  go_ret2
  exact ⟨rfl, F.out _⟩
set_option maxHeartbeats 1000000 in
theorem scr_arg (w : World) (bb : Nat) (at_ : Int) (s : Sr) (x : Int) (h : at_ < 0 ∨ 4611686018427387904 < at_) : Calls Try.prog 29 #[.pointer (some ⟨bb, 0, none⟩), .int .i64 at_, ser s, .int .u64 x] w fun r w' => r = .returned (.tuple #[.int .i64 0, .int .i64 1]) ∧ Below w.heap.size w w' := by
  have F : Hid (∀ o, Below w.heap.size w (w.alloc o)) := fun o => (Below.refl _ _).alloc (Nat.le_refl _) _
  unfold ser
  by_cases h1 : at_ < 0
  · go_enter Try.func29, Try.ntmps29
    go_wp2
    go_ret2
    exact ⟨rfl, F.out _⟩
  · have h2 : 4611686018427387904 < at_ := by omega
    have h3 : decide (4611686018427387904 < at_) = true := decide_eq_true h2
    clear h2
    go_enter Try.func29, Try.ntmps29
    go_wp2
    go_ret2
    exact ⟨rfl, F.out _⟩
theorem len_ok {s : ByteArray} (h : s.size ≤ maxLen) : s.size ≤ 9223372036854775807 := by unfold maxLen at h; omega
set_option maxHeartbeats 1000000 in
theorem scr_name (w : World) (bb : Nat) (at_ : Int) (s : Sr) (x : Int) (h0 : 0 ≤ at_ ∧ at_ ≤ 4611686018427387904) (hk : OkS s) (h : (nameB s.1 && nameB s.2) = false) :
    Calls Try.prog 29 #[.pointer (some ⟨bb, 0, none⟩), .int .i64 at_, ser s, .int .u64 x] w fun r w' => r = .returned (.tuple #[.int .i64 0, .int .i64 6]) ∧ Below w.heap.size w w' := by
  obtain ⟨w1, N, B⟩ := boxed w s
  have b0 := B.c0
  have b1 := B.c1
  have HW : Hid (w.alloc (.cells #[.string s.1, .string s.2] KS) = w1 ∧ w.heap.size = N) := ⟨B.eq, B.at_⟩
  have HB := Lib.hid B.b
  have C1 := Lib.hid (name_any w1 s.1 (len_ok hk.1))
  have C2 := Lib.hid (name_any w1 s.2 (len_ok hk.2))
  have h1 : decide (at_ < 0) = false := decide_eq_false (by omega)
  have h2 : decide (4611686018427387904 < at_) = false := decide_eq_false (by omega)
  unfold ser
  clear B h0 hk
  cases e1 : nameB s.1 with
  | false =>
    rw [e1] at C1
    go_enter Try.func29, Try.ntmps29
    go_upto_region 3 with fail
    rw [HW.out.1, HW.out.2]
    go_wp2_with fail
    refine C1.out.mono ?_
    rintro r w' ⟨rfl, rfl⟩
    go_wp2
    go_ret2
    exact ⟨rfl, HB.out⟩
  | true =>
    rw [e1] at C1 h
    simp only [Bool.true_and] at h
    rw [h] at C2
    go_enter Try.func29, Try.ntmps29
    go_upto_region 3 with fail
    rw [HW.out.1, HW.out.2]
    go_wp2_with fail
    refine C1.out.mono ?_
    rintro r w' ⟨rfl, h⟩
    have h' := h.symm
    subst h'
    go_wp2_with fail
    refine C2.out.mono ?_
    rintro r w' ⟨rfl, h⟩
    have h' := h.symm
    subst h'
    go_wp2
    go_ret2
    exact ⟨rfl, HB.out⟩
set_option maxHeartbeats 1000000 in
theorem scr_read (w : World) (bb : Nat) (at_ : Int) (s : Sr) (x : Nat) (h0 : 0 ≤ at_ ∧ at_ ≤ 4611686018427387904) (hk : OkS s) (h : (nameB s.1 && nameB s.2) = true) (hx : x < 18446744073709551616) (hr : rdE x ≠ 0) :
    Calls Try.prog 29 #[.pointer (some ⟨bb, 0, none⟩), .int .i64 at_, ser s, .int .u64 (x : Int)] w fun r w' => r = .returned (.tuple #[.int .i64 0, .int .i64 (rdE x : Int)]) ∧ Below w.heap.size w w' := by
  obtain ⟨w1, N, B⟩ := boxed w s
  have b0 := B.c0
  have b1 := B.c1
  have HW : Hid (w.alloc (.cells #[.string s.1, .string s.2] KS) = w1 ∧ w.heap.size = N) := ⟨B.eq, B.at_⟩
  have HB : Hid (∀ k, Below w.heap.size w (w1.drewN k)) := fun k => Below.drewN' B.b k
  rw [Bool.and_eq_true] at h
  have C1 := Lib.hid (name_any w1 s.1 (len_ok hk.1))
  have C2 := Lib.hid (name_any w1 s.2 (len_ok hk.2))
  rw [h.1] at C1
  rw [h.2] at C2
  have C3 := Lib.hid (read_any x w1 hx)
  have h1 : decide (at_ < 0) = false := decide_eq_false (by omega)
  have h2 : decide (4611686018427387904 < at_) = false := decide_eq_false (by omega)
  have r1 : ((rdE x : Int) == 0) = false := by rw [beq_eq_false_iff_ne]; omega
  obtain ⟨E, hE⟩ : ∃ E, E = rdE x := ⟨_, rfl⟩
  rw [← hE] at C3 r1 ⊢
  unfold ser
  clear B h0 hk h hr hE
  go_enter Try.func29, Try.ntmps29
  go_upto_region 3 with fail
  rw [HW.out.1, HW.out.2]
  go_wp2_with fail
  refine C1.out.mono ?_
  rintro r w' ⟨rfl, h⟩
  have h' := h.symm
  subst h'
  go_wp2_with fail
  refine C2.out.mono ?_
  rintro r w' ⟨rfl, h⟩
  have h' := h.symm
  subst h'
  go_wp2_with fail
  refine C3.out.mono ?_
  rintro r w' ⟨rfl, k, rfl⟩
  go_wp2
  go_ret2
  exact ⟨rfl, HB.out _⟩
set_option maxHeartbeats 1000000 in
theorem scr_goes (w : World) (bb : Nat) (at_ : Int) (s : Sr) (x : Nat) (h0 : 0 ≤ at_ ∧ at_ ≤ 4611686018427387904) (hk : OkS s) (h : (nameB s.1 && nameB s.2) = true) (hx : x < 18446744073709551616) (hr : rdE x = 0) (E : Nat) (R : World → World → Prop)
    (CP : ∀ W, Below w.heap.size w W → Calls Try.prog 57 #[.pointer (some ⟨bb, 0, none⟩), .int .i64 at_, ser s, .int .i64 (rdV x : Int)] W fun r w' => r = .returned (.int .i64 (E : Int)) ∧ R W w') :
    Calls Try.prog 29 #[.pointer (some ⟨bb, 0, none⟩), .int .i64 at_, ser s, .int .u64 (x : Int)] w fun r w' => r = .returned (.tuple #[.int .i64 (if E = 0 then (rdV x : Int) else 0), .int .i64 (E : Int)]) ∧ ∃ W, Below w.heap.size w W ∧ R W w' := by
  obtain ⟨w1, N, B⟩ := boxed w s
  have b0 := B.c0
  have b1 := B.c1
  have HW : Hid (w.alloc (.cells #[.string s.1, .string s.2] KS) = w1 ∧ w.heap.size = N) := ⟨B.eq, B.at_⟩
  have HB : Hid (∀ k, Below w.heap.size w (w1.drewN k)) := fun k => Below.drewN' B.b k
  rw [Bool.and_eq_true] at h
  have C1 := Lib.hid (name_any w1 s.1 (len_ok hk.1))
  have C2 := Lib.hid (name_any w1 s.2 (len_ok hk.2))
  rw [h.1] at C1
  rw [h.2] at C2
  have C3 := Lib.hid (read_any x w1 hx)
  rw [hr] at C3
  have h1 : decide (at_ < 0) = false := decide_eq_false (by omega)
  have h2 : decide (4611686018427387904 < at_) = false := decide_eq_false (by omega)
  obtain ⟨V, hV⟩ : ∃ V : Int, V = (rdV x : Int) := ⟨_, rfl⟩
  rw [← hV] at C3 CP ⊢
  have C4 : Hid (∀ k, Calls Try.prog 57 #[.pointer (some ⟨bb, 0, none⟩), .int .i64 at_, .agg #[.string s.1, .string s.2], .int .i64 V] (w1.drewN k) fun r w' => r = .returned (.int .i64 (E : Int)) ∧ R (w1.drewN k) w') := fun k => CP _ (HB.out k)
  unfold ser
  clear B h0 hk h hr hV CP
  have e0 : (E = 0) ∨ ((E : Int) == 0) = false := by
    by_cases e : E = 0
    · exact .inl e
    · exact .inr (by rw [beq_eq_false_iff_ne]; omega)
  rcases e0 with rfl | e0
  · go_enter Try.func29, Try.ntmps29
    go_upto_region 3 with fail
    rw [HW.out.1, HW.out.2]
    go_wp2_with fail
    refine C1.out.mono ?_
    rintro r w' ⟨rfl, h⟩
    have h' := h.symm
    subst h'
    go_wp2_with fail
    refine C2.out.mono ?_
    rintro r w' ⟨rfl, h⟩
    have h' := h.symm
    subst h'
    go_wp2_with fail
    refine C3.out.mono ?_
    rintro r w' ⟨rfl, k, rfl⟩
    go_wp2_with fail
    refine (C4.out _).mono ?_
    rintro r w' ⟨rfl, hR⟩
    have FIN : Hid (∃ W, Below w.heap.size w W ∧ R W w') := ⟨_, HB.out _, hR⟩
    clear hR C4
    go_wp2
    go_ret2
    exact ⟨rfl, FIN.out⟩
  · have e1 : ¬ E = 0 := by intro e; subst e; simp at e0
    rw [if_neg e1]
    clear e1
    go_enter Try.func29, Try.ntmps29
    go_upto_region 3 with fail
    rw [HW.out.1, HW.out.2]
    go_wp2_with fail
    refine C1.out.mono ?_
    rintro r w' ⟨rfl, h⟩
    have h' := h.symm
    subst h'
    go_wp2_with fail
    refine C2.out.mono ?_
    rintro r w' ⟨rfl, h⟩
    have h' := h.symm
    subst h'
    go_wp2_with fail
    refine C3.out.mono ?_
    rintro r w' ⟨rfl, k, rfl⟩
    go_wp2_with fail
    refine (C4.out _).mono ?_
    rintro r w' ⟨rfl, hR⟩
    have FIN : Hid (∃ W, Below w.heap.size w W ∧ R W w') := ⟨_, HB.out _, hR⟩
    clear hR C4
    go_wp2
    go_ret2
    exact ⟨rfl, FIN.out⟩
end Go.Proofs.Ytajkhbdniadkkaa
