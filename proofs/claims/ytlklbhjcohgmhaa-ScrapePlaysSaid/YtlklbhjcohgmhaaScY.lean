/- The law's model of a sample that comes: scraped. -/
import Derived.Test.YtlklbhjcohgmhaaScX
import Derived.Test.YtlklbhjcohgmhaaScV
import Derived.Test.YtlklbhjcohgmhaaScW
import Derived.Test.YtlklbhjcohgmhaaScD
namespace Go.Proofs.Ytlklbhjcohgmhaa
open Go.RowKit Go.Lib Go.Shelf Go.Sort
open Go.Joins (cell_of_block unfrozen_of_block block_setCell)
set_option linter.unusedVariables false
set_option linter.unusedSimpArgs false
set_option maxRecDepth 20000

abbrev AcT : TypeId := 36
/-- An act. -/
structure Ac where
  (kind at_ : Int)
  (s : Sr)
  (bits : Nat)
def acC (x : Ac) : Array Value := #[.int .i64 x.kind, .int .i64 x.at_, .string x.s.1, .string x.s.2, .int .u64 (x.bits : Int)]
structure BoxA (w w1 : World) (P : Nat) (x : Ac) : Prop where
  eq : w.alloc (.cells #[.int .i64 x.kind, .int .i64 x.at_, .string x.s.1, .string x.s.2, .int .u64 (x.bits : Int)] AcT) = w1
  at_ : w.heap.size = P
  b : Below w.heap.size w w1
  blk : w1.heap[P]? = some (.cells (acC x) AcT (0, 0))
theorem boxA (w : World) (x : Ac) : ∃ w1 P, BoxA w w1 P x := ⟨_, _, rfl, rfl, (Below.refl _ _).alloc (Nat.le_refl _) _, heap_alloc_new w _⟩

set_option maxHeartbeats 1000000 in
theorem rscr_arg (w : World) (bx : Nat) (n : Int) (x : Ac) (h : x.at_ < 0 ∨ 4611686018427387904 < x.at_) : Calls Try.prog 9 #[.pointer (some ⟨bx, 0, none⟩), .int .i64 n, .agg (acC x)] w fun r w' => r = .returned (.tuple #[.int .i64 0, .int .i64 1]) ∧ Below w.heap.size w w' := by
  obtain ⟨w1, P, X⟩ := boxA w x
  have c1 : w1.cell? ⟨P, 1, none⟩ = some (.int .i64 x.at_) := cell_of_block X.blk 1
  have HW := Lib.hid (And.intro X.eq X.at_)
  have HB := Lib.hid X.b
  obtain ⟨kd, at_, s, bits⟩ := x
  obtain ⟨s1, s2⟩ := s
  unfold acC
  simp only at c1 HW h ⊢
  clear X
  by_cases h1 : at_ < 0
  · go_enter Try.func9, Try.ntmps9
    go_upto_region 1 with fail
    rw [HW.out.1, HW.out.2]
    go_wp2
    go_ret2
    exact ⟨rfl, HB.out⟩
  · have h3 : decide (4611686018427387904 < at_) = true := decide_eq_true (by omega)
    clear h
    go_enter Try.func9, Try.ntmps9
    go_upto_region 1 with fail
    rw [HW.out.1, HW.out.2]
    go_wp2
    go_ret2
    exact ⟨rfl, HB.out⟩
set_option maxHeartbeats 1000000 in
theorem rscr_name (w : World) (bx : Nat) (n : Int) (x : Ac) (h0 : 0 ≤ x.at_ ∧ x.at_ ≤ 4611686018427387904) (hk : OkS x.s) (h : (nameB x.s.1 && nameB x.s.2) = false) : Calls Try.prog 9 #[.pointer (some ⟨bx, 0, none⟩), .int .i64 n, .agg (acC x)] w fun r w' => r = .returned (.tuple #[.int .i64 0, .int .i64 6]) ∧ Below w.heap.size w w' := by
  obtain ⟨w1, P, X⟩ := boxA w x
  have c1 : w1.cell? ⟨P, 1, none⟩ = some (.int .i64 x.at_) := cell_of_block X.blk 1
  have c2 : w1.cell? ⟨P, 2, none⟩ = some (.string x.s.1) := cell_of_block X.blk 2
  have c3 : w1.cell? ⟨P, 3, none⟩ = some (.string x.s.2) := cell_of_block X.blk 3
  have HW := Lib.hid (And.intro X.eq X.at_)
  have HB := Lib.hid X.b
  have C1 := Lib.hid (rname_any w1 x.s.1 (len_ok hk.1))
  have C2 := Lib.hid (rname_any w1 x.s.2 (len_ok hk.2))
  obtain ⟨kd, at_, s, bits⟩ := x
  obtain ⟨s1, s2⟩ := s
  unfold acC
  simp only at c1 c2 c3 HW h0 h C1 C2 ⊢
  have h1 : decide (at_ < 0) = false := decide_eq_false (by omega)
  have h2 : decide (4611686018427387904 < at_) = false := decide_eq_false (by omega)
  clear X h0 hk
  cases e1 : nameB s1 with
  | false =>
    rw [e1] at C1
    go_enter Try.func9, Try.ntmps9
    go_upto_region 1 with fail
    rw [HW.out.1, HW.out.2]
    go_wp2_with fail
    refine C1.out.mono ?_
    rintro r w' ⟨rfl, rfl⟩
    go_wp2
    go_ret2
    exact ⟨rfl, HB.out⟩
  | true =>
    rw [e1] at C1 h
    simp only [Bool.true_and] at h
    rw [h] at C2
    go_enter Try.func9, Try.ntmps9
    go_upto_region 1 with fail
    rw [HW.out.1, HW.out.2]
    go_wp2_with fail
    refine C1.out.mono ?_
    rintro r w' ⟨rfl, h⟩
    have h' := h.symm
    subst h'
    go_wp2_with fail
    refine C2.out.mono ?_
    rintro r w' ⟨rfl, h⟩
    have h' := h.symm
    subst h'
    go_wp2
    go_ret2
    exact ⟨rfl, HB.out⟩
set_option maxHeartbeats 1000000 in
theorem rscr_read (w : World) (bx : Nat) (n : Int) (x : Ac) (h0 : 0 ≤ x.at_ ∧ x.at_ ≤ 4611686018427387904) (hk : OkS x.s) (h : (nameB x.s.1 && nameB x.s.2) = true) (hx : x.bits < 18446744073709551616) (hr : rdE x.bits ≠ 0) :
    Calls Try.prog 9 #[.pointer (some ⟨bx, 0, none⟩), .int .i64 n, .agg (acC x)] w fun r w' => r = .returned (.tuple #[.int .i64 0, .int .i64 (rdE x.bits : Int)]) ∧ Below w.heap.size w w' := by
  obtain ⟨w1, P, X⟩ := boxA w x
  have c1 : w1.cell? ⟨P, 1, none⟩ = some (.int .i64 x.at_) := cell_of_block X.blk 1
  have c2 : w1.cell? ⟨P, 2, none⟩ = some (.string x.s.1) := cell_of_block X.blk 2
  have c3 : w1.cell? ⟨P, 3, none⟩ = some (.string x.s.2) := cell_of_block X.blk 3
  have c4 : w1.cell? ⟨P, 4, none⟩ = some (.int .u64 (x.bits : Int)) := cell_of_block X.blk 4
  have HW := Lib.hid (And.intro X.eq X.at_)
  have HB : Hid (∀ k, Below w.heap.size w (w1.drewN k)) := fun k => Below.drewN' X.b k
  rw [Bool.and_eq_true] at h
  have C1 := Lib.hid (rname_any w1 x.s.1 (len_ok hk.1))
  have C2 := Lib.hid (rname_any w1 x.s.2 (len_ok hk.2))
  rw [h.1] at C1
  rw [h.2] at C2
  have C3 := Lib.hid (read_any x.bits w1 hx)
  have r1 : ((rdE x.bits : Int) == 0) = false := by rw [beq_eq_false_iff_ne]; omega
  obtain ⟨E, hE⟩ : ∃ E, E = rdE x.bits := ⟨_, rfl⟩
  rw [← hE] at C3 r1 ⊢
  have r2 : ((E : Int) != 0) = true := by simp [bne, r1]
  obtain ⟨kd, at_, s, bits⟩ := x
  obtain ⟨s1, s2⟩ := s
  unfold acC
  simp only at c1 c2 c3 c4 HW h0 C1 C2 C3 ⊢
  have h1 : decide (at_ < 0) = false := decide_eq_false (by omega)
  have h2 : decide (4611686018427387904 < at_) = false := decide_eq_false (by omega)
  clear X h0 hk h hr hE
  go_enter Try.func9, Try.ntmps9
  go_upto_region 1 with fail
  rw [HW.out.1, HW.out.2]
  go_wp2_with fail
  refine C1.out.mono ?_
  rintro r w' ⟨rfl, h⟩
  have h' := h.symm
  subst h'
  go_wp2_with fail
  refine C2.out.mono ?_
  rintro r w' ⟨rfl, h⟩
  have h' := h.symm
  subst h'
  go_wp2_with fail
  refine C3.out.mono ?_
  rintro r w' ⟨rfl, k, rfl⟩
  go_wp2
  go_ret2
  exact ⟨rfl, HB.out _⟩
theorem infoM : ∃ i : TypeInfo, Try.prog.info? TSer = some i ∧ i.zero = some (.agg #[.string { data := #[] }, .string { data := #[] }, .slice none 0 0]) ∧ i.size = 3 ∧ i.bytes = 56 := by
  have hinf : (Try.prog.info? TSer).map (fun i => (i.zero, i.size, i.bytes)) = some (some (.agg #[.string { data := #[] }, .string { data := #[] }, .slice none 0 0]), 3, 56) := by kernel_rfl
  cases hi : Try.prog.info? TSer with
  | none => rw [hi] at hinf; cases hinf
  | some i =>
    rw [hi] at hinf
    simp only [Option.map_some, Option.some.injEq, Prod.mk.injEq] at hinf
    exact ⟨i, rfl, hinf.1, hinf.2.1, hinf.2.2⟩
end Go.Proofs.Ytlklbhjcohgmhaa
