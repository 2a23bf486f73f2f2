/- The chapter's example; a book that isn't there. -/
import Derived.Test.YtlklbhjcohgmhaaScH
import Derived.Deep.Quiet
import Derived.Shelf.SlSortCmp.QuietGrown
namespace Go.Proofs.Ytlklbhjcohgmhaa
open Go.RowKit Go.Shelf Go.Lib Go.Sort
open Go.Joins (cell_of_block unfrozen_of_block block_setCell)
set_option linter.unusedVariables false
set_option linter.unusedSimpArgs false
set_option maxRecDepth 20000

theorem row_nilG (w : World) (now : Int) (s : Sr) : Calls Try.prog 17 #[.pointer none, .int .i64 now, ser s] w fun r w' => r = .returned (.slice none 0 0) ∧ Gr w w' := by
  have F : Hid (∀ o, Gr w (w.alloc o)) := fun o => (Gr.refl _).alloc _
  unfold ser
  go_enter Try.func17, Try.ntmps17
  go_wp2
  go_ret
  exact ⟨rfl, F.out _⟩
theorem forget_nilG (w : World) (s : ByteArray) : Calls Try.prog 10 #[.pointer none, .string s] w fun r w' => r = .returned (.int .i64 0) ∧ Gr w w' := by
  have F : Hid (∀ o, Gr w (w.alloc o)) := fun o => (Gr.refl _).alloc _
  go_enter Try.func10, Try.ntmps10
  go_wp2
  go_ret
  exact ⟨rfl, F.out _⟩
theorem all_nilG (w : World) : Calls Try.prog 12 #[.pointer none] w fun r w' => r = .returned (.slice none 0 0) ∧ Gr w w' := by
  have F := Lib.hid (Gr.refl w)
  go_enter Try.func12, Try.ntmps12
  go_wp2
  go_ret
  exact ⟨rfl, F.out⟩
theorem bcopy_nilG (w : World) : Calls Try.prog 11 #[.pointer none] w fun r w' => r = .returned (.pointer none) ∧ Gr w w' := by
  have F := Lib.hid (Gr.refl w)
  go_enter Try.func11, Try.ntmps11
  go_wp2
  go_ret
  exact ⟨rfl, F.out⟩

/-- The example's series, its sample. -/
def exS : Sr := ({ data := #[112] }, { data := #[99, 112, 117] })
theorem ex_read : rdE 4607182418800017408 = 0 ∧ rdV 4607182418800017408 = 1000 := ⟨by kernel_rfl, by kernel_rfl⟩
theorem ex_name : (nameB exS.1 && nameB exS.2) = true := by kernel_rfl
theorem ex_ok : OkS exS := ⟨by decide, by decide⟩
theorem ex_of (rb gb : Nat) (l : List (Int × Int)) : smpsOf [⟨exS, rb, gb, l⟩] exS = l := by
  unfold smpsOf
  simp [hitS]
abbrev ExP (w2 w' : World) (bb mb : Nat) : Prop := ∃ W, Below w2.heap.size w2 W ∧ ∃ rb gb, W.heap.size ≤ rb ∧ W.heap.size ≤ gb ∧ Bk w' bb mb 4 10 [⟨exS, rb, gb, [(5, 1000)]⟩] ∧ Tch [mb] W w'
theorem ex_scrape (w2 : World) (bb mb : Nat) (K : Bk w2 bb mb 4 10 []) : Calls Try.prog 8 #[.pointer (some ⟨bb, 0, none⟩), .int .i64 5, ser exS, .int .u64 4607182418800017408] w2 fun r w' => r = .returned (.tuple #[.int .i64 1000, .int .i64 0]) ∧ ExP w2 w' bb mb := by
  have C := fun (W : World) (b : Below w2.heap.size w2 W) => bput_new W bb mb 4 10 [] (K.gr b) exS ex_ok (by simp) (by simp) 5 1000 (by omega)
  have := scr_goes w2 bb 5 exS 4607182418800017408 (by omega) ex_ok ex_name (by omega) ex_read.1 0 (fun W w' => ∃ rb gb, W.heap.size ≤ rb ∧ W.heap.size ≤ gb ∧ Bk w' bb mb 4 10 [⟨exS, rb, gb, [(5, 1000)]⟩] ∧ Tch [mb] W w')
      (fun W b => by rw [ex_read.2]; exact C W b)
  rw [ex_read.2] at this
  exact this
theorem ex_fresh (w : World) (bb mb rb gb : Nat) (K : Bk w bb mb 4 10 [⟨exS, rb, gb, [(5, 1000)]⟩]) : (Calls Try.prog 16 #[.pointer (some ⟨bb, 0, none⟩), .int .i64 15, ser exS] w fun r w' => r = .returned (.tuple #[.int .i64 1000, .int .i64 0]) ∧ Below w.heap.size w w') ∧
    (Calls Try.prog 16 #[.pointer (some ⟨bb, 0, none⟩), .int .i64 16, ser exS] w fun r w' => r = .returned (.tuple #[.int .i64 0, .int .i64 13]) ∧ Below w.heap.size w w') := by
  have a := fresh_any w bb mb 4 10 _ K 15 exS ex_ok (by omega)
  have b := fresh_any w bb mb 4 10 _ K 16 exS ex_ok (by omega)
  rw [ex_of] at a b
  exact ⟨a, b⟩
set_option maxHeartbeats 2000000 in
theorem slives (w : World) : Calls Try.prog 6 #[] w fun e w' => e = .returned (.bool true) ∧ Below w.heap.size w w' := by
  have CN := Lib.hid (bnew_ok w 4 10 (by omega) (by omega))
  obtain ⟨N, hN⟩ : ∃ N, N = w.heap.size := ⟨_, rfl⟩
  go_enter Try.func6, Try.ntmps6
  go_wp2_with fail
  refine CN.out.mono ?_
  rintro e w1 ⟨bb, rfl, mb, h1, h2, K1, b1⟩
  obtain ⟨A, hA⟩ : ∃ A, A = w1.heap.size := ⟨_, rfl⟩
  obtain ⟨w2, hw2⟩ : ∃ w2, w2 = w1.alloc (.cells #[.string exS.1, .string exS.2] KS) := ⟨_, rfl⟩
  have b2 : Below w1.heap.size w1 w2 := hw2 ▸ (Below.refl _ _).alloc (Nat.le_refl _) _
  have k2 : w2.heap[A]? = some (.cells #[.string exS.1, .string exS.2] KS (0, 0)) := by rw [hw2, hA]; exact heap_alloc_new w1 _
  have b02 : Below w.heap.size w w2 := b1.trans (b2.mono b1.size)
  have CS := Lib.hid (ex_scrape w2 bb mb (K1.gr b2))
  have d0 : w2.cell? ⟨A, 0, none⟩ = some (.string { data := #[112] }) := cell_of_block k2 0
  have d1 : w2.cell? ⟨A, 1, none⟩ = some (.string { data := #[99, 112, 117] }) := cell_of_block k2 1
  have hml := K1.lt mb (foot_mem.2 (.inr (.inl rfl)))
  have HH := Lib.hid (And.intro hN (And.intro hA (And.intro b02 (And.intro k2 (And.intro h1 (And.intro h2 hml))))))
  have HW2 : Hid (w1.alloc (.cells #[.string { data := #[112] }, .string { data := #[99, 112, 117] }] KS) = w2 ∧ w1.heap.size = A) := ⟨hw2.symm, hA.symm⟩
  clear hN hA hw2 b2 k2 b02 K1 b1 h1 h2 hml CN
  go_upto_region 3 with fail
  rw [HW2.out.1, HW2.out.2]
  go_wp2_with fail
  refine CS.out.mono ?_
  rintro e w3 ⟨rfl, W, bW, rb, gb, hr, hg, K3, t3⟩
  obtain ⟨hN, hA, b02, k2, h1, h2, hml⟩ := HH.out
  have hz := b02.size
  have hzW := bW.size
  have hAlt : A < w2.heap.size := (Array.getElem?_eq_some_iff.1 k2).1
  have b03 : Below w.heap.size w w3 := (b02.trans (bW.mono hz)).trans (t3.below (fun g hg => by rw [List.mem_singleton] at hg; omega) (by omega))
  have k3 : w3.heap[A]? = some (.cells #[.string exS.1, .string exS.2] KS (0, 0)) := (t3.block A (by omega) (by rw [List.mem_singleton]; omega)).trans ((bW.block A hAlt).trans k2)
  have d0 : w3.cell? ⟨A, 0, none⟩ = some (.string { data := #[112] }) := cell_of_block k3 0
  have d1 : w3.cell? ⟨A, 1, none⟩ = some (.string { data := #[99, 112, 117] }) := cell_of_block k3 1
  have C1 := Lib.hid (ex_fresh w3 bb mb rb gb K3).1
  have HH := Lib.hid (And.intro k3 (And.intro b03 K3))
  clear hN hA b02 k2 h1 h2 hml hz hzW hAlt b03 k3 bW hr hg K3 t3 CS HW2
  go_wp2_with fail
  refine C1.out.mono ?_
  rintro e w4 ⟨rfl, b4⟩
  obtain ⟨k3, b03, K3⟩ := HH.out
  have k4 := (b4.block A (Array.getElem?_eq_some_iff.1 k3).1).trans k3
  have d0 : w4.cell? ⟨A, 0, none⟩ = some (.string { data := #[112] }) := cell_of_block k4 0
  have d1 : w4.cell? ⟨A, 1, none⟩ = some (.string { data := #[99, 112, 117] }) := cell_of_block k4 1
  have C2 := Lib.hid (ex_fresh w4 bb mb rb gb (K3.gr b4)).2
  have B4 := Lib.hid (b03.trans (b4.mono b03.size))
  clear k3 b03 K3 k4 b4 C1 HH
  go_wp2_with fail
  refine C2.out.mono ?_
  rintro e w5 ⟨rfl, b5⟩
  have FIN := Lib.hid (B4.out.trans (b5.mono B4.out.size))
  clear b5 B4
  go_wp2
  go_ret
  exact ⟨rfl, FIN.out⟩
end Go.Proofs.Ytlklbhjcohgmhaa
