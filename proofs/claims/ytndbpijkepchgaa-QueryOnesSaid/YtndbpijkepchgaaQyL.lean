/- Layer 13: the law's example. -/
import Derived.Test.YtndbpijkepchgaaQyF
import Derived.Test.YtndbpijkepchgaaQyB
namespace Go.Proofs.Ytndbpijkepchgaa.Qy
open Go.RowKit Go.Deep Go.Lib Go.Shelf Go.Sort
open Go.Joins (cell_of_block unfrozen_of_block block_setCell)
set_option linter.unusedVariables false
set_option linter.unusedSimpArgs false
set_option maxRecDepth 20000

def vP : ByteArray := { data := #[112] }
/-- The example's series, its sample. -/
def exS : Sr := ({ data := #[112] }, { data := #[99, 112, 117] })
theorem ex_read : rdE 4607182418800017408 = 0 ∧ rdV 4607182418800017408 = 1000 := ⟨by kernel_rfl, by kernel_rfl⟩
theorem ex_name : (nameB exS.1 && nameB exS.2) = true := by kernel_rfl
theorem ex_ok : OkS exS := ⟨by decide, by decide⟩
abbrev ExP (w2 w' : World) (bb mb : Nat) : Prop := ∃ W, Below w2.heap.size w2 W ∧ ∃ rb gb, W.heap.size ≤ rb ∧ W.heap.size ≤ gb ∧ Bk w' bb mb 4 10 [⟨exS, rb, gb, [(1, 1000)]⟩] ∧ Tch [mb] W w'
theorem ex_scrape (w2 : World) (bb mb : Nat) (K : Bk w2 bb mb 4 10 []) : Calls Try.prog 12 #[.pointer (some ⟨bb, 0, none⟩), .int .i64 1, ser exS, .int .u64 4607182418800017408] w2 fun r w' => r = .returned (.tuple #[.int .i64 1000, .int .i64 0]) ∧ ExP w2 w' bb mb := by
  have C := fun (W : World) (b : Below w2.heap.size w2 W) => bput_new W bb mb 4 10 [] (K.gr b) exS ex_ok (by simp) (by simp) 1 1000 (by omega)
  have := scr_goes w2 bb 1 exS 4607182418800017408 (by omega) ex_ok ex_name (by omega) ex_read.1 0 (fun W w' => ∃ rb gb, W.heap.size ≤ rb ∧ W.heap.size ≤ gb ∧ Bk w' bb mb 4 10 [⟨exS, rb, gb, [(1, 1000)]⟩] ∧ Tch [mb] W w')
      (fun W b => by rw [ex_read.2]; exact C W b)
  rw [ex_read.2] at this
  exact this
/-- The example's pod. -/
abbrev pdC : Array Value := #[.int .i64 1, .string { data := #[112] }, .int .u64 0, .int .i64 0, .int .i64 0, .int .i64 0, .slice none 0 0, .slice none 0 0, .slice none 0 0, .int .i64 0, .string { data := #[] }, .string { data := #[] }, .int .i64 1, .int .i64 0, .int .i64 7, .int .i64 0, .slice none 0 0, .slice none 0 0, .slice none 0 0, .int .i64 0, .string { data := #[] }, .int .i64 0, .int .i64 0, .slice none 0 0, .slice none 0 0, .int .i64 0, .bool false, .int .i64 0, .int .i64 0, .int .i64 0, .int .i64 0, .int .i64 0, .slice none 0 0, .slice none 0 0, .int .i64 0, .string { data := #[] }, .int .i64 0, .int .i64 0, .slice none 0 0, .int .i64 0, .int .i64 0, .int .i64 0, .slice none 0 0, .int .i64 0, .int .i64 0, .slice none 0 0, .slice none 0 0]
theorem pd_pod : PodC pdC 1 vP 1 7 0 := ⟨rfl, rfl, rfl, rfl, rfl, rfl⟩
theorem pd_one : pdC.all (·.oneCell') = true := by simp [Value.oneCell']
theorem ex_use (rb gb : Nat) : useOf 1 10 [⟨exS, rb, gb, [(1, 1000)]⟩] vCpu vP 1 7 0 = useC vP false true 7 1000 := by
  have e1 : smpsOf [⟨exS, rb, gb, [(1, 1000)]⟩] (vP, vCpu) = [(1, 1000)] := by
    have : (vP, vCpu) = exS := rfl
    rw [this]
    unfold smpsOf
    simp [hitS]
  have e2 : askV vCpu 7 0 = 7 := if_pos rfl
  unfold useOf
  rw [e1, e2]
  have e3 : upto 1 [(1, 1000)] = [(1, 1000)] := by simp [upto]
  rw [e3]
  have e4 : freE 1 ((10 : Nat) : Int) [(1, 1000)] = 0 := by simp [freE]
  have e5 : freV 1 ((10 : Nat) : Int) [(1, 1000)] = 1000 := by simp [freV]
  rw [e4, e5]
  rfl
set_option maxHeartbeats 4000000 in
theorem qlives (w : World) : Calls Try.prog 5 #[] w fun e w' => e = .returned (.bool true) ∧ Below w.heap.size w w' := by
  have CN := Lib.hid (bnew_ok w 4 10 (by omega) (by omega))
  obtain ⟨N, hN⟩ : ∃ N, N = w.heap.size := ⟨_, rfl⟩
  have HN := Lib.hid hN
  clear hN
  go_enter Try.func5, Try.ntmps5
  go_wp2_with fail
  refine CN.out.mono ?_
  rintro e w1 ⟨bb, rfl, mb, h1, h2, K1, b1⟩
  have CS := Lib.hid (ex_scrape w1 bb mb K1)
  unfold ser exS at CS
  have hml := K1.lt mb (foot_mem.2 (.inr (.inl rfl)))
  have HH := Lib.hid (And.intro h2 (And.intro b1 hml))
  clear CN h1 h2 K1 b1 hml
  go_wp2_with fail
  refine CS.out.mono ?_
  rintro e w3 ⟨rfl, W, bW, rb, gb, hr, hg, K3, t3⟩
  have b03 : Below w.heap.size w w3 := by
    obtain ⟨h2, b1, hml⟩ := HH.out
    have hz := b1.size
    have hzW := bW.size
    exact (b1.trans (bW.mono hz)).trans (t3.below (fun g hg => by rw [List.mem_singleton] at hg; omega) (by omega))
  obtain ⟨w4, hw4⟩ : ∃ w4, w4 = w3.alloc (.cells pdC OT) := ⟨_, rfl⟩
  obtain ⟨B, hB⟩ : ∃ B, B = w3.heap.size := ⟨_, rfl⟩
  have b4 : Below w3.heap.size w3 w4 := hw4 ▸ (Below.refl _ _).alloc (Nat.le_refl _) _
  have k4 : w4.heap[B]? = some (.cells pdC OT (0, 0)) := by rw [hw4, hB]; exact heap_alloc_new w3 _
  have CR := row_one w4 bb mb 4 10 _ (K3.gr b4) 1 (by omega) vCpu (by decide) B pdC vP (by decide) 1 7 0 pd_pod (by omega) pd_one k4
  rw [ex_use] at CR
  have CR := Lib.hid CR
  have HW4 : Hid (w3.alloc (.cells pdC OT) = w4 ∧ w3.heap.size = B) := ⟨hw4.symm, hB.symm⟩
  have B4 := Lib.hid (b03.trans (b4.mono b03.size))
  unfold vCpu at CR
  clear bW hr hg K3 t3 b03 hw4 hB b4 k4 HH CS
  go_wp2_with (refine Ld.wpList_build (by kernel_rfl) 68 OT _ rfl (.agg zO) 47 pdC (by rfl) rfl (by decide) (by decide) Try.underlying68 (by kernel_rfl) ?_; rw [HW4.out.1, HW4.out.2])
  refine CR.out.mono ?_
  rintro e w5 ⟨q, c, rfl, r5⟩
  obtain ⟨g, rfl, hg1, hg2, at5⟩ := r5.at_
  have C5 := Lib.hid (split_unready w5 g c vP true 7 1000 hg2 at5)
  have B5 := Lib.hid (B4.out.trans (r5.2.mono B4.out.size))
  clear r5 hg1 hg2 at5 CR
  go_wp2_with fail
  refine C5.out.mono ?_
  rintro e w6 ⟨q, c6, rfl, r6⟩
  obtain ⟨g6, rfl, _, _, at6⟩ := r6.at_
  have d3 : w6.cell? ⟨g6, 3, none⟩ = some (.int .i64 7) := at6 3 _ rfl
  have d4 : w6.cell? ⟨g6, 4, none⟩ = some (.int .i64 1000) := at6 4 _ rfl
  have FIN := Lib.hid (B5.out.trans (r6.2.mono B5.out.size))
  clear r6 at6 C5
  go_wp2
  go_ret
  exact ⟨rfl, FIN.out⟩
end Go.Proofs.Ytndbpijkepchgaa.Qy
