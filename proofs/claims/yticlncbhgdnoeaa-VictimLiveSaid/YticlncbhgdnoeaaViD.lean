/- Layer 15 (victim): an owner's pods that aren't failed, and those that are (Live). -/
import Derived.Test.YticlncbhgdnoeaaViC
namespace Go.Proofs.Yticlncbhgdnoeaa.Vi
open Go.RowKit Go.Shelf Go.Lib Go.Sort Go.Deep
open Go.Joins (cell_of_block unfrozen_of_block block_setCell)
open Go.Proofs.Yticlncbhgdnoeaa.Ow
set_option linter.unusedVariables false
set_option linter.unusedSimpArgs false
set_option maxRecDepth 20000

theorem enters_l1 : ∀ args w, (callFunc 8 args).run Try.prog w = .ok (.enter 8 args) w := enters_of Try.func8 (by kernel_rfl) rfl
theorem enters_l2 : ∀ args w, (callFunc 10 args).run Try.prog w = .ok (.enter 10 args) w := enters_of Try.func10 (by kernel_rfl) rfl
set_option maxHeartbeats 4000000 in
theorem live_any (W w : World) (low : Below W.heap.size W w) (q : Option Addr) (c : Nat) (l : List Obv) (s : ByteArray) (hr : RowR 47 encOb W q l) (hok : ∀ x ∈ l, ObjV W x.1.1 x.2 ∧ NilO x.1.1 ∧ FitO x.2) (hlen : l.length ≤ 1000000) :
    Calls Try.prog 5 #[.slice q l.length c, .string s] w fun e w' => (∃ q1 c1 l1 q2 c2 l2, e = .returned (.tuple #[.slice q1 l1.length c1, .slice q2 l2.length c2]) ∧ Row w.heap.size w' (.slice q1 l1.length c1) l1 ∧ Row w.heap.size w' (.slice q2 l2.length c2) l2 ∧
      l1.map (·.2) = (l.map (·.2)).filter (isLive s) ∧ l2.map (·.2) = (l.map (·.2)).filter (isFailed s)) ∧ Below w.heap.size w w' := by
  obtain ⟨C, hC⟩ : ∃ C, C = w.heap.size := ⟨_, rfl⟩
  obtain ⟨w1, hw1⟩ : ∃ W, W = w.alloc (.cells #[.string s] 9) := ⟨_, rfl⟩
  have G1 : Gr w w1 := hw1 ▸ (Gr.refl w).alloc _
  have b1 : w1.heap[C]? = some (.cells #[.string s] 9 (0, 0)) := by rw [hw1, hC]; exact heap_alloc_new w _
  have ds : w1.cell? ⟨C, 0, none⟩ = some (.string s) := cell_of_block b1 0
  have low1 : Below W.heap.size W w1 := low.trans (G1.below.mono low.size)
  have lt1 : C < w1.heap.size := (Array.getElem?_eq_some_iff.1 b1).1
  have S1 := Lib.hid (sift_any W w1 w1.heap.size rfl low1 q c l hr hok hlen 8 #[.pointer (some ⟨C, 0, none⟩)] (isLive s) enters_l1 (fun ws X o b hv => live1_any ws X o C s hv ((World.cell?_of_block (a := ⟨C, 0, none⟩) (b.block C lt1)).trans ds)))
  have S2 : Hid (∀ w2, Below w1.heap.size w1 w2 → Calls Try.prog 7 #[.slice q l.length c, .func (.func 10) #[] #[.pointer (some ⟨C, 0, none⟩)]] w2 fun e w' => (∃ q' c' l', e = .returned (.slice q' l'.length c') ∧ Row w2.heap.size w' (.slice q' l'.length c') l' ∧ l'.map (·.2) = (l.map (·.2)).filter (isFailed s)) ∧ Below w2.heap.size w2 w') :=
    fun w2 b2 => sift_any W w2 w2.heap.size rfl (low1.trans (b2.mono low1.size)) q c l hr hok hlen 10 #[.pointer (some ⟨C, 0, none⟩)] (isFailed s) enters_l2 (fun ws X o b hv => live2_any ws X o C s hv ((World.cell?_of_block (a := ⟨C, 0, none⟩) ((b.block C (Nat.lt_of_lt_of_le lt1 b2.size)).trans (b2.block C lt1))).trans ds))
  have HW : Hid (w.alloc (.cells #[.string s] 9) = w1 ∧ w.heap.size = C) := ⟨hw1.symm, hC.symm⟩
  have HG := Lib.hid G1
  obtain ⟨n, hn⟩ : ∃ n, n = l.length := ⟨_, rfl⟩
  rw [← hn] at S1 S2 ⊢
  have hmf : ∀ (fn : Fn) (first cap : Array Value) (w : World), (Instr.makeFunc fn first cap).run Try.prog w = .ok (.func fn first cap) w := fun _ _ _ _ => rfl
  clear hC hw1 G1 b1 ds low1 lt1 hr hok hlen low hn
  go_enter Try.func5, Try.ntmps5
  go_upto_region 1 with fail
  rw [HW.out.1, HW.out.2]
  go_wp2_with fail
  refine S1.out.mono ?_
  rintro e w2 ⟨⟨q1, c1, l1, rfl, r1, e1⟩, b2⟩
  have CC := Lib.hid (S2.out w2 b2)
  have R1 := Lib.hid (And.intro r1 (And.intro e1 b2))
  obtain ⟨m1, hm1⟩ : ∃ n, n = l1.length := ⟨_, rfl⟩
  rw [← hm1]
  have HM1 : Hid (m1 = l1.length) := hm1
  clear r1 e1 b2 S1 S2 hm1
  go_wp2_with fail
  refine CC.out.mono ?_
  rintro e w3 ⟨⟨q2, c2, l2, rfl, r2, e2⟩, b3⟩
  have FIN : Hid ((∃ q1' c1' l1' q2' c2' l2', Ending.returned (.tuple #[.slice q1 m1 c1, .slice q2 l2.length c2]) = .returned (.tuple #[.slice q1' l1'.length c1', .slice q2' l2'.length c2']) ∧ Row w.heap.size w3 (.slice q1' l1'.length c1') l1' ∧ Row w.heap.size w3 (.slice q2' l2'.length c2') l2' ∧
      l1'.map (·.2) = (l.map (·.2)).filter (isLive s) ∧ l2'.map (·.2) = (l.map (·.2)).filter (isFailed s)) ∧ Below w.heap.size w w3) := by
    obtain ⟨r1, e1, b2⟩ := R1.out
    have z1 := HG.out.below.size
    have z2 := b2.size
    refine ⟨⟨q1, c1, l1, q2, c2, l2, by rw [HM1.out], ?_, ?_, e1, e2⟩, (HG.out.below.trans (b2.mono z1)).trans (b3.mono (Nat.le_trans z1 z2))⟩
    · have := r1.below b3
      exact ⟨own_mono this.own z1, this.firm⟩
    · exact ⟨own_mono r2.own (Nat.le_trans z1 z2), r2.firm⟩
  obtain ⟨m2, hm2⟩ : ∃ n, n = l2.length := ⟨_, rfl⟩
  rw [← hm2]
  rw [← hm2] at FIN
  clear r2 e2 b3 CC R1 hm2
  go_wp2
  go_ret2
  exact FIN.out
end Go.Proofs.Yticlncbhgdnoeaa.Vi
