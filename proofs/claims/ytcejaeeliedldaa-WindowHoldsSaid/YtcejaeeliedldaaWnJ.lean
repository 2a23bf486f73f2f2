/- Layer 21 (window): a new last tick (begin), of any memory. -/
import Derived.Test.YtcejaeeliedldaaWnC
import Derived.Test.YtcejaeeliedldaaWnE
import Derived.Test.YtcejaeeliedldaaSteps
namespace Go.Proofs.Ytcejaeeliedldaa.Wn
open Go.RowKit Go.Shelf Go.Lib Go.Sort Go.Deep
open Go.Joins (cell_of_block unfrozen_of_block block_setCell)
open Go.Proofs.Ytcejaeeliedldaa.Ow
set_option linter.unusedVariables false
set_option linter.unusedSimpArgs false
set_option maxRecDepth 20000

theorem flat_app (l : List Tk) (x : Tk) : flat encS (l ++ [x]) = flat encS l ++ encS x := by simp [flat]
/-- Something was written into a memory alone. -/
def Foot (mb : Nat) (v : Value) : List Nat := mb :: v.ownBlock.toList
set_option maxHeartbeats 8000000 in
theorem begin_any (N : Nat) (w : World) (mb : Nat) (v : Value) (l : List Tk) (h : Mem N w mb v l) (hl : l.length ≤ 900000) (a n : Int) (hk : ∀ x ∈ l, TkOk a x) :
    Calls Try.prog 18 #[.pointer (some ⟨mb, 0, none⟩), .int .i64 a, .int .i64 n] w fun e w' => e = .returned (.tuple #[]) ∧ (∃ v', Mem N w' mb v' (l.filter (kp a) ++ [⟨a, n, n⟩]) ∧ ∀ g, v'.ownBlock = some g → v.ownBlock = some g ∨ w.heap.size ≤ g) ∧ Tch (Foot mb v) w w' := by
  have mixed : Try.prog.follows .mixedOrders = true := by kernel_rfl
  obtain ⟨B, hB⟩ : ∃ B, B = w.heap.size := ⟨_, rfl⟩
  obtain ⟨w1, hw1⟩ : ∃ w1, w1 = w.alloc (.cells #[.int .i64 a] AT) := ⟨_, rfl⟩
  have b1 : w1.heap[B]? = some (.cells #[.int .i64 a] AT (0, 0)) := by rw [hw1, hB]; exact heap_alloc_new w _
  have G1 : Gr w w1 := by rw [hw1]; exact (Gr.refl w).alloc _
  have M1 := h.below G1.below
  have hmB : mb < B := by rw [hB]; exact h.lt
  have hNB : N ≤ B := by have := h.bs; omega
  obtain ⟨q, c, rfl, _⟩ := h.row
  have c1 := M1.c0
  have HW : Hid (w.alloc (.cells #[.int .i64 a] AT) = w1 ∧ w.heap.size = B) := ⟨hw1.symm, hB.symm⟩
  have CD := Lib.hid (tk_delete w1 N q c l B a M1.own (by omega) b1 hk)
  have hfl := List.length_filter_le (kp a) l
  obtain ⟨r, hr⟩ : ∃ r, r = l.filter (kp a) := ⟨_, rfl⟩
  rw [← hr] at CD hfl
  rw [← hr]
  obtain ⟨n0, hn0⟩ : ∃ n, n = l.length := ⟨_, rfl⟩
  have HN := Lib.hid hn0
  rw [← hn0] at c1 CD hl hfl
  have HH := Lib.hid (And.intro h (And.intro M1 (And.intro b1 (And.intro G1 (And.intro hmB hNB)))))
  have ne1 := M1.ne
  clear h hk M1 b1 G1 hB hw1 hr hn0
  go_enter Try.func18, Try.ntmps18
  go_upto_region 1 with fail
  rw [HW.out.1, HW.out.2]
  go_wp2_with fail
  refine CD.out.mono ?_
  rintro e w2 ⟨⟨c', rfl, ow2⟩, t2⟩
  obtain ⟨h0, M1, b1, G1, hmB, hNB⟩ := HH.out
  obtain ⟨m, hm⟩ : ∃ m, m = r.length := ⟨_, rfl⟩
  have HM := Lib.hid hm
  rw [← hm] at hfl
  have ow2' := ow2
  rw [← hm] at ow2'
  have nmb : mb ∉ (Value.slice q n0 c).ownBlock.toList := fun hm => ne1 (by rw [← HN.out]; simpa using hm)
  have nB : B ∉ (Value.slice q n0 c).ownBlock.toList := fun hm => own_ne M1.own b1 (by decide) (by rw [← HN.out]; simpa using hm)
  have m2 : w2.heap[mb]? = some (.cells #[.slice q n0 c] MT (0, 0)) := by rw [t2.block mb M1.lt nmb, M1.blk, HN.out]
  have bb2 : w2.heap[B]? = some (.cells #[.int .i64 a] AT (0, 0)) := (t2.block B (Array.getElem?_eq_some_iff.1 b1).1 nB).trans b1
  have c2 : w2.cell? ⟨mb, 0, none⟩ = some (.slice q n0 c) := cell_of_block m2 0
  have u2 : w2.frozen? ⟨mb, 0, none⟩ = false := unfrozen_of_block m2 0
  obtain ⟨w3, hw3⟩ : ∃ w3, w3 = w2.setCell ⟨mb, 0, none⟩ (.slice q m c') := ⟨_, rfl⟩
  have m3 : w3.heap[mb]? = some (.cells #[.slice q m c'] MT (0, 0)) := by rw [hw3, block_setCell m2]; rfl
  have bb3 : w3.heap[B]? = some (.cells #[.int .i64 a] AT (0, 0)) := by rw [hw3, Below.heap_setCell _ _ _ _ (by show B ≠ mb; omega)]; exact bb2
  have ow3 : w3.ownsRow N TT 3 (.slice q m c') m (flat encS r) := own_block ow2' (fun g hg => by
    rw [hw3, Below.heap_setCell _ _ _ _ (by show g ≠ mb; intro e; rw [e] at hg; exact own_ne ow2' m2 (by decide) hg)])
  have t3 : Tch (Foot mb (.slice q n0 c)) w w3 := by
    rw [hw3]
    refine (((Tch.ofBelow G1.below (Foot mb (.slice q n0 c))).trans t2 (fun g hg => .inl (List.mem_cons_of_mem _ hg))).setCell 0 _ (.inl (List.mem_cons_self ..)))
  have HW3 : Hid (w2.setCell ⟨mb, 0, none⟩ (.slice q m c') = w3) := hw3.symm
  have KS : Hid (∀ ws : World, (ws.heap[mb]? = some (.cells #[.slice q m c'] MT (0, 0)) ∧ ws.heap[B]? = some (.cells #[.int .i64 a] AT (0, 0))) → ws.cell? ⟨mb, 0, none⟩ = some (.slice q m c') ∧ ws.cell? ⟨B, 0, none⟩ = some (.int .i64 a)) := fun ws h => ⟨cell_of_block h.1 0, cell_of_block h.2 0⟩
  have S3 : Hid (w3.drew.heap[mb]? = some (.cells #[.slice q m c'] MT (0, 0)) ∧ w3.drew.heap[B]? = some (.cells #[.int .i64 a] AT (0, 0))) := ⟨m3, bb3⟩
  have F3 := Lib.hid (And.intro m3 (And.intro bb3 (And.intro ow3 t3)))
  have hml : m ≤ 900000 := by omega
  rw [← hm]
  clear h0 M1 b1 G1 hm ow2 ow2' nmb nB m2 bb2 hw3 m3 bb3 ow3 t2 t3 CD c1 hfl hl
  go_upto_region 2 with fail
  rw [HW3.out]
  clear c2 u2 HW3
  refine wp_region_E (f := 13) (S := fun ws => ws.heap[mb]? = some (.cells #[.slice q m c'] MT (0, 0)) ∧ ws.heap[B]? = some (.cells #[.int .i64 a] AT (0, 0))) mixed S3.out (fun hS => ?_)
  refine wpAnyE_takeP (i := 0) (d := 15) (v := .pointer (some ⟨mb, 0, none⟩)) _ rfl rfl (by kernel_rfl) (by kernel_rfl) (by kernel_rfl) (by kernel_rfl) (fun _ _ _ h => h) (Or.inl ⟨by kernel_rfl, fun ws => by first | (go_simp; done) | (go_simp; with_reducible rfl) | (go_simp; rfl)⟩) hS ?_
  simp only [Act.put, List.setIfInBounds_toArray, List.set_cons_zero, List.set_cons_succ]
  refine wpAnyE_takeP (i := 1) (d := 16) (v := .pointer (some ⟨mb, 0, none⟩)) _ rfl rfl (by kernel_rfl) (by kernel_rfl) (by kernel_rfl) (by kernel_rfl) (fun _ _ _ h => h) (Or.inl ⟨by kernel_rfl, fun ws => by first | (go_simp; done) | (go_simp; with_reducible rfl) | (go_simp; rfl)⟩) hS ?_
  simp only [Act.put, List.setIfInBounds_toArray, List.set_cons_zero, List.set_cons_succ]
  refine wpAnyE_takeP (i := 2) (d := 17) (v := .pointer (some ⟨mb, 0, none⟩)) _ rfl rfl (by kernel_rfl) (by kernel_rfl) (by kernel_rfl) (by kernel_rfl) (fun _ _ _ h => h) (Or.inl ⟨by kernel_rfl, fun ws => by first | (go_simp; done) | (go_simp; with_reducible rfl) | (go_simp; rfl)⟩) hS ?_
  simp only [Act.put, List.setIfInBounds_toArray, List.set_cons_zero, List.set_cons_succ]
  refine wpAnyE_takeP (i := 3) (d := 18) (v := .pointer (some ⟨mb, 0, none⟩)) _ rfl rfl (by kernel_rfl) (by kernel_rfl) (by kernel_rfl) (by kernel_rfl) (fun _ _ _ h => h) (Or.inl ⟨by kernel_rfl, fun ws => by first | (go_simp; done) | (go_simp; with_reducible rfl) | (go_simp; rfl)⟩) hS ?_
  simp only [Act.put, List.setIfInBounds_toArray, List.set_cons_zero, List.set_cons_succ]
  refine wpAnyE_takeD (i := 4) (d := 19) (v := .slice q m c') _ rfl rfl (by kernel_rfl) (by kernel_rfl) (by kernel_rfl) (by kernel_rfl) (fun _ _ _ h => h) (Or.inl ⟨by kernel_rfl, fun ws hSw => by have q := KS.out ws hSw; first | (go_simp; done) | (go_simp; with_reducible rfl) | (go_simp; rfl)⟩) hS ?_
  simp only [Act.put, List.setIfInBounds_toArray, List.set_cons_zero, List.set_cons_succ]
  refine wpAnyE_takeD (i := 5) (d := 20) (v := .int .i64 a) _ rfl rfl (by kernel_rfl) (by kernel_rfl) (by kernel_rfl) (by kernel_rfl) (fun _ _ _ h => h) (Or.inl ⟨by kernel_rfl, fun ws hSw => by have q := KS.out ws hSw; first | (go_simp; done) | (go_simp; with_reducible rfl) | (go_simp; rfl)⟩) hS ?_
  simp only [Act.put, List.setIfInBounds_toArray, List.set_cons_zero, List.set_cons_succ]
  refine wpAnyE_takeP (i := 6) (d := 21) (v := .int .i64 n) _ rfl rfl (by kernel_rfl) (by kernel_rfl) (by kernel_rfl) (by kernel_rfl) (fun _ _ _ h => h) (Or.inl ⟨by kernel_rfl, fun ws => by first | (go_simp; done) | (go_simp; with_reducible rfl) | (go_simp; rfl)⟩) hS ?_
  simp only [Act.put, List.setIfInBounds_toArray, List.set_cons_zero, List.set_cons_succ]
  refine wpAnyE_takeP (i := 7) (d := 22) (v := .int .i64 n) _ rfl rfl (by kernel_rfl) (by kernel_rfl) (by kernel_rfl) (by kernel_rfl) (fun _ _ _ h => h) (Or.inl ⟨by kernel_rfl, fun ws => by first | (go_simp; done) | (go_simp; with_reducible rfl) | (go_simp; rfl)⟩) hS ?_
  simp only [Act.put, List.setIfInBounds_toArray, List.set_cons_zero, List.set_cons_succ]
  refine wpAnyE_takeP (i := 8) (d := 23) (v := .agg #[.int .i64 a, .int .i64 n, .int .i64 n]) _ rfl rfl (by kernel_rfl) (by kernel_rfl) (by kernel_rfl) (by kernel_rfl) (fun _ _ _ h => h) (Or.inl ⟨by kernel_rfl, fun ws => by first | (go_simp; done) | (go_simp; with_reducible rfl) | (go_simp; rfl)⟩) hS ?_
  simp only [Act.put, List.setIfInBounds_toArray, List.set_cons_zero, List.set_cons_succ]
  refine wpAnyE_one (i := 9) rfl (by kernel_rfl) (by kernel_rfl) (fun K hK => ?_)
  obtain ⟨O, hO⟩ : ∃ O, O = w3.drew.heap.size := ⟨_, rfl⟩
  obtain ⟨w4, hw4⟩ : ∃ w4, w4 = w3.drew.alloc (.cells #[.int .i64 a, .int .i64 n, .int .i64 n] TT) := ⟨_, rfl⟩
  have HW4 : Hid (w3.drew.alloc (.cells #[.int .i64 a, .int .i64 n, .int .i64 n] TT) = w4 ∧ w3.drew.heap.size = O) := ⟨hw4.symm, hO.symm⟩
  refine step_mk (by rfl) SlT TT _ rfl (.agg zerS) 3 #[.int .i64 a, .int .i64 n, .int .i64 n] (by rfl) rfl (by decide) (by decide) Try.underlying42 (by kernel_rfl) ?_
  rw [HW4.out.1, HW4.out.2]
  obtain ⟨m3, bb3, ow3, t3⟩ := F3.out
  have D4 : Below w3.heap.size w3 w4 := by rw [hw4]; exact ((Below.refl _ w3).drew).alloc (Nat.le_refl _) _
  have o4 : w4.heap[O]? = some (.cells #[.int .i64 a, .int .i64 n, .int .i64 n] TT (0, 0)) := by rw [hw4, hO]; exact heap_alloc_new _ _
  have m4 : w4.heap[mb]? = some (.cells #[.slice q m c'] MT (0, 0)) := (D4.block mb (Array.getElem?_eq_some_iff.1 m3).1).trans m3
  have bb4 : w4.heap[B]? = some (.cells #[.int .i64 a] AT (0, 0)) := (D4.block B (Array.getElem?_eq_some_iff.1 bb3).1).trans bb3
  have OW4 := Lib.hid (below_own ow3 D4)
  have NEW : Hid (∀ j u, ([.int .i64 a, .int .i64 n, .int .i64 n] : List Value)[j]? = some u → w4.cell? ((⟨O, 0, none⟩ : Addr).add j) = some u) := fun j u hu => by
    have ea : (⟨O, 0, none⟩ : Addr).add j = ⟨O, j, none⟩ := by unfold Addr.add; split <;> simp_all
    rw [ea, cell_of_block o4, ← hu]
    simp
  have ONE : Hid (∀ u ∈ ([.int .i64 a, .int .i64 n, .int .i64 n] : List Value), u.oneCell' = true) := fun u hu => oneS ⟨a, n, n⟩ u hu
  have hB3 : B ≤ w3.heap.size := Nat.le_of_lt (Array.getElem?_eq_some_iff.1 bb3).1
  have BS : Hid (N ≤ w4.heap.size) := by have h1 := HH.out.2.2.2.2.2; have h3 := D4.size; show N ≤ _; omega
  have t4 : Tch (Foot mb (.slice q n0 c)) w w4 := t3.trans (Tch.ofBelow D4 []) (fun g hg => by cases hg)
  have F4 := Lib.hid (And.intro m4 (And.intro bb4 (And.intro t4 hB3)))
  clear hw4 hO m3 bb3 ow3 t3 D4 o4 t4 hB3 F3
  refine hK _ _ ⟨m4, bb4⟩ (fun hS => ?_)
  clear m4 bb4
  try simp only [Act.put, List.setIfInBounds_toArray, List.set_cons_zero, List.set_cons_succ]
  refine wpAnyE_one (i := 10) rfl (by kernel_rfl) (by kernel_rfl) (fun K hK => ?_)
  refine step_appendS (by rfl) _ _ SlT rfl N TT (.agg zerS) 3 24 Try.underlying42 (by kernel_rfl) rfl (by decide) (.slice q m c') m (flat encS r) (by rfl) OW4.out ⟨O, 0, none⟩ 1 1 [.int .i64 a, .int .i64 n, .int .i64 n] (by rfl) rfl NEW.out ONE.out (by unfold maxLen; omega) (by omega) BS.out ?_
  intro v5 w5 ho5 hg5 hn5
  obtain ⟨q5, c5, rfl⟩ := slc_own ho5
  obtain ⟨m4, bb4, t4, hB3⟩ := F4.out
  have nm : (Value.slice q m c').ownBlock ≠ some mb := own_ne OW4.out m4 (by decide)
  have nb : (Value.slice q m c').ownBlock ≠ some B := own_ne OW4.out bb4 (by decide)
  have m5 : w5.heap[mb]? = some (.cells #[.slice q m c'] MT (0, 0)) := (hg5.block mb (Array.getElem?_eq_some_iff.1 m4).1 (fun e => nm e.symm)).trans m4
  have bb5 : w5.heap[B]? = some (.cells #[.int .i64 a] AT (0, 0)) := (hg5.block B (Array.getElem?_eq_some_iff.1 bb4).1 (fun e => nb e.symm)).trans bb4
  have c5' : w5.cell? ⟨mb, 0, none⟩ = some (.slice q m c') := cell_of_block m5 0
  have u5 : w5.frozen? ⟨mb, 0, none⟩ = false := unfrozen_of_block m5 0
  obtain ⟨w6, hw6⟩ : ∃ w6, w6 = w5.setCell ⟨mb, 0, none⟩ (.slice q5 (m + 1) c5) := ⟨_, rfl⟩
  have HW6 : Hid (w5.setCell ⟨mb, 0, none⟩ (.slice q5 (m + 1) c5) = w6) := hw6.symm
  have eqo : (Value.slice q m c').ownBlock = (Value.slice q n0 c).ownBlock := by rcases q with _ | ⟨b, o, s⟩ <;> rfl
  have hgN : ∀ g, (Value.slice q5 (m + 1) c5).ownBlock = some g → (Value.slice q n0 c).ownBlock = some g ∨ w.heap.size ≤ g := fun g hg => by
    rcases hn5 with e | e
    · left; rw [← eqo, ← e]; exact hg
    · right
      rw [e] at hg
      cases hg
      exact t4.size
  have FIN : Hid (Mem N w6 mb (.slice q5 (m + 1) c5) (r ++ [⟨a, n, n⟩]) ∧ (∀ g, (Value.slice q5 (m + 1) c5).ownBlock = some g → (Value.slice q n0 c).ownBlock = some g ∨ w.heap.size ≤ g) ∧ Tch (Foot mb (.slice q n0 c)) w w6) := by
    refine ⟨⟨by rw [hw6, block_setCell m5]; rfl, ?_, HH.out.1.bs⟩, hgN, ?_⟩
    · have ow6 : w6.ownsRow N TT 3 (.slice q5 (m + 1) c5) (m + 1) (flat encS r ++ [.int .i64 a, .int .i64 n, .int .i64 n]) := own_block ho5 (fun g hg => by
        rw [hw6, Below.heap_setCell _ _ _ _ (by show g ≠ mb; intro e; rw [e] at hg; exact own_ne ho5 m5 (by decide) hg)])
      unfold OwnK
      rw [flat_app, List.length_append, ← HM.out]
      exact ow6
    · rw [hw6]
      have hgt : Tch (Value.slice q n0 c).ownBlock.toList w4 w5 := Tch.ofGrown hg5 (fun g hg => .inl (by rw [← eqo, hg]; simp))
      exact (t4.trans hgt (fun g hg => .inl (List.mem_cons_of_mem _ hg))).setCell 0 _ (.inl (List.mem_cons_self ..))
  clear m4 bb4 t4 hB3 nm nb hgN hw6 ho5 hg5 hn5 F4 OW4 NEW ONE HH eqo HM
  refine hK _ _ ⟨m5, bb5⟩ (fun hS => ?_)
  clear m5 bb5
  try simp only [Act.put, List.setIfInBounds_toArray, List.set_cons_zero, List.set_cons_succ]
  refine wpAnyE_takeP (i := 11) (d := 26) (v := .pointer (some ⟨mb, 0, none⟩)) _ rfl rfl (by kernel_rfl) (by kernel_rfl) (by kernel_rfl) (by kernel_rfl) (fun _ _ _ h => h) (Or.inl ⟨by kernel_rfl, fun ws => by first | (go_simp; done) | (go_simp; with_reducible rfl) | (go_simp; rfl)⟩) hS ?_
  simp only [Act.put, List.setIfInBounds_toArray, List.set_cons_zero, List.set_cons_succ]
  refine wpAnyE_takeP (i := 12) (d := 27) (v := .pointer (some ⟨mb, 0, none⟩)) _ rfl rfl (by kernel_rfl) (by kernel_rfl) (by kernel_rfl) (by kernel_rfl) (fun _ _ _ h => h) (Or.inl ⟨by kernel_rfl, fun ws => by first | (go_simp; done) | (go_simp; with_reducible rfl) | (go_simp; rfl)⟩) hS ?_
  simp only [Act.put, List.setIfInBounds_toArray, List.set_cons_zero, List.set_cons_succ]
  refine wpAnyE_write rfl (by kernel_rfl) (fun K hK => ?_)
  go_simp
  rw [HW6.out]
  refine hK _ _ ?_
  try simp only [Act.put, List.setIfInBounds_toArray, List.set_cons_zero, List.set_cons_succ]
  refine wpAny_end (by kernel_rfl) ?_
  clear hK K c5' u5
  go_wp2
  go_end0
  rw [HN.out] at FIN
  exact ⟨rfl, ⟨_, FIN.out.1, FIN.out.2.1⟩, FIN.out.2.2⟩
end Go.Proofs.Ytcejaeeliedldaa.Wn
