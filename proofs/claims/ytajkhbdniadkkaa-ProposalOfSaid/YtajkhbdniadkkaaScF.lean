/- All samples of a series up to a tick: until. -/
import Derived.Test.YtajkhbdniadkkaaScE
namespace Go.Proofs.Ytajkhbdniadkkaa
open Go.RowKit Go.Shelf Go.Lib Go.Sort
open Go.Joins (cell_of_block unfrozen_of_block block_setCell)
set_option linter.unusedVariables false
set_option linter.unusedSimpArgs false
set_option maxRecDepth 20000

abbrev SlQ : TypeId := 105
set_option maxHeartbeats 8000000 in
theorem until_any (w : World) (bb mb n a : Nat) (E : List En) (h : Bk w bb mb n a E) (now : Int) (s : Sr) (hk : OkS s) :
    Calls Try.prog 42 #[.pointer (some ⟨bb, 0, none⟩), .int .i64 now, ser s] w fun r w' =>
      (∃ q c, r = .returned (.slice q (upto now (smpsOf E s)).length c) ∧ w'.ownsRow w.heap.size TSQ 2 (.slice q (upto now (smpsOf E s)).length c) (upto now (smpsOf E s)).length (flQ (upto now (smpsOf E s)))) ∧ Below w.heap.size w w' := by
  have mixed : Try.prog.follows .mixedOrders = true := by kernel_rfl
  obtain ⟨p, hp, hpos, hfew⟩ := h.pts hk
  obtain ⟨L, hL⟩ : ∃ L, L = smpsOf E s := ⟨_, rfl⟩
  rw [← hL] at hp hpos hfew ⊢
  obtain ⟨N, hN⟩ : ∃ N, N = w.heap.size := ⟨_, rfl⟩
  obtain ⟨w0, hw0⟩ : ∃ x, x = ((w.alloc (.cells #[.int .i64 now] 2)).alloc (.cells #[.string s.1, .string s.2] KS)).alloc (.cells #[.slice none 0 0] SlQ) := ⟨_, rfl⟩
  obtain ⟨A, hA⟩ : ∃ A, A = N + 1 + 1 := ⟨_, rfl⟩
  have S0 : Hid (Below N w w0 ∧ w0.heap.size = A + 1 ∧ w0.heap[N]? = some (.cells #[.int .i64 now] 2 (0, 0)) ∧ w0.heap[N + 1]? = some (.cells #[.string s.1, .string s.2] KS (0, 0)) ∧ w0.heap[A]? = some (.cells #[.slice none 0 0] SlQ (0, 0))) := by
    obtain ⟨wa, hwa⟩ : ∃ x, x = w.alloc (.cells #[.int .i64 now] 2) := ⟨_, rfl⟩
    obtain ⟨wb, hwb⟩ : ∃ x, x = wa.alloc (.cells #[.string s.1, .string s.2] KS) := ⟨_, rfl⟩
    rw [← hwa, ← hwb] at hw0
    have za : wa.heap.size = N + 1 := by rw [hwa, hN]; simp
    have zb : wb.heap.size = N + 1 + 1 := by rw [hwb, ← za]; simp
    refine ⟨?_, by rw [hw0, hA, ← zb]; simp, ?_, ?_, ?_⟩
    · rw [hw0, hwb, hwa, hN]
      exact (((Below.refl _ w).alloc (Nat.le_refl _) _).alloc (by simp) _).alloc (by simp; omega) _
    · rw [hw0, Below.heap_alloc _ _ _ (by omega), hwb, Below.heap_alloc _ _ _ (by omega), hwa, hN]
      exact heap_alloc_new w _
    · rw [hw0, Below.heap_alloc _ _ _ (by omega), hwb, ← za]
      exact heap_alloc_new wa _
    · rw [hw0, hA, ← zb]
      exact heap_alloc_new wb _
  have HW0 : Hid (((w.alloc (.cells #[.int .i64 now] 2)).alloc (.cells #[.string s.1, .string s.2] KS)).alloc (.cells #[.slice none 0 0] SlQ) = w0 ∧ w.heap.size = N ∧ N + 1 + 1 = A) := ⟨hw0.symm, hN.symm, hA.symm⟩
  have c2 : w0.cell? ⟨bb, 2, none⟩ = some (.map (some mb)) := (h.gr (by rw [← hN]; exact S0.out.1)).c2
  have k0 : w0.cell? ⟨N + 1, 0, none⟩ = some (.string s.1) := cell_of_block S0.out.2.2.2.1 0
  have k1 : w0.cell? ⟨N + 1, 1, none⟩ = some (.string s.2) := cell_of_block S0.out.2.2.2.1 1
  have LK : Hid (∀ ws : World, (∃ m, ws = w0.drewN m) → (Instr.lookup MS (.map (some mb)) (.agg #[.string s.1, .string s.2]) false).run Try.prog ws = .ok (.pointer p) ws) := fun ws ⟨m, e⟩ => by
    rw [e]
    exact (hp _ (Below.drewN' (by rw [← hN]; exact S0.out.1) m)).2
  have KC : Hid (∀ ws : World, (∃ m, ws = w0.drewN m) → ws.cell? ⟨bb, 2, none⟩ = some (.map (some mb))) := fun ws ⟨m, e⟩ => by rw [e]; exact c2
  have K0 : Hid (∀ ws : World, (∃ m, ws = w0.drewN m) → ws.cell? ⟨N + 1, 0, none⟩ = some (.string s.1) ∧ ws.cell? ⟨N + 1, 1, none⟩ = some (.string s.2)) := fun ws ⟨m, e⟩ => by rw [e]; exact ⟨k0, k1⟩
  -- behind Since
  obtain ⟨w4, hw4⟩ : ∃ w4, w4 = (w0.drew.alloc (.cells #[.pointer p] 141)).alloc (.cells #[.int .i64 0] 2) := ⟨_, rfl⟩
  have b4 : Below w0.heap.size w0 w4 := hw4 ▸ ((Below.drewN' (Below.refl _ w0) 1).alloc (Nat.le_refl _) _).alloc (by simp) _
  have z4 : w4.heap.size = A + 1 + 1 + 1 := by rw [hw4, ← S0.out.2.1]; simp
  have q0 : w4.cell? ⟨A + 1, 0, none⟩ = some (.pointer p) := by
    have h := cell_of_block (heap_alloc_new w0.drew (.cells #[.pointer p] 141)) 0
    have e : w0.drew.heap.size = A + 1 := S0.out.2.1
    rw [e] at h
    rw [hw4]
    exact (World.cell?_of_block (Below.heap_alloc _ _ _ (by rw [World.size_alloc]; show A + 1 < w0.heap.size + 1; have := S0.out.2.1; omega))).trans h
  have q1 : w4.cell? ⟨A + 1 + 1, 0, none⟩ = some (.int .i64 0) := by
    have h := cell_of_block (heap_alloc_new (w0.drew.alloc (.cells #[.pointer p] 141)) (.cells #[.int .i64 0] 2)) 0
    have e : (w0.drew.alloc (.cells #[.pointer p] 141)).heap.size = A + 1 + 1 := by rw [World.size_alloc]; show w0.heap.size + 1 = _; rw [S0.out.2.1]
    rw [e, ← hw4] at h
    exact h
  have low4 : Below N w w4 := S0.out.1.trans (b4.mono (by rw [S0.out.2.1]; omega))
  have P4 := (hp w4 (by rw [← hN]; exact low4)).1
  have TN := Lib.hid (tells_pts (6 - 1) N w4 n (A + 1) p L 0 P4 q0 q1 (by omega) (by omega))
  have hall : frmQ 0 L = L := frm_all hpos
  rw [hall] at TN
  have CS := Lib.hid (fun W => sinceQ W p 0)
  have a4 : w4.heap[A]? = some (.cells #[.slice none 0 0] SlQ (0, 0)) := (b4.block A (by rw [S0.out.2.1]; omega)).trans S0.out.2.2.2.2
  have n4 : w4.heap[N]? = some (.cells #[.int .i64 now] 2 (0, 0)) := (b4.block N (by rw [S0.out.2.1]; omega)).trans S0.out.2.2.1
  have I0 : Hid (∀ C, w4.heap.size ≤ C → GrowS SlQ TSQ flQ N A C w (upto now []) w4 ∧ w4.heap[N]? = some (.cells #[.int .i64 now] 2 (0, 0))) := fun C _ => ⟨⟨none, 0, a4, World.ownsRow_nil _ _ _ _, low4⟩, n4⟩
  have HW4 : Hid ((w0.drew.alloc (.cells #[.pointer p] 141)).alloc (.cells #[.int .i64 0] 2) = w4 ∧ w0.drew.heap.size = A + 1) := ⟨hw4.symm, S0.out.2.1⟩
  have HH := Lib.hid (And.intro hN (And.intro hA (And.intro z4 hfew)))
  obtain ⟨inf, i1, i2, i3, i4⟩ := infoQ
  have HI := Lib.hid (And.intro i1 (And.intro i2 (And.intro i3 i4)))
  clear h hp hpos hL hN hw0 hA S0 c2 k0 k1 hw4 b4 z4 q0 q1 low4 P4 hall a4 n4 i1 i2 i3 i4 hk hfew
  unfold ser
  refine (callsIn_wide (n := 6)).1 ?_
  refine callsIn_of_wp_marks Try.func42 rfl trivial ?_ rfl
  simp only [Try.ntmps42, List.size_toArray, List.length_cons, List.length_nil, Nat.reduceAdd, Nat.reduceSub, Array.replicate_succ, Array.replicate_zero, List.push_toArray, List.append_toArray, List.nil_append, List.cons_append]
  refine wpIn_wide.2 ?_
  go_upto_region 2 with fail
  rw [HW0.out.1, HW0.out.2.1]
  rw [HW0.out.2.2]
  refine wp_calmS ?_
  refine wp_region_G (f := 6) (S := fun ws => ∃ m, ws = w0.drewN m) mixed ⟨1, rfl⟩ (fun hS => ?_)
  refine wpAnyG_takeD (i := 0) (d := 9) (v := .pointer (some ⟨bb, 0, none⟩)) _ rfl rfl (by kernel_rfl) (by kernel_rfl) (by kernel_rfl) (by kernel_rfl) (fun _ _ _ h => h) (Or.inl ⟨by kernel_rfl, fun ws hSw => by first | (go_simp; done) | (go_simp; with_reducible rfl) | (go_simp; rfl)⟩) hS ?_
  simp only [Act.put, List.setIfInBounds_toArray, List.set_cons_zero, List.set_cons_succ]
  refine wpAnyG_takeD (i := 1) (d := 10) (v := .pointer (some ⟨bb, 0, none⟩)) _ rfl rfl (by kernel_rfl) (by kernel_rfl) (by kernel_rfl) (by kernel_rfl) (fun _ _ _ h => h) (Or.inl ⟨by kernel_rfl, fun ws hSw => by first | (go_simp; done) | (go_simp; with_reducible rfl) | (go_simp; rfl)⟩) hS ?_
  simp only [Act.put, List.setIfInBounds_toArray, List.set_cons_zero, List.set_cons_succ]
  refine wpAnyG_takeD (i := 2) (d := 11) (v := .pointer (some ⟨bb, 2, none⟩)) _ rfl rfl (by kernel_rfl) (by kernel_rfl) (by kernel_rfl) (by kernel_rfl) (fun _ _ _ h => h) (Or.inl ⟨by kernel_rfl, fun ws hSw => by first | (go_simp; done) | (go_simp; with_reducible rfl) | (go_simp; rfl)⟩) hS ?_
  simp only [Act.put, List.setIfInBounds_toArray, List.set_cons_zero, List.set_cons_succ]
  refine wpAnyG_takeD (i := 3) (d := 12) (v := .map (some mb)) _ rfl rfl (by kernel_rfl) (by kernel_rfl) (by kernel_rfl) (by kernel_rfl) (fun _ _ _ h => h) (Or.inl ⟨by kernel_rfl, fun ws hSw => by have q := KC.out ws hSw; first | (go_simp; done) | (go_simp; with_reducible rfl) | (go_simp; rfl)⟩) hS ?_
  simp only [Act.put, List.setIfInBounds_toArray, List.set_cons_zero, List.set_cons_succ]
  refine wpAnyG_takeD (i := 4) (d := 13) (v := .agg #[.string s.1, .string s.2]) _ rfl rfl (by kernel_rfl) (by kernel_rfl) (by kernel_rfl) (by kernel_rfl) (fun _ _ _ h => h) (Or.inl ⟨by kernel_rfl, fun ws hSw => by have q := K0.out ws hSw; first | (go_simp; done) | (go_simp; with_reducible rfl) | (go_simp; rfl)⟩) hS ?_
  simp only [Act.put, List.setIfInBounds_toArray, List.set_cons_zero, List.set_cons_succ]
  refine wpAnyG_takeD (i := 5) (d := 14) (v := .pointer p) _ rfl rfl (by kernel_rfl) (by kernel_rfl) (by kernel_rfl) (by kernel_rfl) (fun _ _ _ h => h) (Or.inl ⟨by kernel_rfl, fun ws hSw => by have q := LK.out ws hSw; first | (go_simp; done) | (go_simp; with_reducible rfl) | (go_simp; rfl)⟩) hS ?_
  simp only [Act.put, List.setIfInBounds_toArray, List.set_cons_zero, List.set_cons_succ]
  refine wpAnyG_ready (rs := [6]) (by kernel_rfl) (by simp) ?_
  refine AllReadyG.last rfl rfl (fun K hK => ?_)
  go_simp
  refine (CS.out _).mono ?_
  rintro e w' ⟨rfl, rfl⟩
  rw [HW4.out.2, HW4.out.1]
  refine hK _ _ ?_
  try simp only [Act.put, List.setIfInBounds_toArray, List.set_cons_zero, List.set_cons_succ]
  refine wpAnyG_done (by kernel_rfl) ?_
  clear KC K0 LK CS
  go_wp2_with fail
  refine (wpIn_wide (n := 6)).1 ?_
  refine wpIn_toldD (α := Int × Int) (n := 6) (by decide) (gf := 84) (lb := #[.pointer (some ⟨A + 1, 0, none⟩), .pointer (some ⟨A + 1 + 1, 0, none⟩)]) rfl (enters_of Try.func84 (by kernel_rfl) rfl) TN.out (Below.refl _ _) (fun _ => rfl) (by have := HH.out.2.2.1; have := HH.out.2.1; omega) (fun pre x A A' h f => h)
    (fun C pre W => GrowS SlQ TSQ flQ N A C w (upto now pre) W ∧ W.heap[N]? = some (.cells #[.int .i64 now] 2 (0, 0))) (fun _ _ _ _ => False) (fun C s B B' T h cc hT => ?_) (fun c C s A A' T h _ _ => h.elim) I0.out ?_ ?_ (fun _ _ _ _ _ _ h _ => h.elim (fun _ h => h.elim))
  · obtain ⟨hN, hA, z4, hfew⟩ := HH.out
    refine ⟨GrowS.bears (B := w4.heap.size) (by omega) (by omega) () B B' T h.1 cc hT, ?_⟩
    exact (cc.block N (Array.getElem?_eq_some_iff.1 h.2).1 (fun hm => by have := (hT N hm).1; omega)).trans h.2
  · intro l' C pre x W hi hgv hlB hlC hCW
    rw [zip_oneD]
    obtain ⟨O, hO⟩ : ∃ A, A = W.heap.size := ⟨_, rfl⟩
    obtain ⟨w5, hw5⟩ : ∃ w5, w5 = W.alloc (.cells #[.int .i64 x.1, .int .i64 x.2] TSQ) := ⟨_, rfl⟩
    have b5 : Below W.heap.size W w5 := hw5 ▸ (Below.refl _ _).alloc (Nat.le_refl _) _
    have k5 : w5.heap[O]? = some (.cells #[.int .i64 x.1, .int .i64 x.2] TSQ (0, 0)) := by rw [hw5, hO]; exact heap_alloc_new W _
    have HW5 : Hid (W.alloc (.cells #[.int .i64 x.1, .int .i64 x.2] TSQ) = w5 ∧ W.heap.size = O) := ⟨hw5.symm, hO.symm⟩
    have H5 := Lib.hid (And.intro hi (And.intro hgv (And.intro b5 (And.intro k5 (And.intro hlB (And.intro hlC hCW))))))
    clear hi hgv b5 k5 hO hw5 hlB hlC hCW
    refine region_roundD (by rfl) (fun ⟨a, w, h⟩ => h) ?_
    go_wp2_with fail
    rw [HW5.out.1, HW5.out.2]
    obtain ⟨⟨hi, hn⟩, ⟨hgv, hpre⟩, b5, k5, hlB, hlC, hCW⟩ := H5.out
    obtain ⟨hN, hA, z4, hfew⟩ := HH.out
    have hO := HW5.out.2
    refine ⟨StaysD.ofBelow b5 (by omega), fun W2 c2 f2 => ?_⟩
    have out : ∀ g o, W.heap[g]? = some o → g ≠ l' → W2.heap[g]? = some o := fun g o h1 h2 =>
      (c2.block g (Nat.lt_of_lt_of_le (Array.getElem?_eq_some_iff.1 h1).1 b5.size) (by simpa using h2)).trans ((b5.block g (Array.getElem?_eq_some_iff.1 h1).1).trans h1)
    obtain ⟨acc, hacc⟩ : ∃ acc, acc = upto now pre := ⟨_, rfl⟩
    have hfa : acc.length ≤ 32 := by
      have h1 := upto_few now pre
      have h2 := congrArg List.length hpre
      rw [List.length_take] at h2
      rw [hacc]; omega
    rw [← hacc] at hi
    have g2 : GrowS SlQ TSQ flQ N A C w acc W2 := by
      obtain ⟨q, c, q1, q2, q3⟩ := hi
      exact GrowS.keep ⟨q, c, q1, q2, q3⟩ ((b5.mono (by omega)).trans f2) ((out A _ q1 (by omega)).trans q1.symm) (fun g cs T fz hg hgc => (out g _ hgc (by omega)).trans hgc.symm)
    have n2 : W2.heap[N]? = some (.cells #[.int .i64 now] 2 (0, 0)) := out N _ hn (by omega)
    have k2 : W2.heap[O]? = some (.cells #[.int .i64 x.1, .int .i64 x.2] TSQ (0, 0)) := (c2.block O (Array.getElem?_eq_some_iff.1 k5).1 (by simp; omega)).trans k5
    have hsn := upto_snoc now pre x
    rw [← hacc] at hsn
    have hCW2 : C ≤ W2.heap.size := by have := b5.size; have := c2.size; omega
    obtain ⟨xa, xv⟩ := x
    have d0 : W2.cell? ⟨O, 0, none⟩ = some (.int .i64 xa) := cell_of_block k2 0
    have d1 : W2.cell? ⟨O, 1, none⟩ = some (.int .i64 xv) := cell_of_block k2 1
    have dn : W2.cell? ⟨N, 0, none⟩ = some (.int .i64 now) := cell_of_block n2 0
    by_cases hle : xa ≤ now
    · rw [if_pos hle] at hsn
      obtain ⟨q, c, q1, q2, q3⟩ := g2
      obtain ⟨E', hE'⟩ : ∃ E, E = W2.heap.size := ⟨_, rfl⟩
      obtain ⟨w6, hw6⟩ : ∃ x, x = W2.alloc (.cells #[.int .i64 xa, .int .i64 xv] TSQ) := ⟨_, rfl⟩
      have b6 : Below W2.heap.size W2 w6 := hw6 ▸ (Below.refl _ _).alloc (Nat.le_refl _) _
      have q16 : w6.heap[A]? = some (.cells #[.slice q acc.length c] SlQ (0, 0)) := (b6.block A (Array.getElem?_eq_some_iff.1 q1).1).trans q1
      have n6 : w6.heap[N]? = some (.cells #[.int .i64 now] 2 (0, 0)) := (b6.block N (Array.getElem?_eq_some_iff.1 n2).1).trans n2
      have m2 : W2.cell? ⟨A, 0, none⟩ = some (.slice q acc.length c) := cell_of_block q1 0
      have OW : Hid (w6.ownsRow C TSQ 2 (.slice q acc.length c) acc.length (flQ acc)) := by show World.ownsRow _ _ _ _ _ _ _; rw [hw6]; exact q2.alloc _
      have NEW : Hid (∀ (t : Nat) u, ([.int .i64 xa, .int .i64 xv] : List Value)[t]? = some u → w6.cell? ((⟨E', 0, none⟩ : Addr).add t) = some u) := by
        have := World.news_of_block (w := w6) (B := E') (cs := #[.int .i64 xa, .int .i64 xv]) (t := TSQ) (fr := (0, 0)) (by rw [hw6, hE']; exact heap_alloc_new W2 _)
        exact this
      have BS : Hid (C ≤ w6.heap.size) := by have := b6.size; show _ ≤ _; omega
      have HW6 : Hid (W2.alloc (.cells #[.int .i64 xa, .int .i64 xv] TSQ) = w6 ∧ W2.heap.size = E') := ⟨hw6.symm, hE'.symm⟩
      have KEEP : Hid (∀ g cap w7, w7.ownsRow C TSQ 2 (.slice (some ⟨g, 0, none⟩) (acc.length + 1) cap) (acc.length + 1) (flQ acc ++ [.int .i64 xa, .int .i64 xv]) → w6.grownBy w7 (Value.slice q acc.length c).ownBlock →
          w7.cell? ⟨A, 0, none⟩ = some (.slice q acc.length c) ∧ w7.frozen? ⟨A, 0, none⟩ = false ∧ StaysD N w4.heap.size C W2 (w7.setCell ⟨A, 0, none⟩ (.slice (some ⟨g, 0, none⟩) (acc.length + 1) cap)) ∧
          (GrowS SlQ TSQ flQ N A C w (upto now (pre ++ [(xa, xv)])) (w7.setCell ⟨A, 0, none⟩ (.slice (some ⟨g, 0, none⟩) (acc.length + 1) cap)) ∧ (w7.setCell ⟨A, 0, none⟩ (.slice (some ⟨g, 0, none⟩) (acc.length + 1) cap)).heap[N]? = some (.cells #[.int .i64 now] 2 (0, 0)))) := fun g cap w7 own hg => by
        have NX := GrowS.next (B := w4.heap.size) (fl := flQ) (x := (xa, xv)) (N := N) (w := w) q16 OW.out (q3.trans (b6.mono (by have := q3.size; omega))) (by omega) (by omega) (by omega) BS.out (fl_snocQ acc (xa, xv)) own hg
        obtain ⟨x1, x2, x3, x4⟩ := NX
        refine ⟨x1, x2, (StaysD.ofBelow b6 (by have := q3.size; omega)).trans x3, by rw [hsn]; exact x4, ?_⟩
        have t7 : Tch (Value.slice q acc.length c).ownBlock.toList w6 w7 := Tch.ofGrown hg (fun g e => .inl (by rw [e]; simp))
        have n7 : w7.heap[N]? = some (.cells #[.int .i64 now] 2 (0, 0)) := (t7.block N (Array.getElem?_eq_some_iff.1 n6).1 (fun hm => by have := (OW.out.lt N (by simpa using hm)).1; omega)).trans n6
        rw [Below.heap_setCell _ _ _ _ (by show N ≠ A; omega)]
        exact n7
      clear hi hn hgv hpre b5 k5 hlB hlC hCW hN hA z4 hO out hacc n2 k2 hsn hCW2 c2 f2 q1 q2 q3 hE' hw6 b6 q16 n6 H5 HH
      gi_upto_region 4 with fail
      refine region_roundD (by rfl) (fun ⟨a, w, h⟩ => h) ?_
      go_wp2_with fail
      gi_upto_region 5 with fail
      refine region_roundD (by rfl) (fun ⟨a, w, h⟩ => h) ?_
      go_wp2_with (at_builtin; rw [HW6.out.1, HW6.out.2]; refine wpList_append_lies _ rfl _ _ SlQ (by rfl) C TSQ inf (.agg #[.int .i64 0, .int .i64 0]) 2 16 Try.underlying105 HI.out.1 HI.out.2.1 HI.out.2.2.1 HI.out.2.2.2 rfl (by omega) (.slice q acc.length c) acc.length (flQ acc) (by rfl) OW.out ⟨E', 0, none⟩ 1 1 [.int .i64 xa, .int .i64 xv] (by rfl) rfl NEW.out (by intro u hu; simp at hu; rcases hu with rfl | rfl <;> rfl) (by omega) (by unfold maxLen; omega) (by omega) BS.out _ rfl ?_; intro g cap w7 hown7 hgrow7 hat7 hlt7; obtain ⟨x1, x2, x3⟩ := KEEP.out g cap w7 hown7 hgrow7; have X3 := Lib.hid x3; clear x3 hown7 hgrow7 hat7 hlt7)
      exact X3.out
    · rw [if_neg hle, List.append_nil] at hsn
      have FIN : Hid (StaysD N w4.heap.size C W2 W2 ∧ GrowS SlQ TSQ flQ N A C w (upto now (pre ++ [(xa, xv)])) W2 ∧ W2.heap[N]? = some (.cells #[.int .i64 now] 2 (0, 0))) := ⟨StaysD.refl _ _ _ _, by rw [hsn]; exact g2, n2⟩
      clear hi hn hgv hpre b5 k5 hlB hlC hCW hN hA z4 hO out hacc n2 k2 hsn hCW2 c2 f2 g2 H5 HH
      gi_upto_region 4 with fail
      refine region_roundD (by rfl) (fun ⟨a, w, h⟩ => h) ?_
      go_wp2_with fail
      gi_wp2
      exact FIN.out
  · intro D xs Wd hD hS hex hdef
    obtain ⟨C, hC, hi, hn⟩ := hex
    obtain ⟨hN, hA, z4, hfew⟩ := HH.out
    subst hS
    obtain ⟨acc, hacc⟩ : ∃ acc, acc = upto now xs := ⟨_, rfl⟩
    rw [← hacc] at hi
    have HACC := Lib.hid hacc
    have FN : Hid (∀ w', Tch [D] Wd w' → ∃ q c, Wd.heap[A]? = some (.cells #[.slice q acc.length c] SlQ (0, 0)) ∧ w'.ownsRow N TSQ 2 (.slice q acc.length c) acc.length (flQ acc) ∧ Below N w w') := fun w' t => hi.fin (by omega) (by omega) hdef (by have := hi.low.size; omega) t
    obtain ⟨q, c, h1, h2, h3⟩ := hi
    have m0 : Wd.cell? ⟨A, 0, none⟩ = some (.slice q acc.length c) := cell_of_block h1 0
    have H1 := Lib.hid (And.intro h1 hdef)
    clear hD hC hN hA z4 hfew hn h1 h2 h3 hacc hdef TN I0
    go_wp2_with fail
    refine leaves_marksD (F := Fence.wide) (n := 6) (P := Try.prog) (fn := Try.f42) [D] Wd (by simp) (fun D' hD => by rw [List.mem_singleton] at hD; rw [hD]; exact H1.out.2) (fun w'' c'' => ?_)
    obtain ⟨q2, c2, k1, k2, k3⟩ := FN.out w'' c''
    rw [H1.out.1] at k1
    simp only [Option.some.injEq, Obj.cells.injEq, List.cons.injEq, Value.slice.injEq, Array.mk.injEq, and_true, true_and] at k1
    obtain ⟨rfl, rfl⟩ := k1
    refine ⟨_, results_tmp rfl _ _ _, ?_⟩
    rw [← HACC.out, HW0.out.2.1]
    exact ⟨⟨q, c, rfl, k2⟩, k3⟩
end Go.Proofs.Ytajkhbdniadkkaa
