/- A ring tells what the model has. -/
import Derived.Test.YthpmdaioekpipaaRgM
import Derived.Test.YthpmdaioekpipaaHeldG
import Derived.Laws.StructEq
import Derived.Deep.CutBlock
import Derived.Sort.CutIn
namespace Go.Proofs.Ythpmdaioekpipaa
open Go.RowKit Go.Lib Go.Shelf Go.Sort
open Go.Joins (cell_of_block unfrozen_of_block block_setCell)
set_option linter.unusedVariables false
set_option linter.unusedSimpArgs false
set_option maxRecDepth 20000

abbrev Rises (l : List (Int × Int)) : Prop := l.Pairwise (fun a b => a.1 < b.1)
theorem rise_split (at_ : Int) : ∀ (l : List (Int × Int)), Rises l → ∃ K, K ≤ l.length ∧ (∀ i x, l[i]? = some x → (i < K ↔ x.1 < at_)) ∧ frmI at_ l = l.drop K
  | [], _ => ⟨0, Nat.le_refl _, fun i x h => by simp at h, rfl⟩
  | x :: l, h => by
    have h2 := List.pairwise_cons.1 h
    by_cases hx : x.1 < at_
    · obtain ⟨K, h3, h4, h5⟩ := rise_split at_ l h2.2
      refine ⟨K + 1, by simp; exact h3, fun i y hy => ?_, ?_⟩
      · cases i with
        | zero =>
          simp at hy
          subst hy
          exact ⟨fun _ => hx, fun _ => by omega⟩
        | succ i =>
          rw [Nat.add_lt_add_iff_right]
          exact h4 i y (by simpa using hy)
      · unfold frmI at h5 ⊢
        rw [List.filter_cons, if_neg (by simp; exact hx), List.drop_succ_cons]
        exact h5
    · refine ⟨0, Nat.zero_le _, fun i y hy => ⟨fun hi => by omega, fun hy2 => ?_⟩, ?_⟩
      · cases i with
        | zero =>
          simp at hy
          subst hy
          exact absurd hy2 hx
        | succ i =>
          have := h2.1 y (List.mem_of_getElem? (by simpa using hy : l[i]? = some y))
          omega
      · unfold frmI
        rw [List.drop_zero, List.filter_eq_self]
        intro y hy
        rcases List.mem_cons.1 hy with rfl | hy
        · simp; omega
        · have := h2.1 y hy
          simp; omega

theorem neq_smp (x : Int × Int) (w : World) : (binOp .neq TSI (.agg #[.int .i64 x.1, .int .i64 x.2]) (.agg #[.int .i64 x.1, .int .i64 x.2])).run Try.prog w = .ok (.bool false) w := by
  have u3 := Try.underlying3
  have a3 := Try.isAgg3
  have z3 := Try.sizeOf3
  have u2 := Try.underlying2
  have a2 := Try.isAgg2
  have z2 := Try.sizeOf2
  have hS : Try.prog.underlying TSI = some (.struct (Try.prog.fieldsOf TSI)) := by kernel_rfl
  have hp : Try.prog.stoodInHeld TSI = false := by kernel_rfl
  rw [run_neq_struct, show (10000 : Nat) = 9999 + 1 from rfl, run_equalIn_agg w 9999 TSI _ _ hS hp]
  simp only [Program.fieldsOf, Try.underlying32]
  go_simp
theorem eql_smp (x : Int × Int) (w : World) : (binOp .eql TSI (.agg #[.int .i64 x.1, .int .i64 x.2]) (.agg #[.int .i64 x.1, .int .i64 x.2])).run Try.prog w = .ok (.bool true) w := by
  have u3 := Try.underlying3
  have a3 := Try.isAgg3
  have z3 := Try.sizeOf3
  have u2 := Try.underlying2
  have a2 := Try.isAgg2
  have z2 := Try.sizeOf2
  have hS : Try.prog.underlying TSI = some (.struct (Try.prog.fieldsOf TSI)) := by kernel_rfl
  have hp : Try.prog.stoodInHeld TSI = false := by kernel_rfl
  rw [run_eql_struct, show (10000 : Nat) = 9999 + 1 from rfl, run_equalIn_agg w 9999 TSI _ _ hS hp]
  simp only [Program.fieldsOf, Try.underlying32]
  go_simp

theorem results_cellD {fn : Func} {p : Tmp} (h : fn.results = #[.cell p 4]) (tmps : Array Value) (w : World) (g : Nat) {b : Bool} (hp : tmps[p]? = some (.pointer (some ⟨g, 0, none⟩))) (hg : w.heap[g]? = some (.cells #[.bool b] 4 (0, 0))) :
    (results fn tmps).run Try.prog w = .ok (.bool b) w := by
  have hc : w.cell? ⟨g, 0, none⟩ = some (.bool b) := cell_of_block hg 0
  have hl : (loadVar 4 ⟨g, 0, none⟩).run Try.prog w = .ok (.bool b) w := by
    go_simp
  simp [results, h, hp, asAddr, hl]
/-- What 'is' keeps: its slice's box, its answer's cell, how far it is. -/
structure IsAt (N B1 B2 : Nat) (w W : World) (q : Option Addr) (n c k : Nat) : Prop where
  low : Below N w W
  box : W.heap[N]? = some (.cells #[.slice q n c] SlI (0, 0))
  ans : W.heap[B1]? = some (.cells #[.bool false] 4 (0, 0))
  cnt : W.heap[B2]? = some (.cells #[.int .i64 (k : Int)] 3 (0, 0))

theorem is_end {N B1 B2 b D : Nat} {w Wd w7 wz : World} {q : Option Addr} {n c k : Nat} (hB : B1 = N + 1 ∧ B2 = N + 2) (hb : N + 3 ≤ b) (hD : b ≤ D) (hi : IsAt N B1 B2 w Wd q n c k) (hdef : Wd.heap[D]? = some (.deferred (some []))) (b7 : Below Wd.heap.size Wd w7) (hw : wz = (w7.setCell ⟨B1, 0, none⟩ (.bool true)).drew) :
    wz.heap[D]? = some (.deferred (some [])) ∧ (wz.putObj D (.deferred none)).heap[B1]? = some (.cells #[.bool true] 4 (0, 0)) ∧ Below N w (wz.putObj D (.deferred none)) := by
  have hN := (Array.getElem?_eq_some_iff.1 hi.box).1
  have i7 := (b7.block _ (Array.getElem?_eq_some_iff.1 hi.ans).1).trans hi.ans
  have d7 := (b7.block _ (Array.getElem?_eq_some_iff.1 hdef).1).trans hdef
  have tz : Tch [B1] w7 wz := by rw [hw]; exact ((Tch.refl [B1] w7).setCell 0 _ (.inl (by simp))).drewN 1
  have dz : wz.heap[D]? = some (.deferred (some [])) := (tz.block _ (Array.getElem?_eq_some_iff.1 d7).1 (by simp; omega)).trans d7
  have az : wz.heap[B1]? = some (.cells #[.bool true] 4 (0, 0)) := by
    rw [hw]
    show (w7.setCell ⟨B1, 0, none⟩ (.bool true)).heap[B1]? = _
    rw [block_setCell i7]; rfl
  have tp := turn_tch wz D (.deferred none)
  have s7 := b7.size
  have lz : Below N w wz := hi.low.trans ((b7.mono (by omega)).trans (tz.below (fun g hg => by simp at hg; omega) (by omega)))
  exact ⟨dz, (tp.block _ (Array.getElem?_eq_some_iff.1 az).1 (by simp; omega)).trans az, lz.trans (tp.below (fun g hg => by simp at hg; omega) (by have := tz.size; omega))⟩

set_option maxHeartbeats 8000000 in
theorem ris_any (base : Nat) (w : World) (rb gb nn : Nat) (q : Option Addr) (c : Nat) (l : List (Int × Int)) (at_ : Int) (H : HasI w rb gb nn l) (hm : Mo base w q c l) (hr : Rises l) :
    Calls Try.prog 10 #[.pointer (some ⟨rb, 0, none⟩), .slice q l.length c, .int .i64 at_] w fun e w' => e = .returned (.bool true) ∧ Below w.heap.size w w' := by
  have mixed : Try.prog.follows .mixedOrders = true := by kernel_rfl
  obtain ⟨N, hN⟩ : ∃ N, N = w.heap.size := ⟨_, rfl⟩
  obtain ⟨n, hn⟩ : ∃ n, n = l.length := ⟨_, rfl⟩
  obtain ⟨K, hK1, hK2, hK3⟩ := rise_split at_ l hr
  have hn32 : n ≤ 32 := by have := H.few; omega
  rw [← hn] at hK1 ⊢
  obtain ⟨w0, hw0⟩ : ∃ x, x = ((w.alloc (.cells #[.slice q n c] SlI)).alloc (.cells #[.bool false] 4)).alloc (.cells #[.int .i64 0] 3) := ⟨_, rfl⟩
  have S0 : Hid (IsAt N (N + 1) (N + 1 + 1) w w0 q n c 0 ∧ w0.heap.size = N + 3) := by
    have z1 : (w.alloc (.cells #[.slice q n c] SlI)).heap.size = N + 1 := by rw [hN]; simp
    have z2 : ((w.alloc (.cells #[.slice q n c] SlI)).alloc (.cells #[.bool false] 4)).heap.size = N + 2 := by rw [hN]; simp
    refine ⟨⟨?_, ?_, ?_, ?_⟩, by rw [hw0, hN]; simp⟩
    · rw [hw0, hN]
      exact (((Below.refl _ w).alloc (Nat.le_refl _) _).alloc (by simp) _).alloc (by simp; omega) _
    · rw [hw0, Below.heap_alloc _ _ _ (by rw [z2]; omega), Below.heap_alloc _ _ _ (by rw [z1]; omega), hN]; exact heap_alloc_new w _
    · rw [hw0, Below.heap_alloc _ _ _ (by rw [z2]; omega), ← z1]; exact heap_alloc_new _ _
    · rw [hw0, ← z2]; exact heap_alloc_new _ _
  have HW0 : Hid (((w.alloc (.cells #[.slice q n c] SlI)).alloc (.cells #[.bool false] 4)).alloc (.cells #[.int .i64 0] 3) = w0 ∧ w.heap.size = N) := ⟨hw0.symm, hN.symm⟩
  have HH := Lib.hid (And.intro H (And.intro hm (And.intro hn (And.intro hK2 (And.intro hK3 hN)))))
  clear H hm hr hn hK2 hK3 hN hw0
  refine (callsIn_wide (n := 6)).1 ?_
  refine callsIn_of_wp_marks Try.func10 rfl trivial ?_ rfl
  simp only [Try.ntmps10, List.size_toArray, List.length_cons, List.length_nil, Nat.reduceAdd, Nat.reduceSub, Array.replicate_succ, Array.replicate_zero, List.push_toArray, List.append_toArray, List.nil_append, List.cons_append]
  refine wpIn_wide.2 ?_
  go_upto_block 0 with fail
  rw [HW0.out.1, HW0.out.2]
  obtain ⟨B1, hB1⟩ : ∃ b, b = N + 1 := ⟨_, rfl⟩
  obtain ⟨B2, hB2⟩ : ∃ b, b = B1 + 1 := ⟨_, rfl⟩
  rw [← hB1, ← hB2] at S0 ⊢
  have HB : Hid (B1 = N + 1 ∧ B2 = N + 2) := ⟨hB1, by omega⟩
  clear hB1 hB2 HW0
  go_cut [] from 11 to 25 (fun wc => Hid (IsAt N B1 B2 w wc q n c K ∧ N + 3 ≤ wc.heap.size))
  case first =>
    go_wp2_with fail
    go_loopg [] K (fun g wr => ∃ k : Nat, k ≤ K ∧ K - k ≤ g ∧ Hid (IsAt N B1 B2 w wr q n c k ∧ N + 3 ≤ wr.heap.size))
    case atStart => exact ⟨0, by omega, by omega, S0.out.1, Nat.le_of_eq S0.out.2.symm⟩
    case round =>
      obtain ⟨k, hk, hg, HR⟩ := hrel
      obtain ⟨h, hz⟩ := HR.out
      obtain ⟨H, hm, hn, hK2, hK3, hN⟩ := HH.out
      have f4 : wr.cell? ⟨N, 0, none⟩ = some (.slice q n c) := cell_of_block h.box 0
      have f7 : wr.cell? ⟨B2, 0, none⟩ = some (.int .i64 (k : Int)) := cell_of_block h.cnt 0
      have u7 : wr.frozen? ⟨B2, 0, none⟩ = false := unfrozen_of_block h.cnt 0
      have hmr : Mo base wr q c l := hm.gr (by rw [← hN]; exact h.low)
      by_cases hlt : k < n
      · obtain ⟨x, hx⟩ : ∃ x, l[k]? = some x := ⟨l[k]'(by omega), List.getElem?_eq_getElem (by omega)⟩
        obtain ⟨g, o, rfl, _, _, a0, a1⟩ := hmr.cells hx
        have hiff := hK2 k x hx
        obtain ⟨xa, xv⟩ := x
        simp only at a0 a1 hiff
        by_cases hkK : k < K
        · have hlx : xa < at_ := hiff.1 hkK
          obtain ⟨w2, hw2⟩ : ∃ w2, w2 = wr.setCell ⟨B2, 0, none⟩ (.int .i64 ((k : Int) + 1)) := ⟨_, rfl⟩
          have FIN : Hid (IsAt N B1 B2 w w2 (some ⟨g, o, none⟩) n c (k + 1) ∧ N + 3 ≤ w2.heap.size) := by
            obtain ⟨e1, e2⟩ := HB.out
            have ne1 : N ≠ B2 := by omega
            have ne2 : B1 ≠ B2 := by omega
            refine ⟨⟨by rw [hw2]; exact h.low.setCell (p := ⟨B2, 0, none⟩) (by show N ≤ B2; omega) _, ?_, ?_, ?_⟩, by rw [hw2]; simp [World.setCell]; exact hz⟩
            · rw [hw2, Below.heap_setCell _ _ _ _ ne1]; exact h.box
            · rw [hw2, Below.heap_setCell _ _ _ _ ne2]; exact h.ans
            · rw [hw2, block_setCell h.cnt, show ((k : Int) + 1) = ((k + 1 : Nat) : Int) by omega]; rfl
          have HW2 : Hid (wr.setCell ⟨B2, 0, none⟩ (.int .i64 ((k : Int) + 1)) = w2) := hw2.symm
          clear h hz H hm hn hK2 hK3 hN hmr hx hiff hw2 HR S0 a1
          go_wp2_with fail
          rw [HW2.out]
          go_roundg (K - (k + 1))
          case measure => omega
          case rel => exact ⟨k + 1, by omega, by omega, FIN⟩
        · have hlx : ¬ xa < at_ := fun e => hkK (hiff.2 e)
          have e : k = K := by omega
          subst e
          have FIN := HR
          clear h hz H hm hn hK2 hK3 hN hmr hx hiff HR S0 a1 u7
          go_wp2_with fail
          go_meet
          case rel => exact FIN
      · have e : k = K := by omega
        subst e
        have FIN := HR
        clear h hz H hm hn hK2 hK3 hN hmr HR S0 u7
        go_wp2_with fail
        go_meet
        case rel => exact FIN
  case rest =>
    obtain ⟨h, hz⟩ := hcut.out
    obtain ⟨H, hm, hn, hK2, hK3, hN⟩ := HH.out
    obtain ⟨e1, e2⟩ := HB.out
    obtain ⟨b, hb⟩ : ∃ b, b = wc.heap.size := ⟨_, rfl⟩
    obtain ⟨w4, hw4⟩ : ∃ w4, w4 = (wc.alloc (.cells #[.pointer (some ⟨rb, 0, none⟩)] 24)).alloc (.cells #[.int .i64 at_] 2) := ⟨_, rfl⟩
    have zm : (wc.alloc (.cells #[.pointer (some ⟨rb, 0, none⟩)] 24)).heap.size = b + 1 := by rw [hb]; simp
    have z4 : w4.heap.size = b + 2 := by rw [hw4, World.size_alloc, zm]
    have b4 : Below wc.heap.size wc w4 := hw4 ▸ ((Below.refl _ wc).alloc (Nat.le_refl _) _).alloc (by simp) _
    have q0 : w4.cell? ⟨b, 0, none⟩ = some (.pointer (some ⟨rb, 0, none⟩)) := by
      have h := cell_of_block (heap_alloc_new wc (.cells #[.pointer (some ⟨rb, 0, none⟩)] 24)) 0
      rw [← hb] at h
      rw [hw4]
      exact (World.cell?_of_block (Below.heap_alloc _ _ _ (by rw [zm]; exact Nat.lt_succ_self _))).trans h
    have q1 : w4.cell? ⟨b + 1, 0, none⟩ = some (.int .i64 at_) := by
      have h := cell_of_block (heap_alloc_new (wc.alloc (.cells #[.pointer (some ⟨rb, 0, none⟩)] 24)) (.cells #[.int .i64 at_] 2)) 0
      rw [zm, ← hw4] at h
      exact h
    have hcN : N ≤ wc.heap.size := by omega
    have low4 : Below N w w4 := h.low.trans (b4.mono hcN)
    have H4 : HasI w4 rb gb nn l := H.gr (by rw [← hN]; exact low4)
    have I4 : IsAt N B1 B2 w w4 q n c K := ⟨low4, (b4.block _ (Array.getElem?_eq_some_iff.1 h.box).1).trans h.box, (b4.block _ (Array.getElem?_eq_some_iff.1 h.ans).1).trans h.ans, (b4.block _ (Array.getElem?_eq_some_iff.1 h.cnt).1).trans h.cnt⟩
    have HW4 : Hid ((wc.alloc (.cells #[.pointer (some ⟨rb, 0, none⟩)] 24)).alloc (.cells #[.int .i64 at_] 2) = w4 ∧ wc.heap.size = b) := ⟨hw4.symm, hb.symm⟩
    have TN := Lib.hid (tellsI (6 - 1) N w4 rb gb nn b l at_ H4 q0 q1 (by omega) (by omega))
    have CS := Lib.hid (sinceI wc (some ⟨rb, 0, none⟩) at_)
    have ST := Lib.hid (And.intro I4 (And.intro z4 (show N + 3 ≤ b by omega)))
    clear h hz H hm hn hK2 hK3 hN e1 e2 hb hw4 zm z4 b4 q0 q1 hcN low4 H4 I4 hcut S0
    go_wp2_with fail
    refine CS.out.mono ?_
    rintro e w' ⟨rfl, rfl⟩
    rw [HW4.out.1, HW4.out.2]
    go_wp2_with fail
    refine (wpIn_wide (n := 6)).1 ?_
    refine wpIn_toldD (α := Int × Int) (n := 6) (by decide) (gf := 22) (lb := #[.pointer (some ⟨b, 0, none⟩), .pointer (some ⟨b + 1, 0, none⟩)]) rfl (enters_of Try.func22 (by kernel_rfl) rfl) TN.out (Below.refl _ _) (fun _ => rfl) (by have := ST.out.2.1; have := ST.out.2.2; omega) (fun pre x A A' h f => h)
      (fun _ pre W => IsAt N B1 B2 w W q n c (K + pre.length)) (fun _ _ _ _ => False) (fun C s A A' T h cc hT => ?_) (fun c C s A A' T h _ _ => h.elim) (fun C hC => ST.out.1) ?_ ?_ (fun _ _ _ _ _ _ h _ => h.elim (fun _ h => h.elim))
    · obtain ⟨e1, e2⟩ := HB.out
      have hz := ST.out.2.1
      have hz2 := ST.out.2.2
      have off : ∀ g, g < b → g ∉ T := fun g hg hm => by have := (hT g hm).1; omega
      exact ⟨h.low.trans (cc.below (fun g hg => by have := (hT g hg).1; omega) (by have := (Array.getElem?_eq_some_iff.1 h.box).1; omega)), (cc.block _ (Array.getElem?_eq_some_iff.1 h.box).1 (off _ (by omega))).trans h.box, (cc.block _ (Array.getElem?_eq_some_iff.1 h.ans).1 (off _ (by omega))).trans h.ans, (cc.block _ (Array.getElem?_eq_some_iff.1 h.cnt).1 (off _ (by omega))).trans h.cnt⟩
    · intro l' C pre x W hi hgv hlB hlC hCW
      rw [zip_oneD]
      obtain ⟨O, hO⟩ : ∃ A, A = W.heap.size := ⟨_, rfl⟩
      obtain ⟨w5, hw5⟩ : ∃ w5, w5 = W.alloc (.cells #[.int .i64 x.1, .int .i64 x.2] TSI) := ⟨_, rfl⟩
      have b5 : Below W.heap.size W w5 := hw5 ▸ (Below.refl _ _).alloc (Nat.le_refl _) _
      have k5 : w5.heap[O]? = some (.cells #[.int .i64 x.1, .int .i64 x.2] TSI (0, 0)) := by rw [hw5, hO]; exact heap_alloc_new W _
      have HW5 : Hid (W.alloc (.cells #[.int .i64 x.1, .int .i64 x.2] TSI) = w5 ∧ W.heap.size = O) := ⟨hw5.symm, hO.symm⟩
      have H5 := Lib.hid (And.intro hi (And.intro hgv (And.intro b5 (And.intro k5 (And.intro hlB (And.intro hlC hCW))))))
      clear hi hgv b5 k5 hO hw5 hlB hlC hCW
      refine region_roundD (by rfl) (fun ⟨a, w, h⟩ => h) ?_
      go_wp2_with fail
      rw [HW5.out.1, HW5.out.2]
      have hb4 : N ≤ W.heap.size := by have := ST.out.2.1; have := ST.out.2.2; have := H5.out.2.2.2.2.1; have := H5.out.2.2.2.2.2.1; have := H5.out.2.2.2.2.2.2; omega
      refine ⟨StaysD.ofBelow H5.out.2.2.1 hb4, fun W2 c2 f2 => ?_⟩
      obtain ⟨hi, ⟨hgv, hpre⟩, b5, k5, hlB, hlC, hCW⟩ := H5.out
      obtain ⟨H, hm, hn, hK2, hK3, hN⟩ := HH.out
      obtain ⟨e1, e2⟩ := HB.out
      have hO := HW5.out.2
      have hz := ST.out.2.1
      have hz2 := ST.out.2.2
      have out : ∀ g o, W.heap[g]? = some o → g ≠ l' → W2.heap[g]? = some o := fun g o h1 h2 =>
        (c2.block g (Nat.lt_of_lt_of_le (Array.getElem?_eq_some_iff.1 h1).1 b5.size) (by simpa using h2)).trans ((b5.block g (Array.getElem?_eq_some_iff.1 h1).1).trans h1)
      obtain ⟨k, hk⟩ : ∃ k, k = K + pre.length := ⟨_, rfl⟩
      rw [← hk] at hi
      have i2 : IsAt N B1 B2 w W2 q n c k := ⟨hi.low.trans ((b5.mono hb4).trans f2), out _ _ hi.box (by omega), out _ _ hi.ans (by omega), out _ _ hi.cnt (by omega)⟩
      have k2 : W2.heap[O]? = some (.cells #[.int .i64 x.1, .int .i64 x.2] TSI (0, 0)) := (c2.block O (Array.getElem?_eq_some_iff.1 k5).1 (by simp; omega)).trans k5
      have hx : l[k]? = some x := by rw [hK3, List.getElem?_drop] at hgv; rw [hk]; exact hgv
      have hkn : k < n := by rw [hn]; exact (List.getElem?_eq_some_iff.1 hx).1
      obtain ⟨g, o, rfl, _, _, a0, a1⟩ := (hm.gr (w' := W2) (by rw [← hN]; exact i2.low)).cells hx
      have NE := neq_smp x
      have f4 : W2.cell? ⟨N, 0, none⟩ = some (.slice (some ⟨g, o, none⟩) n c) := cell_of_block i2.box 0
      have f7 : W2.cell? ⟨B2, 0, none⟩ = some (.int .i64 (k : Int)) := cell_of_block i2.cnt 0
      have u7 : W2.frozen? ⟨B2, 0, none⟩ = false := unfrozen_of_block i2.cnt 0
      have d0 : W2.cell? ⟨O, 0, none⟩ = some (.int .i64 x.1) := cell_of_block k2 0
      have d1 : W2.cell? ⟨O, 1, none⟩ = some (.int .i64 x.2) := cell_of_block k2 1
      have k0' : (0 : Int) ≤ (k : Int) := Int.natCast_nonneg _
      have k1' : (k : Int) < (n : Int) := by omega
      have FIN : Hid (∀ nq w9, w9 = (W2.drewN nq).setCell ⟨B2, 0, none⟩ (.int .i64 ((k : Int) + 1)) → StaysD N w4.heap.size C W2 w9 ∧ IsAt N B1 B2 w w9 (some ⟨g, o, none⟩) n c (K + (pre ++ [x]).length)) := fun nq w9 hw9 => by
        have ne1 : N ≠ B2 := by omega
        have ne2 : B1 ≠ B2 := by omega
        have tc : Tch [B2] W2 w9 := by rw [hw9]; exact ((Tch.refl [B2] W2).drewN nq).setCell 0 _ (.inl (by simp))
        have hsz := i2.low.size
        refine ⟨StaysD.ofTch tc (by omega) (fun g hg => by simp at hg; omega), ⟨i2.low.trans (tc.below (fun g hg => by simp at hg; omega) (by omega)), ?_, ?_, ?_⟩⟩
        · exact (tc.block _ (Array.getElem?_eq_some_iff.1 i2.box).1 (by simpa using ne1)).trans i2.box
        · exact (tc.block _ (Array.getElem?_eq_some_iff.1 i2.ans).1 (by simpa using ne2)).trans i2.ans
        · rw [hw9, block_setCell (w := W2.drewN nq) i2.cnt, show ((k : Int) + 1) = ((K + (pre ++ [x]).length : Nat) : Int) by rw [List.length_append, hk]; simp; omega]
          rfl
      obtain ⟨xa, xv⟩ := x
      simp only at a0 a1 d0 d1 NE
      clear hi hgv hpre b5 k5 hlB hlC hCW H hm hn hK2 hK3 hN e1 e2 hO hz hz2 out hk i2 k2 hx c2 f2 H5 hb4 ST TN
      gi_upto_region 6 with fail
      refine region_round_quietD (C := fun w' => ∃ n, w' = W2.drewN n) mixed (by rfl) (fun ⟨a, w, h⟩ => h) (by kernel_rfl) ⟨1, rfl⟩ ?_
      repeat (quiet_step (fail))
      refine wpQuiet_nil ?_
      intro _ hw'
      obtain ⟨nq, hw''⟩ := hw'
      subst hw''
      gi_upto_region 8 with fail
      refine region_roundD (by rfl) (fun ⟨a, w, h⟩ => h) ?_
      go_wp2_with fail
      exact FIN.out nq _ rfl
    · intro D xs Wd hD hS hex hdef
      obtain ⟨C, hC, hi⟩ := hex
      obtain ⟨H, hm, hn, hK2, hK3, hN⟩ := HH.out
      obtain ⟨e1, e2⟩ := HB.out
      have hz := ST.out.2.1
      have hz2 := ST.out.2.2
      have hkn : K + xs.length = n := by rw [hS, hK3, List.length_drop, ← hn]; omega
      rw [hkn] at hi
      have low := hi.low
      have Hd : HasI Wd rb gb nn l := H.gr (by rw [← hN]; exact low)
      have md : Mo base Wd q c l := hm.gr (by rw [← hN]; exact low)
      have hDn : b ≤ D := by omega
      have INV := Lib.hid (And.intro hi (And.intro hDn (And.intro hdef (And.intro Hd (And.intro md hn)))))
      have ST3 : Hid (N + 3 ≤ b) := hz2
      clear hC hS hK2 hK3 hN e1 e2 hz hz2 hkn low hdef hD H hm ST TN CS hi
      rcases List.eq_nil_or_concat l with hl | ⟨l1, y, hl⟩
      · subst hl
        have n0 : n = 0 := hn
        clear hn
        subst n0
        have CL := Lib.hid (last_emptyI Wd rb gb nn Hd)
        clear Hd md hK1 hn32
        go_wp2_with fail
        refine CL.out.mono ?_
        rintro e w6 ⟨rfl, b6⟩
        obtain ⟨w7, hw7⟩ : ∃ w7, w7 = w6.alloc (.cells #[.int .i64 0, .int .i64 0] TSI) := ⟨_, rfl⟩
        obtain ⟨A, hA⟩ : ∃ A, A = w6.heap.size := ⟨_, rfl⟩
        have b7 : Below Wd.heap.size Wd w7 := by rw [hw7]; exact b6.alloc b6.size _
        obtain ⟨hi, hDn, hdef, Hd, md, hn⟩ := INV.out
        obtain ⟨wz, hwz⟩ : ∃ wz, wz = (w7.setCell ⟨B1, 0, none⟩ (.bool true)).drew := ⟨_, rfl⟩
        have END := Lib.hid (is_end HB.out ST3.out hDn hi hdef b7 hwz)
        have f4 : w7.cell? ⟨N, 0, none⟩ = some (.slice q 0 c) := cell_of_block ((b7.block _ (Array.getElem?_eq_some_iff.1 hi.box).1).trans hi.box) 0
        have f7 : w7.cell? ⟨B2, 0, none⟩ = some (.int .i64 0) := cell_of_block ((b7.block _ (Array.getElem?_eq_some_iff.1 hi.cnt).1).trans hi.cnt) 0
        have f6 : w7.cell? ⟨B1, 0, none⟩ = some (.bool false) := cell_of_block ((b7.block _ (Array.getElem?_eq_some_iff.1 hi.ans).1).trans hi.ans) 0
        have u6 : w7.frozen? ⟨B1, 0, none⟩ = false := unfrozen_of_block ((b7.block _ (Array.getElem?_eq_some_iff.1 hi.ans).1).trans hi.ans) 0
        have H7 := (Hd.gr b7).drewN 1
        have k7 : w7.heap[A]? = some (.cells #[.int .i64 0, .int .i64 0] TSI (0, 0)) := by rw [hw7, hA]; exact heap_alloc_new w6 _
        have CN : Hid (∀ ws : World, (∃ m, ws = w7.drewN m) → Calls Try.prog 13 #[.pointer (some ⟨rb, 0, none⟩)] ws fun e w' => e = .returned (.int .i64 0) ∧ w' = ws) := fun ws ⟨m, h⟩ => by
          obtain ⟨cp, f, cc, hr7, _⟩ := (Hd.gr b7).drewN m
          rw [h]
          exact (rlenI (w7.drewN m) rb _ hr7.c2).mono fun e w' q => ⟨q.1, q.2.symm⟩
        have F7 : Hid (∀ ws : World, (∃ m, ws = w7.drewN m) → ws.cell? ⟨B2, 0, none⟩ = some (.int .i64 0)) := fun ws ⟨m, h⟩ => by rw [h]; exact f7
        have F4 : Hid (∀ ws : World, (∃ m, ws = w7.drewN m) → ws.cell? ⟨N, 0, none⟩ = some (.slice q 0 c)) := fun ws ⟨m, h⟩ => by rw [h]; exact f4
        have S0 : Hid (∃ m, w7.drew = w7.drewN m) := ⟨1, rfl⟩
        have c6 : w7.drew.cell? ⟨B1, 0, none⟩ = some (.bool false) := f6
        have x6 : w7.drew.frozen? ⟨B1, 0, none⟩ = false := u6
        have HW : Hid (w6.alloc (.cells #[.int .i64 0, .int .i64 0] TSI) = w7 ∧ w6.heap.size = A ∧ (w7.setCell ⟨B1, 0, none⟩ (.bool true)).drew = wz) := ⟨hw7.symm, hA.symm, hwz.symm⟩
        clear b6 hw7 hA b7 hi hDn hdef Hd md hn hwz H7 CL INV f4 f7 f6 u6 k7
        go_upto_region 10 with fail
        rw [HW.out.1, HW.out.2.1]
        refine Code.wp_mono (Q := Exit.then (fun a' w' => a'.tmps[6]? = some (.pointer (some ⟨B1, 0, none⟩)) ∧ a'.defers = [{ target := .collected D, args := #[] }] ∧ w' = wz) (fun _ _ _ => False)) (fun e a' w' qq => ?_) ?_
        · cases e with
          | normal =>
            obtain ⟨h4, hd, rfl⟩ := qq
            obtain ⟨tm, ds⟩ := a'
            simp only at h4 hd
            subst hd
            clear F7 F4 CN
            go_wp2_with fail
            refine ⟨by simp, .inl ⟨_, _, rfl, run_takeDeferred END.out.1, ?_⟩⟩
            exact ⟨_, results_cellD rfl tm _ B1 h4 END.out.2.1, rfl, by rw [HH.out.2.2.2.2.2] at *; exact END.out.2.2⟩
          | _ => exact qq.elim
        refine wp_region_G (f := 32) (S := fun ws => ∃ m, ws = w7.drewN m) mixed S0.out (fun hS => ?_)
        refine wpAnyG_takeD (i := 0) (d := 49) (v := .int .i64 0) _ rfl rfl (by kernel_rfl) (by kernel_rfl) (by kernel_rfl) (by kernel_rfl) (fun _ _ _ h => h) (Or.inl ⟨by kernel_rfl, fun ws hSw => by have q := F7.out ws hSw; first | (go_simp; done) | (go_simp; with_reducible rfl) | (go_simp; rfl)⟩) hS ?_
        simp only [Act.put, List.setIfInBounds_toArray, List.set_cons_zero, List.set_cons_succ]
        refine wpAnyG_takeD (i := 1) (d := 50) (v := (.slice q 0 c)) _ rfl rfl (by kernel_rfl) (by kernel_rfl) (by kernel_rfl) (by kernel_rfl) (fun _ _ _ h => h) (Or.inl ⟨by kernel_rfl, fun ws hSw => by have q := F4.out ws hSw; first | (go_simp; done) | (go_simp; with_reducible rfl) | (go_simp; rfl)⟩) hS ?_
        simp only [Act.put, List.setIfInBounds_toArray, List.set_cons_zero, List.set_cons_succ]
        refine wpAnyG_takeD (i := 2) (d := 51) (v := .int .i64 0) _ rfl rfl (by kernel_rfl) (by kernel_rfl) (by kernel_rfl) (by kernel_rfl) (fun _ _ _ h => h) (Or.inl ⟨by kernel_rfl, fun ws hSw => by first | (go_simp; done) | (go_simp; with_reducible rfl) | (go_simp; rfl)⟩) hS ?_
        simp only [Act.put, List.setIfInBounds_toArray, List.set_cons_zero, List.set_cons_succ]
        refine wpAnyG_takeD (i := 3) (d := 52) (v := .bool true) _ rfl rfl (by kernel_rfl) (by kernel_rfl) (by kernel_rfl) (by kernel_rfl) (fun _ _ _ h => h) (Or.inl ⟨by kernel_rfl, fun ws hSw => by first | (go_simp; done) | (go_simp; with_reducible rfl) | (go_simp; rfl)⟩) hS ?_
        simp only [Act.put, List.setIfInBounds_toArray, List.set_cons_zero, List.set_cons_succ]
        refine wpAnyG_takeD (i := 4) (d := 53) (v := .bool true) _ rfl rfl (by kernel_rfl) (by kernel_rfl) (by kernel_rfl) (by kernel_rfl) (fun _ _ _ h => h) (Or.inl ⟨by kernel_rfl, fun ws hSw => by first | (go_simp; done) | (go_simp; with_reducible rfl) | (go_simp; rfl)⟩) hS ?_
        simp only [Act.put, List.setIfInBounds_toArray, List.set_cons_zero, List.set_cons_succ]
        refine wpAnyG_takeD (i := 5) (d := 54) (v := .pointer (some ⟨rb, 0, none⟩)) _ rfl rfl (by kernel_rfl) (by kernel_rfl) (by kernel_rfl) (by kernel_rfl) (fun _ _ _ h => h) (Or.inl ⟨by kernel_rfl, fun ws hSw => by first | (go_simp; done) | (go_simp; with_reducible rfl) | (go_simp; rfl)⟩) hS ?_
        simp only [Act.put, List.setIfInBounds_toArray, List.set_cons_zero, List.set_cons_succ]
        refine wpAnyG_takeD (i := 7) (d := 56) (v := (.slice q 0 c)) _ rfl rfl (by kernel_rfl) (by kernel_rfl) (by kernel_rfl) (by kernel_rfl) (fun _ _ _ h => h) (Or.inl ⟨by kernel_rfl, fun ws hSw => by have q := F4.out ws hSw; first | (go_simp; done) | (go_simp; with_reducible rfl) | (go_simp; rfl)⟩) hS ?_
        simp only [Act.put, List.setIfInBounds_toArray, List.set_cons_zero, List.set_cons_succ]
        refine wpAnyG_takeD (i := 8) (d := 57) (v := .int .i64 0) _ rfl rfl (by kernel_rfl) (by kernel_rfl) (by kernel_rfl) (by kernel_rfl) (fun _ _ _ h => h) (Or.inl ⟨by kernel_rfl, fun ws hSw => by first | (go_simp; done) | (go_simp; with_reducible rfl) | (go_simp; rfl)⟩) hS ?_
        simp only [Act.put, List.setIfInBounds_toArray, List.set_cons_zero, List.set_cons_succ]
        refine wpAnyG_ready (rs := [6]) (by kernel_rfl) (by simp) ?_
        refine AllReadyG.cons rfl (fun K hK => ?_) AllReadyG.nil
        go_simp
        refine (CN.out _ hS).mono ?_
        rintro e w' ⟨rfl, rfl⟩
        refine hK _ _ hS (fun hS => ?_)
        try simp only [Act.put, List.setIfInBounds_toArray, List.set_cons_zero, List.set_cons_succ]
        refine wpAnyG_takeD (i := 9) (d := 58) (v := .bool true) _ rfl rfl (by kernel_rfl) (by kernel_rfl) (by kernel_rfl) (by kernel_rfl) (fun _ _ _ h => h) (Or.inl ⟨by kernel_rfl, fun ws hSw => by first | (go_simp; done) | (go_simp; with_reducible rfl) | (go_simp; rfl)⟩) hS ?_
        simp only [Act.put, List.setIfInBounds_toArray, List.set_cons_zero, List.set_cons_succ]
        refine wpAnyG_takeD (i := 10) (d := 59) (v := .bool true) _ rfl rfl (by kernel_rfl) (by kernel_rfl) (by kernel_rfl) (by kernel_rfl) (fun _ _ _ h => h) (Or.inl ⟨by kernel_rfl, fun ws hSw => by first | (go_simp; done) | (go_simp; with_reducible rfl) | (go_simp; rfl)⟩) hS ?_
        simp only [Act.put, List.setIfInBounds_toArray, List.set_cons_zero, List.set_cons_succ]
        refine wpAnyG_takeD (i := 11) (d := 60) (v := .bool true) _ rfl rfl (by kernel_rfl) (by kernel_rfl) (by kernel_rfl) (by kernel_rfl) (fun _ _ _ h => h) (Or.inl ⟨by kernel_rfl, fun ws hSw => by first | (go_simp; done) | (go_simp; with_reducible rfl) | (go_simp; rfl)⟩) hS ?_
        simp only [Act.put, List.setIfInBounds_toArray, List.set_cons_zero, List.set_cons_succ]
        refine wpAnyG_takeD (i := 12) (d := 61) (v := .bool false) _ rfl rfl (by kernel_rfl) (by kernel_rfl) (by kernel_rfl) (by kernel_rfl) (fun _ _ _ h => h) (Or.inl ⟨by kernel_rfl, fun ws hSw => by first | (go_simp; done) | (go_simp; with_reducible rfl) | (go_simp; rfl)⟩) hS ?_
        simp only [Act.put, List.setIfInBounds_toArray, List.set_cons_zero, List.set_cons_succ]
        refine wpAnyG_takeD (i := 13) (d := 62) (v := (.slice q 0 c)) _ rfl rfl (by kernel_rfl) (by kernel_rfl) (by kernel_rfl) (by kernel_rfl) (fun _ _ _ h => h) (Or.inl ⟨by kernel_rfl, fun ws hSw => by have q := F4.out ws hSw; first | (go_simp; done) | (go_simp; with_reducible rfl) | (go_simp; rfl)⟩) hS ?_
        simp only [Act.put, List.setIfInBounds_toArray, List.set_cons_zero, List.set_cons_succ]
        refine wpAnyG_takeD (i := 14) (d := 63) (v := .int .i64 0) _ rfl rfl (by kernel_rfl) (by kernel_rfl) (by kernel_rfl) (by kernel_rfl) (fun _ _ _ h => h) (Or.inl ⟨by kernel_rfl, fun ws hSw => by first | (go_simp; done) | (go_simp; with_reducible rfl) | (go_simp; rfl)⟩) hS ?_
        simp only [Act.put, List.setIfInBounds_toArray, List.set_cons_zero, List.set_cons_succ]
        refine wpAnyG_takeD (i := 15) (d := 64) (v := .bool false) _ rfl rfl (by kernel_rfl) (by kernel_rfl) (by kernel_rfl) (by kernel_rfl) (fun _ _ _ h => h) (Or.inl ⟨by kernel_rfl, fun ws hSw => by first | (go_simp; done) | (go_simp; with_reducible rfl) | (go_simp; rfl)⟩) hS ?_
        simp only [Act.put, List.setIfInBounds_toArray, List.set_cons_zero, List.set_cons_succ]
        refine wpAnyG_takeD (i := 16) (d := 65) (v := .bool true) _ rfl rfl (by kernel_rfl) (by kernel_rfl) (by kernel_rfl) (by kernel_rfl) (fun _ _ _ h => h) (Or.inl ⟨by kernel_rfl, fun ws hSw => by first | (go_simp; done) | (go_simp; with_reducible rfl) | (go_simp; rfl)⟩) hS ?_
        simp only [Act.put, List.setIfInBounds_toArray, List.set_cons_zero, List.set_cons_succ]
        refine wpAnyG_takeD (i := 17) (d := 66) (v := .bool true) _ rfl rfl (by kernel_rfl) (by kernel_rfl) (by kernel_rfl) (by kernel_rfl) (fun _ _ _ h => h) (Or.inl ⟨by kernel_rfl, fun ws hSw => by first | (go_simp; done) | (go_simp; with_reducible rfl) | (go_simp; rfl)⟩) hS ?_
        simp only [Act.put, List.setIfInBounds_toArray, List.set_cons_zero, List.set_cons_succ]
        refine wpAnyG_takeD (i := 18) (d := 67) (v := .bool true) _ rfl rfl (by kernel_rfl) (by kernel_rfl) (by kernel_rfl) (by kernel_rfl) (fun _ _ _ h => h) (Or.inl ⟨by kernel_rfl, fun ws hSw => by first | (go_simp; done) | (go_simp; with_reducible rfl) | (go_simp; rfl)⟩) hS ?_
        simp only [Act.put, List.setIfInBounds_toArray, List.set_cons_zero, List.set_cons_succ]
        refine wpAnyG_takeD (i := 19) (d := 68) (v := .bool false) _ rfl rfl (by kernel_rfl) (by kernel_rfl) (by kernel_rfl) (by kernel_rfl) (fun _ _ _ h => h) (Or.inl ⟨by kernel_rfl, fun ws hSw => by first | (go_simp; done) | (go_simp; with_reducible rfl) | (go_simp; rfl)⟩) hS ?_
        simp only [Act.put, List.setIfInBounds_toArray, List.set_cons_zero, List.set_cons_succ]
        refine wpAnyG_takeD (i := 20) (d := 69) (v := .bool true) _ rfl rfl (by kernel_rfl) (by kernel_rfl) (by kernel_rfl) (by kernel_rfl) (fun _ _ _ h => h) (Or.inl ⟨by kernel_rfl, fun ws hSw => by first | (go_simp; done) | (go_simp; with_reducible rfl) | (go_simp; rfl)⟩) hS ?_
        simp only [Act.put, List.setIfInBounds_toArray, List.set_cons_zero, List.set_cons_succ]
        refine wpAnyG_takeD (i := 21) (d := 70) (v := .bool true) _ rfl rfl (by kernel_rfl) (by kernel_rfl) (by kernel_rfl) (by kernel_rfl) (fun _ _ _ h => h) (Or.inl ⟨by kernel_rfl, fun ws hSw => by first | (go_simp; done) | (go_simp; with_reducible rfl) | (go_simp; rfl)⟩) hS ?_
        simp only [Act.put, List.setIfInBounds_toArray, List.set_cons_zero, List.set_cons_succ]
        refine wpAnyG_takeD (i := 22) (d := 71) (v := undef) _ rfl rfl (by kernel_rfl) (by kernel_rfl) (by kernel_rfl) (by kernel_rfl) (fun _ _ _ h => h) (Or.inr ⟨by kernel_rfl, rfl⟩) hS ?_
        simp only [Act.put, List.setIfInBounds_toArray, List.set_cons_zero, List.set_cons_succ]
        refine wpAnyG_takeD (i := 23) (d := 72) (v := undef) _ rfl rfl (by kernel_rfl) (by kernel_rfl) (by kernel_rfl) (by kernel_rfl) (fun _ _ _ h => h) (Or.inr ⟨by kernel_rfl, rfl⟩) hS ?_
        simp only [Act.put, List.setIfInBounds_toArray, List.set_cons_zero, List.set_cons_succ]
        refine wpAnyG_takeD (i := 24) (d := 73) (v := undef) _ rfl rfl (by kernel_rfl) (by kernel_rfl) (by kernel_rfl) (by kernel_rfl) (fun _ _ _ h => h) (Or.inr ⟨by kernel_rfl, rfl⟩) hS ?_
        simp only [Act.put, List.setIfInBounds_toArray, List.set_cons_zero, List.set_cons_succ]
        refine wpAnyG_takeD (i := 25) (d := 74) (v := undef) _ rfl rfl (by kernel_rfl) (by kernel_rfl) (by kernel_rfl) (by kernel_rfl) (fun _ _ _ h => h) (Or.inr ⟨by kernel_rfl, rfl⟩) hS ?_
        simp only [Act.put, List.setIfInBounds_toArray, List.set_cons_zero, List.set_cons_succ]
        refine wpAnyG_takeD (i := 26) (d := 75) (v := undef) _ rfl rfl (by kernel_rfl) (by kernel_rfl) (by kernel_rfl) (by kernel_rfl) (fun _ _ _ h => h) (Or.inr ⟨by kernel_rfl, rfl⟩) hS ?_
        simp only [Act.put, List.setIfInBounds_toArray, List.set_cons_zero, List.set_cons_succ]
        refine wpAnyG_takeD (i := 27) (d := 76) (v := undef) _ rfl rfl (by kernel_rfl) (by kernel_rfl) (by kernel_rfl) (by kernel_rfl) (fun _ _ _ h => h) (Or.inr ⟨by kernel_rfl, rfl⟩) hS ?_
        simp only [Act.put, List.setIfInBounds_toArray, List.set_cons_zero, List.set_cons_succ]
        refine wpAnyG_takeD (i := 28) (d := 77) (v := undef) _ rfl rfl (by kernel_rfl) (by kernel_rfl) (by kernel_rfl) (by kernel_rfl) (fun _ _ _ h => h) (Or.inr ⟨by kernel_rfl, rfl⟩) hS ?_
        simp only [Act.put, List.setIfInBounds_toArray, List.set_cons_zero, List.set_cons_succ]
        refine wpAnyG_takeD (i := 29) (d := 78) (v := undef) _ rfl rfl (by kernel_rfl) (by kernel_rfl) (by kernel_rfl) (by kernel_rfl) (fun _ _ _ h => h) (Or.inr ⟨by kernel_rfl, rfl⟩) hS ?_
        simp only [Act.put, List.setIfInBounds_toArray, List.set_cons_zero, List.set_cons_succ]
        refine wpAnyG_takeD (i := 30) (d := 79) (v := .bool true) _ rfl rfl (by kernel_rfl) (by kernel_rfl) (by kernel_rfl) (by kernel_rfl) (fun _ _ _ h => h) (Or.inl ⟨by kernel_rfl, fun ws hSw => by first | (go_simp; done) | (go_simp; with_reducible rfl) | (go_simp; rfl)⟩) hS ?_
        simp only [Act.put, List.setIfInBounds_toArray, List.set_cons_zero, List.set_cons_succ]
        refine wpAnyG_takeD (i := 31) (d := 80) (v := .bool true) _ rfl rfl (by kernel_rfl) (by kernel_rfl) (by kernel_rfl) (by kernel_rfl) (fun _ _ _ h => h) (Or.inl ⟨by kernel_rfl, fun ws hSw => by first | (go_simp; done) | (go_simp; with_reducible rfl) | (go_simp; rfl)⟩) hS ?_
        simp only [Act.put, List.setIfInBounds_toArray, List.set_cons_zero, List.set_cons_succ]
        refine wpAnyG_ready (rs := [32]) (by kernel_rfl) (by simp) ?_
        refine AllReadyG.last rfl rfl (fun K hK => ?_)
        go_simp
        rw [HW.out.2.2]
        refine hK _ _ ?_
        try simp only [Act.put, List.setIfInBounds_toArray, List.set_cons_zero, List.set_cons_succ]
        refine wpAnyG_done (by kernel_rfl) ?_
        exact ⟨rfl, rfl, rfl⟩
      · rw [List.concat_eq_append] at hl
        subst hl
        have CL := Lib.hid (last_someI Wd rb gb nn l1 y Hd)
        have hjn : l1.length + 1 = n := by rw [hn]; simp
        obtain ⟨j, hj⟩ : ∃ j, j = l1.length := ⟨_, rfl⟩
        rw [← hj] at hjn
        obtain ⟨g, o, rfl, _, _, a0, a1⟩ := md.cells (j := j) (x := y) (by rw [hj]; simp)
        obtain ⟨ya, yv⟩ := y
        simp only at CL a0 a1
        have HA := Lib.hid (And.intro a0 a1)
        clear Hd md hK1 hn a0 a1 hj
        go_wp2_with fail
        refine CL.out.mono ?_
        rintro e w6 ⟨rfl, b6⟩
        obtain ⟨w7, hw7⟩ : ∃ w7, w7 = w6.alloc (.cells #[.int .i64 ya, .int .i64 yv] TSI) := ⟨_, rfl⟩
        obtain ⟨A, hA⟩ : ∃ A, A = w6.heap.size := ⟨_, rfl⟩
        have b7 : Below Wd.heap.size Wd w7 := by rw [hw7]; exact b6.alloc b6.size _
        obtain ⟨hi, hDn, hdef, Hd, md, hn⟩ := INV.out
        obtain ⟨wz, hwz⟩ : ∃ wz, wz = (w7.setCell ⟨B1, 0, none⟩ (.bool true)).drew := ⟨_, rfl⟩
        have END := Lib.hid (is_end HB.out ST3.out hDn hi hdef b7 hwz)
        have f4 : w7.cell? ⟨N, 0, none⟩ = some (.slice (some ⟨g, o, none⟩) n c) := cell_of_block ((b7.block _ (Array.getElem?_eq_some_iff.1 hi.box).1).trans hi.box) 0
        have f7 : w7.cell? ⟨B2, 0, none⟩ = some (.int .i64 (n : Int)) := cell_of_block ((b7.block _ (Array.getElem?_eq_some_iff.1 hi.cnt).1).trans hi.cnt) 0
        have f6 : w7.cell? ⟨B1, 0, none⟩ = some (.bool false) := cell_of_block ((b7.block _ (Array.getElem?_eq_some_iff.1 hi.ans).1).trans hi.ans) 0
        have u6 : w7.frozen? ⟨B1, 0, none⟩ = false := unfrozen_of_block ((b7.block _ (Array.getElem?_eq_some_iff.1 hi.ans).1).trans hi.ans) 0
        have H7 := (Hd.gr b7).drewN 1
        have k7 : w7.heap[A]? = some (.cells #[.int .i64 ya, .int .i64 yv] TSI (0, 0)) := by rw [hw7, hA]; exact heap_alloc_new w6 _
        have CN : Hid (∀ ws : World, (∃ m, ws = w7.drewN m) → Calls Try.prog 13 #[.pointer (some ⟨rb, 0, none⟩)] ws fun e w' => e = .returned (.int .i64 (n : Int)) ∧ w' = ws) := fun ws ⟨m, h⟩ => by
          obtain ⟨cp, f, cc, hr7, _⟩ := (Hd.gr b7).drewN m
          rw [h]
          have e : ((l1 ++ [(ya, yv)]).length : Int) = (n : Int) := by rw [← hn]
          rw [← e]
          exact (rlenI (w7.drewN m) rb _ hr7.c2).mono fun e w' q => ⟨q.1, q.2.symm⟩
        have F7 : Hid (∀ ws : World, (∃ m, ws = w7.drewN m) → ws.cell? ⟨B2, 0, none⟩ = some (.int .i64 (n : Int))) := fun ws ⟨m, h⟩ => by rw [h]; exact f7
        have F4 : Hid (∀ ws : World, (∃ m, ws = w7.drewN m) → ws.cell? ⟨N, 0, none⟩ = some (.slice (some ⟨g, o, none⟩) n c)) := fun ws ⟨m, h⟩ => by rw [h]; exact f4
        have FA : Hid (∀ ws : World, (∃ m, ws = w7.drewN m) → ws.cell? ⟨A, 0, none⟩ = some (.int .i64 ya) ∧ ws.cell? ⟨A, 1, none⟩ = some (.int .i64 yv)) := fun ws ⟨m, h⟩ => by rw [h]; exact ⟨cell_of_block k7 0, cell_of_block k7 1⟩
        have FE : Hid (∀ ws : World, (∃ m, ws = w7.drewN m) → ws.cell? ⟨g, o + j * 2, none⟩ = some (.int .i64 ya) ∧ ws.cell? ⟨g, o + j * 2 + 1, none⟩ = some (.int .i64 yv)) := fun ws ⟨m, h⟩ => by
          rw [h]
          exact ⟨(b7.cell (World.block_lt_of_cell? _ _ HA.out.1)).trans HA.out.1, (b7.cell (World.block_lt_of_cell? _ _ HA.out.2)).trans HA.out.2⟩
        have FT : Hid (∀ ws : World, (∃ m, ws = w7.drewN m) → True) := fun _ _ => trivial
        have EQ := eql_smp (ya, yv)
        simp only at EQ
        have WJ : IntKind.i64.wrap ((n : Int) - 1) = (j : Int) := by rw [show (n : Int) - 1 = (j : Int) by omega]; exact IntWalk.i64_in _ (by omega)
        have hp1 : decide ((0 : Int) < (n : Int)) = true := decide_eq_true (by omega)
        have hp2 : 0 < n := by omega
        have hj0 : (0 : Int) ≤ (j : Int) := Int.natCast_nonneg _
        have hj1 : (j : Int) < (n : Int) := by omega
        have hj2 : j < n := by omega
        have S0 : Hid (∃ m, w7.drew = w7.drewN m) := ⟨1, rfl⟩
        have c6 : w7.drew.cell? ⟨B1, 0, none⟩ = some (.bool false) := f6
        have x6 : w7.drew.frozen? ⟨B1, 0, none⟩ = false := u6
        have HW : Hid (w6.alloc (.cells #[.int .i64 ya, .int .i64 yv] TSI) = w7 ∧ w6.heap.size = A ∧ (w7.setCell ⟨B1, 0, none⟩ (.bool true)).drew = wz) := ⟨hw7.symm, hA.symm, hwz.symm⟩
        clear b6 hw7 hA b7 hi hDn hdef Hd md hn hwz H7 CL INV f4 f7 f6 u6 k7 HA
        go_upto_region 10 with fail
        rw [HW.out.1, HW.out.2.1]
        refine Code.wp_mono (Q := Exit.then (fun a' w' => a'.tmps[6]? = some (.pointer (some ⟨B1, 0, none⟩)) ∧ a'.defers = [{ target := .collected D, args := #[] }] ∧ w' = wz) (fun _ _ _ => False)) (fun e a' w' qq => ?_) ?_
        · cases e with
          | normal =>
            obtain ⟨h4, hd, rfl⟩ := qq
            obtain ⟨tm, ds⟩ := a'
            simp only at h4 hd
            subst hd
            clear F7 F4 CN
            go_wp2_with fail
            refine ⟨by simp, .inl ⟨_, _, rfl, run_takeDeferred END.out.1, ?_⟩⟩
            exact ⟨_, results_cellD rfl tm _ B1 h4 END.out.2.1, rfl, by rw [HH.out.2.2.2.2.2] at *; exact END.out.2.2⟩
          | _ => exact qq.elim
        refine wp_region_G (f := 32) (S := fun ws => ∃ m, ws = w7.drewN m) mixed S0.out (fun hS => ?_)
        refine wpAnyG_takeD (i := 0) (d := 49) (v := .int .i64 (n : Int)) _ rfl rfl (by kernel_rfl) (by kernel_rfl) (by kernel_rfl) (by kernel_rfl) (fun _ _ _ h => h) (Or.inl ⟨by kernel_rfl, fun ws hSw => by have q := F7.out ws hSw; first | (go_simp; done) | (go_simp; with_reducible rfl) | (go_simp; rfl)⟩) hS ?_
        simp only [Act.put, List.setIfInBounds_toArray, List.set_cons_zero, List.set_cons_succ]
        refine wpAnyG_takeD (i := 1) (d := 50) (v := (.slice (some ⟨g, o, none⟩) n c)) _ rfl rfl (by kernel_rfl) (by kernel_rfl) (by kernel_rfl) (by kernel_rfl) (fun _ _ _ h => h) (Or.inl ⟨by kernel_rfl, fun ws hSw => by have q := F4.out ws hSw; first | (go_simp; done) | (go_simp; with_reducible rfl) | (go_simp; rfl)⟩) hS ?_
        simp only [Act.put, List.setIfInBounds_toArray, List.set_cons_zero, List.set_cons_succ]
        refine wpAnyG_takeD (i := 2) (d := 51) (v := .int .i64 (n : Int)) _ rfl rfl (by kernel_rfl) (by kernel_rfl) (by kernel_rfl) (by kernel_rfl) (fun _ _ _ h => h) (Or.inl ⟨by kernel_rfl, fun ws hSw => by first | (go_simp; done) | (go_simp; with_reducible rfl) | (go_simp; rfl)⟩) hS ?_
        simp only [Act.put, List.setIfInBounds_toArray, List.set_cons_zero, List.set_cons_succ]
        refine wpAnyG_takeD (i := 3) (d := 52) (v := .bool true) _ rfl rfl (by kernel_rfl) (by kernel_rfl) (by kernel_rfl) (by kernel_rfl) (fun _ _ _ h => h) (Or.inl ⟨by kernel_rfl, fun ws hSw => by first | (go_simp; done) | (go_simp; with_reducible rfl) | (go_simp; rfl)⟩) hS ?_
        simp only [Act.put, List.setIfInBounds_toArray, List.set_cons_zero, List.set_cons_succ]
        refine wpAnyG_takeD (i := 4) (d := 53) (v := .bool true) _ rfl rfl (by kernel_rfl) (by kernel_rfl) (by kernel_rfl) (by kernel_rfl) (fun _ _ _ h => h) (Or.inl ⟨by kernel_rfl, fun ws hSw => by first | (go_simp; done) | (go_simp; with_reducible rfl) | (go_simp; rfl)⟩) hS ?_
        simp only [Act.put, List.setIfInBounds_toArray, List.set_cons_zero, List.set_cons_succ]
        refine wpAnyG_takeD (i := 5) (d := 54) (v := .pointer (some ⟨rb, 0, none⟩)) _ rfl rfl (by kernel_rfl) (by kernel_rfl) (by kernel_rfl) (by kernel_rfl) (fun _ _ _ h => h) (Or.inl ⟨by kernel_rfl, fun ws hSw => by first | (go_simp; done) | (go_simp; with_reducible rfl) | (go_simp; rfl)⟩) hS ?_
        simp only [Act.put, List.setIfInBounds_toArray, List.set_cons_zero, List.set_cons_succ]
        refine wpAnyG_takeD (i := 7) (d := 56) (v := (.slice (some ⟨g, o, none⟩) n c)) _ rfl rfl (by kernel_rfl) (by kernel_rfl) (by kernel_rfl) (by kernel_rfl) (fun _ _ _ h => h) (Or.inl ⟨by kernel_rfl, fun ws hSw => by have q := F4.out ws hSw; first | (go_simp; done) | (go_simp; with_reducible rfl) | (go_simp; rfl)⟩) hS ?_
        simp only [Act.put, List.setIfInBounds_toArray, List.set_cons_zero, List.set_cons_succ]
        refine wpAnyG_takeD (i := 8) (d := 57) (v := .int .i64 (n : Int)) _ rfl rfl (by kernel_rfl) (by kernel_rfl) (by kernel_rfl) (by kernel_rfl) (fun _ _ _ h => h) (Or.inl ⟨by kernel_rfl, fun ws hSw => by first | (go_simp; done) | (go_simp; with_reducible rfl) | (go_simp; rfl)⟩) hS ?_
        simp only [Act.put, List.setIfInBounds_toArray, List.set_cons_zero, List.set_cons_succ]
        refine wpAnyG_ready (rs := [6]) (by kernel_rfl) (by simp) ?_
        refine AllReadyG.cons rfl (fun K hK => ?_) AllReadyG.nil
        go_simp
        refine (CN.out _ hS).mono ?_
        rintro e w' ⟨rfl, rfl⟩
        refine hK _ _ hS (fun hS => ?_)
        try simp only [Act.put, List.setIfInBounds_toArray, List.set_cons_zero, List.set_cons_succ]
        refine wpAnyG_takeD (i := 9) (d := 58) (v := .bool true) _ rfl rfl (by kernel_rfl) (by kernel_rfl) (by kernel_rfl) (by kernel_rfl) (fun _ _ _ h => h) (Or.inl ⟨by kernel_rfl, fun ws hSw => by first | (go_simp; done) | (go_simp; with_reducible rfl) | (go_simp; rfl)⟩) hS ?_
        simp only [Act.put, List.setIfInBounds_toArray, List.set_cons_zero, List.set_cons_succ]
        refine wpAnyG_takeD (i := 10) (d := 59) (v := .bool true) _ rfl rfl (by kernel_rfl) (by kernel_rfl) (by kernel_rfl) (by kernel_rfl) (fun _ _ _ h => h) (Or.inl ⟨by kernel_rfl, fun ws hSw => by first | (go_simp; done) | (go_simp; with_reducible rfl) | (go_simp; rfl)⟩) hS ?_
        simp only [Act.put, List.setIfInBounds_toArray, List.set_cons_zero, List.set_cons_succ]
        refine wpAnyG_takeD (i := 11) (d := 60) (v := .bool true) _ rfl rfl (by kernel_rfl) (by kernel_rfl) (by kernel_rfl) (by kernel_rfl) (fun _ _ _ h => h) (Or.inl ⟨by kernel_rfl, fun ws hSw => by first | (go_simp; done) | (go_simp; with_reducible rfl) | (go_simp; rfl)⟩) hS ?_
        simp only [Act.put, List.setIfInBounds_toArray, List.set_cons_zero, List.set_cons_succ]
        refine wpAnyG_takeD (i := 12) (d := 61) (v := .bool true) _ rfl rfl (by kernel_rfl) (by kernel_rfl) (by kernel_rfl) (by kernel_rfl) (fun _ _ _ h => h) (Or.inl ⟨by kernel_rfl, fun ws hSw => by first | (go_simp; done) | (go_simp; with_reducible rfl) | (go_simp; rfl)⟩) hS ?_
        simp only [Act.put, List.setIfInBounds_toArray, List.set_cons_zero, List.set_cons_succ]
        refine wpAnyG_takeD (i := 13) (d := 62) (v := (.slice (some ⟨g, o, none⟩) n c)) _ rfl rfl (by kernel_rfl) (by kernel_rfl) (by kernel_rfl) (by kernel_rfl) (fun _ _ _ h => h) (Or.inl ⟨by kernel_rfl, fun ws hSw => by have q := F4.out ws hSw; first | (go_simp; done) | (go_simp; with_reducible rfl) | (go_simp; rfl)⟩) hS ?_
        simp only [Act.put, List.setIfInBounds_toArray, List.set_cons_zero, List.set_cons_succ]
        refine wpAnyG_takeD (i := 14) (d := 63) (v := .int .i64 (n : Int)) _ rfl rfl (by kernel_rfl) (by kernel_rfl) (by kernel_rfl) (by kernel_rfl) (fun _ _ _ h => h) (Or.inl ⟨by kernel_rfl, fun ws hSw => by first | (go_simp; done) | (go_simp; with_reducible rfl) | (go_simp; rfl)⟩) hS ?_
        simp only [Act.put, List.setIfInBounds_toArray, List.set_cons_zero, List.set_cons_succ]
        refine wpAnyG_takeD (i := 15) (d := 64) (v := .bool true) _ rfl rfl (by kernel_rfl) (by kernel_rfl) (by kernel_rfl) (by kernel_rfl) (fun _ _ _ h => h) (Or.inl ⟨by kernel_rfl, fun ws hSw => by first | (go_simp; done) | (go_simp; with_reducible rfl) | (go_simp; rfl)⟩) hS ?_
        simp only [Act.put, List.setIfInBounds_toArray, List.set_cons_zero, List.set_cons_succ]
        refine wpAnyG_takeD (i := 16) (d := 65) (v := .bool true) _ rfl rfl (by kernel_rfl) (by kernel_rfl) (by kernel_rfl) (by kernel_rfl) (fun _ _ _ h => h) (Or.inl ⟨by kernel_rfl, fun ws hSw => by first | (go_simp; done) | (go_simp; with_reducible rfl) | (go_simp; rfl)⟩) hS ?_
        simp only [Act.put, List.setIfInBounds_toArray, List.set_cons_zero, List.set_cons_succ]
        refine wpAnyG_takeD (i := 17) (d := 66) (v := .bool true) _ rfl rfl (by kernel_rfl) (by kernel_rfl) (by kernel_rfl) (by kernel_rfl) (fun _ _ _ h => h) (Or.inl ⟨by kernel_rfl, fun ws hSw => by first | (go_simp; done) | (go_simp; with_reducible rfl) | (go_simp; rfl)⟩) hS ?_
        simp only [Act.put, List.setIfInBounds_toArray, List.set_cons_zero, List.set_cons_succ]
        refine wpAnyG_takeD (i := 18) (d := 67) (v := .bool true) _ rfl rfl (by kernel_rfl) (by kernel_rfl) (by kernel_rfl) (by kernel_rfl) (fun _ _ _ h => h) (Or.inl ⟨by kernel_rfl, fun ws hSw => by first | (go_simp; done) | (go_simp; with_reducible rfl) | (go_simp; rfl)⟩) hS ?_
        simp only [Act.put, List.setIfInBounds_toArray, List.set_cons_zero, List.set_cons_succ]
        refine wpAnyG_takeD (i := 19) (d := 68) (v := .bool true) _ rfl rfl (by kernel_rfl) (by kernel_rfl) (by kernel_rfl) (by kernel_rfl) (fun _ _ _ h => h) (Or.inl ⟨by kernel_rfl, fun ws hSw => by first | (go_simp; done) | (go_simp; with_reducible rfl) | (go_simp; rfl)⟩) hS ?_
        simp only [Act.put, List.setIfInBounds_toArray, List.set_cons_zero, List.set_cons_succ]
        refine wpAnyG_takeD (i := 20) (d := 69) (v := .bool false) _ rfl rfl (by kernel_rfl) (by kernel_rfl) (by kernel_rfl) (by kernel_rfl) (fun _ _ _ h => h) (Or.inl ⟨by kernel_rfl, fun ws hSw => by first | (go_simp; done) | (go_simp; with_reducible rfl) | (go_simp; rfl)⟩) hS ?_
        simp only [Act.put, List.setIfInBounds_toArray, List.set_cons_zero, List.set_cons_succ]
        refine wpAnyG_takeD (i := 21) (d := 70) (v := .bool false) _ rfl rfl (by kernel_rfl) (by kernel_rfl) (by kernel_rfl) (by kernel_rfl) (fun _ _ _ h => h) (Or.inl ⟨by kernel_rfl, fun ws hSw => by first | (go_simp; done) | (go_simp; with_reducible rfl) | (go_simp; rfl)⟩) hS ?_
        simp only [Act.put, List.setIfInBounds_toArray, List.set_cons_zero, List.set_cons_succ]
        refine wpAnyG_takeD (i := 22) (d := 71) (v := .agg #[.int .i64 ya, .int .i64 yv]) _ rfl rfl (by kernel_rfl) (by kernel_rfl) (by kernel_rfl) (by kernel_rfl) (fun _ _ _ h => h) (Or.inl ⟨by kernel_rfl, fun ws hSw => by have q := FA.out ws hSw; first | (go_simp; done) | (go_simp; with_reducible rfl) | (go_simp; rfl)⟩) hS ?_
        simp only [Act.put, List.setIfInBounds_toArray, List.set_cons_zero, List.set_cons_succ]
        refine wpAnyG_takeD (i := 23) (d := 72) (v := (.slice (some ⟨g, o, none⟩) n c)) _ rfl rfl (by kernel_rfl) (by kernel_rfl) (by kernel_rfl) (by kernel_rfl) (fun _ _ _ h => h) (Or.inl ⟨by kernel_rfl, fun ws hSw => by have q := F4.out ws hSw; first | (go_simp; done) | (go_simp; with_reducible rfl) | (go_simp; rfl)⟩) hS ?_
        simp only [Act.put, List.setIfInBounds_toArray, List.set_cons_zero, List.set_cons_succ]
        refine wpAnyG_takeD (i := 24) (d := 73) (v := (.slice (some ⟨g, o, none⟩) n c)) _ rfl rfl (by kernel_rfl) (by kernel_rfl) (by kernel_rfl) (by kernel_rfl) (fun _ _ _ h => h) (Or.inl ⟨by kernel_rfl, fun ws hSw => by have q := F4.out ws hSw; first | (go_simp; done) | (go_simp; with_reducible rfl) | (go_simp; rfl)⟩) hS ?_
        simp only [Act.put, List.setIfInBounds_toArray, List.set_cons_zero, List.set_cons_succ]
        refine wpAnyG_takeD (i := 25) (d := 74) (v := .int .i64 (n : Int)) _ rfl rfl (by kernel_rfl) (by kernel_rfl) (by kernel_rfl) (by kernel_rfl) (fun _ _ _ h => h) (Or.inl ⟨by kernel_rfl, fun ws hSw => by first | (go_simp; done) | (go_simp; with_reducible rfl) | (go_simp; rfl)⟩) hS ?_
        simp only [Act.put, List.setIfInBounds_toArray, List.set_cons_zero, List.set_cons_succ]
        refine wpAnyG_takeD (i := 26) (d := 75) (v := .int .i64 (j : Int)) _ rfl rfl (by kernel_rfl) (by kernel_rfl) (by kernel_rfl) (by kernel_rfl) (fun _ _ _ h => h) (Or.inl ⟨by kernel_rfl, fun ws hSw => by first | (go_simp; done) | (go_simp; with_reducible rfl) | (go_simp; rfl)⟩) hS ?_
        simp only [Act.put, List.setIfInBounds_toArray, List.set_cons_zero, List.set_cons_succ]
        refine wpAnyG_takeD (i := 27) (d := 76) (v := .pointer (some ⟨g, o + j * 2, none⟩)) _ rfl rfl (by kernel_rfl) (by kernel_rfl) (by kernel_rfl) (by kernel_rfl) (fun _ _ _ h => h) (Or.inl ⟨by kernel_rfl, fun ws hSw => by have q := FT.out ws hSw; first | (go_simp; done) | (go_simp; with_reducible rfl) | (go_simp; rfl) | (go_simp; intro hlt; exfalso; omega) | (go_simp; omega)⟩) hS ?_
        simp only [Act.put, List.setIfInBounds_toArray, List.set_cons_zero, List.set_cons_succ]
        refine wpAnyG_takeD (i := 28) (d := 77) (v := .agg #[.int .i64 ya, .int .i64 yv]) _ rfl rfl (by kernel_rfl) (by kernel_rfl) (by kernel_rfl) (by kernel_rfl) (fun _ _ _ h => h) (Or.inl ⟨by kernel_rfl, fun ws hSw => by have q := FE.out ws hSw; first | (go_simp; done) | (go_simp; with_reducible rfl) | (go_simp; rfl)⟩) hS ?_
        simp only [Act.put, List.setIfInBounds_toArray, List.set_cons_zero, List.set_cons_succ]
        refine wpAnyG_takeD (i := 29) (d := 78) (v := .bool true) _ rfl rfl (by kernel_rfl) (by kernel_rfl) (by kernel_rfl) (by kernel_rfl) (fun _ _ _ h => h) (Or.inl ⟨by kernel_rfl, fun ws hSw => by first | (go_simp; done) | (go_simp; with_reducible rfl) | (go_simp; rfl)⟩) hS ?_
        simp only [Act.put, List.setIfInBounds_toArray, List.set_cons_zero, List.set_cons_succ]
        refine wpAnyG_takeD (i := 30) (d := 79) (v := .bool true) _ rfl rfl (by kernel_rfl) (by kernel_rfl) (by kernel_rfl) (by kernel_rfl) (fun _ _ _ h => h) (Or.inl ⟨by kernel_rfl, fun ws hSw => by first | (go_simp; done) | (go_simp; with_reducible rfl) | (go_simp; rfl)⟩) hS ?_
        simp only [Act.put, List.setIfInBounds_toArray, List.set_cons_zero, List.set_cons_succ]
        refine wpAnyG_takeD (i := 31) (d := 80) (v := .bool true) _ rfl rfl (by kernel_rfl) (by kernel_rfl) (by kernel_rfl) (by kernel_rfl) (fun _ _ _ h => h) (Or.inl ⟨by kernel_rfl, fun ws hSw => by first | (go_simp; done) | (go_simp; with_reducible rfl) | (go_simp; rfl)⟩) hS ?_
        simp only [Act.put, List.setIfInBounds_toArray, List.set_cons_zero, List.set_cons_succ]
        refine wpAnyG_ready (rs := [32]) (by kernel_rfl) (by simp) ?_
        refine AllReadyG.last rfl rfl (fun K hK => ?_)
        go_simp
        rw [HW.out.2.2]
        refine hK _ _ ?_
        try simp only [Act.put, List.setIfInBounds_toArray, List.set_cons_zero, List.set_cons_succ]
        refine wpAnyG_done (by kernel_rfl) ?_
        exact ⟨rfl, rfl, rfl⟩
end Go.Proofs.Ythpmdaioekpipaa
