/- Pods: warmed; Next: how a pod gets on; the law's next; the chapter's example. -/
import Derived.Test.YtcfilaiejccfkaaPoA
namespace Go.Proofs.Ytcfilaiejccfkaa.Po
open Go.RowKit Go.Shelf Go.Lib Go.Sort Go.Deep
open Go.Joins (cell_of_block unfrozen_of_block block_setCell)
set_option linter.unusedVariables false
set_option linter.unusedSimpArgs false
set_option maxRecDepth 20000

/-- Ticks that may be. -/
def Tk (x : Pd) : Prop := 0 ≤ x.since ∧ x.since ≤ 4611686018427387904 ∧ 0 ≤ x.warm ∧ x.warm ≤ 1800
def setPh (x : Pd) (a b : Int) : Pd := { x with ph := a, since := b }
/-- How a pod gets on. -/
def nxt (x : Pd) (now : Int) (there : Bool) : Pd :=
  if x.ph = 3 then x else if x.node.size ≠ 0 ∧ there = false then setPh x 3 now else if x.ph = 1 ∧ x.since + x.warm ≤ now then setPh x 2 (x.since + x.warm) else x
theorem nxt_rows (x : Pd) (now : Int) (there : Bool) : (nxt x now there).lab = x.lab ∧ (nxt x now there).sel = x.sel ∧ (nxt x now there).tol = x.tol ∧ (nxt x now there).warm = x.warm ∧ (nxt x now there).node = x.node ∧ (nxt x now there).own = x.own := by
  unfold nxt
  split
  · exact ⟨rfl, rfl, rfl, rfl, rfl, rfl⟩
  · split
    · exact ⟨rfl, rfl, rfl, rfl, rfl, rfl⟩
    · split <;> exact ⟨rfl, rfl, rfl, rfl, rfl, rfl⟩
theorem nxt_tk {x : Pd} (h : Tk x) {now : Int} (h0 : 0 ≤ now) (h1 : now ≤ 4611686018427387904) (there : Bool) : Tk (nxt x now there) := by
  unfold nxt
  unfold Tk at h
  split
  · exact h
  · split
    · exact ⟨h0, h1, h.2.2.1, h.2.2.2⟩
    · split
      · rename_i hh
        exact ⟨by show 0 ≤ x.since + x.warm; omega, by show x.since + x.warm ≤ _; omega, h.2.2.1, h.2.2.2⟩
      · exact h
/-- Behind that it stays. -/
theorem nxt_again (x : Pd) (now : Int) (there : Bool) : nxt (nxt x now there) now there = nxt x now there := by
  by_cases h3 : x.ph = 3
  · have e : nxt x now there = x := if_pos h3
    rw [e, e]
  · by_cases hn : x.node.size ≠ 0 ∧ there = false
    · have e : nxt x now there = setPh x 3 now := (if_neg h3).trans (if_pos hn)
      rw [e]
      exact if_pos rfl
    · by_cases hb : x.ph = 1 ∧ x.since + x.warm ≤ now
      · have e : nxt x now there = setPh x 2 (x.since + x.warm) := (if_neg h3).trans ((if_neg hn).trans (if_pos hb))
        rw [e]
        exact (if_neg (by show ¬ (2 : Int) = 3; decide)).trans ((if_neg hn).trans (if_neg (by show ¬ ((2 : Int) = 1 ∧ _); omega)))
      · have e : nxt x now there = x := (if_neg h3).trans ((if_neg hn).trans (if_neg hb))
        rw [e, e]
theorem set_pd {w : World} {P : Array Value} {x : Pd} (h : PdS w P x) (a b : Int) : PdS w ((P.setIfInBounds 2 (.int .i64 a)).setIfInBounds 3 (.int .i64 b)) (setPh x a b) := by
  obtain ⟨a0, a1, a2, a3, a4, a5, a6, a7, a8, a9, a10⟩ := h
  obtain ⟨d0, d1, d2, d3, d4, d5, d6, d7, d8, d9, rfl⟩ := arr10 a0
  exact ⟨rfl, a1, a2, rfl, rfl, a5, a6, a7, a8, a9, a10⟩
theorem set_own {N : Nat} {w : World} {P : Array Value} {x : Pd} (h : OwnP N w x P) (a b : Int) : OwnP N w (setPh x a b) ((P.setIfInBounds 2 (.int .i64 a)).setIfInBounds 3 (.int .i64 b)) := by
  have ne : ∀ i, 3 < i → ((P.setIfInBounds 2 (.int .i64 a)).setIfInBounds 3 (.int .i64 b))[i]? = P[i]? := fun i hi => by
    rw [Array.getElem?_setIfInBounds_ne (by omega), Array.getElem?_setIfInBounds_ne (by omega)]
  exact ⟨h.1.keep (fun _ _ _ => rfl) (ne 6 (by decide)), h.2.1.keep (fun _ _ _ => rfl) (ne 7 (by decide)), h.2.2.keep (fun _ _ _ => rfl) (ne 8 (by decide))⟩

set_option maxHeartbeats 2000000 in
theorem warmed_any (w : World) (P : Array Value) (x : Pd) (now : Int) (hv : PdS w P x) (ht : Tk x) :
    Calls Try.prog 16 #[.agg P, .int .i64 now] w fun e w' => e = .returned (.tuple #[.int .i64 (x.since + x.warm), .bool (decide (x.since + x.warm ≤ now))]) ∧ Gr w w' := by
  obtain ⟨h1, h2, h3, h4⟩ := ht
  have b : (w.alloc (.cells P PT)).heap[w.heap.size]? = some (.cells P PT (0, 0)) := heap_alloc_new w _
  have c3 : (w.alloc (.cells P PT)).cell? ⟨w.heap.size, 3, none⟩ = some (.int .i64 x.since) := by rw [cell_of_block b]; exact hv.2.2.2.2.1
  have c9 : (w.alloc (.cells P PT)).cell? ⟨w.heap.size, 9, none⟩ = some (.int .i64 x.warm) := by rw [cell_of_block b]; exact hv.2.2.2.2.2.2.2.2.2.2
  have G := Lib.hid ((Gr.refl w).alloc (.cells P PT))
  generalize x.since = s at *
  generalize x.warm = m at *
  obtain ⟨E, hE⟩ : ∃ E, E = s + m := ⟨_, rfl⟩
  have e1 : IntKind.i64.wrap (s + m) = E := by rw [hE, IntKind.wrap_i64]; omega
  have t2 : decide (E < s) = false := decide_eq_false (by omega)
  have t3 : decide (m < 0) = false := decide_eq_false (by omega)
  rw [← hE]
  obtain ⟨d, hd⟩ : ∃ d, decide (E ≤ now) = d := ⟨_, rfl⟩
  rw [hd]
  by_cases hm : 0 < m
  · have t1 : decide (0 < m) = true := decide_eq_true hm
    clear hv h1 h2 h3 h4 b hE hm
    go_enter Try.func16, Try.ntmps16
    go_wp2
    go_ret2
    exact ⟨rfl, G.out⟩
  · have t1 : decide (0 < m) = false := decide_eq_false hm
    clear hv h1 h2 h3 h4 b hE hm
    go_enter Try.func16, Try.ntmps16
    go_wp2
    go_ret2
    exact ⟨rfl, G.out⟩

/-- What a walk of Next ends with. -/
theorem next_end {w0 w3 : World} {B : Nat} {P : Array Value} {y : Pd} (hB : B = w0.heap.size) (b : w3.heap[B]? = some (.cells P PT (0, 0))) (b1 : w3.heap[B + 1]? = some (.cells zerP PT (0, 0))) (v : PdS w3 P y) (o : OwnP (B + 2) w3 y P) (low : Below w0.heap.size w0 w3) :
    Hid ((Instr.loadAt PT (.pointer (some ⟨B, 0, none⟩))).run Try.prog w3 = .ok (.agg P) w3) ∧ Hid (w3.there (B + 1) 0 P.size) ∧ Hid ((Try.prog.info? PT).map (·.size) = some P.size) ∧ Hid (P.all (·.oneCell') = true) ∧
    Hid ((w3.setCells (B + 1) 0 P.toList).heap[B + 1]? = some (.cells P PT (0, 0))) ∧ Hid ((∃ P', Ending.returned (.agg P) = .returned (.agg P') ∧ PdS (w3.setCells (B + 1) 0 P.toList) P' y ∧ OwnP w0.heap.size (w3.setCells (B + 1) 0 P.toList) y P') ∧ Below w0.heap.size w0 (w3.setCells (B + 1) 0 P.toList)) := by
  have k : OwnP (B + 2) (w3.setCells (B + 1) 0 P.toList) y P := o.keep (fun g h1 h2 => setCells_out _ _ _ _ _ (by omega))
  exact ⟨load_pd b v.1, Ld.there_block b1 (by rw [v.1]; rfl), by show _ = _; rw [v.1]; exact info_pt, v.one, Ld.laid b1 (by rw [v.1]; rfl), ⟨P, rfl, v.own k, k.less (by omega)⟩, Ld.below_setCells _ _ _ (by omega) low⟩

set_option maxHeartbeats 8000000 in
theorem next_any (w0 : World) (P0 : Array Value) (x : Pd) (now : Int) (there : Bool) (hv : PdS w0 P0 x) (hn : NilP P0) (hs : x.lab.length ≤ 1000 ∧ x.sel.length ≤ 1000 ∧ x.tol.length ≤ 1000) (ht : Tk x) :
    Calls Try.prog 7 #[.agg P0, .int .i64 now, .bool there] w0 fun e w' => (∃ P, e = .returned (.agg P) ∧ PdS w' P (nxt x now there) ∧ OwnP w0.heap.size w' (nxt x now there) P) ∧ Below w0.heap.size w0 w' := by
  obtain ⟨B, hB⟩ : ∃ B, B = w0.heap.size := ⟨_, rfl⟩
  obtain ⟨w, hw⟩ : ∃ W, W = (w0.alloc (.cells P0 PT)).alloc (.cells zerP PT) := ⟨_, rfl⟩
  have G0 : Gr w0 w := hw ▸ ((Gr.refl w0).alloc _).alloc _
  have b0 : w.heap[B]? = some (.cells P0 PT (0, 0)) := by
    rw [hw, hB, ((Gr.refl (w0.alloc (.cells P0 PT))).alloc _).heap (by simp)]
    exact heap_alloc_new w0 _
  have b1 : w.heap[B + 1]? = some (.cells zerP PT (0, 0)) := by
    rw [hw, hB]
    have := heap_alloc_new (w0.alloc (.cells P0 PT)) (.cells zerP PT)
    simpa using this
  have hws : w.heap.size = B + 2 := by rw [hw, hB]; simp
  have LO := Lib.hid (load_pd b0 hv.1)
  have CR := Lib.hid (renew_any w P0 x (hv.below G0.below) hn hs)
  have HW := Lib.hid (And.intro hw (And.intro hB (And.intro hws (And.intro b0 (And.intro b1 (And.intro G0 (And.intro hv.1 ht)))))))
  clear hv hn hs ht hw hB hws b0 b1 G0
  go_enter Try.func7, Try.ntmps7
  go_upto_region 1 with fail
  rw [← HW.out.1, ← HW.out.2.1]
  go_wp2_with (refine wpList_load_by (by kernel_rfl) PT _ rfl (.pointer (some ⟨B, 0, none⟩)) (.agg P0) (by kernel_rfl) LO.out ?_)
  refine CR.out.mono ?_
  rintro e m ⟨⟨P, rfl, pd, po⟩, hb⟩
  obtain ⟨hw, hB, hws, b0, b1, G0, hz, ht⟩ := HW.out
  have bm0 : m.heap[B]? = some (.cells P0 PT (0, 0)) := (hb.block B (by omega)).trans b0
  have bm1 : m.heap[B + 1]? = some (.cells zerP PT (0, 0)) := (hb.block (B + 1) (by omega)).trans b1
  have TH := Lib.hid (Ld.there_block bm0 (n := P.size) (by rw [pd.1, hz]))
  have IN : Hid ((Try.prog.info? PT).map (·.size) = some P.size) := by show _ = _; rw [pd.1]; exact info_pt
  have ON := Lib.hid pd.one
  obtain ⟨n, hn⟩ : ∃ n, n = m.setCells B 0 P.toList := ⟨_, rfl⟩
  have nB : n.heap[B]? = some (.cells P PT (0, 0)) := by rw [hn]; exact Ld.laid bm0 (by rw [pd.1, hz])
  have nB1 : n.heap[B + 1]? = some (.cells zerP PT (0, 0)) := by rw [hn, setCells_out _ _ _ _ _ (by omega)]; exact bm1
  have nO : OwnP (B + 2) n x P := by
    have := po.keep (w' := n) (fun g h1 h2 => by rw [hn]; exact setCells_out _ _ _ _ _ (by omega))
    rwa [hws] at this
  have nV : PdS n P x := pd.own nO
  have nL : Below w0.heap.size w0 n := by
    rw [hn]
    exact Ld.below_setCells _ _ _ (by omega) (G0.below.trans (hb.mono G0.size))
  have LN := Lib.hid (load_pd nB nV.1)
  have CW := Lib.hid (warmed_any n P x now nV ht)
  have HN := Lib.hid (And.intro hn (And.intro hB (And.intro nB (And.intro nB1 (And.intro nO (And.intro nV nL))))))
  clear hw hB hws b0 b1 G0 hz ht bm0 bm1 hn nB nB1 nO nV nL pd po hb CR LO
  go_upto_region 2 with (refine wpList_store_mid rfl _ _ _ rfl B 0 P (by rfl) (by rfl) TH.out IN.out ON.out ?_)
  rw [← HN.out.1]
  clear TH IN ON HW
  go_wp2_with (refine wpList_load_by (by kernel_rfl) PT _ rfl (.pointer (some ⟨B, 0, none⟩)) (.agg P) (by kernel_rfl) LN.out ?_)
  refine CW.out.mono ?_
  rintro e w2 ⟨rfl, g2⟩
  obtain ⟨hn, hB, nB, nB1, nO, nV, nL⟩ := HN.out
  have hlt : B < n.heap.size := (Array.getElem?_eq_some_iff.1 nB).1
  have hlt1 : B + 1 < n.heap.size := (Array.getElem?_eq_some_iff.1 nB1).1
  have B2 : w2.heap[B]? = some (.cells P PT (0, 0)) := (g2.heap hlt).trans nB
  have B21 : w2.heap[B + 1]? = some (.cells zerP PT (0, 0)) := (g2.heap hlt1).trans nB1
  have O2 : OwnP (B + 2) w2 x P := nO.keep (fun g h1 h2 => g2.heap h2)
  have V2 : PdS w2 P x := nV.own O2
  have L2 : Below w0.heap.size w0 w2 := nL.trans (g2.below.mono nL.size)
  have c1 : w2.cell? ⟨B, 1, none⟩ = some (.string x.node) := by rw [cell_of_block B2]; exact V2.2.2.1
  have c2 : w2.cell? ⟨B, 2, none⟩ = some (.int .i64 x.ph) := by rw [cell_of_block B2]; exact V2.2.2.2.1
  have c3 : w2.cell? ⟨B, 3, none⟩ = some (.int .i64 x.since) := by rw [cell_of_block B2]; exact V2.2.2.2.2.1
  have u2 := unfrozen_of_block B2 2
  have u3 := unfrozen_of_block B2 3
  have H2 := Lib.hid (And.intro hB (And.intro B2 (And.intro B21 (And.intro O2 (And.intro V2 L2)))))
  clear hn hB nB nB1 nO nV nL hlt hlt1 B2 B21 O2 V2 L2 g2 HN CW LN
  have stay : nxt x now there = x → Hid ((Instr.loadAt PT (.pointer (some ⟨B, 0, none⟩))).run Try.prog w2 = .ok (.agg P) w2) ∧ Hid (w2.there (B + 1) 0 P.size) ∧ Hid ((Try.prog.info? PT).map (·.size) = some P.size) ∧ Hid (P.all (·.oneCell') = true) ∧ Hid ((w2.setCells (B + 1) 0 P.toList).heap[B + 1]? = some (.cells P PT (0, 0))) ∧ Hid ((∃ P', Ending.returned (.agg P) = .returned (.agg P') ∧ PdS (w2.setCells (B + 1) 0 P.toList) P' (nxt x now there) ∧ OwnP w0.heap.size (w2.setCells (B + 1) 0 P.toList) (nxt x now there) P') ∧ Below w0.heap.size w0 (w2.setCells (B + 1) 0 P.toList)) := fun e => by
    rw [e]
    obtain ⟨hB, B2, B21, O2, V2, L2⟩ := H2.out
    exact next_end hB B2 B21 V2 O2 L2
  have turn : ∀ a b, nxt x now there = setPh x a b → ∃ w3 Q, w3 = (w2.setCell ⟨B, 2, none⟩ (.int .i64 a)).setCell ⟨B, 3, none⟩ (.int .i64 b) ∧ Hid ((Instr.loadAt PT (.pointer (some ⟨B, 0, none⟩))).run Try.prog w3 = .ok (.agg Q) w3) ∧ Hid (w3.there (B + 1) 0 Q.size) ∧ Hid ((Try.prog.info? PT).map (·.size) = some Q.size) ∧ Hid (Q.all (·.oneCell') = true) ∧ Hid ((w3.setCells (B + 1) 0 Q.toList).heap[B + 1]? = some (.cells Q PT (0, 0))) ∧ Hid ((∃ P', Ending.returned (.agg Q) = .returned (.agg P') ∧ PdS (w3.setCells (B + 1) 0 Q.toList) P' (nxt x now there) ∧ OwnP w0.heap.size (w3.setCells (B + 1) 0 Q.toList) (nxt x now there) P') ∧ Below w0.heap.size w0 (w3.setCells (B + 1) 0 Q.toList)) := fun a b e => by
    rw [e]
    obtain ⟨hB, B2, B21, O2, V2, L2⟩ := H2.out
    have out : ∀ g, g ≠ B → ((w2.setCell ⟨B, 2, none⟩ (.int .i64 a)).setCell ⟨B, 3, none⟩ (.int .i64 b)).heap[g]? = w2.heap[g]? := fun g hg => by
      rw [Below.heap_setCell _ _ _ _ (by show g ≠ B; exact hg), Below.heap_setCell _ _ _ _ (by show g ≠ B; exact hg)]
    have O3 := set_own (O2.keep (w' := (w2.setCell ⟨B, 2, none⟩ (.int .i64 a)).setCell ⟨B, 3, none⟩ (.int .i64 b)) (fun g h1 h2 => out g (by omega))) a b
    have V3 := (set_pd V2 a b).own O3
    refine ⟨_, _, rfl, next_end hB (block_setCell (block_setCell B2 _) _) ((out _ (by omega)).trans B21) V3 O3 ?_⟩
    have xx := ((Xb.refl B w2).setCell 2 (.int .i64 a)).setCell 3 (.int .i64 b)
    exact L2.trans (xx.below (by omega) L2.size)
  have ST := Lib.hid stay
  have TN := Lib.hid turn
  clear stay turn
  obtain ⟨E, hE⟩ : ∃ E, E = x.since + x.warm := ⟨_, rfl⟩
  have HE := Lib.hid hE
  obtain ⟨d, hd⟩ : ∃ d, decide (x.since + x.warm ≤ now) = d := ⟨_, rfl⟩
  have HD := Lib.hid hd
  rw [← hE] at hd ⊢
  rw [hd]
  clear hE hd
  by_cases h3 : x.ph = 3
  · have t1 : (x.ph == 3) = true := by simp [h3]
    obtain ⟨LD, TH, IN, ON, EB, EF⟩ := ST.out (if_pos h3)
    clear ST TN H2 HE HD h3
    go_wp2_with (first | (refine wpList_load_by (by kernel_rfl) PT _ rfl (.pointer (some ⟨B, 0, none⟩)) (.agg P) (by kernel_rfl) LD.out ?_) | (refine wpList_store_mid rfl _ _ _ rfl (B + 1) 0 P (by rfl) (by rfl) TH.out IN.out ON.out ?_))
    refine bodyPost_ret (results_cell_row rfl _ _ (B + 1) PT P (0, 0) _ (by rfl) EB.out Try.underlying28 rfl IN.out) rfl ?_
    exact EF.out
  · have t1 : (x.ph == 3) = false := by simp [h3]
    by_cases hz : x.node.size = 0
    · have en := empty_of hz
      rw [en] at c1
      have hneg : ¬ (x.node.size ≠ 0 ∧ there = false) := fun h => h.1 hz
      by_cases h1 : x.ph = 1
      · have t2 : (x.ph == 1) = true := by simp [h1]
        cases d with
        | true =>
          obtain ⟨w3, Q, hw3, LD, TH, IN, ON, EB, EF⟩ := TN.out (2) (x.since + x.warm) ((if_neg h3).trans ((if_neg hneg).trans (if_pos ⟨h1, of_decide_eq_true HD.out⟩)))
          rw [← HE.out] at hw3
          have HW3 := Lib.hid hw3
          clear hw3 ST TN H2 HE HD h1 h3 hneg hz en
          go_upto_region 8 with fail
          rw [← HW3.out]
          go_wp2_with (first | (refine wpList_load_by (by kernel_rfl) PT _ rfl (.pointer (some ⟨B, 0, none⟩)) (.agg Q) (by kernel_rfl) LD.out ?_) | (refine wpList_store_mid rfl _ _ _ rfl (B + 1) 0 Q (by rfl) (by rfl) TH.out IN.out ON.out ?_))
          refine bodyPost_ret (results_cell_row rfl _ _ (B + 1) PT Q (0, 0) _ (by rfl) EB.out Try.underlying28 rfl IN.out) rfl ?_
          exact EF.out
        | false =>
          obtain ⟨LD, TH, IN, ON, EB, EF⟩ := ST.out ((if_neg h3).trans ((if_neg hneg).trans (if_neg (fun h => of_decide_eq_false HD.out h.2))))
          clear ST TN H2 HE HD h1 h3 hneg hz en
          go_wp2_with (first | (refine wpList_load_by (by kernel_rfl) PT _ rfl (.pointer (some ⟨B, 0, none⟩)) (.agg P) (by kernel_rfl) LD.out ?_) | (refine wpList_store_mid rfl _ _ _ rfl (B + 1) 0 P (by rfl) (by rfl) TH.out IN.out ON.out ?_))
          refine bodyPost_ret (results_cell_row rfl _ _ (B + 1) PT P (0, 0) _ (by rfl) EB.out Try.underlying28 rfl IN.out) rfl ?_
          exact EF.out
      · have t2 : (x.ph == 1) = false := by simp [h1]
        obtain ⟨LD, TH, IN, ON, EB, EF⟩ := ST.out ((if_neg h3).trans ((if_neg hneg).trans (if_neg (fun h => h1 h.1))))
        clear ST TN H2 HE HD h1 h3 hneg hz en
        go_wp2_with (first | (refine wpList_load_by (by kernel_rfl) PT _ rfl (.pointer (some ⟨B, 0, none⟩)) (.agg P) (by kernel_rfl) LD.out ?_) | (refine wpList_store_mid rfl _ _ _ rfl (B + 1) 0 P (by rfl) (by rfl) TH.out IN.out ON.out ?_))
        refine bodyPost_ret (results_cell_row rfl _ _ (B + 1) PT P (0, 0) _ (by rfl) EB.out Try.underlying28 rfl IN.out) rfl ?_
        exact EF.out
    · have tn := bne_empty hz
      cases there with
      | false =>
        obtain ⟨w3, Q, hw3, LD, TH, IN, ON, EB, EF⟩ := TN.out (3) (now) ((if_neg h3).trans (if_pos ⟨hz, rfl⟩))
        have HW3 := Lib.hid hw3
        clear hw3 ST TN H2 HE HD h3 hz
        go_upto_region 8 with fail
        rw [← HW3.out]
        go_wp2_with (first | (refine wpList_load_by (by kernel_rfl) PT _ rfl (.pointer (some ⟨B, 0, none⟩)) (.agg Q) (by kernel_rfl) LD.out ?_) | (refine wpList_store_mid rfl _ _ _ rfl (B + 1) 0 Q (by rfl) (by rfl) TH.out IN.out ON.out ?_))
        refine bodyPost_ret (results_cell_row rfl _ _ (B + 1) PT Q (0, 0) _ (by rfl) EB.out Try.underlying28 rfl IN.out) rfl ?_
        exact EF.out
      | true =>
        have hneg : ¬ (x.node.size ≠ 0 ∧ true = false) := fun h => by cases h.2
        by_cases h1 : x.ph = 1
        · have t2 : (x.ph == 1) = true := by simp [h1]
          cases d with
          | true =>
            obtain ⟨w3, Q, hw3, LD, TH, IN, ON, EB, EF⟩ := TN.out (2) (x.since + x.warm) ((if_neg h3).trans ((if_neg hneg).trans (if_pos ⟨h1, of_decide_eq_true HD.out⟩)))
            rw [← HE.out] at hw3
            have HW3 := Lib.hid hw3
            clear hw3 ST TN H2 HE HD h1 h3 hneg hz
            go_upto_region 8 with fail
            rw [← HW3.out]
            go_wp2_with (first | (refine wpList_load_by (by kernel_rfl) PT _ rfl (.pointer (some ⟨B, 0, none⟩)) (.agg Q) (by kernel_rfl) LD.out ?_) | (refine wpList_store_mid rfl _ _ _ rfl (B + 1) 0 Q (by rfl) (by rfl) TH.out IN.out ON.out ?_))
            refine bodyPost_ret (results_cell_row rfl _ _ (B + 1) PT Q (0, 0) _ (by rfl) EB.out Try.underlying28 rfl IN.out) rfl ?_
            exact EF.out
          | false =>
            obtain ⟨LD, TH, IN, ON, EB, EF⟩ := ST.out ((if_neg h3).trans ((if_neg hneg).trans (if_neg (fun h => of_decide_eq_false HD.out h.2))))
            clear ST TN H2 HE HD h1 h3 hneg hz
            go_wp2_with (first | (refine wpList_load_by (by kernel_rfl) PT _ rfl (.pointer (some ⟨B, 0, none⟩)) (.agg P) (by kernel_rfl) LD.out ?_) | (refine wpList_store_mid rfl _ _ _ rfl (B + 1) 0 P (by rfl) (by rfl) TH.out IN.out ON.out ?_))
            refine bodyPost_ret (results_cell_row rfl _ _ (B + 1) PT P (0, 0) _ (by rfl) EB.out Try.underlying28 rfl IN.out) rfl ?_
            exact EF.out
        · have t2 : (x.ph == 1) = false := by simp [h1]
          obtain ⟨LD, TH, IN, ON, EB, EF⟩ := ST.out ((if_neg h3).trans ((if_neg hneg).trans (if_neg (fun h => h1 h.1))))
          clear ST TN H2 HE HD h1 h3 hneg hz
          go_wp2_with (first | (refine wpList_load_by (by kernel_rfl) PT _ rfl (.pointer (some ⟨B, 0, none⟩)) (.agg P) (by kernel_rfl) LD.out ?_) | (refine wpList_store_mid rfl _ _ _ rfl (B + 1) 0 P (by rfl) (by rfl) TH.out IN.out ON.out ?_))
          refine bodyPost_ret (results_cell_row rfl _ _ (B + 1) PT P (0, 0) _ (by rfl) EB.out Try.underlying28 rfl IN.out) rfl ?_
          exact EF.out
end Go.Proofs.Ytcfilaiejccfkaa.Po
