/- An object is made ready; it is put in. -/
import Derived.Test.YtacgbagcddjlnaaStC
--VaH
namespace Go.Proofs.Ytacgbagcddjlnaa
open Go.RowKit Go.Shelf Go.Lib Go.Sort
open Go.Joins (cell_of_block unfrozen_of_block block_setCell)
set_option linter.unusedVariables false
set_option linter.unusedSimpArgs false
set_option maxRecDepth 20000

set_option maxHeartbeats 4000000 in
theorem put_any (base : Nat) (w : World) (S : List Nat) (sp : Nat) (most what : Int) (l : List Ob) (hist : List Ev) (cs : Array Value) (o : Ob) (h : StIs base w S sp most l hist) (hc : Kept base w cs o) (hk : OkK o) (hn : hist.length < 1000000) :
    Calls Try.prog 28 #[.pointer (some ⟨sp, 0, none⟩), .int .i64 what, .agg cs] w fun e w' => e = .returned (.int .u64 ((hist.length + 1 : Nat) : Int)) ∧
      After base w w' S sp most (put l (setV o (hist.length + 1))) (hist ++ [⟨what, o.kind, o.name, hist.length + 1⟩]) := by
  have mixed : Try.prog.follows .mixedOrders = true := by kernel_rfl
  obtain ⟨mb, D, ev, kept, h⟩ := h
  obtain ⟨B, hB⟩ : ∃ B, B = w.heap.size := ⟨_, rfl⟩
  obtain ⟨wb, hwb⟩ : ∃ wb, wb = w.alloc (.cells cs OT) := ⟨_, rfl⟩
  have G0 : Gr w wb := hwb ▸ (Gr.refl w).alloc _
  have b0 : wb.heap[B]? = some (.cells cs OT (0, 0)) := by rw [hwb, hB]; exact heap_alloc_new w _
  have LO := Lib.hid (load_ob b0 hc.obj.1)
  have CK := Lib.hid (key_any wb cs o.kind o.name hc.obj.2.1.1 hc.obj.2.1.2.1)
  have HH := Lib.hid (And.intro h (And.intro hc (And.intro hk (And.intro hwb (And.intro hB (And.intro G0 b0))))))
  have hkl : kept.length ≤ 1024 := by have := h.ring.1; omega
  clear h hc hk G0 b0
  go_enter Try.func28, Try.ntmps28
  go_upto_region 1 with fail
  rw [← hwb, ← hB]
  clear hwb hB
  go_wp2_with (refine wpList_load_by (by kernel_rfl) OT _ rfl (.pointer (some ⟨B, 0, none⟩)) (.agg cs) (by kernel_rfl) LO.out ?_)
  refine CK.out.mono ?_
  rintro e w1 ⟨rfl, g1⟩
  obtain ⟨h, hc, hk, hwb, hB, G0, b0⟩ := HH.out
  have G1 := G0.trans g1
  have CN := Lib.hid (note_any base w1 sp mb hist.length most what o.kind o.name ev kept (Nat.le_trans h.bw G1.below.size) ((G1.heap (Array.getElem?_eq_some_iff.1 h.blk).1).trans h.blk) (own_block h.evs (fun g hg => G1.heap (own_prot h.evs (Nat.le_refl _) rfl g hg).2.1)) (by omega) hkl)
  have HG := Lib.hid (And.intro G1 g1)
  clear h hc hk hwb hB G0 b0 g1 G1
  go_wp2_with fail
  refine CN.out.mono ?_
  rintro e w2 ⟨rfl, ⟨ev', kept', hs2, ho2, hr2, hf2⟩, c2⟩
  obtain ⟨h, hc, hk, hwb, hB, G0, b0⟩ := HH.out
  obtain ⟨G1, g1⟩ := HG.out
  have hbs : sp < w.heap.size ∧ mb < w.heap.size ∧ (∀ g, ev.ownBlock = some g → g < w.heap.size) := ⟨(h.prot sp (by rw [h.fp]; simp)).2.1, (h.prot mb (by rw [h.fp]; simp)).2.1, fun g hg => (h.prot g (by rw [h.fp, hg]; simp)).2.1⟩
  have nB : B ∉ sp :: ev.ownBlock.toList := by
    intro hm
    simp only [List.mem_cons, Option.mem_toList] at hm
    rcases hm with rfl | hm
    · omega
    · have := hbs.2.2 B hm; omega
  have hlt1 : w.heap.size < w1.heap.size := by
    have := g1.below.size
    have e : wb.heap.size = w.heap.size + 1 := by rw [hwb]; simp
    omega
  have b2 : w2.heap[B]? = some (.cells cs OT (0, 0)) := (c2.block B (by omega) nB).trans ((g1.heap (Array.getElem?_eq_some_iff.1 b0).1).trans b0)
  obtain ⟨w3, hw3⟩ : ∃ W, W = w2.setCell ⟨B, 2, none⟩ (.int .u64 ((hist.length : Int) + 1)) := ⟨_, rfl⟩
  obtain ⟨cs', hcs'⟩ : ∃ c, c = cs.setIfInBounds 2 (.int .u64 ((hist.length + 1 : Nat) : Int)) := ⟨_, rfl⟩
  have b3 : w3.heap[B]? = some (.cells cs' OT (0, 0)) := by
    rw [hw3, block_setCell b2, hcs']
    push_cast
    rfl
  have C13 : Chg S w w3 := by
    have a : Chg (sp :: ev.ownBlock.toList) w w2 := (Chg.ofGr G1 _).trans c2 (fun g hg => .inl hg)
    have a' : Chg S w w2 := a.less (fun g hg => .inl (by
      rw [h.fp]
      simp only [List.mem_cons] at hg ⊢
      rcases hg with hg | hg
      · exact .inl hg
      · exact .inr (.inr hg)))
    rw [hw3]
    exact a'.setCell 2 _ (.inr (by omega))
  have FX : Fx base w w3 := C13.fx (fun g hg _ => (h.prot g hg).2.2)
  have hs3 : w3.heap[sp]? = some (.cells (stC most (hist.length + 1) mb ev') ST (0, 0)) := by
    rw [hw3, heap_setCell_other _ _ _ _ (by show sp ≠ B; omega)]
    exact hs2
  have ho3 : w3.ownsRow base ET 4 ev' kept'.length (flat encE kept') := by
    rw [hw3]
    refine ownsRow_setCell_other ho2 (fun e => ?_) _
    rcases hf2 B e with h4 | h4
    · exact nB (by rw [h4]; simp)
    · obtain ⟨q2, c', hx⟩ := own_slice ho2
      have := own_ne ho2 b2 (by decide)
      exact this e
  have hm3 : w3.heap[mb]? = w.heap[mb]? := by
    have a : Chg (sp :: ev.ownBlock.toList) w w2 := (Chg.ofGr G1 _).trans c2 (fun g hg => .inl hg)
    rw [hw3, heap_setCell_other _ _ _ _ (by show mb ≠ B; omega)]
    refine a.block mb hbs.2.1 (fun hm => ?_)
    obtain ⟨es, c, q1, _⟩ := h.map.own
    simp only [List.mem_cons, Option.mem_toList] at hm
    rcases hm with rfl | hm
    · rw [h.blk] at q1; cases q1
    · rcases h.evs.2 with ⟨e, _⟩ | ⟨g', cap, cur, e, _, h3, _⟩
      · rw [e] at hm; cases hm
      · rw [e] at hm
        simp [Value.ownBlock] at hm
        subst hm
        rw [q1] at h3; cases h3
  have M3 : MapIs base w3 mb hist.length D l := h.map.fx hm3 FX
  have K3 : Kept base w3 cs' (setV o (hist.length + 1)) := by
    rw [hcs']
    exact (hc.fx FX).setV (by omega)
  have ok3 : OkK (setV o (hist.length + 1)) := hk
  have f2 : w2.frozen? ⟨B, 2, none⟩ = false := unfrozen_of_block b2 2
  have q2 : w2.cell? ⟨B, 2, none⟩ = some (.int .u64 (o.ver : Int)) := (cell_of_block b2 2).trans hc.obj.2.1.2.2.1
  have HW3 : Hid (w2.setCell ⟨B, 2, none⟩ (.int .u64 ((hist.length : Int) + 1)) = w3) := hw3.symm
  have H1 : Hid (w.heap.size ≤ w1.heap.size) := G1.below.size
  have H3 := Lib.hid (And.intro b3 (And.intro C13 (And.intro hs3 (And.intro ho3 (And.intro M3 (And.intro K3 (And.intro ok3 (And.intro hr2 (And.intro hf2 (And.intro h hbs))))))))))
  have hsz : cs'.size = 47 := K3.obj.1
  have hmapc : w3.cell? ⟨sp, 2, none⟩ = some (.map (some mb)) := cell_of_block hs3 2
  have S0 : Hid (w3.drew.cell? ⟨sp, 2, none⟩ = some (.map (some mb)) ∧ w3.drew.heap[B]? = some (.cells cs' OT (0, 0))) := ⟨hmapc, b3⟩
  clear LO CK CN HH HG hs2 ho2 hr2 hf2 c2 h hc hk hwb hB G0 b0 G1 g1 hbs nB hlt1 b2 hw3 b3 C13 FX hs3 ho3 hm3 M3 K3 ok3 hcs'
  have KC : Hid (∀ ws : World, (ws.cell? ⟨sp, 2, none⟩ = some (.map (some mb)) ∧ ws.heap[B]? = some (.cells cs' OT (0, 0))) → ws.cell? ⟨sp, 2, none⟩ = some (.map (some mb))) := fun ws h => h.1
  have KL : Hid (∀ ws : World, (ws.cell? ⟨sp, 2, none⟩ = some (.map (some mb)) ∧ ws.heap[B]? = some (.cells cs' OT (0, 0))) → ws.rangeAt B 0 cs'.toList) := fun ws h => rangeAt_block h.2
  have hi : (Try.prog.info? OT).map (·.size) = some cs'.toList.length := by rw [Array.length_toList, hsz]; exact info_ob47
  have hu := Try.underlying56
  go_upto_region 2 with fail
  rw [HW3.out]
  refine wp_region_held_drew (S := fun ws => ws.cell? ⟨sp, 2, none⟩ = some (.map (some mb)) ∧ ws.heap[B]? = some (.cells cs' OT (0, 0))) mixed S0.out (fun hS => ?_)
  refine wpAnyH_takeD (i := 0) (d := 13) (v := .pointer (some ⟨sp, 0, none⟩)) _ rfl rfl (by kernel_rfl) (by kernel_rfl) (by kernel_rfl) (fun _ _ _ h => h) (Or.inl ⟨by kernel_rfl, fun ws hSw => by first | (go_simp; done) | (go_simp; with_reducible rfl) | (go_simp; rfl)⟩) hS ?_
  simp only [Act.put, List.setIfInBounds_toArray, List.set_cons_zero, List.set_cons_succ]
  refine wpAnyH_takeD (i := 1) (d := 14) (v := .pointer (some ⟨sp, 0, none⟩)) _ rfl rfl (by kernel_rfl) (by kernel_rfl) (by kernel_rfl) (fun _ _ _ h => h) (Or.inl ⟨by kernel_rfl, fun ws hSw => by first | (go_simp; done) | (go_simp; with_reducible rfl) | (go_simp; rfl)⟩) hS ?_
  simp only [Act.put, List.setIfInBounds_toArray, List.set_cons_zero, List.set_cons_succ]
  refine wpAnyH_takeD (i := 2) (d := 15) (v := .pointer (some ⟨sp, 2, none⟩)) _ rfl rfl (by kernel_rfl) (by kernel_rfl) (by kernel_rfl) (fun _ _ _ h => h) (Or.inl ⟨by kernel_rfl, fun ws hSw => by first | (go_simp; done) | (go_simp; with_reducible rfl) | (go_simp; rfl)⟩) hS ?_
  simp only [Act.put, List.setIfInBounds_toArray, List.set_cons_zero, List.set_cons_succ]
  refine wpAnyH_takeD (i := 3) (d := 16) (v := .map (some mb)) _ rfl rfl (by kernel_rfl) (by kernel_rfl) (by kernel_rfl) (fun _ _ _ h => h) (Or.inl ⟨by kernel_rfl, fun ws hSw => by have q := KC.out ws hSw; first | (go_simp; done) | (go_simp; with_reducible rfl) | (go_simp; rfl)⟩) hS ?_
  simp only [Act.put, List.setIfInBounds_toArray, List.set_cons_zero, List.set_cons_succ]
  refine wpAnyH_takeD (i := 4) (d := 17) (v := .agg cs'.toList.toArray) _ rfl rfl (by kernel_rfl) (by kernel_rfl) (by kernel_rfl) (fun _ _ _ h => h) (yieldsIf_load_mid (by kernel_rfl) _ _ rfl B 0 (by kernel_rfl) cs'.toList _ (fun ws hSw => KL.out ws hSw) hu rfl hi) hS ?_
  simp only [Act.put, List.setIfInBounds_toArray, List.set_cons_zero, List.set_cons_succ]
  refine wpAnyH_takeD (i := 6) (d := 19) (v := .agg cs'.toList.toArray) _ rfl rfl (by kernel_rfl) (by kernel_rfl) (by kernel_rfl) (fun _ _ _ h => h) (yieldsIf_load_mid (by kernel_rfl) _ _ rfl B 0 (by kernel_rfl) cs'.toList _ (fun ws hSw => KL.out ws hSw) hu rfl hi) hS ?_
  simp only [Act.put, List.setIfInBounds_toArray, List.set_cons_zero, List.set_cons_succ]
  refine wpAnyH_ready (rs := [5]) (by kernel_rfl) (by simp) ?_
  refine AllReadyH.cons rfl (fun K hK => ?_) AllReadyH.nil
  go_simp
  have CK : Hid (Calls Try.prog 27 #[.agg cs'] w3.drew _) := key_any w3.drew cs' o.kind o.name H3.out.2.2.2.2.2.1.obj.2.1.1 H3.out.2.2.2.2.2.1.obj.2.1.2.1
  refine CK.out.mono ?_
  rintro e w4 ⟨rfl, g4⟩
  obtain ⟨b3, C13, hs3, ho3, M3, K3, ok3, hr2, hf2, h, hbs⟩ := H3.out
  have G4 : Gr w3 w4 := ((Gr.refl w3).drewN 1).trans g4
  have hs4 : w4.heap[sp]? = some (.cells (stC most (hist.length + 1) mb ev') ST (0, 0)) := (G4.heap (Array.getElem?_eq_some_iff.1 hs3).1).trans hs3
  have b4 : w4.heap[B]? = some (.cells cs' OT (0, 0)) := (G4.heap (Array.getElem?_eq_some_iff.1 b3).1).trans b3
  have F4 : Fx base w3 w4 := Fx.ofBelow G4.below
  have M4 : MapIs base w4 mb hist.length D l := M3.fx (G4.heap (map_prot M3 h.bmb).2.1) F4
  have o4 : w4.ownsRow base ET 4 ev' kept'.length (flat encE kept') := own_block ho3 (fun g hg => G4.heap (own_prot ho3 (Nat.le_refl _) rfl g hg).2.1)
  obtain ⟨w5, hr, M5, t5⟩ := M4.put h.bmb (by unfold maxLen; omega) (K3.fx F4) ok3
  have T5 := t5.grown
  have nsm : sp ≠ mb := by
    rintro rfl
    obtain ⟨es, c, q1, _⟩ := M4.own
    rw [hs4] at q1; cases q1
  have nbm : B ≠ mb := by
    rintro rfl
    obtain ⟨es, c, q1, _⟩ := M4.own
    rw [b4] at q1; cases q1
  have hs5 : w5.heap[sp]? = some (.cells (stC most (hist.length + 1) mb ev') ST (0, 0)) := (T5.block sp (Array.getElem?_eq_some_iff.1 hs4).1 (by simpa using nsm)).trans hs4
  have b5 : w5.heap[B]? = some (.cells cs' OT (0, 0)) := (T5.block B (Array.getElem?_eq_some_iff.1 b4).1 (by simpa using nbm)).trans b4
  have o5 : w5.ownsRow base ET 4 ev' kept'.length (flat encE kept') := own_block o4 (fun g hg => T5.block g (own_prot o4 (Nat.le_refl _) rfl g hg).2.1 (fun e => by
    cases e
    obtain ⟨es, c, q1, _⟩ := M4.own
    rcases o4.2 with ⟨e, _⟩ | ⟨g', cap, cur, e, _, h3, _⟩
    · rw [e] at hg; cases hg
    · rw [e] at hg
      simp [Value.ownBlock] at hg
      subst hg
      rw [q1] at h3; cases h3))
  have FIN : Hid (After base w w5 S sp most (put l (setV o (hist.length + 1))) (hist ++ [⟨what, o.kind, o.name, hist.length + 1⟩])) := by
    refine ⟨sp :: mb :: ev'.ownBlock.toList, ⟨mb, _, ev', kept', rfl, h.bsp, h.bmb, Nat.le_trans h.bw (Nat.le_trans C13.size (Nat.le_trans G4.below.size T5.size)), by rw [List.length_append]; exact hs5, by rw [List.length_append]; exact M5, o5, hr2 hist rfl h.ring⟩, ?_, ?_⟩
    · refine (C13.trans (Chg.ofGr G4 []) (by simp)).trans (Chg.ofGrown (S := [mb]) T5 (fun g e => .inl (by simp at e; simp [e]))) (fun g hg => .inl ?_)
      simp at hg
      rw [h.fp, hg]
      simp
    · intro g hg
      rw [h.fp]
      simp only [List.mem_cons, Option.mem_toList] at hg ⊢
      rcases hg with hg | hg | hg
      · exact .inl (.inl hg)
      · exact .inl (.inr (.inl hg))
      · rcases hf2 g hg with h4 | h4
        · exact .inl (.inr (.inr h4))
        · exact .inr (Nat.le_trans H1.out h4)
  have y5 : w5.cell? ⟨B, 2, none⟩ = some (.int .u64 ((hist.length + 1 : Nat) : Int)) := by
    rw [cell_of_block b5 2]
    exact K3.obj.2.1.2.2.1
  have SS : Hid (w5.cell? ⟨sp, 2, none⟩ = some (.map (some mb)) ∧ w5.heap[B]? = some (.cells cs' OT (0, 0))) := ⟨cell_of_block hs5 2, b5⟩
  have HR := Lib.hid hr
  refine hK _ _ ⟨cell_of_block hs4 2, b4⟩ (fun hS => ?_)
  clear b3 C13 hs3 ho3 M3 K3 ok3 hr2 hf2 h hbs G4 g4 hs4 b4 F4 M4 o4 hr M5 t5 T5 nsm nbm hs5 b5 o5 CK H3
  try simp only [Act.put, List.setIfInBounds_toArray, List.set_cons_zero, List.set_cons_succ]
  refine wpAnyH_ready (rs := [7]) (by kernel_rfl) (by simp) ?_
  refine AllReadyH.cons rfl (fun K hK => ?_) AllReadyH.nil
  refine step_mapUpdate (by rfl) _ _ _ MT rfl rfl rfl rfl HR.out ?_
  refine hK _ _ SS.out (fun hS => ?_)
  try simp only [Act.put, List.setIfInBounds_toArray, List.set_cons_zero, List.set_cons_succ]
  refine wpAnyH_done (by kernel_rfl) ?_ _
  go_wp2
  go_ret
  exact ⟨rfl, FIN.out⟩
end Go.Proofs.Ytacgbagcddjlnaa
