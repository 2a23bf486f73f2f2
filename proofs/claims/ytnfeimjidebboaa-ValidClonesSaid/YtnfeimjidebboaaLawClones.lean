/- Proved here: the law ValidClones of layer 7 holds for every input: a copy is the same, and changes for itself. No conditions. -/
import Derived.Test.YtnfeimjidebboaaVaL
import Derived.Test.YtnfeimjidebboaaVaDp
import Derived.Test.YtnfeimjidebboaaVaN
import Derived.Test.YtnfeimjidebboaaVaW
import Derived.Test.YtnfeimjidebboaaVaIn
import Derived.Test.YtnfeimjidebboaaObH
import Derived.Test.YtnfeimjidebboaaVLawBase
import Derived.Deep.DeepCutAuto
import Derived.BigQuiet
import Derived.Deep.RegionHeld3
namespace Go.Proofs.Ytnfeimjidebboaa.validClones
open Go.ChangeShapes Go.WideShapes Go.ChangeAt Go.RowKit Go.Lib Go.Shelf Go.Sort Go.Deep
open Go.Joins (cell_of_block unfrozen_of_block block_setCell)
set_option linter.unusedVariables false
set_option linter.unusedSimpArgs false
set_option maxRecDepth 100000

theorem TinyO.len {o : Ob} (h : TinyO o) : lenO o := by
  unfold TinyO at h
  unfold lenO
  omega
set_option maxHeartbeats 16000000 in
theorem walk_at (W : World) (cs : Array Value) (ob : Ob) (hv : ObjV W cs ob) (F : FitsO ob) (hn : NilO cs) :
    Calls Try.prog 5 #[.agg cs] W fun e w' => e = .returned (.bool true) ∧ Below W.heap.size W w' := by
  have mixed : Try.prog.follows .mixedOrders = true := by kernel_rfl
  have V := Lib.hid lives_any
  obtain ⟨C0, hB⟩ : ∃ B, B = W.heap.size := ⟨_, rfl⟩
  obtain ⟨wb, hwb⟩ : ∃ wb, wb = W.alloc (.cells cs 44) := ⟨_, rfl⟩
  have G0 : Gr W wb := hwb ▸ (Gr.refl W).alloc _
  have b0 : wb.heap[C0]? = some (.cells cs 44 (0, 0)) := by rw [hwb, hB]; exact heap_alloc_new W _
  have HL : Hid (∀ w, Gr wb w → (Instr.loadAt 44 (.pointer (some ⟨C0, 0, none⟩))).run Try.prog w = .ok (.agg cs) w) := fun w g => load_ob ((g.heap (Array.getElem?_eq_some_iff.1 b0).1).trans b0) hv.1
  have HK0 : Hid (∀ w, Gr wb w → w.cell? ⟨C0, 0, none⟩ = some (.int .i64 ob.kind)) := fun w g => by rw [cell_of_block ((g.heap (Array.getElem?_eq_some_iff.1 b0).1).trans b0)]; exact hv.2.1.1
  have CF := Lib.hid (fun (w : World) (g : Gr wb w) => few_any w cs ob (hv.below (G0.trans g).below) F)
  have HW := Lib.hid (And.intro hwb (And.intro hB (And.intro G0 (And.intro b0 (And.intro hv (And.intro F hn))))))
  have HT : Hid (fewB ob = true → TinyO ob) := tiny_few
  generalize fewB ob = fw at CF HT
  clear hv F hn hB hwb G0 b0
  go_enter Try.func5, Try.ntmps5
  go_upto_region 1 with fail
  rw [← HW.out.1, ← HW.out.2.1]
  go_wp2_with fail
  refine (V.out _).mono ?_
  rintro e w1 ⟨rfl, g1⟩
  have K1 := Lib.hid g1
  have L1 := Lib.hid (HL.out _ g1)
  clear g1
  go_wp2_with (refine wpList_load_by (by kernel_rfl) 44 _ rfl (.pointer (some ⟨C0, 0, none⟩)) (.agg cs) (by kernel_rfl) L1.out ?_)
  refine (CF.out _ K1.out).mono ?_
  rintro e w2 ⟨rfl, g2⟩
  have K2 := Lib.hid (K1.out.trans g2)
  have L2 := Lib.hid (HL.out _ K2.out)
  have k0 := HK0.out _ K2.out
  have OUT : Hid (∀ w', Gr w2 w' → Calls Try.prog 6 #[] w' fun e w'' => e = .returned (.bool true) ∧ Below W.heap.size W w'') := fun w' g =>
    (V.out w').mono fun e w'' h => ⟨h.1, (HW.out.2.2.1.trans (K2.out.trans (g.trans h.2))).below⟩
  clear g2 L1 CF
  cases fw with
  | false =>
    go_wp2_with fail
    refine (OUT.out _ (Gr.refl _)).mono ?_
    rintro e w9 ⟨rfl, g9⟩
    have K9 := Lib.hid g9
    clear g9
    go_wp2
    go_ret
    exact ⟨rfl, K9.out⟩
  | true =>
    have TI := Lib.hid (HT.out rfl)
    obtain ⟨kk, hk⟩ : ∃ k, k = ob.kind := ⟨_, rfl⟩
    rw [← hk] at k0
    by_cases hk0 : kk < 0
    · have t0 : decide (kk < 0) = true := decide_eq_true hk0
      clear hk hk0
      go_wp2_with fail
      refine (OUT.out _ (Gr.refl _)).mono ?_
      rintro e w9 ⟨rfl, g9⟩
      have K9 := Lib.hid g9
      clear g9
      go_wp2
      go_ret
      exact ⟨rfl, K9.out⟩
    by_cases hk5 : 5 ≤ kk
    · have t0 : decide (kk < 0) = false := decide_eq_false hk0
      have t5 : decide (5 ≤ kk) = true := decide_eq_true hk5
      clear hk hk5 hk0
      go_wp2_with fail
      refine (OUT.out _ (Gr.refl _)).mono ?_
      rintro e w9 ⟨rfl, g9⟩
      have K9 := Lib.hid g9
      clear g9
      go_wp2
      go_ret
      exact ⟨rfl, K9.out⟩
    have HKK : Hid (0 ≤ ob.kind ∧ ob.kind ≤ 4) := by show _ ∧ _; omega
    have t0 : decide (kk < 0) = false := decide_eq_false hk0
    have t5 : decide (5 ≤ kk) = false := decide_eq_false hk5
    have V2 : Hid (ObjV w2 cs ob) := HW.out.2.2.2.2.1.below (HW.out.2.2.1.trans K2.out).below
    have CS := Lib.hid (rshort_any w2 cs ob V2.out (TinyO.len TI.out) HKK.out)
    generalize okO ob = ok at CS
    clear hk hk0 hk5
    go_wp2_with (refine wpList_load_by (by kernel_rfl) 44 _ rfl (.pointer (some ⟨C0, 0, none⟩)) (.agg cs) (by kernel_rfl) L2.out ?_)
    refine CS.out.mono ?_
    rintro e w3 ⟨rfl, g3⟩
    have K3 := Lib.hid g3
    clear g3
    cases ok with
    | false =>
      go_wp2_with fail
      refine (OUT.out _ K3.out).mono ?_
      rintro e w9 ⟨rfl, g9⟩
      have K9 := Lib.hid g9
      clear g9
      go_wp2
      go_ret
      exact ⟨rfl, K9.out⟩
    | true =>
      have L3 := Lib.hid (HL.out _ (K2.out.trans K3.out))
      have FT := Lib.hid (fto_of HW.out.2.2.2.2.2.1 TI.out)
      have V3 : Hid (ObjV w3 cs ob) := V2.out.below K3.out.below
      have CO := Lib.hid (robj_any w3 cs ob V3.out HKK.out FT.out)
      obtain ⟨s, hs⟩ : ∃ s, s = mk (objB ob) := ⟨_, rfl⟩
      rw [← hs] at CO
      have HS := Lib.hid hs
      clear hs
      go_wp2_with (refine wpList_load_by (by kernel_rfl) 44 _ rfl (.pointer (some ⟨C0, 0, none⟩)) (.agg cs) (by kernel_rfl) L3.out ?_)
      refine CO.out.mono ?_
      rintro e w4 ⟨rfl, g4⟩
      have K4 := Lib.hid (K3.out.trans g4)
      clear g4
      have L4 := Lib.hid (HL.out _ (K2.out.trans K4.out))
      have V4 : Hid (ObjV w4 cs ob) := V2.out.below K4.out.below
      have CC := Lib.hid (clone_any w4 cs ob V4.out HW.out.2.2.2.2.2.2 TI.out.small)
      go_wp2_with (refine wpList_load_by (by kernel_rfl) 44 _ rfl (.pointer (some ⟨C0, 0, none⟩)) (.agg cs) (by kernel_rfl) L4.out ?_)
      refine CC.out.mono ?_
      rintro e w5 ⟨⟨D, rfl, hcs, hco, hci⟩, b5⟩
      obtain ⟨N, hN⟩ : ∃ N, N = w4.heap.size := ⟨_, rfl⟩
      rw [← hN] at hci
      -- the copy in a block of its own
      obtain ⟨B, hBd⟩ : ∃ d, d = w5.heap.size := ⟨_, rfl⟩
      have vD : ObjV w5 D ob := dup_obj V4.out hcs hco hci
      have TH : Hid ((w5.alloc (.cells zerC 44)).there w5.heap.size 0 D.size) := zer_there w5 vD.1
      have IN : Hid ((Try.prog.info? 44).map (·.size) = some D.size) := by show _ = _; rw [vD.1]; exact info_ob47
      have ON := Lib.hid (objV_one vD)
      obtain ⟨l6, g6⟩ := laid_ob w5 vD.1
      obtain ⟨w6, hw6⟩ : ∃ wd, wd = (w5.alloc (.cells zerC 44)).setCells w5.heap.size 0 D.toList := ⟨_, rfl⟩
      rw [← hw6] at l6 g6
      rw [← hBd] at l6
      have HD6 := Lib.hid (And.intro hw6 hBd)
      have X6 : Hid (Below w4.heap.size w4 w6) := ((Xb.ofBelow b5 w4.heap.size).trans (Xb.ofGr g6 _)).below (Nat.le_refl _) (Nat.le_refl _)
      have c4 : w4.heap[C0]? = some (.cells cs 44 (0, 0)) := ((K2.out.trans K4.out).heap (Array.getElem?_eq_some_iff.1 HW.out.2.2.2.1).1).trans HW.out.2.2.2.1
      have c4lt : C0 < w4.heap.size := (Array.getElem?_eq_some_iff.1 c4).1
      have c6 : w6.heap[C0]? = some (.cells cs 44 (0, 0)) := (X6.out.block C0 c4lt).trans c4
      have V6 : ObjV w6 cs ob := V4.out.below X6.out
      have VD6 : ObjV w6 D ob := vD.below g6.below
      have LC6 := Lib.hid (load_ob c6 V6.1)
      have LD6 := Lib.hid (load_ob l6 VD6.1)
      have SA := Lib.hid (same_any w6 cs D ob V6 VD6 HW.out.2.2.2.2.2.1 TI.out)
      have OW6 : Hid (∀ i ∈ rowsIx, OwnAt N w6 ob D i) := fun i hi => (hci i hi).keep (fun g h1 h2 => g6.heap h2) rfl
      have HNN : Hid (N = w4.heap.size ∧ C0 < w4.heap.size) := ⟨hN, c4lt⟩
      have E6 := Lib.hid (And.intro l6 (And.intro c6 VD6))
      clear hcs hco hci vD l6 g6 hw6 hBd c4 c4lt c6 V6 VD6 hN b5 CC CO CS
      go_upto_region 5 with (first | (refine wpList_store_mid rfl _ _ _ rfl w5.heap.size 0 D (by rfl) (by rfl) TH.out IN.out ON.out ?_))
      rw [← HD6.out.1, ← HD6.out.2]
      clear TH IN ON
      go_wp2_with (first | (refine wpList_load_by (by kernel_rfl) 44 _ rfl (.pointer (some ⟨C0, 0, none⟩)) (.agg cs) (by rfl) LC6.out ?_) | (refine wpList_load_by (by kernel_rfl) 44 _ rfl (.pointer (some ⟨B, 0, none⟩)) (.agg D) (by rfl) LD6.out ?_))
      refine SA.out.mono ?_
      rintro e w7 ⟨rfl, g7⟩
      have K7 := Lib.hid g7
      clear g7
      go_upto_region 7 with fail
      have hv : ObjV w7 D ob := E6.out.2.2.below K7.out.below
      have hb7 : w7.heap[B]? = some (.cells D 44 (0, 0)) := (K7.out.heap (Array.getElem?_eq_some_iff.1 E6.out.1).1).trans E6.out.1
      have hz7 : B < w7.heap.size := (Array.getElem?_eq_some_iff.1 hb7).1
      have HZ := Lib.hid hz7
      have OW7 : Hid (∀ i ∈ rowsIx, OwnAt N w7 ob D i) := fun i hi => (OW6.out i hi).keep (fun g h1 h2 => K7.out.heap h2) rfl
      obtain ⟨M, hM⟩ : ∃ M, M = w7.heap.size := ⟨_, rfl⟩
      have HM := Lib.hid hM
      obtain ⟨hsz, ⟨c0, c1, c2, hver⟩, hW, hP, hN, hG, hH⟩ := hv
      obtain ⟨c3, c4, c5, ⟨q6, k6, c6, r6⟩, ⟨q7, k7, c7, r7⟩, ⟨q8, k8, c8, r8⟩, c9⟩ := hW
      obtain ⟨c10, c11, c12, c13, c14, c15, ⟨q16, k16, c16, r16⟩, ⟨q17, k17, c17, r17⟩, ⟨q18, k18, c18, r18⟩, c19⟩ := hP
      obtain ⟨c20, c21, c22, ⟨q23, k23, c23, r23⟩, ⟨q24, k24, c24, r24⟩, c25, c26⟩ := hN
      obtain ⟨c27, c28, c29, c30, c31, ⟨q32, k32, c32, r32⟩, ⟨q33, k33, c33, r33⟩, c34⟩ := hG
      obtain ⟨c35, c36, c37, ⟨q38, k38, c38, r38⟩, c39, c40, c41, ⟨q42, k42, c42, r42⟩, c43, c44, ⟨q45, k45, c45, r45⟩, ⟨q46, k46, c46, r46⟩⟩ := hH
      have y6 : Lies N M w7 q6 ob.w.lab.length 2 := lies_own lenL (OW7.out 6 (by decide)) c6 (by omega)
      have y7 : Lies N M w7 q7 ob.w.sel.length 3 := lies_own lenR (OW7.out 7 (by decide)) c7 (by omega)
      have y8 : Lies N M w7 q8 ob.w.tol.length 2 := lies_own lenL (OW7.out 8 (by decide)) c8 (by omega)
      have y16 : Lies N M w7 q16 ob.p.lab.length 2 := lies_own lenL (OW7.out 16 (by decide)) c16 (by omega)
      have y17 : Lies N M w7 q17 ob.p.sel.length 3 := lies_own lenR (OW7.out 17 (by decide)) c17 (by omega)
      have y18 : Lies N M w7 q18 ob.p.tol.length 2 := lies_own lenL (OW7.out 18 (by decide)) c18 (by omega)
      have y23 : Lies N M w7 q23 ob.n.lab.length 2 := lies_own lenL (OW7.out 23 (by decide)) c23 (by omega)
      have y24 : Lies N M w7 q24 ob.n.tnt.length 2 := lies_own lenL (OW7.out 24 (by decide)) c24 (by omega)
      have y32 : Lies N M w7 q32 ob.g.lab.length 2 := lies_own lenL (OW7.out 32 (by decide)) c32 (by omega)
      have y33 : Lies N M w7 q33 ob.g.tnt.length 2 := lies_own lenL (OW7.out 33 (by decide)) c33 (by omega)
      have y38 : Lies N M w7 q38 ob.h.met.length 3 := lies_own lenM (OW7.out 38 (by decide)) c38 (by omega)
      have y42 : Lies N M w7 q42 ob.h.upol.length 3 := lies_own lenP (OW7.out 42 (by decide)) c42 (by omega)
      have y45 : Lies N M w7 q45 ob.h.dpol.length 3 := lies_own lenP (OW7.out 45 (by decide)) c45 (by omega)
      have y46 : Lies N M w7 q46 ob.h.past.length 3 := lies_own lenS (OW7.out 46 (by decide)) c46 (by omega)
      have LY := Lib.hid (And.intro y6 (And.intro y7 (And.intro y8 (And.intro y16 (And.intro y17 (And.intro y18 (And.intro y23 (And.intro y24 (And.intro y32 (And.intro y33 (And.intro y38 (And.intro y42 (And.intro y45 y46)))))))))))))
      clear hM y6 r6 y7 r7 y8 r8 y16 r16 y17 r17 y18 r18 y23 r23 y24 r24 y32 r32 y33 r33 y38 r38 y42 r42 y45 r45 y46 r46
      obtain ⟨L0, hL0⟩ : ∃ L : List Value, L = [.int .i64 ob.w.rep, .int .i64 ob.w.cpu, .int .i64 ob.w.mem, .slice q6 ob.w.lab.length k6, .slice q7 ob.w.sel.length k7, .slice q8 ob.w.tol.length k8, .int .i64 ob.w.warm] := ⟨_, rfl⟩
      have r0 : w7.rangeAt B 3 L0 := by rw [hL0]; exact range_of hb7 (Rg.cons c3 (Rg.cons c4 (Rg.cons c5 (Rg.cons c6 (Rg.cons c7 (Rg.cons c8 (Rg.cons c9 (Rg.nil _ _))))))))
      obtain ⟨L1, hL1⟩ : ∃ L : List Value, L = [.string ob.p.own, .string ob.p.node, .int .i64 ob.p.ph, .int .i64 ob.p.since, .int .i64 ob.p.cpu, .int .i64 ob.p.mem, .slice q16 ob.p.lab.length k16, .slice q17 ob.p.sel.length k17, .slice q18 ob.p.tol.length k18, .int .i64 ob.p.warm] := ⟨_, rfl⟩
      have r1 : w7.rangeAt B 10 L1 := by rw [hL1]; exact range_of hb7 (Rg.cons c10 (Rg.cons c11 (Rg.cons c12 (Rg.cons c13 (Rg.cons c14 (Rg.cons c15 (Rg.cons c16 (Rg.cons c17 (Rg.cons c18 (Rg.cons c19 (Rg.nil _ _)))))))))))
      obtain ⟨L2, hL2⟩ : ∃ L : List Value, L = [.string ob.n.grp, .int .i64 ob.n.cpu, .int .i64 ob.n.mem, .slice q23 ob.n.lab.length k23, .slice q24 ob.n.tnt.length k24, .int .i64 ob.n.since, .bool ob.n.closed] := ⟨_, rfl⟩
      have r2 : w7.rangeAt B 20 L2 := by rw [hL2]; exact range_of hb7 (Rg.cons c20 (Rg.cons c21 (Rg.cons c22 (Rg.cons c23 (Rg.cons c24 (Rg.cons c25 (Rg.cons c26 (Rg.nil _ _))))))))
      obtain ⟨L3, hL3⟩ : ∃ L : List Value, L = [.int .i64 ob.g.mn, .int .i64 ob.g.mx, .int .i64 ob.g.tg, .int .i64 ob.g.cpu, .int .i64 ob.g.mem, .slice q32 ob.g.lab.length k32, .slice q33 ob.g.tnt.length k33, .int .i64 ob.g.prio] := ⟨_, rfl⟩
      have r3 : w7.rangeAt B 27 L3 := by rw [hL3]; exact range_of hb7 (Rg.cons c27 (Rg.cons c28 (Rg.cons c29 (Rg.cons c30 (Rg.cons c31 (Rg.cons c32 (Rg.cons c33 (Rg.cons c34 (Rg.nil _ _)))))))))
      obtain ⟨L4, hL4⟩ : ∃ L : List Value, L = [.string ob.h.tg, .int .i64 ob.h.mn, .int .i64 ob.h.mx, .slice q38 ob.h.met.length k38, .int .i64 ob.h.tol, .int .i64 ob.h.uw, .int .i64 ob.h.up, .slice q42 ob.h.upol.length k42, .int .i64 ob.h.dw, .int .i64 ob.h.dp, .slice q45 ob.h.dpol.length k45, .slice q46 ob.h.past.length k46] := ⟨_, rfl⟩
      have r4 : w7.rangeAt B 35 L4 := by rw [hL4]; exact range_of hb7 (Rg.cons c35 (Rg.cons c36 (Rg.cons c37 (Rg.cons c38 (Rg.cons c39 (Rg.cons c40 (Rg.cons c41 (Rg.cons c42 (Rg.cons c43 (Rg.cons c44 (Rg.cons c45 (Rg.cons c46 (Rg.nil _ _)))))))))))))
      have HL := Lib.hid (And.intro hL0 (And.intro hL1 (And.intro hL2 (And.intro hL3 hL4))))
      have l0 : L0.length = 7 := by rw [hL0]; rfl
      have o0 : Ones L0 := by rw [hL0]; exact (Ones.cons rfl (Ones.cons rfl (Ones.cons rfl (Ones.cons rfl (Ones.cons rfl (Ones.cons rfl (Ones.cons rfl Ones.nil)))))))
      have l1 : L1.length = 10 := by rw [hL1]; rfl
      have o1 : Ones L1 := by rw [hL1]; exact (Ones.cons rfl (Ones.cons rfl (Ones.cons rfl (Ones.cons rfl (Ones.cons rfl (Ones.cons rfl (Ones.cons rfl (Ones.cons rfl (Ones.cons rfl (Ones.cons rfl Ones.nil))))))))))
      have l2 : L2.length = 7 := by rw [hL2]; rfl
      have o2 : Ones L2 := by rw [hL2]; exact (Ones.cons rfl (Ones.cons rfl (Ones.cons rfl (Ones.cons rfl (Ones.cons rfl (Ones.cons rfl (Ones.cons rfl Ones.nil)))))))
      have l3 : L3.length = 8 := by rw [hL3]; rfl
      have o3 : Ones L3 := by rw [hL3]; exact (Ones.cons rfl (Ones.cons rfl (Ones.cons rfl (Ones.cons rfl (Ones.cons rfl (Ones.cons rfl (Ones.cons rfl (Ones.cons rfl Ones.nil))))))))
      have l4 : L4.length = 12 := by rw [hL4]; rfl
      have o4 : Ones L4 := by rw [hL4]; exact (Ones.cons rfl (Ones.cons rfl (Ones.cons rfl (Ones.cons rfl (Ones.cons rfl (Ones.cons rfl (Ones.cons rfl (Ones.cons rfl (Ones.cons rfl (Ones.cons rfl (Ones.cons rfl (Ones.cons rfl Ones.nil))))))))))))
      have HR := Lib.hid (And.intro r0 (And.intro r1 (And.intro r2 (And.intro r3 r4))))
      clear hL0 hL1 hL2 hL3 hL4 r0 r1 r2 r3 r4
      clear hb7 hz7 hsz c0 c1 c2 hver c3 c4 c5 c6 c7 c8 c9 c10 c11 c12 c13 c14 c15 c16 c17 c18 c19 c20 c21 c22 c23 c24 c25 c26 c27 c28 c29 c30 c31 c32 c33 c34 c35 c36 c37 c38 c39 c40 c41 c42 c43 c44 c45 c46 OW7
      refine wp_region_held_drew (S := fun w' => Bd w7.heap.size w7 w') mixed (Bd.refl _ w7).drew (fun hHeld => ?_)
      refine wpAnyH_takeD (i := 0) (d := 52) (v := .pointer (some ⟨B, 3, none⟩)) _ rfl rfl (by kernel_rfl) (by kernel_rfl) (by kernel_rfl) (fun _ _ _ h => h) (Or.inl ⟨by kernel_rfl, fun ws hSw => by go_simp⟩) hHeld ?_
      simp only [Act.put, List.setIfInBounds_toArray, List.set_cons_zero, List.set_cons_succ]
      refine wpAnyH_takeD (i := 1) (d := 53) (v := .agg L0.toArray) _ rfl rfl (by kernel_rfl) (by kernel_rfl) (by kernel_rfl) (fun _ _ _ h => h) (yieldsIf_load_mid (by kernel_rfl) _ _ rfl B 3 (by kernel_rfl) L0 _ (fun ws hSw => rangeAt_below HR.out.1 hSw.below HZ.out) Try.underlying29 rfl (by rw [l0]; kernel_rfl)) hHeld ?_
      simp only [Act.put, List.setIfInBounds_toArray, List.set_cons_zero, List.set_cons_succ]
      refine wpAnyH_takeD (i := 2) (d := 54) (v := .pointer (some ⟨B, 10, none⟩)) _ rfl rfl (by kernel_rfl) (by kernel_rfl) (by kernel_rfl) (fun _ _ _ h => h) (Or.inl ⟨by kernel_rfl, fun ws hSw => by go_simp⟩) hHeld ?_
      simp only [Act.put, List.setIfInBounds_toArray, List.set_cons_zero, List.set_cons_succ]
      refine wpAnyH_takeD (i := 3) (d := 55) (v := .agg L1.toArray) _ rfl rfl (by kernel_rfl) (by kernel_rfl) (by kernel_rfl) (fun _ _ _ h => h) (yieldsIf_load_mid (by kernel_rfl) _ _ rfl B 10 (by kernel_rfl) L1 _ (fun ws hSw => rangeAt_below HR.out.2.1 hSw.below HZ.out) Try.underlying31 rfl (by rw [l1]; kernel_rfl)) hHeld ?_
      simp only [Act.put, List.setIfInBounds_toArray, List.set_cons_zero, List.set_cons_succ]
      refine wpAnyH_takeD (i := 4) (d := 56) (v := .pointer (some ⟨B, 20, none⟩)) _ rfl rfl (by kernel_rfl) (by kernel_rfl) (by kernel_rfl) (fun _ _ _ h => h) (Or.inl ⟨by kernel_rfl, fun ws hSw => by go_simp⟩) hHeld ?_
      simp only [Act.put, List.setIfInBounds_toArray, List.set_cons_zero, List.set_cons_succ]
      refine wpAnyH_takeD (i := 5) (d := 57) (v := .agg L2.toArray) _ rfl rfl (by kernel_rfl) (by kernel_rfl) (by kernel_rfl) (fun _ _ _ h => h) (yieldsIf_load_mid (by kernel_rfl) _ _ rfl B 20 (by kernel_rfl) L2 _ (fun ws hSw => rangeAt_below HR.out.2.2.1 hSw.below HZ.out) Try.underlying33 rfl (by rw [l2]; kernel_rfl)) hHeld ?_
      simp only [Act.put, List.setIfInBounds_toArray, List.set_cons_zero, List.set_cons_succ]
      refine wpAnyH_takeD (i := 6) (d := 58) (v := .pointer (some ⟨B, 27, none⟩)) _ rfl rfl (by kernel_rfl) (by kernel_rfl) (by kernel_rfl) (fun _ _ _ h => h) (Or.inl ⟨by kernel_rfl, fun ws hSw => by go_simp⟩) hHeld ?_
      simp only [Act.put, List.setIfInBounds_toArray, List.set_cons_zero, List.set_cons_succ]
      refine wpAnyH_takeD (i := 7) (d := 59) (v := .agg L3.toArray) _ rfl rfl (by kernel_rfl) (by kernel_rfl) (by kernel_rfl) (fun _ _ _ h => h) (yieldsIf_load_mid (by kernel_rfl) _ _ rfl B 27 (by kernel_rfl) L3 _ (fun ws hSw => rangeAt_below HR.out.2.2.2.1 hSw.below HZ.out) Try.underlying35 rfl (by rw [l3]; kernel_rfl)) hHeld ?_
      simp only [Act.put, List.setIfInBounds_toArray, List.set_cons_zero, List.set_cons_succ]
      refine wpAnyH_takeD (i := 8) (d := 60) (v := .pointer (some ⟨B, 35, none⟩)) _ rfl rfl (by kernel_rfl) (by kernel_rfl) (by kernel_rfl) (fun _ _ _ h => h) (Or.inl ⟨by kernel_rfl, fun ws hSw => by go_simp⟩) hHeld ?_
      simp only [Act.put, List.setIfInBounds_toArray, List.set_cons_zero, List.set_cons_succ]
      refine wpAnyH_takeD (i := 9) (d := 61) (v := .agg L4.toArray) _ rfl rfl (by kernel_rfl) (by kernel_rfl) (by kernel_rfl) (fun _ _ _ h => h) (yieldsIf_load_mid (by kernel_rfl) _ _ rfl B 35 (by kernel_rfl) L4 _ (fun ws hSw => rangeAt_below HR.out.2.2.2.2 hSw.below HZ.out) Try.underlying42 rfl (by rw [l4]; kernel_rfl)) hHeld ?_
      simp only [Act.put, List.setIfInBounds_toArray, List.set_cons_zero, List.set_cons_succ]
      refine five_all (N := w7.heap.size) 5 53 _ (Nat.le_refl _)
        ⟨⟨_, rfl, rfl, fun _ => rfl, fun a ws => by go_simp; rfl⟩⟩ ⟨⟨_, rfl, rfl, fun _ => rfl, fun a ws => by go_simp; rfl⟩⟩ ⟨⟨_, rfl, rfl, fun _ => rfl, fun a ws => by go_simp; rfl⟩⟩ ⟨⟨_, rfl, rfl, fun _ => rfl, fun a ws => by go_simp; rfl⟩⟩ ⟨⟨_, rfl, rfl, fun _ => rfl, fun a ws => by go_simp; rfl⟩⟩
        (by intro t0 t1 t2 t3 t4 hf; cases t0 <;> cases t1 <;> cases t2 <;> cases t3 <;> cases t4 <;> first | (cases hf; done) | kernel_rfl)
        ⟨⟨_, _, rfl, rfl, fun _ => rfl, rfl, by kernel_rfl⟩⟩ ⟨⟨_, _, rfl, rfl, fun _ => rfl, rfl, by kernel_rfl⟩⟩ ⟨⟨_, _, rfl, rfl, fun _ => rfl, rfl, by kernel_rfl⟩⟩ ⟨⟨_, _, rfl, rfl, fun _ => rfl, rfl, by kernel_rfl⟩⟩ ⟨⟨_, _, rfl, rfl, fun _ => rfl, rfl, by kernel_rfl⟩⟩
        (by kernel_rfl) (by kernel_rfl) (by kernel_rfl) (by kernel_rfl) (by kernel_rfl) (by kernel_rfl)
        (by decide) l0 l1 l2 l3 l4 o0 o1 o2 o3 o4
        (fun _ _ _ _ _ => ⟨by kernel_rfl, by kernel_rfl, by kernel_rfl, by kernel_rfl, by kernel_rfl⟩) (fun _ _ _ _ _ => ⟨by kernel_rfl, by kernel_rfl, by kernel_rfl, by kernel_rfl, by kernel_rfl⟩) ?_ (by kernel_rfl) hHeld
      clear hHeld l0 l1 l2 l3 l4 o0 o1 o2 o3 o4
      intro b0 b1 b2 b3 b4 w1 hb p0 p1 p2 p3 p4 r0 r1 r2 r3 r4
      simp only [act5, Act.put, Nat.reduceAdd, List.setIfInBounds_toArray, List.set_cons_zero, List.set_cons_succ]
      rw [HL.out.1] at r0
      have R0 := Lib.hid r0
      rw [HL.out.2.1] at r1
      have R1 := Lib.hid r1
      rw [HL.out.2.2.1] at r2
      have R2 := Lib.hid r2
      rw [HL.out.2.2.2.1] at r3
      have R3 := Lib.hid r3
      rw [HL.out.2.2.2.2] at r4
      have R4 := Lib.hid r4
      clear r0 r1 r2 r3 r4
      have XB := Lib.hid (And.intro hb.below (And.intro p0 (And.intro p1 (And.intro p2 (And.intro p3 p4)))))
      clear hb p0 p1 p2 p3 p4 HL HR
      have tn := TI.out
      unfold TinyO at tn
      have TN := Lib.hid tn
      clear tn
      generalize ob.w.lab.length = n6 at *
      generalize ob.w.sel.length = n7 at *
      generalize ob.w.tol.length = n8 at *
      generalize ob.p.lab.length = n16 at *
      generalize ob.p.sel.length = n17 at *
      generalize ob.p.tol.length = n18 at *
      generalize ob.n.lab.length = n23 at *
      generalize ob.n.tnt.length = n24 at *
      generalize ob.g.lab.length = n32 at *
      generalize ob.g.tnt.length = n33 at *
      generalize ob.h.met.length = n38 at *
      generalize ob.h.upol.length = n42 at *
      generalize ob.h.dpol.length = n45 at *
      generalize ob.h.past.length = n46 at *
      have f6 : w1.cell? ⟨b0, 3, none⟩ = some (.slice q6 n6 k6) := range_cell R0.out rfl
      have f7 : w1.cell? ⟨b0, 4, none⟩ = some (.slice q7 n7 k7) := range_cell R0.out rfl
      have f8 : w1.cell? ⟨b0, 5, none⟩ = some (.slice q8 n8 k8) := range_cell R0.out rfl
      have f16 : w1.cell? ⟨b1, 6, none⟩ = some (.slice q16 n16 k16) := range_cell R1.out rfl
      have f17 : w1.cell? ⟨b1, 7, none⟩ = some (.slice q17 n17 k17) := range_cell R1.out rfl
      have f18 : w1.cell? ⟨b1, 8, none⟩ = some (.slice q18 n18 k18) := range_cell R1.out rfl
      have f23 : w1.cell? ⟨b2, 3, none⟩ = some (.slice q23 n23 k23) := range_cell R2.out rfl
      have f24 : w1.cell? ⟨b2, 4, none⟩ = some (.slice q24 n24 k24) := range_cell R2.out rfl
      have f32 : w1.cell? ⟨b3, 5, none⟩ = some (.slice q32 n32 k32) := range_cell R3.out rfl
      have f33 : w1.cell? ⟨b3, 6, none⟩ = some (.slice q33 n33 k33) := range_cell R3.out rfl
      have f38 : w1.cell? ⟨b4, 3, none⟩ = some (.slice q38 n38 k38) := range_cell R4.out rfl
      have f42 : w1.cell? ⟨b4, 7, none⟩ = some (.slice q42 n42 k42) := range_cell R4.out rfl
      have f45 : w1.cell? ⟨b4, 10, none⟩ = some (.slice q45 n45 k45) := range_cell R4.out rfl
      have f46 : w1.cell? ⟨b4, 11, none⟩ = some (.slice q46 n46 k46) := range_cell R4.out rfl
      have FF := Lib.hid (And.intro f6 (And.intro f7 (And.intro f8 (And.intro f16 (And.intro f17 (And.intro f18 (And.intro f23 (And.intro f24 (And.intro f32 (And.intro f33 (And.intro f38 (And.intro f42 (And.intro f45 f46)))))))))))))
      have IB : Hid (In N M w7 w1) := In.ofBelow XB.out.1
      have GB : Hid (M ≤ b0 ∧ M ≤ b1 ∧ M ≤ b2 ∧ M ≤ b3 ∧ M ≤ b4) := by rw [HM.out]; exact XB.out.2
      clear R0 R1 R2 R3 R4 f7 f17 f38 f42 f45 f46
      have IX : Hid (In N M w1 w1) := In.refl _ _ _
      obtain ⟨RL, hRL⟩ : ∃ RL : List (Option Addr × Nat × Nat), RL = [(q6, n6, k6), (q8, n8, k8), (q16, n16, k16), (q18, n18, k18), (q23, n23, k23), (q24, n24, k24), (q32, n32, k32), (q33, n33, k33)] := ⟨_, rfl⟩
      obtain ⟨S, hS⟩ : ∃ S, S = w1.heap.size := ⟨_, rfl⟩
      obtain ⟨ws, hws⟩ : ∃ ws, ws = w1.alloc (.cells #[.slice q6 n6 k6, .slice q8 n8 k8, .slice q16 n16 k16, .slice q18 n18 k18, .slice q23 n23 k23, .slice q24 n24 k24, .slice q32 n32 k32, .slice q33 n33 k33] 26) := ⟨_, rfl⟩
      have IS : In N M w1 ws := IX.out.trans (In.ofBelow (hws ▸ (Gr.refl w1).alloc _).below)
      have hcell : ∀ j q n c, RL[j]? = some (q, n, c) → ws.cell? ⟨S, j, none⟩ = some (.slice q n c) ∧ Lies N M ws q n 2 ∧ n ≤ 255 := by
        intro j q n c hj
        rw [hRL] at hj
        have tn := TN.out
        match j, hj with
        | 0, hj => simp at hj; obtain ⟨rfl, rfl, rfl⟩ := hj; exact ⟨by rw [hws, hS]; simp, (LY.out.1.in IB.out).in IS, by omega⟩
        | 1, hj => simp at hj; obtain ⟨rfl, rfl, rfl⟩ := hj; exact ⟨by rw [hws, hS]; simp, (LY.out.2.2.1.in IB.out).in IS, by omega⟩
        | 2, hj => simp at hj; obtain ⟨rfl, rfl, rfl⟩ := hj; exact ⟨by rw [hws, hS]; simp, (LY.out.2.2.2.1.in IB.out).in IS, by omega⟩
        | 3, hj => simp at hj; obtain ⟨rfl, rfl, rfl⟩ := hj; exact ⟨by rw [hws, hS]; simp, (LY.out.2.2.2.2.2.1.in IB.out).in IS, by omega⟩
        | 4, hj => simp at hj; obtain ⟨rfl, rfl, rfl⟩ := hj; exact ⟨by rw [hws, hS]; simp, (LY.out.2.2.2.2.2.2.1.in IB.out).in IS, by omega⟩
        | 5, hj => simp at hj; obtain ⟨rfl, rfl, rfl⟩ := hj; exact ⟨by rw [hws, hS]; simp, (LY.out.2.2.2.2.2.2.2.1.in IB.out).in IS, by omega⟩
        | 6, hj => simp at hj; obtain ⟨rfl, rfl, rfl⟩ := hj; exact ⟨by rw [hws, hS]; simp, (LY.out.2.2.2.2.2.2.2.2.1.in IB.out).in IS, by omega⟩
        | 7, hj => simp at hj; obtain ⟨rfl, rfl, rfl⟩ := hj; exact ⟨by rw [hws, hS]; simp, (LY.out.2.2.2.2.2.2.2.2.2.1.in IB.out).in IS, by omega⟩
        | j + 8, hj => simp at hj
      have HLN : Hid (RL.length = 8) := by show _ = _; rw [hRL]; rfl
      have HC := Lib.hid hcell
      have HSM : Hid (M ≤ S) := by show _ ≤ _; rw [hS, HM.out]; exact Nat.le_trans IB.out.size IX.out.size
      have HIS := Lib.hid IS
      have HWS := Lib.hid (And.intro hws hS)
      clear hcell IS hws hS hRL
      go_wp2_with fail
      rw [← HWS.out.1, ← HWS.out.2]
      go_loopg [80] 8 (fun g vi wr => ∃ (k : Nat), k ≤ 8 ∧ 8 - k ≤ g ∧ vi = .int .i64 (k : Int) ∧ Hid (In N M ws wr))
      case atStart => exact ⟨0, by omega, by omega, rfl, In.refl _ _ _⟩
      case round =>
        obtain ⟨k, hk, hg, rfl, HI⟩ := hrel
        by_cases hlt : k < 8
        · obtain ⟨x, hx⟩ : ∃ x, RL[k]? = some x := ⟨_, List.getElem?_eq_getElem (by rw [HLN.out]; exact hlt)⟩
          obtain ⟨q, n, c⟩ := x
          have d := HI.out.cell HSM.out (HC.out k q n c hx).1
          have hn := (HC.out k q n c hx).2.2
          have HLI := Lib.hid (HC.out k q n c hx).2.1
          clear hx
          go_wp2_with fail
          go_loopg [86] n (fun g vi wr2 => ∃ (i : Nat), i ≤ n ∧ n - i ≤ g ∧ vi = .int .i64 (i : Int) ∧ Hid (In N M ws wr2))
          case atStart => exact ⟨0, by omega, by omega, rfl, HI.out⟩
          case round =>
            obtain ⟨i, hi, hg2, rfl, HI2⟩ := hrel
            by_cases hlt2 : i < n
            · obtain ⟨g, off, v, rfl, h1, h2, h3, h4⟩ := (HLI.out.in HI2.out).at hlt2 (t := 0) (by decide)
              have HG := Lib.hid (And.intro h1 h2)
              clear h1 h2 d
              rw [Nat.add_zero] at h3 h4
              go_wp2
              go_roundg (n - (i + 1))
              case measure => omega
              case rel => exact ⟨i + 1, hlt2, Nat.le_refl _, by go_num, HI2.out.setCell _ _ HG.out.1 HG.out.2⟩
            · obtain rfl : i = n := by omega
              go_wp2
              go_roundg (8 - (k + 1))
              case measure => omega
              case rel => exact ⟨k + 1, hlt, Nat.le_refl _, by go_num, HI2.out⟩
        · obtain rfl : k = 8 := by omega
          have IXa : Hid (In N M w1 wr) := HIS.out.trans HI.out
          clear HI HIS HWS HC HLN HSM hk hg hlt IX
          have IX := IXa
          clear IXa
          -- the world is wr
          have f7 := IX.out.cell GB.out.1 FF.out.2.1
          have f17 := IX.out.cell GB.out.2.1 FF.out.2.2.2.2.1
          obtain ⟨RL, hRL⟩ : ∃ RL : List (Option Addr × Nat × Nat), RL = [(q7, n7, k7), (q17, n17, k17)] := ⟨_, rfl⟩
          obtain ⟨S, hS⟩ : ∃ S, S = wr.heap.size := ⟨_, rfl⟩
          obtain ⟨ws, hws⟩ : ∃ ws, ws = wr.alloc (.cells #[.slice q7 n7 k7, .slice q17 n17 k17] 27) := ⟨_, rfl⟩
          have IS : In N M w1 ws := IX.out.trans (In.ofBelow (hws ▸ (Gr.refl wr).alloc _).below)
          have hcell : ∀ j q n c, RL[j]? = some (q, n, c) → ws.cell? ⟨S, j, none⟩ = some (.slice q n c) ∧ Lies N M ws q n 3 ∧ n ≤ 255 := by
            intro j q n c hj
            rw [hRL] at hj
            have tn := TN.out
            match j, hj with
            | 0, hj => simp at hj; obtain ⟨rfl, rfl, rfl⟩ := hj; exact ⟨by rw [hws, hS]; simp, (LY.out.2.1.in IB.out).in IS, by omega⟩
            | 1, hj => simp at hj; obtain ⟨rfl, rfl, rfl⟩ := hj; exact ⟨by rw [hws, hS]; simp, (LY.out.2.2.2.2.1.in IB.out).in IS, by omega⟩
            | j + 2, hj => simp at hj
          have HLN : Hid (RL.length = 2) := by show _ = _; rw [hRL]; rfl
          have HC := Lib.hid hcell
          have HSM : Hid (M ≤ S) := by show _ ≤ _; rw [hS, HM.out]; exact Nat.le_trans IB.out.size IX.out.size
          have HIS := Lib.hid IS
          have HWS := Lib.hid (And.intro hws hS)
          clear hcell IS hws hS hRL
          go_wp2_with fail
          rw [← HWS.out.1, ← HWS.out.2]
          go_loopg [101] 2 (fun g vi wr => ∃ (k : Nat), k ≤ 2 ∧ 2 - k ≤ g ∧ vi = .int .i64 (k : Int) ∧ Hid (In N M ws wr))
          case atStart => exact ⟨0, by omega, by omega, rfl, In.refl _ _ _⟩
          case round =>
            obtain ⟨k, hk, hg, rfl, HI⟩ := hrel
            by_cases hlt : k < 2
            · obtain ⟨x, hx⟩ : ∃ x, RL[k]? = some x := ⟨_, List.getElem?_eq_getElem (by rw [HLN.out]; exact hlt)⟩
              obtain ⟨q, n, c⟩ := x
              have d := HI.out.cell HSM.out (HC.out k q n c hx).1
              have hn := (HC.out k q n c hx).2.2
              have HLI := Lib.hid (HC.out k q n c hx).2.1
              clear hx
              go_wp2_with fail
              go_loopg [107] n (fun g vi wr2 => ∃ (i : Nat), i ≤ n ∧ n - i ≤ g ∧ vi = .int .i64 (i : Int) ∧ Hid (In N M ws wr2))
              case atStart => exact ⟨0, by omega, by omega, rfl, HI.out⟩
              case round =>
                obtain ⟨i, hi, hg2, rfl, HI2⟩ := hrel
                by_cases hlt2 : i < n
                · obtain ⟨g, off, v, rfl, h1, h2, h3, h4⟩ := (HLI.out.in HI2.out).at hlt2 (t := 2) (by decide)
                  have HG := Lib.hid (And.intro h1 h2)
                  clear h1 h2 d
                  go_wp2
                  go_roundg (n - (i + 1))
                  case measure => omega
                  case rel => exact ⟨i + 1, hlt2, Nat.le_refl _, by go_num, HI2.out.setCell _ _ HG.out.1 HG.out.2⟩
                · obtain rfl : i = n := by omega
                  go_wp2
                  go_roundg (2 - (k + 1))
                  case measure => omega
                  case rel => exact ⟨k + 1, hlt, Nat.le_refl _, by go_num, HI2.out⟩
            · obtain rfl : k = 2 := by omega
              have IXb : Hid (In N M w1 wr) := HIS.out.trans HI.out
              clear HI HIS HWS HC HLN HSM hk hg hlt IX
              have IX := IXb
              clear IXb
              -- the world is wr
              clear f7 f17
              have f38 := IX.out.cell GB.out.2.2.2.2 FF.out.2.2.2.2.2.2.2.2.2.2.1
              have hn38 : n38 ≤ 255 := by have := TN.out; omega
              -- n38
              go_wp2_with fail
              clear f38
              go_loopg [119] n38 (fun g vi wr2 => ∃ (i : Nat), i ≤ n38 ∧ n38 - i ≤ g ∧ vi = .int .i64 (i : Int) ∧ Hid (In N M w1 wr2))
              case atStart => exact ⟨0, by omega, by omega, rfl, IX.out⟩
              case round =>
                obtain ⟨i, hi, hg2, rfl, HI2⟩ := hrel
                by_cases hlt2 : i < n38
                · have d := HI2.out.cell GB.out.2.2.2.2 FF.out.2.2.2.2.2.2.2.2.2.2.1
                  obtain ⟨g, off, v, rfl, h1, h2, h3, h4⟩ := ((LY.out.2.2.2.2.2.2.2.2.2.2.1.in IB.out).in HI2.out).at hlt2 (t := 1) (by decide)
                  have HG := Lib.hid (And.intro h1 h2)
                  clear h1 h2
                  go_wp2
                  go_roundg (n38 - (i + 1))
                  case measure => omega
                  case rel => exact ⟨i + 1, hlt2, Nat.le_refl _, by go_num, HI2.out.setCell _ _ HG.out.1 HG.out.2⟩
                · obtain rfl : i = n38 := by omega
                  clear IX
                  have IX := HI2
                  clear HI2 hi hg2 hlt2
                  have f42 := IX.out.cell GB.out.2.2.2.2 FF.out.2.2.2.2.2.2.2.2.2.2.2.1
                  have f45 := IX.out.cell GB.out.2.2.2.2 FF.out.2.2.2.2.2.2.2.2.2.2.2.2.1
                  obtain ⟨RL, hRL⟩ : ∃ RL : List (Option Addr × Nat × Nat), RL = [(q42, n42, k42), (q45, n45, k45)] := ⟨_, rfl⟩
                  obtain ⟨S, hS⟩ : ∃ S, S = wr.heap.size := ⟨_, rfl⟩
                  obtain ⟨ws, hws⟩ : ∃ ws, ws = wr.alloc (.cells #[.slice q42 n42 k42, .slice q45 n45 k45] 37) := ⟨_, rfl⟩
                  have IS : In N M w1 ws := IX.out.trans (In.ofBelow (hws ▸ (Gr.refl wr).alloc _).below)
                  have hcell : ∀ j q n c, RL[j]? = some (q, n, c) → ws.cell? ⟨S, j, none⟩ = some (.slice q n c) ∧ Lies N M ws q n 3 ∧ n ≤ 255 := by
                    intro j q n c hj
                    rw [hRL] at hj
                    have tn := TN.out
                    match j, hj with
                    | 0, hj => simp at hj; obtain ⟨rfl, rfl, rfl⟩ := hj; exact ⟨by rw [hws, hS]; simp, (LY.out.2.2.2.2.2.2.2.2.2.2.2.1.in IB.out).in IS, by omega⟩
                    | 1, hj => simp at hj; obtain ⟨rfl, rfl, rfl⟩ := hj; exact ⟨by rw [hws, hS]; simp, (LY.out.2.2.2.2.2.2.2.2.2.2.2.2.1.in IB.out).in IS, by omega⟩
                    | j + 2, hj => simp at hj
                  have HLN : Hid (RL.length = 2) := by show _ = _; rw [hRL]; rfl
                  have HC := Lib.hid hcell
                  have HSM : Hid (M ≤ S) := by show _ ≤ _; rw [hS, HM.out]; exact Nat.le_trans IB.out.size IX.out.size
                  have HIS := Lib.hid IS
                  have HWS := Lib.hid (And.intro hws hS)
                  clear hcell IS hws hS hRL
                  go_wp2_with fail
                  rw [← HWS.out.1, ← HWS.out.2]
                  go_loopg [136] 2 (fun g vi wr => ∃ (k : Nat), k ≤ 2 ∧ 2 - k ≤ g ∧ vi = .int .i64 (k : Int) ∧ Hid (In N M ws wr))
                  case atStart => exact ⟨0, by omega, by omega, rfl, In.refl _ _ _⟩
                  case round =>
                    obtain ⟨k, hk, hg, rfl, HI⟩ := hrel
                    by_cases hlt : k < 2
                    · obtain ⟨x, hx⟩ : ∃ x, RL[k]? = some x := ⟨_, List.getElem?_eq_getElem (by rw [HLN.out]; exact hlt)⟩
                      obtain ⟨q, n, c⟩ := x
                      have d := HI.out.cell HSM.out (HC.out k q n c hx).1
                      have hn := (HC.out k q n c hx).2.2
                      have HLI := Lib.hid (HC.out k q n c hx).2.1
                      clear hx
                      go_wp2_with fail
                      go_loopg [142] n (fun g vi wr2 => ∃ (i : Nat), i ≤ n ∧ n - i ≤ g ∧ vi = .int .i64 (i : Int) ∧ Hid (In N M ws wr2))
                      case atStart => exact ⟨0, by omega, by omega, rfl, HI.out⟩
                      case round =>
                        obtain ⟨i, hi, hg2, rfl, HI2⟩ := hrel
                        by_cases hlt2 : i < n
                        · obtain ⟨g, off, v, rfl, h1, h2, h3, h4⟩ := (HLI.out.in HI2.out).at hlt2 (t := 1) (by decide)
                          have HG := Lib.hid (And.intro h1 h2)
                          clear h1 h2 d
                          go_wp2
                          go_roundg (n - (i + 1))
                          case measure => omega
                          case rel => exact ⟨i + 1, hlt2, Nat.le_refl _, by go_num, HI2.out.setCell _ _ HG.out.1 HG.out.2⟩
                        · obtain rfl : i = n := by omega
                          go_wp2
                          go_roundg (2 - (k + 1))
                          case measure => omega
                          case rel => exact ⟨k + 1, hlt, Nat.le_refl _, by go_num, HI2.out⟩
                    · obtain rfl : k = 2 := by omega
                      have IXd : Hid (In N M w1 wr) := HIS.out.trans HI.out
                      clear HI HIS HWS HC HLN HSM hk hg hlt IX
                      have IX := IXd
                      clear IXd
                      -- the world is wr
                      clear f42 f45
                      have f46 := IX.out.cell GB.out.2.2.2.2 FF.out.2.2.2.2.2.2.2.2.2.2.2.2.2
                      have hn46 : n46 ≤ 255 := by have := TN.out; omega
                      -- n46
                      go_wp2_with fail
                      clear f46
                      go_loopg [154] n46 (fun g vi wr2 => ∃ (i : Nat), i ≤ n46 ∧ n46 - i ≤ g ∧ vi = .int .i64 (i : Int) ∧ Hid (In N M w1 wr2))
                      case atStart => exact ⟨0, by omega, by omega, rfl, IX.out⟩
                      case round =>
                        obtain ⟨i, hi, hg2, rfl, HI2⟩ := hrel
                        by_cases hlt2 : i < n46
                        · have d := HI2.out.cell GB.out.2.2.2.2 FF.out.2.2.2.2.2.2.2.2.2.2.2.2.2
                          obtain ⟨g, off, v, rfl, h1, h2, h3, h4⟩ := ((LY.out.2.2.2.2.2.2.2.2.2.2.2.2.2.in IB.out).in HI2.out).at hlt2 (t := 2) (by decide)
                          have HG := Lib.hid (And.intro h1 h2)
                          clear h1 h2
                          go_wp2
                          go_roundg (n46 - (i + 1))
                          case measure => omega
                          case rel => exact ⟨i + 1, hlt2, Nat.le_refl _, by go_num, HI2.out.setCell _ _ HG.out.1 HG.out.2⟩
                        · obtain rfl : i = n46 := by omega
                          clear IX
                          have IX := HI2
                          clear HI2 hi hg2 hlt2
                          have n4 := X6.out.size
                          have n6 := K7.out.size
                          have n7 := XB.out.1.size
                          have hNN := HNN.out
                          have BZ : Below w4.heap.size w4 wr := X6.out.trans ((K7.out.below.mono n4).trans ((XB.out.1.mono (by omega)).trans (hNN.1 ▸ IX.out.below (by omega))))
                          have VZ : ObjV wr cs ob := V4.out.below BZ
                          have cz : wr.heap[C0]? = some (.cells cs 44 (0, 0)) := by
                            have c4 : w4.heap[C0]? = some (.cells cs 44 (0, 0)) := ((K2.out.trans K4.out).heap (Array.getElem?_eq_some_iff.1 HW.out.2.2.2.1).1).trans HW.out.2.2.2.1
                            exact (BZ.block C0 hNN.2).trans c4
                          have LZ := Lib.hid (load_ob cz VZ.1)
                          have CZ := Lib.hid (robj_any wr cs ob VZ HKK.out FT.out)
                          have GW : Gr W w4 := HW.out.2.2.1.trans (K2.out.trans K4.out)
                          have FZ : Hid (∀ wz, Gr wr wz → Below W.heap.size W wz) := fun wz g => GW.below.trans ((BZ.mono GW.size).trans (g.below.mono (Nat.le_trans GW.size BZ.size)))
                          rw [← HS.out] at CZ
                          clear n4 n6 n7 hNN BZ VZ cz GW
                          go_wp2_with (refine wpList_load_by (by kernel_rfl) 44 _ rfl (.pointer (some ⟨C0, 0, none⟩)) (.agg cs) (by rfl) LZ.out ?_)
                          refine CZ.out.mono ?_
                          rintro e wz ⟨rfl, gz⟩
                          have KZ := Lib.hid (FZ.out _ gz)
                          clear gz
                          go_wp2
                          go_ret
                          exact ⟨by first | rfl | (simp; done) | (congr 2; exact beq_self_eq_true _), KZ.out⟩
theorem walk {H : Type} {enc : TypeId × Value → H} {base : Nat} (W : World) (v0 : Value) (d0 : DataW H) (p0 : List MemPlace) (o0 : Value.okWide Try.prog W .any base 44 v0) (h0 : DataW.Trod enc Try.prog W 0 (fun _ => true) true 44 v0 d0 p0) (wt : Wt 44 d0) :
    Calls Try.prog 5 #[v0] W fun e W' => e = .returned (.bool true) ∧ Below W.heap.size W W' := by
  obtain ⟨cs, o, rfl, hv, F⟩ := open_ob o0 h0 wt
  exact walk_at W cs o hv F (open_nil h0 wt)

/-! ### THE ROW's STEP -/
set_option maxRecDepth 100000 in
theorem lifted (os : Os) (started : os.Started) (H : Type) (enc : TypeId × Value → H) :
    ReturnsInHanded {} Try.checked os 5 .any (Rows.validClonesSpec.pre6 enc Try.prog Try.f5 Rows.validClonesRow.domain false) (Rows.validClonesSpec.post enc Try.prog Try.f5 false true false false) := by
  refine returnsInHanded_of_change_sized (C := Try.checked) own started (by kernel_rfl) Try.func5
    (ChangeSpec.witness6 (enc := enc) (C := Try.checked) false ⟨#[], #[.agg zerC], []⟩ 8 (by kernel_rfl) (by kernel_rfl) (by kernel_rfl) (by kernel_rfl)) ?_
  intro W base args ds gs before hval0 hW hcnd hsz0 _
  have hval : ∀ (j : Nat) t v, Try.f5.params[j]? = some t → args[j]? = some v → Value.okWide Try.prog W .any base t v := hval0
  have hW' := hW
  obtain ⟨p, q, hA0, hV, rfl, hfz, hnd⟩ := hW
  have hA : DataW.TrodAll enc Try.prog W 0 (fun _ => true) true Try.f5.params.toList args.toList ds p := hA0
  have hlt : ∀ x ∈ p, x.block < W.heap.size := fun x hx => hW'.lt x (List.mem_append_left _ hx)
  rw [Try.params5] at hA hval
  have hread : ∀ t ∈ [44], Try.prog.readableRec t = true ∧ t < Try.prog.types.size := by
    intro t ht
    simp only [List.mem_cons, List.not_mem_nil, or_false] at ht
    rcases ht with rfl <;> exact ⟨by kernel_rfl, of_decide_eq_true (by kernel_rfl)⟩
  have again : ∀ (W' : World), Below W.heap.size W W' → ∀ sp : Nat → Bool, (∀ x ∈ p, sp x.block = true) → DataW.TrodAll enc Try.prog W' 0 sp true [44] args.toList ds p :=
    fun W' hb sp hsp => all_again (by kernel_rfl) hb [44] args.toList ds p hread hA hlt hsp
  obtain ⟨v0, d0, rfl, rfl, h0⟩ := trodAll_one hA
  obtain ⟨rfl, rfl⟩ := trodVars_none hV
  have wt : Wt 44 d0 := fun n hn => by
    have := List.all_eq_true.1 hsz0 n (DataW.weights_mem_each (j := 0) (t := 44) (d := d0) (by kernel_rfl) rfl n hn)
    simpa using this
  clear hA0 hval0
  simp only [List.append_nil] at hW'
  refine (walk W v0 d0 _ (hval 0 44 v0 rfl rfl) h0 wt).mono fun e W' ⟨he, hg⟩ => ?_
  subst he
  exact ⟨_, rfl, post_below hW' hg (fun _ _ _ => trodAll_mk1 (shut_bool Try.underlying4 _)) (fun sp hsp => again W' hg sp hsp) (fun _ => rfl) (ok_one (by kernel_rfl) rfl (okWide_bool_mk Try.underlying4 _))⟩

theorem over : Rows.validClonesRow.holds Try.pinned (OpenSpec.ofChange Rows.validClonesSpec) :=
  OpenClaim.holds_of_wide 5 Try.f5 rfl rfl rfl rfl rfl rfl rfl ⟨rfl, rfl, rfl, rfl, rfl⟩ rfl rfl rfl rfl rfl (by kernel_rfl) Try.func5 (by kernel_rfl)
    (of_decide_eq_true (by kernel_rfl)) (by unfold Func.isWrapper; first | (rw [if_pos (by decide +kernel)]; kernel_rfl) | (rw [if_neg (by decide +kernel)]; exact ⟨rfl, rfl⟩))
    (fun os started H enc _ => lifted os started H enc)

/-- The statement. -/
theorem proved : Rows.ValidClonesSaid :=
  over
#print axioms proved

end Go.Proofs.Ytnfeimjidebboaa.validClones
