/- The writer's Object. -/
import Derived.Test.YtlajiochpdlhaaaOctP
import Derived.Test.YtlajiochpdlhaaaOctUw
import Derived.Test.YtlajiochpdlhaaaOctH
import Derived.Deep.RegionLaw
import Derived.Deep.DeepCutAuto
namespace Go.Proofs.Ytlajiochpdlhaaa
open Go.RowKit Go.Shelf Go.Lib Go.Sort
open Go.Joins (cell_of_block unfrozen_of_block block_setCell)
set_option linter.unusedVariables false
set_option linter.unusedSimpArgs false
set_option maxRecDepth 20000


theorem slr_a {α : Type} {k : Nat} {enc : α → List Value} {w wa : World} {v : Option Value} {l : List α} {A C O : Nat} (h : SlR k enc w v l) (g : Gr w wa) (hA : w.heap.size ≤ A) (hC : w.heap.size + 2 ≤ C) (hO : w.heap.size ≤ O) (hy : yb wa A = none) (hl : l.length ≤ 9223372036854775807) : SlA A C O k enc wa v l := by
  obtain ⟨q, c, e, r⟩ := h
  refine ⟨q, c, e, fun j x hj => ?_, hl⟩
  obtain ⟨b, off, eq, hb, hc⟩ := r j x hj
  exact ⟨b, off, eq, Nat.lt_of_lt_of_le hb g.size, by omega, ⟨by omega, by omega⟩, by omega, by rw [hy]; simp, fun t v hv => g.cell (hc t v hv)⟩
theorem obV_a {w wa : World} {cs : Array Value} {x : Ob} {A C O : Nat} (h : ObjV w cs x) (hn : lenO x) (g : Gr w wa) (hA : w.heap.size ≤ A) (hC : w.heap.size + 2 ≤ C) (hO : w.heap.size ≤ O) (hy : yb wa A = none) : obA A C O wa cs x := by
  obtain ⟨hs, hd, hW, hP, hN, hG, hH⟩ := h
  obtain ⟨n0, n1, n2, n3, n4, n5, n6, n7, n8, n9, n10, n11, n12, n13⟩ := hn
  obtain ⟨a3, a4, a5, a6, a7, a8, a9⟩ := hW
  obtain ⟨a10, a11, a12, a13, a14, a15, a16, a17, a18, a19⟩ := hP
  obtain ⟨a20, a21, a22, a23, a24, a25, a26⟩ := hN
  obtain ⟨a27, a28, a29, a30, a31, a32, a33, a34⟩ := hG
  obtain ⟨a35, a36, a37, a38, a39, a40, a41, a42, a43, a44, a45, a46⟩ := hH
  exact ⟨hs, hd, ⟨a3, a4, a5, slr_a a6 g hA hC hO hy (by assumption), slr_a a7 g hA hC hO hy (by assumption), slr_a a8 g hA hC hO hy (by assumption), a9⟩, ⟨a10, a11, a12, a13, a14, a15, slr_a a16 g hA hC hO hy (by assumption), slr_a a17 g hA hC hO hy (by assumption), slr_a a18 g hA hC hO hy (by assumption), a19⟩, ⟨a20, a21, a22, slr_a a23 g hA hC hO hy (by assumption), slr_a a24 g hA hC hO hy (by assumption), a25, a26⟩, ⟨a27, a28, a29, a30, a31, slr_a a32 g hA hC hO hy (by assumption), slr_a a33 g hA hC hO hy (by assumption), a34⟩, ⟨a35, a36, a37, slr_a a38 g hA hC hO hy (by assumption), a39, a40, a41, slr_a a42 g hA hC hO hy (by assumption), a43, a44, slr_a a45 g hA hC hO hy (by assumption), slr_a a46 g hA hC hO hy (by assumption)⟩⟩
theorem obZ_wr (lg : Bool) (bs : List UInt8) (L : Array Value) (x : Ob) : obZ (.wr lg bs) L x := by
  refine ⟨?_, ?_, ?_, ?_, ?_⟩
  · exact ⟨(fun h => by cases h), (fun h => by cases h), (fun h => by cases h)⟩
  · exact ⟨(fun h => by cases h), (fun h => by cases h), (fun h => by cases h)⟩
  · exact ⟨(fun h => by cases h), (fun h => by cases h)⟩
  · exact ⟨(fun h => by cases h), (fun h => by cases h)⟩
  · exact ⟨(fun h => by cases h), (fun h => by cases h), (fun h => by cases h), (fun h => by cases h)⟩

theorem objLen {x : Ob} {bs : List UInt8} (hk : 0 ≤ x.kind ∧ x.kind ≤ 4) : (objT (.wr false bs) x).1.len ≤ bs.length + 20000000 := by
  unfold objT
  dsimp only
  have q1 := oneT_len (.wr false bs) x.kind
  have q2 := txtT_len (oneT (.wr false bs) x.kind).1 x.name
  have q3 := numU_len (txtT (oneT (.wr false bs) x.kind).1 x.name).1 x.ver
  have q4 := wlT_len (numU (txtT (oneT (.wr false bs) x.kind).1 x.name).1 x.ver).1 x.w
  have q5 := pdT_len (numU (txtT (oneT (.wr false bs) x.kind).1 x.name).1 x.ver).1 x.p
  have q6 := ndT_len (numU (txtT (oneT (.wr false bs) x.kind).1 x.name).1 x.ver).1 x.n
  have q7 := gpT_len (numU (txtT (oneT (.wr false bs) x.kind).1 x.name).1 x.ver).1 x.g
  have q8 := hpT_len (numU (txtT (oneT (.wr false bs) x.kind).1 x.name).1 x.ver).1 x.h
  have q0 : (oneT (.wr false bs) x.kind).2 = x.kind := rfl
  rw [q0]
  have e0 : (St.wr false bs).len = bs.length := rfl
  rw [e0] at q1
  split
  · show (wlT _ _).1.len ≤ _; omega
  · split
    · show (pdT _ _).1.len ≤ _; omega
    · split
      · show (ndT _ _).1.len ≤ _; omega
      · split
        · show (gpT _ _).1.len ≤ _; omega
        · split
          · show (hpT _ _).1.len ≤ _; omega
          · exfalso; omega

theorem wobj_kind (w : World) (A : Nat) (cs : Array Value) (x : Ob) (hv : ObjV w cs x) (hk : x.kind < 0 ∨ 5 ≤ x.kind) :
    Calls Try.prog 23 #[ptr A, .agg cs] w fun e w' => e = .returned (.int .i64 17) ∧ Gr w w' := by
  have c0 : cs[0]? = some (.int .i64 x.kind) := hv.2.1.1
  have G : Hid (Gr w (w.alloc (.cells cs 66))) := (Gr.refl w).alloc _
  have d0 : (w.alloc (.cells cs 66)).cell? ⟨w.heap.size, 0, none⟩ = some (.int .i64 x.kind) := by simp [c0]
  clear hv c0
  generalize x.kind = k at *
  rcases hk with hk | hk
  all_goals
    go_enter Try.func23, Try.ntmps23
    go_wp2
    go_ret
    exact ⟨rfl, G.out⟩

set_option maxHeartbeats 4000000 in
theorem wobj_any (w : World) (N A : Nat) (bs : List UInt8) (cs : Array Value) (x : Ob) (h : WrM w N A bs) (hN : N ≤ w.heap.size) (hb : bs.length ≤ 1000) (hv : ObjV w cs x) (hn : lenO x) (hk : 0 ≤ x.kind ∧ x.kind ≤ 4) :
    Calls Try.prog 23 #[ptr A, .agg cs] w fun e w' => Mv A A A w w' ∧ ((okO x = false ∧ e = .returned (.int .i64 18) ∧ WrM w' N A bs) ∨ (okO x = true ∧ e = .returned (.int .i64 0) ∧ WrM w' N A (bs ++ objB x))) := by
  have mixed : Try.prog.follows .mixedOrders = true := by kernel_rfl
  obtain ⟨O, hO⟩ : ∃ O, O = w.heap.size := ⟨_, rfl⟩
  obtain ⟨B, hB⟩ : ∃ B, B = w.heap.size + 1 := ⟨_, rfl⟩
  obtain ⟨C, hC⟩ : ∃ C, C = w.heap.size + 2 := ⟨_, rfl⟩
  obtain ⟨wa, hwa⟩ : ∃ wa, wa = ((w.alloc (.cells cs 66)).alloc (.cells #[.slice none 0 0] 27)).alloc (.cells #[.pointer (some ⟨B, 0, none⟩), .pointer none, .bool false] 82) := ⟨_, rfl⟩
  have G : Gr w wa := hwa ▸ (((Gr.refl w).alloc _).alloc _).alloc _
  have b1 : wa.heap[O]? = some (.cells cs 66 (0, 0)) := by
    rw [hwa, hO]
    rw [(((Gr.refl (w.alloc (.cells cs 66))).alloc _).alloc _).heap (by simp)]
    exact heap_alloc_new w _
  have b2 : wa.heap[B]? = some (.cells #[.slice none 0 0] 27 (0, 0)) := by
    rw [hwa, hB]
    rw [((Gr.refl ((w.alloc (.cells cs 66)).alloc (.cells #[.slice none 0 0] 27))).alloc _).heap (by simp)]
    have := heap_alloc_new (w.alloc (.cells cs 66)) (.cells #[.slice none 0 0] 27)
    simpa using this
  have b3 : wa.heap[C]? = some (.cells #[.pointer (some ⟨B, 0, none⟩), .pointer none, .bool false] 82 (0, 0)) := by
    rw [hwa, hC]
    have := heap_alloc_new ((w.alloc (.cells cs 66)).alloc (.cells #[.slice none 0 0] 27)) (.cells #[.pointer (some ⟨B, 0, none⟩), .pointer none, .bool false] 82)
    simpa using this
  have hsz : wa.heap.size = w.heap.size + 3 := by rw [hwa]; simp
  have hyb : yb wa B = none := by rw [yb_of (v := .slice none 0 0) b2 rfl]; rfl
  have hc : CoreSt w.heap.size B C (.wr false []) wa := ⟨by omega, by omega, by omega, by omega, by omega, by omega, (fun b hb => by rw [hyb] at hb; cases hb), b3, .slice none 0 0, b2, by omega, World.ownsRow_nil _ _ _ _, by simp [Value.ownBlock]⟩
  have ht : Tg B C O cs 66 (0, 0) wa := ⟨b1, by omega, by omega, by rw [hyb]; simp⟩
  have OC := Lib.hid (object_any wa w.heap.size B C O (.wr false []) cs 66 (0, 0) x hc ht (fun h => by cases h) (obV_a hv hn G (by omega) (by omega) (by omega) hyb) (obZ_wr _ _ _ _) (fun _ => hk) (by simp only [St.len]; decide))
  obtain ⟨bs2, o2, hT, hbytes⟩ := objT_write hk []
  have d0 : (w.alloc (.cells cs 66)).cell? ⟨w.heap.size, 0, none⟩ = some (.int .i64 x.kind) := by have c0 : cs[0]? = some (.int .i64 x.kind) := hv.2.1.1; simp [c0]
  have hk0 : decide (x.kind < 0) = false := decide_eq_false (by omega)
  have hk5 : decide (5 ≤ x.kind) = false := decide_eq_false (by omega)
  have hlen := objLen (bs := []) hk
  rw [hT] at hlen
  have hC2 : B + 1 = C := by omega
  have HW := Lib.hid (And.intro hwa (And.intro hO (And.intro hB hC)))
  have HG := Lib.hid (And.intro G (And.intro hyb hsz))
  have HWR := Lib.hid (And.intro h (And.intro hN (And.intro hb hlen)))
  have HT := Lib.hid (And.intro hT hbytes)
  have hkk : ¬ (x.kind < 0) := by omega
  have hkk5 : ¬ (5 ≤ x.kind) := by omega
  generalize hq : okO x = okx at HT
  have HQ := Lib.hid hq
  clear h hN hb hv hn hk G b1 b2 b3 hsz hyb hc ht hT hbytes hlen hq hwa
  go_enter Try.func23, Try.ntmps23
  generalize x.kind = kk at d0 hk0 hk5 hkk hkk5
  go_wp2_with fail
  rw [← hB, ← HW.out.1, hC2, ← hO]
  refine OC.out.mono ?_
  rintro e w1 ⟨rfl, L', k1, _⟩
  rw [HT.out.1] at k1
  subst hO hB hC
  have m := k1.2.2
  have hw1 : WrM w1 N A bs := by
    have h := HWR.out.1
    have g := HG.out.1
    refine (h.gr g).stay ?_ ?_
    · exact m.blk A (Nat.lt_of_lt_of_le h.lt g.size) (by have := h.lt; omega) (by have := h.lt; omega) (by have := h.lt; omega) (by rw [HG.out.2.1]; simp)
    · intro b hb
      have h2 := (h.gr g).yb_lo b hb
      rw [yb_block (g.heap h.lt)] at hb
      have h3 := h.yb_lo b hb
      exact m.blk b h2.2.1 (by omega) (by omega) (by omega) (by rw [HG.out.2.1]; simp)
  have mA : Mv A A A w w1 := by
    have h := HWR.out.1
    have g := HG.out.1
    refine ⟨m.os.trans g.below.os, m.tape.trans g.below.tape, m.output.trans g.below.output, Nat.le_trans g.size m.size, fun b hb _ _ _ _ => ?_, fun b e => ?_⟩
    · exact (m.blk b (Nat.lt_of_lt_of_le hb g.size) (by omega) (by omega) (by omega) (by rw [HG.out.2.1]; simp)).trans (g.heap hb)
    · rw [yb_block ((m.blk A (Nat.lt_of_lt_of_le h.lt g.size) (by have := h.lt; omega) (by have := h.lt; omega) (by have := h.lt; omega) (by rw [HG.out.2.1]; simp)).trans (g.heap h.lt))] at e
      exact .inl e
  have c2 : w1.cell? ⟨w.heap.size + 2, 2, none⟩ = some (.bool (!okx)) := cell_of_block k1.1.2.2.2.2.2.2.2.1 2
  cases okx with
  | false =>
    have FIN := Lib.hid (And.intro mA hw1)
    clear k1 m hw1 mA
    go_wp2
    go_ret
    exact ⟨FIN.out.1, rfl, FIN.out.2⟩
  | true =>
    have hbs2 : bs2 = objB x := by have := HT.out.2 rfl; simpa using this
    have hne : 0 < bs2.length := by rw [hbs2]; simp [objB, hdB, le]
    obtain ⟨g2, cap2, q1, _, q3, _⟩ := k1.1.2.2.2.2.2.2.2.2.some hne
    obtain ⟨v, h1, h2, h3, h4⟩ := hw1
    have hA1 : A < w1.heap.size := (Array.getElem?_eq_some_iff.1 h1).1
    have a1 : w1.cell? ⟨A, 0, none⟩ = some v := cell_of_block h1 0
    have a2 : w1.cell? ⟨w.heap.size + 1, 0, none⟩ = some (.slice (some ⟨g2, 0, none⟩) bs2.length cap2) := cell_of_block q1 0
    have hvlt : ∀ k, v.ownBlock = some k → k < w1.heap.size := fun k hk => (World.ownsRow.lt h3 k hk).2
    have hnews : ∀ j u, (cellsU bs2)[j]? = some u → w1.drew.cell? ((⟨g2, 0, none⟩ : Addr).add j) = some u := fun j u hu => q3.cells (g := g2) rfl j u hu
    obtain ⟨i, hi, hz0, hz1, hz2⟩ := info_u8
    have HI := Lib.hid (And.intro hi (And.intro hz0 (And.intro hz1 hz2)))
    have own : Hid (w1.drew.ownsRow N 5 1 v bs.length (cellsU bs)) := h3
    have H1 := Lib.hid (And.intro h1 (And.intro h2 (And.intro h4 (And.intro hvlt hnews))))
    have HL : Hid (bs2.length ≤ 20000000 ∧ bs.length ≤ 1000 ∧ N ≤ w1.drew.heap.size) := ⟨HWR.out.2.2.2, HWR.out.2.2.1, Nat.le_trans HWR.out.2.1 mA.size⟩
    have M1 := Lib.hid mA
    have HE := Lib.hid hbs2
    have hl1 := HL.out.1
    have hl2 := HL.out.2.1
    clear k1 m mA h1 h2 h3 h4 q1 q3 hvlt hnews hi hz0 hz1 hz2 hbs2
    go_wp2_with fail
    go_region_law (first | (refine step_append_lies _ rfl _ _ 25 (by rfl) N 5 i (.int .u8 0) 1 1 Try.underlying25 HI.out.1 HI.out.2.1 HI.out.2.2.1 HI.out.2.2.2 rfl (by omega) v bs.length (cellsU bs) (by rfl) own.out ⟨g2, 0, none⟩ bs2.length cap2 (cellsU bs2) (by rfl) (by rw [cellsU_len, Nat.mul_one]) H1.out.2.2.2.2 (cellsU_one bs2) hne (by unfold maxLen; omega) (by omega) HL.out.2.2 w1.heap.size (by rfl) ?_; intro g cap w4 hown4 hgrow4 hat4 hlt4; have u1 : w4.cell? ⟨A, 0, none⟩ = some v := ((hgrow4.cell_far ⟨A, 0, none⟩ hA1 (fun e => H1.out.2.2.1 e.symm)).trans a1); have u2 : w4.frozen? ⟨A, 0, none⟩ = false := ((hgrow4.frozen_far ⟨A, 0, none⟩ hA1 (fun e => H1.out.2.2.1 e.symm)).trans (unfrozen_of_block H1.out.1 0)); have hfin : Hid (WrM (w4.setCell ⟨A, 0, none⟩ (.slice (some ⟨g, 0, none⟩) (bs.length + bs2.length) cap)) N A (bs ++ bs2) ∧ Mv A A A w1 (w4.setCell ⟨A, 0, none⟩ (.slice (some ⟨g, 0, none⟩) (bs.length + bs2.length) cap))) := (by have hz := wr_step (wr := w1) (wa := w1.drew) (bs := bs) (cap := cap) (news := bs2) H1.out.1 H1.out.2.1 H1.out.2.2.1 H1.out.2.2.2.1 (Gr.refl w1).drew (by rw [List.length_append]; exact hown4) hgrow4 (hat4.imp id (fun e => Nat.le_of_eq e.symm)); rw [List.length_append] at hz; exact hz); clear hown4 hgrow4 hat4 hlt4))
    all_goals
      go_wp2
      go_ret
      exact ⟨M1.out.trans hfin.out.2, rfl, by rw [← HE.out]; exact hfin.out.1⟩
end Go.Proofs.Ytlajiochpdlhaaa
