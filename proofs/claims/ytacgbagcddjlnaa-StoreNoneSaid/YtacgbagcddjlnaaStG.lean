/- Objects created. -/
import Derived.Test.YtacgbagcddjlnaaStF
namespace Go.Proofs.Ytacgbagcddjlnaa
open Go.RowKit Go.Shelf Go.Lib Go.Sort
open Go.Joins (cell_of_block unfrozen_of_block block_setCell)
set_option linter.unusedVariables false
set_option linter.unusedSimpArgs false
set_option maxRecDepth 20000

set_option maxHeartbeats 4000000 in
theorem create_any (base : Nat) (w : World) (S : List Nat) (sp : Nat) (most : Int) (l : List Ob) (hist : List Ev) (cs : Array Value) (o : Ob) (hs : StIs base w S sp most l hist) (hc : Kept base w cs o) (hn : hist.length < 1000000) (he : chkE (dfl o) = 0) :
    Calls Try.prog 15 #[.pointer (some ⟨sp, 0, none⟩), .agg cs] w fun e w' =>
      (creE (dfl o) l most ≠ 0 ∧ e = .returned (.tuple #[.int .u64 0, .int .i64 (creE (dfl o) l most)]) ∧ Below w.heap.size w w') ∨
      (creE (dfl o) l most = 0 ∧ e = .returned (.tuple #[.int .u64 ((hist.length + 1 : Nat) : Int), .int .i64 0]) ∧ After base w w' S sp most (put l (setV (dfl o) (hist.length + 1))) (hist ++ [⟨0, (dfl o).kind, (dfl o).name, hist.length + 1⟩])) := by
  have mixed : Try.prog.follows .mixedOrders = true := by kernel_rfl
  obtain ⟨B, hB⟩ : ∃ B, B = w.heap.size := ⟨_, rfl⟩
  obtain ⟨wb, hwb⟩ : ∃ wb, wb = w.alloc (.cells cs OT) := ⟨_, rfl⟩
  have hb : base ≤ w.heap.size := by obtain ⟨_, _, _, _, h⟩ := hs; exact h.bw
  have G0 : Gr w wb := hwb ▸ (Gr.refl w).alloc _
  have b0 : wb.heap[B]? = some (.cells cs OT (0, 0)) := by rw [hwb, hB]; exact heap_alloc_new w _
  have hbs : wb.heap.size = B + 1 := by rw [hwb, hB]; simp
  have LO := Lib.hid (load_ob b0 hc.obj.1)
  have K0 := hc.fx (Fx.ofBelow (base := base) G0.below)
  have CR := Lib.hid (ready_any base wb sp cs o K0 (by omega))
  have HH := Lib.hid (And.intro hc (And.intro hb (And.intro hwb (And.intro hB (And.intro G0 (And.intro b0 (And.intro hbs hs)))))))
  have HE := Lib.hid he
  rw [he] at CR
  clear hc hb G0 b0 hbs K0 hs he
  obtain ⟨d, hd⟩ : ∃ d, d = dfl o := ⟨_, rfl⟩
  rw [← hd] at HE CR ⊢
  clear hd
  go_enter Try.func15, Try.ntmps15
  go_upto_region 1 with fail
  rw [← hwb, ← hB]
  clear hwb hB
  go_wp2_with (refine wpList_load_by (by kernel_rfl) OT _ rfl (.pointer (some ⟨B, 0, none⟩)) (.agg cs) (by kernel_rfl) LO.out ?_)
  refine CR.out.mono ?_
  rintro e m ⟨⟨D, rfl, KD⟩, hbl⟩
  obtain ⟨hc, hb, hwb, hB, G0, b0, hbs, hs⟩ := HH.out
  have m0 : m.heap[B]? = some (.cells cs OT (0, 0)) := (hbl.block B (by omega)).trans b0
  obtain ⟨th, n0, fx1, c1⟩ := store_ob (base := base) m0 hc.obj.1 KD.obj.1 (by omega)
  obtain ⟨n, hn'⟩ : ∃ n, n = m.setCells B 0 D.toList := ⟨_, rfl⟩
  rw [← hn'] at n0 fx1 c1
  have IN : Hid ((Try.prog.info? OT).map (·.size) = some D.size) := by show _ = _; rw [KD.obj.1]; exact info_ob47
  have TH := Lib.hid th
  have ON := Lib.hid (objV_one KD.obj)
  have HN := Lib.hid hn'
  have KN := KD.fx fx1
  have BN : Below w.heap.size w n := ((Xb.ofGr G0 B).trans ((Xb.ofBelow hbl B).trans ⟨c1.os, c1.tape, c1.output, c1.size, fun k hk hne => c1.block k hk (by simpa using hne)⟩)).below (by omega) (Nat.le_refl _)
  have SN := hs.gr BN
  have hBw : B = w.heap.size := hB
  have HM := Lib.hid (And.intro KN (And.intro n0 (And.intro BN (And.intro SN (And.intro hs hBw)))))
  clear hc hb hwb hB G0 b0 hbs m0 th n0 fx1 c1 hn' KD hbl LO CR HH KN BN SN hs hBw
  go_upto_region 4 with (refine wpList_store_mid rfl _ _ _ rfl B 0 D (by rfl) (by rfl) TH.out IN.out ON.out ?_; rw [← HN.out])
  clear TH HN
  obtain ⟨KN, n0, BN, SN, hs, hBw⟩ := HM.out
  obtain ⟨mb, Dm, ev, kept, h⟩ := SN
  have okd : OkK d := ok_chk HE.out KN.fits
  obtain ⟨th, V, hV, hth, LK, hfind⟩ : ∃ th V, V.size = 47 ∧ l.any (hit d.kind d.name) = th ∧ (∀ ws : World, ws.heap[mb]? = n.heap[mb]? → (Instr.lookup MT (.map (some mb)) (thing d.kind d.name) true).run Try.prog ws = .ok (.tuple #[.agg V, .bool th]) ws) ∧ (∀ x, l.find? (hit d.kind d.name) = some x → Kept base n V x) := by
    rcases h.map.look okd.1 okd.2 with ⟨a1, a2, a3⟩ | ⟨x, cx, a1, a2, a3, a4⟩
    · exact ⟨false, zerC, rfl, a1, a3, fun x hx => by rw [a2] at hx; cases hx⟩
    · exact ⟨true, cx, a3.obj.1, a1, a4, fun y hy => by rw [a2] at hy; cases hy; exact a3⟩
  have hVo : V.all (·.oneCell') = true := by
    by_cases e : th = true
    · subst e
      obtain ⟨x, hx⟩ := Option.isSome_iff_exists.1 (show (l.find? (hit d.kind d.name)).isSome = true by rw [List.find?_isSome]; simpa using hth)
      exact objV_one (hfind x hx).obj
    · rcases h.map.look okd.1 okd.2 with ⟨a1, a2, a3⟩ | ⟨x, cx, a1, a2, a3, a4⟩
      · have e1 := LK n rfl
        rw [a3 n rfl] at e1
        simp only [Result.ok.injEq, Value.tuple.injEq, and_true] at e1
        have e2 := congrArg Array.toList e1
        simp at e2
        rw [← e2.1]
        exact zer_all
      · rw [a1] at hth; exact absurd hth.symm e
  have hmc : n.cell? ⟨sp, 2, none⟩ = some (.map (some mb)) := cell_of_block h.blk 2
  have hml : mb < n.heap.size := (map_prot h.map h.bmb).2.1
  have hspl : sp < n.heap.size := (Array.getElem?_eq_some_iff.1 h.blk).1
  have hBl : B < n.heap.size := (Array.getElem?_eq_some_iff.1 n0).1
  have KB : Hid (∀ ws : World, Below n.heap.size n ws → ws.cell? ⟨sp, 2, none⟩ = some (.map (some mb))) := fun ws b => (World.cell?_of_block (b.block sp hspl)).trans hmc
  have KL : Hid (∀ ws : World, Below n.heap.size n ws → ws.rangeAt B 0 D.toList) := fun ws b => rangeAt_block ((b.block B hBl).trans n0)
  have KK : Hid (∀ ws : World, Below n.heap.size n ws → (Instr.lookup MT (.map (some mb)) (thing d.kind d.name) true).run Try.prog ws = .ok (.tuple #[.agg V, .bool th]) ws) := fun ws b => LK ws (b.block mb hml)
  have hi : (Try.prog.info? OT).map (·.size) = some D.toList.length := by rw [Array.length_toList, KN.obj.1]; exact info_ob47
  have hu := Try.underlying56
  have CK : Hid (∀ ws : World, Below n.heap.size n ws → Calls Try.prog 27 #[.agg D] ws fun e w' => e = .returned (thing d.kind d.name) ∧ Below n.heap.size n w' ∧ Gr ws w') := fun ws b =>
    (key_any ws D d.kind d.name KN.obj.2.1.1 KN.obj.2.1.2.1).mono fun e w' h => ⟨h.1, ⟨h.2.below.os.trans b.os, h.2.below.tape.trans b.tape, h.2.below.output.trans b.output, Nat.le_trans b.size h.2.below.size, fun k hk => (h.2.heap (Nat.lt_of_lt_of_le hk b.size)).trans (b.block k hk)⟩, h.2⟩
  have S0 : Hid (Below n.heap.size n n.drew) := ((Gr.refl n).drewN 1).below
  have IV : Hid ((Try.prog.info? OT).map (·.size) = some V.size) := by show _ = _; rw [hV]; exact info_ob47
  have OV := Lib.hid hVo
  have AL : Hid (∀ v : World, Below n.heap.size n v → Below n.heap.size n (v.alloc (.cells zerC OT))) := fun v b => b.alloc b.size _
  have SV : Hid (∀ (v : World) (A : Nat), Below n.heap.size n v → n.heap.size ≤ A → v.heap[A]? = some (.cells zerC OT (0, 0)) → v.there A 0 V.size ∧ (v.setCells A 0 V.toList).heap[A]? = some (.cells V OT (0, 0)) ∧ Below n.heap.size n (v.setCells A 0 V.toList)) := fun v A b hA hz => by
    obtain ⟨a1, a2, a3, a4⟩ := store_ob (base := A) hz rfl hV (Nat.le_refl _)
    exact ⟨a1, a2, b.trans (a4.below (fun g hg => by simp at hg; omega) b.size)⟩
  have HT := Lib.hid (And.intro h (And.intro okd (And.intro hth hfind)))
  clear KN n0 BN hs h okd hV hVo hth LK hfind hmc hml hspl hBl hBw
  go_cut [7, 8] from 18 to 27 (fun v7 v8 wc => ∃ A, v7 = .pointer (some ⟨A, 0, none⟩) ∧ v8 = .bool th ∧ Hid (n.heap.size ≤ A ∧ wc.heap[A]? = some (.cells V OT (0, 0)) ∧ Below n.heap.size n wc))
  case first =>
    refine wp_region_held_drew (S := fun ws => Below n.heap.size n ws) mixed S0.out (fun hS => ?_)
    refine wpAnyH_takeD (i := 0) (d := 19) (v := .pointer (some ⟨sp, 0, none⟩)) _ rfl rfl (by kernel_rfl) (by kernel_rfl) (by kernel_rfl) (fun _ _ _ h => h) (Or.inl ⟨by kernel_rfl, fun ws hSw => by first | (go_simp; done) | (go_simp; with_reducible rfl) | (go_simp; rfl)⟩) hS ?_
    simp only [Act.put, List.setIfInBounds_toArray, List.set_cons_zero, List.set_cons_succ]
    refine wpAnyH_takeD (i := 1) (d := 20) (v := .pointer (some ⟨sp, 0, none⟩)) _ rfl rfl (by kernel_rfl) (by kernel_rfl) (by kernel_rfl) (fun _ _ _ h => h) (Or.inl ⟨by kernel_rfl, fun ws hSw => by first | (go_simp; done) | (go_simp; with_reducible rfl) | (go_simp; rfl)⟩) hS ?_
    simp only [Act.put, List.setIfInBounds_toArray, List.set_cons_zero, List.set_cons_succ]
    refine wpAnyH_takeD (i := 2) (d := 21) (v := .pointer (some ⟨sp, 2, none⟩)) _ rfl rfl (by kernel_rfl) (by kernel_rfl) (by kernel_rfl) (fun _ _ _ h => h) (Or.inl ⟨by kernel_rfl, fun ws hSw => by first | (go_simp; done) | (go_simp; with_reducible rfl) | (go_simp; rfl)⟩) hS ?_
    simp only [Act.put, List.setIfInBounds_toArray, List.set_cons_zero, List.set_cons_succ]
    refine wpAnyH_takeD (i := 3) (d := 22) (v := .map (some mb)) _ rfl rfl (by kernel_rfl) (by kernel_rfl) (by kernel_rfl) (fun _ _ _ h => h) (Or.inl ⟨by kernel_rfl, fun ws hSw => by have q := KB.out ws hSw; first | (go_simp; done) | (go_simp; with_reducible rfl) | (go_simp; rfl)⟩) hS ?_
    simp only [Act.put, List.setIfInBounds_toArray, List.set_cons_zero, List.set_cons_succ]
    refine wpAnyH_takeD (i := 4) (d := 23) (v := .agg D.toList.toArray) _ rfl rfl (by kernel_rfl) (by kernel_rfl) (by kernel_rfl) (fun _ _ _ h => h) (yieldsIf_load_mid (by kernel_rfl) _ _ rfl B 0 (by kernel_rfl) D.toList _ (fun ws hSw => KL.out ws hSw) hu rfl hi) hS ?_
    simp only [Act.put, List.setIfInBounds_toArray, List.set_cons_zero, List.set_cons_succ]
    refine wpAnyH_ready (rs := [5, 10]) (by kernel_rfl) (by simp) ?_
    refine AllReadyH.cons rfl (fun K hK => ?_) (AllReadyH.cons rfl (fun K hK => ?_) AllReadyH.nil)
    · go_simp
      refine (CK.out _ hS).mono ?_
      rintro e w4 ⟨rfl, b4, g4⟩
      refine hK _ _ b4 (fun hS => ?_)
      try simp only [Act.put, List.setIfInBounds_toArray, List.set_cons_zero, List.set_cons_succ]
      refine wpAnyH_takeD (i := 6) (d := 25) (v := .tuple #[.agg V, .bool th]) _ rfl rfl (by kernel_rfl) (by kernel_rfl) (by kernel_rfl) (fun _ _ _ h => h) (Or.inl ⟨by kernel_rfl, fun ws hSw => by have q := KK.out ws hSw; first | (go_simp; done) | (go_simp; with_reducible rfl) | (go_simp; rfl)⟩) hS ?_
      simp only [Act.put, List.setIfInBounds_toArray, List.set_cons_zero, List.set_cons_succ]
      refine wpAnyH_takeD (i := 7) (d := 18) (v := .tuple #[.agg V, .bool th]) _ rfl rfl (by kernel_rfl) (by kernel_rfl) (by kernel_rfl) (fun _ _ _ h => h) (Or.inl ⟨by kernel_rfl, fun ws hSw => by first | (go_simp; done) | (go_simp; with_reducible rfl) | (go_simp; rfl)⟩) hS ?_
      simp only [Act.put, List.setIfInBounds_toArray, List.set_cons_zero, List.set_cons_succ]
      refine wpAnyH_takeD (i := 8) (d := 26) (v := .agg V) _ rfl rfl (by kernel_rfl) (by kernel_rfl) (by kernel_rfl) (fun _ _ _ h => h) (Or.inl ⟨by kernel_rfl, fun ws hSw => by first | (go_simp; done) | (go_simp; with_reducible rfl) | (go_simp; rfl)⟩) hS ?_
      simp only [Act.put, List.setIfInBounds_toArray, List.set_cons_zero, List.set_cons_succ]
      refine wpAnyH_takeD (i := 9) (d := 27) (v := .bool th) _ rfl rfl (by kernel_rfl) (by kernel_rfl) (by kernel_rfl) (fun _ _ _ h => h) (Or.inl ⟨by kernel_rfl, fun ws hSw => by first | (go_simp; done) | (go_simp; with_reducible rfl) | (go_simp; rfl)⟩) hS ?_
      simp only [Act.put, List.setIfInBounds_toArray, List.set_cons_zero, List.set_cons_succ]
      refine wpAnyH_ready (rs := [10]) (by kernel_rfl) (by simp) ?_
      refine AllReadyH.cons rfl (fun K hK => ?_) AllReadyH.nil
      go_simp
      refine hK _ _ (AL.out _ hS) (fun hS => ?_)
      try simp only [Act.put, List.setIfInBounds_toArray, List.set_cons_zero, List.set_cons_succ]
      obtain ⟨A, hA⟩ : ∃ A, A = w4.heap.size := ⟨_, rfl⟩
      obtain ⟨w5, hw5⟩ : ∃ W, W = w4.alloc (.cells zerC OT) := ⟨_, rfl⟩
      have z5 : w5.heap[A]? = some (.cells zerC OT (0, 0)) := by rw [hw5, hA]; exact heap_alloc_new w4 _
      have hA2 : n.heap.size ≤ A := by rw [hA]; exact b4.size
      rw [← hw5] at hS ⊢
      rw [← hA]
      obtain ⟨th1, a1, a2⟩ := SV.out w5 A hS hA2 z5
      obtain ⟨w6, hw6⟩ : ∃ W, W = w5.setCells A 0 V.toList := ⟨_, rfl⟩
      rw [← hw6] at a1 a2
      have FIN : Hid (n.heap.size ≤ A ∧ w6.heap[A]? = some (.cells V OT (0, 0)) ∧ Below n.heap.size n w6) := ⟨hA2, a1, a2⟩
      have TH := Lib.hid th1
      have HW6 := Lib.hid hw6
      clear th1 a1 a2 hw6 z5 hA2 hw5 hA
      refine wpAnyH_ready (rs := [11]) (by kernel_rfl) (by simp) ?_
      refine AllReadyH.cons rfl (fun K hK => ?_) AllReadyH.nil
      rw [if_pos (by rfl)]
      refine wp_store_mid OT _ _ rfl A 0 V (by rfl) (by rfl) TH.out IV.out OV.out ?_
      rw [← HW6.out]
      refine hK _ _ FIN.out.2.2 (fun hS => ?_)
      try simp only [Act.put, List.setIfInBounds_toArray, List.set_cons_zero, List.set_cons_succ]
      refine wpAnyH_takeD (i := 12) (d := 8) (v := .bool th) _ rfl rfl (by kernel_rfl) (by kernel_rfl) (by kernel_rfl) (fun _ _ _ h => h) (Or.inl ⟨by kernel_rfl, fun ws hSw => by first | (go_simp; done) | (go_simp; with_reducible rfl) | (go_simp; rfl)⟩) hS ?_
      simp only [Act.put, List.setIfInBounds_toArray, List.set_cons_zero, List.set_cons_succ]
      refine wpAnyH_done (by kernel_rfl) ?_ _
      go_wp2_with fail
      go_meet
      case rel => exact ⟨A, rfl, rfl, FIN⟩

    · go_simp
      refine hK _ _ (AL.out _ hS) (fun hS => ?_)
      obtain ⟨w3, hw3⟩ : ∃ W, W = (n.alloc (.cells zerC OT)).drew := ⟨_, rfl⟩
      have z3 : w3.heap[n.heap.size]? = some (.cells zerC OT (0, 0)) := by rw [hw3]; exact heap_alloc_new n _
      rw [← hw3] at hS
      rw [← hw3]
      have hA2 : Hid (n.heap.size ≤ n.heap.size ∧ n.heap.size < w3.heap.size ∧ w3.heap[n.heap.size]? = some (.cells zerC OT (0, 0))) := ⟨Nat.le_refl _, (Array.getElem?_eq_some_iff.1 z3).1, z3⟩
      clear hw3 z3
      try simp only [Act.put, List.setIfInBounds_toArray, List.set_cons_zero, List.set_cons_succ]
      refine wpAnyH_ready (rs := [5]) (by kernel_rfl) (by simp) ?_
      refine AllReadyH.cons rfl (fun K hK => ?_) AllReadyH.nil
      go_simp
      refine (CK.out _ hS).mono ?_
      rintro e w5 ⟨rfl, b4, g4⟩
      have z5 : w5.heap[n.heap.size]? = some (.cells zerC OT (0, 0)) := (g4.heap hA2.out.2.1).trans hA2.out.2.2
      refine hK _ _ b4 (fun hS => ?_)
      have hA2 := hA2.out.1
      try simp only [Act.put, List.setIfInBounds_toArray, List.set_cons_zero, List.set_cons_succ]
      refine wpAnyH_takeD (i := 6) (d := 25) (v := .tuple #[.agg V, .bool th]) _ rfl rfl (by kernel_rfl) (by kernel_rfl) (by kernel_rfl) (fun _ _ _ h => h) (Or.inl ⟨by kernel_rfl, fun ws hSw => by have q := KK.out ws hSw; first | (go_simp; done) | (go_simp; with_reducible rfl) | (go_simp; rfl)⟩) hS ?_
      simp only [Act.put, List.setIfInBounds_toArray, List.set_cons_zero, List.set_cons_succ]
      refine wpAnyH_takeD (i := 7) (d := 18) (v := .tuple #[.agg V, .bool th]) _ rfl rfl (by kernel_rfl) (by kernel_rfl) (by kernel_rfl) (fun _ _ _ h => h) (Or.inl ⟨by kernel_rfl, fun ws hSw => by first | (go_simp; done) | (go_simp; with_reducible rfl) | (go_simp; rfl)⟩) hS ?_
      simp only [Act.put, List.setIfInBounds_toArray, List.set_cons_zero, List.set_cons_succ]
      refine wpAnyH_takeD (i := 8) (d := 26) (v := .agg V) _ rfl rfl (by kernel_rfl) (by kernel_rfl) (by kernel_rfl) (fun _ _ _ h => h) (Or.inl ⟨by kernel_rfl, fun ws hSw => by first | (go_simp; done) | (go_simp; with_reducible rfl) | (go_simp; rfl)⟩) hS ?_
      simp only [Act.put, List.setIfInBounds_toArray, List.set_cons_zero, List.set_cons_succ]
      refine wpAnyH_takeD (i := 9) (d := 27) (v := .bool th) _ rfl rfl (by kernel_rfl) (by kernel_rfl) (by kernel_rfl) (fun _ _ _ h => h) (Or.inl ⟨by kernel_rfl, fun ws hSw => by first | (go_simp; done) | (go_simp; with_reducible rfl) | (go_simp; rfl)⟩) hS ?_
      simp only [Act.put, List.setIfInBounds_toArray, List.set_cons_zero, List.set_cons_succ]
      obtain ⟨th1, a1, a2⟩ := SV.out w5 n.heap.size hS hA2 z5
      obtain ⟨w6, hw6⟩ : ∃ W, W = w5.setCells n.heap.size 0 V.toList := ⟨_, rfl⟩
      rw [← hw6] at a1 a2
      have FIN : Hid (n.heap.size ≤ n.heap.size ∧ w6.heap[n.heap.size]? = some (.cells V OT (0, 0)) ∧ Below n.heap.size n w6) := ⟨hA2, a1, a2⟩
      have TH := Lib.hid th1
      have HW6 := Lib.hid hw6
      clear th1 a1 a2 hw6 z5 hA2 g4
      refine wpAnyH_ready (rs := [11]) (by kernel_rfl) (by simp) ?_
      refine AllReadyH.cons rfl (fun K hK => ?_) AllReadyH.nil
      rw [if_pos (by rfl)]
      refine wp_store_mid OT _ _ rfl n.heap.size 0 V (by rfl) (by rfl) TH.out IV.out OV.out ?_
      rw [← HW6.out]
      refine hK _ _ FIN.out.2.2 (fun hS => ?_)
      try simp only [Act.put, List.setIfInBounds_toArray, List.set_cons_zero, List.set_cons_succ]
      refine wpAnyH_takeD (i := 12) (d := 8) (v := .bool th) _ rfl rfl (by kernel_rfl) (by kernel_rfl) (by kernel_rfl) (fun _ _ _ h => h) (Or.inl ⟨by kernel_rfl, fun ws hSw => by first | (go_simp; done) | (go_simp; with_reducible rfl) | (go_simp; rfl)⟩) hS ?_
      simp only [Act.put, List.setIfInBounds_toArray, List.set_cons_zero, List.set_cons_succ]
      refine wpAnyH_done (by kernel_rfl) ?_ _
      go_wp2_with fail
      go_meet
      case rel => exact ⟨n.heap.size, rfl, rfl, FIN⟩
  case rest =>
    obtain ⟨A, rfl, rfl, HA⟩ := hcut
    obtain ⟨h, okd, hth, hfind⟩ := HT.out
    obtain ⟨KN, n0, BN, SN, hs, hBw⟩ := HM.out
    obtain ⟨hA, hA2, bc⟩ := HA.out
    have BW : Below w.heap.size w wc := BN.trans (bc.mono BN.size)
    have SW : StIs base wc S sp most l hist := hs.gr BW
    have KW : Kept base wc D d := KN.fx (Fx.ofBelow bc)
    have hCre : creE d l most = if l.any (hit d.kind d.name) then 8 else if most ≤ (l.length : Int) then 10 else 0 := if_neg (by rw [HE.out]; exact fun h => h rfl)
    rw [hth] at hCre
    cases th with
    | true =>
      have FIN : Hid (creE d l most = 8 ∧ Below w.heap.size w wc) := ⟨hCre, BW⟩
      clear h okd hth hfind KN n0 BN SN hs hBw hA hA2 bc BW SW KW hCre HT HM HA KB KL KK CK S0 IV OV AL SV hi hu IN ON HE
      go_wp2
      refine bodyPost_ret (results_tmp2 rfl _ _ _) rfl ?_
      exact .inl ⟨by rw [FIN.out.1]; decide, by rw [FIN.out.1]; rfl, FIN.out.2⟩
    | false =>
      obtain ⟨es, ck, hb, F, hes, hD⟩ := h.map.own
      have hmb : wc.heap[mb]? = some (.map es ck) := (bc.block mb (Array.getElem?_eq_some_iff.1 hb).1).trans hb
      have own2 : wc.drew.ownsMap Try.prog KT hR mb hist.length Dm := ⟨es, ck, hmb, F, hes, hD⟩
      have hlen := own2.len mapT 3
      rw [h.map.size] at hlen
      have hblk : wc.heap[sp]? = some (.cells (stC most hist.length mb ev) ST (0, 0)) := (bc.block sp (Array.getElem?_eq_some_iff.1 h.blk).1).trans h.blk
      have c0 : wc.cell? ⟨sp, 0, none⟩ = some (.int .i64 most) := cell_of_block hblk 0
      have c2 : wc.cell? ⟨sp, 2, none⟩ = some (.map (some mb)) := cell_of_block hblk 2
      have nB : wc.heap[B]? = some (.cells D OT (0, 0)) := (bc.block B (Array.getElem?_eq_some_iff.1 n0).1).trans n0
      by_cases hm : most ≤ (l.length : Int)
      · have t : decide (most ≤ (l.length : Int)) = true := decide_eq_true hm
        have FIN : Hid (creE d l most = 10 ∧ Below w.heap.size w wc.drew) := ⟨by rw [hCre]; exact if_pos hm, BW.drew⟩
        clear h okd hth hfind KN n0 BN SN hs hBw hA hA2 bc BW SW KW hCre HT HM HA KB KL KK CK S0 IV OV AL SV hi hu IN ON HE hb F hes hD hm hblk nB hmb own2
        go_upto_region 7 with fail
        go_region
        all_goals
          go_wp2
          refine bodyPost_ret (results_tmp2 rfl _ _ _) rfl ?_
          exact .inl ⟨by rw [FIN.out.1]; decide, by rw [FIN.out.1]; rfl, FIN.out.2⟩
      · have t : decide (most ≤ (l.length : Int)) = false := decide_eq_false hm
        have LO := Lib.hid (load_ob (w := wc.drew) nB KW.obj.1)
        have gd : Gr wc wc.drew := (Gr.refl wc).drewN 1
        have CP := Lib.hid (put_any base wc.drew S sp most 0 l hist D d (SW.gr gd.below) (KW.fx (Fx.ofBelow gd.below)) okd hn)
        have FIN : Hid (creE d l most = 0 ∧ Below w.heap.size w wc.drew) := ⟨by rw [hCre]; exact if_neg hm, BW.drew⟩
        clear h okd hth hfind KN n0 BN SN hs hBw hA hA2 bc BW SW KW hCre HT HM HA KB KL KK CK S0 IV OV AL SV hi hu IN ON HE hb F hes hD hm hblk nB hmb own2 gd
        go_upto_region 7 with fail
        go_region
        all_goals
          go_wp2_with (refine wpList_load_by (by kernel_rfl) OT _ rfl (.pointer (some ⟨B, 0, none⟩)) (.agg D) (by kernel_rfl) LO.out ?_)
          refine CP.out.mono ?_
          rintro e w9 ⟨rfl, S9, a1, a2, a3⟩
          have R := Lib.hid (And.intro a1 (And.intro a2 a3))
          clear a1 a2 a3
          go_wp2
          refine bodyPost_ret (results_tmp2 rfl _ _ _) rfl ?_
          exact .inr ⟨FIN.out.1, rfl, S9, R.out.1, (Chg.ofBelow FIN.out.2 S).trans R.out.2.1 (fun g hg => .inl hg), fun g hg => (R.out.2.2 g hg).imp id (fun h => Nat.le_trans FIN.out.2.size h)⟩
end Go.Proofs.Ytacgbagcddjlnaa
