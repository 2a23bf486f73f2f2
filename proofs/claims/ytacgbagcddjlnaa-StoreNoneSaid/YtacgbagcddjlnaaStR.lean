/- An object is made ready. -/
import Derived.Test.YtacgbagcddjlnaaStE
import Derived.Test.YtacgbagcddjlnaaVaH
namespace Go.Proofs.Ytacgbagcddjlnaa
open Go.RowKit Go.Shelf Go.Lib Go.Sort
open Go.Joins (cell_of_block unfrozen_of_block block_setCell)
set_option linter.unusedVariables false
set_option linter.unusedSimpArgs false
set_option maxRecDepth 20000

theorem results_row_tmp {P : Program} {fn : Func} {p u : Tmp} {ty : TypeId} (h : fn.results = #[.cell p ty, .tmp u]) (tmps : Array Value) (w : World) (g : Nat) (t : TypeId) (cs : Array Value) (fr : Nat × Nat) (d : TypeDesc)
    (hp : tmps.getD p undef = .pointer (some ⟨g, 0, none⟩)) (hg : w.heap[g]? = some (.cells cs t fr))
    (hu : P.underlying ty = some d) (hd : (match d with | .struct _ | .array _ _ => true | _ => false) = true) (hi : (P.info? ty).map (·.size) = some cs.size) :
    (results fn tmps).run P w = .ok (.tuple #[.agg cs, tmps.getD u undef]) w := by
  have hp' : tmps[p]?.getD undef = .pointer (some ⟨g, 0, none⟩) := by simpa using hp
  simp [results, h, hp', asAddr, run_loadVar_row w g t ty cs fr d hg hu hd hi]

/-- A store of a whole object into a block of the call's own that holds one. -/
theorem store_ob {base : Nat} {w : World} {g : Nat} {Z D : Array Value} (hg : w.heap[g]? = some (.cells Z OT (0, 0))) (hz : Z.size = 47) (hd : D.size = 47) (hb : base ≤ g) :
    w.there g 0 D.size ∧ (w.setCells g 0 D.toList).heap[g]? = some (.cells D OT (0, 0)) ∧ Fx base w (w.setCells g 0 D.toList) ∧ Chg [g] w (w.setCells g 0 D.toList) := by
  have c : Chg [g] w (w.setCells g 0 D.toList) := by
    obtain ⟨r1, r2, r3⟩ := setCells_rest D.toList w g 0
    exact ⟨r1, r2, r3, by rw [setCells_size]; exact Nat.le_refl _, fun k _ hk => setCells_out _ _ _ _ _ (by simpa using hk)⟩
  refine ⟨?_, ?_, c.fx (fun k hk _ => ?_), c⟩
  · intro j hj
    rw [Nat.zero_add, cell_of_block hg, unfrozen_of_block hg]
    refine ⟨?_, rfl⟩
    rw [Array.getElem?_eq_getElem (by omega)]
    rfl
  · rw [setCells_block _ _ _ _ _ _ _ hg, setAt_full (by omega)]
  · simp at hk
    subst hk
    exact (cells_prot hg hb rfl).2.2

theorem zer_all : (zerC : Array Value).all (·.oneCell') = true := by kernel_rfl
set_option maxHeartbeats 4000000 in
theorem ready_nil (w : World) (cs : Array Value) :
    Calls Try.prog 26 #[.pointer none, .agg cs] w fun e w' => e = .returned (.tuple #[.agg zerC, .int .i64 1]) ∧ Below w.heap.size w w' := by
  have mixed : Try.prog.follows .mixedOrders = true := by kernel_rfl
  obtain ⟨B, hB⟩ : ∃ B, B = w.heap.size := ⟨_, rfl⟩
  obtain ⟨wb, hwb⟩ : ∃ wb, wb = (w.alloc (.cells cs OT)).alloc (.cells zerC OT) := ⟨_, rfl⟩
  have G0 : Gr w wb := hwb ▸ ((Gr.refl w).alloc _).alloc _
  have b1 : wb.heap[B + 1]? = some (.cells zerC OT (0, 0)) := by
    rw [hwb, hB]
    simpa using heap_alloc_new (w.alloc (.cells cs OT)) (.cells zerC OT)
  obtain ⟨Z, hZ⟩ : ∃ Z, Z = (zerC : Array Value) := ⟨_, rfl⟩
  have hzs : Z.size = 47 := by rw [hZ]; rfl
  obtain ⟨th, n0, fx1, c1⟩ := store_ob (base := B + 1) b1 rfl hzs (Nat.le_refl _)
  have IN : Hid ((Try.prog.info? OT).map (·.size) = some Z.size) := by show _ = _; rw [hzs]; exact info_ob47
  have TH := Lib.hid th
  have ON : Hid (Z.all (·.oneCell') = true) := by show _ = _; rw [hZ]; exact zer_all
  have HZ := Lib.hid hZ
  obtain ⟨n, hn⟩ : ∃ n, n = wb.setCells (B + 1) 0 Z.toList := ⟨_, rfl⟩
  rw [← hn] at n0 fx1 c1
  have HN := Lib.hid hn
  have FIN : Hid (n.heap[B + 1]? = some (.cells Z OT (0, 0)) ∧ Below w.heap.size w n) := ⟨n0, ((Xb.ofGr G0 (B + 1)).trans ⟨c1.os, c1.tape, c1.output, c1.size, fun k hk hne => c1.block k hk (by simpa using hne)⟩).below (by omega) (Nat.le_refl _)⟩
  clear hZ hzs th n0 fx1 c1 hn b1 G0
  go_enter Try.func26, Try.ntmps26
  go_upto_region 2 with fail
  rw [← hwb, ← hB]
  clear hwb hB
  go_wp2_with (refine wpList_store_mid rfl _ _ _ rfl (B + 1) 0 Z (by rfl) (by rw [HZ.out]; rfl) TH.out IN.out ON.out ?_)
  rw [← HN.out]
  refine bodyPost_ret (results_row_tmp rfl _ _ (B + 1) OT Z (0, 0) _ (by rfl) FIN.out.1 Try.underlying56 rfl IN.out) rfl ?_
  exact ⟨by rw [HZ.out]; rfl, FIN.out.2⟩

set_option maxHeartbeats 4000000 in
theorem ready_any (base : Nat) (w : World) (sp : Nat) (cs : Array Value) (o : Ob) (hc : Kept base w cs o) (hb : base ≤ w.heap.size) :
    Calls Try.prog 26 #[.pointer (some ⟨sp, 0, none⟩), .agg cs] w fun e w' => (∃ D, e = .returned (.tuple #[.agg D, .int .i64 (chkE (dfl o))]) ∧ Kept base w' D (dfl o)) ∧ Below w.heap.size w w' := by
  have mixed : Try.prog.follows .mixedOrders = true := by kernel_rfl
  obtain ⟨B, hB⟩ : ∃ B, B = w.heap.size := ⟨_, rfl⟩
  obtain ⟨wb, hwb⟩ : ∃ wb, wb = (w.alloc (.cells cs OT)).alloc (.cells zerC OT) := ⟨_, rfl⟩
  have G0 : Gr w wb := hwb ▸ ((Gr.refl w).alloc _).alloc _
  have b0 : wb.heap[B]? = some (.cells cs OT (0, 0)) := by
    rw [hwb, hB, ((Gr.refl (w.alloc (.cells cs OT))).alloc _).heap (by simp)]
    exact heap_alloc_new w _
  have b1 : wb.heap[B + 1]? = some (.cells zerC OT (0, 0)) := by
    rw [hwb, hB]
    simpa using heap_alloc_new (w.alloc (.cells cs OT)) (.cells zerC OT)
  have hbs : wb.heap.size = B + 2 := by rw [hwb, hB]; simp
  have K0 := hc.fx (Fx.ofBelow (base := base) G0.below)
  have LO := Lib.hid (load_ob b0 hc.obj.1)
  have CD := Lib.hid (default_own wb cs o K0.obj K0.nil K0.small.small)
  have HH := Lib.hid (And.intro hc (And.intro K0 (And.intro hb (And.intro hwb (And.intro hB (And.intro G0 (And.intro b0 (And.intro b1 hbs))))))))
  clear hc K0 hb G0 b0 b1 hbs
  go_enter Try.func26, Try.ntmps26
  go_upto_region 3 with fail
  rw [← hwb, ← hB]
  clear hwb hB
  go_wp2_with (refine wpList_load_by (by kernel_rfl) OT _ rfl (.pointer (some ⟨B, 0, none⟩)) (.agg cs) (by kernel_rfl) LO.out ?_)
  refine CD.out.mono ?_
  rintro e m ⟨⟨D, rfl, vD, nD, oD⟩, hbl⟩
  obtain ⟨hc, K0, hb, hwb, hB, G0, b0, b1, hbs⟩ := HH.out
  have KD : Kept base m D (dfl o) := kept_own vD oD (tiny_dfl hc.small) (fits_dfl hc.fits hc.small)
  have m0 : m.heap[B]? = some (.cells cs OT (0, 0)) := (hbl.block B (by omega)).trans b0
  have m1 : m.heap[B + 1]? = some (.cells zerC OT (0, 0)) := (hbl.block (B + 1) (by omega)).trans b1
  have hsz : D.size = 47 := vD.1
  obtain ⟨th, n0, fx1, c1⟩ := store_ob (base := base) m0 hc.obj.1 hsz (by omega)
  obtain ⟨n, hn⟩ : ∃ n, n = m.setCells B 0 D.toList := ⟨_, rfl⟩
  rw [← hn] at n0 fx1 c1
  have n1 : n.heap[B + 1]? = some (.cells zerC OT (0, 0)) := (c1.block (B + 1) (by have := (Array.getElem?_eq_some_iff.1 m1).1; omega) (by simp)).trans m1
  have IN : Hid ((Try.prog.info? OT).map (·.size) = some D.size) := by show _ = _; rw [hsz]; exact info_ob47
  have TH := Lib.hid th
  have ON := Lib.hid (objV_one vD)
  have HN := Lib.hid hn
  have KN := KD.fx fx1
  have hB2 : Below w.heap.size w n := ((Xb.ofGr G0 B).trans ((Xb.ofBelow hbl B).trans ⟨c1.os, c1.tape, c1.output, c1.size, fun k hk hne => c1.block k hk (by simpa using hne)⟩)).below (by omega) (Nat.le_refl _)
  have KL : Hid (∀ ws : World, Below n.heap.size n ws → ws.rangeAt B 0 D.toList) := fun ws h => rangeAt_block ((h.block B (Array.getElem?_eq_some_iff.1 n0).1).trans n0)
  have hi : (Try.prog.info? OT).map (·.size) = some D.toList.length := by rw [Array.length_toList, hsz]; exact info_ob47
  have hu := Try.underlying56
  have HM := Lib.hid (And.intro KN (And.intro n0 (And.intro n1 (And.intro hB2 (And.intro hB (And.intro hb hsz))))))
  clear hc K0 hb hwb hB G0 b0 b1 hbs KD m0 m1 hsz th n0 fx1 c1 hn n1 KN hB2 vD nD oD hbl LO CD
  go_upto_region 4 with (refine wpList_store_mid rfl _ _ _ rfl B 0 D (by rfl) (by rfl) TH.out IN.out ON.out ?_)
  rw [← HN.out]
  clear TH HN
  obtain ⟨KN, n0, n1, hB2, hB, hb, hsz⟩ := HM.out
  have KS : Hid (∀ ws : World, (ws.heap[B]? = some (.cells D OT (0, 0))) → ws.rangeAt B 0 D.toList) := fun ws h => rangeAt_block h
  have S0 : Hid (n.drew.heap[B]? = some (.cells D OT (0, 0))) := by show _ = _; exact n0
  have KF : Hid (∀ v : World, Chg [B + 1] n v → Kept base v D (dfl o)) := fun v c => KN.fx (c.fx (fun g hg _ => by
    simp at hg
    subst hg
    exact (cells_prot n1 (by omega) rfl).2.2))
  have CC : Hid (∀ v : World, Chg [B + 1] n v → Calls Try.prog 44 #[.agg D] v fun e w' => e = .returned (.int .i64 (chkE (dfl o))) ∧ Gr v w') := fun v c => check_any v D (dfl o) (KF.out v c).obj (KF.out v c).fits
  have ST1 : Hid (∀ v : World, Chg [B + 1] n v → v.heap[B + 1]? = some (.cells zerC OT (0, 0)) → v.there (B + 1) 0 D.size ∧ (v.setCells (B + 1) 0 D.toList).heap[B + 1]? = some (.cells D OT (0, 0)) ∧ Chg [B + 1] n (v.setCells (B + 1) 0 D.toList)) := fun v c h => by
    obtain ⟨th, a1, a2, a3⟩ := store_ob (base := base) h rfl hsz (by omega)
    exact ⟨th, a1, c.trans a3 (fun g hg => .inl hg)⟩
  have BB : Hid (∀ v : World, Chg [B + 1] n v → v.heap[B]? = some (.cells D OT (0, 0)) ∧ Below w.heap.size w v) := fun v c => ⟨(c.block B (Array.getElem?_eq_some_iff.1 n0).1 (by simp)).trans n0, hB2.trans (c.below (fun g hg => by simp at hg; omega) (by have := hB2.size; omega))⟩
  have c0 : Chg [B + 1] n n.drew := Chg.ofGr ((Gr.refl n).drewN 1) _
  have hz1 : n.drew.heap[B + 1]? = some (.cells zerC OT (0, 0)) := n1
  have C0 := Lib.hid (And.intro c0 hz1)
  clear KN n0 n1 hB2 hB hb hsz HM c0 hz1 KL
  refine wp_region_held_drew (S := fun ws => ws.heap[B]? = some (.cells D OT (0, 0))) mixed S0.out (fun hS => ?_)
  refine wpAnyH_takeD (i := 0) (d := 11) (v := .agg D.toList.toArray) _ rfl rfl (by kernel_rfl) (by kernel_rfl) (by kernel_rfl) (fun _ _ _ h => h) (yieldsIf_load_mid (by kernel_rfl) _ _ rfl B 0 (by kernel_rfl) D.toList _ (fun ws hSw => KS.out ws hSw) hu rfl hi) hS ?_
  simp only [Act.put, List.setIfInBounds_toArray, List.set_cons_zero, List.set_cons_succ]
  refine wpAnyH_takeD (i := 1) (d := 12) (v := .agg D.toList.toArray) _ rfl rfl (by kernel_rfl) (by kernel_rfl) (by kernel_rfl) (fun _ _ _ h => h) (yieldsIf_load_mid (by kernel_rfl) _ _ rfl B 0 (by kernel_rfl) D.toList _ (fun ws hSw => KS.out ws hSw) hu rfl hi) hS ?_
  simp only [Act.put, List.setIfInBounds_toArray, List.set_cons_zero, List.set_cons_succ]
  refine wpAnyH_ready (rs := [2]) (by kernel_rfl) (by simp) ?_
  refine AllReadyH.cons rfl (fun K hK => ?_) AllReadyH.nil
  go_simp
  refine (CC.out _ C0.out.1).mono ?_
  rintro e w4 ⟨rfl, g4⟩
  have c4 : Chg [B + 1] n w4 := C0.out.1.trans (Chg.ofGr g4 []) (by simp)
  have z4 := (g4.heap (Array.getElem?_eq_some_iff.1 C0.out.2).1).trans C0.out.2
  obtain ⟨th, a1, a2⟩ := ST1.out w4 c4 z4
  obtain ⟨w5, hw5⟩ : ∃ W, W = w4.setCells (B + 1) 0 D.toList := ⟨_, rfl⟩
  rw [← hw5] at a1 a2
  have FIN : Hid (Kept base w5 D (dfl o) ∧ w5.heap[B]? = some (.cells D OT (0, 0)) ∧ Below w.heap.size w w5 ∧ w5.heap[B + 1]? = some (.cells D OT (0, 0))) := ⟨KF.out _ a2, (BB.out _ a2).1, (BB.out _ a2).2, a1⟩
  have TH := Lib.hid th
  have HW5 := Lib.hid hw5
  have hS4 := (BB.out _ c4).1
  refine hK _ _ hS4 (fun hS => ?_)
  clear c4 z4 th a1 a2 g4 hw5
  try simp only [Act.put, List.setIfInBounds_toArray, List.set_cons_zero, List.set_cons_succ]
  refine wpAnyH_ready (rs := [3]) (by kernel_rfl) (by simp) ?_
  refine AllReadyH.cons rfl (fun K hK => ?_) AllReadyH.nil
  rw [if_pos (by rfl)]
  refine wp_store_mid OT _ _ rfl (B + 1) 0 D (by rfl) (by rfl) TH.out IN.out ON.out ?_
  rw [← HW5.out]
  refine hK _ _ FIN.out.2.1 (fun hS => ?_)
  try simp only [Act.put, List.setIfInBounds_toArray, List.set_cons_zero, List.set_cons_succ]
  refine wpAnyH_takeD (i := 4) (d := 5) (v := .int .i64 (chkE (dfl o))) _ rfl rfl (by kernel_rfl) (by kernel_rfl) (by kernel_rfl) (fun _ _ _ h => h) (Or.inl ⟨by kernel_rfl, fun ws hSw => by first | (go_simp; done) | (go_simp; with_reducible rfl) | (go_simp; rfl)⟩) hS ?_
  simp only [Act.put, List.setIfInBounds_toArray, List.set_cons_zero, List.set_cons_succ]
  refine wpAnyH_done (by kernel_rfl) ?_ _
  go_wp2
  refine bodyPost_ret (results_row_tmp rfl _ _ (B + 1) OT D (0, 0) _ (by rfl) FIN.out.2.2.2 Try.underlying56 rfl IN.out) rfl ?_
  exact ⟨⟨D, rfl, FIN.out.1⟩, FIN.out.2.2.1⟩
end Go.Proofs.Ytacgbagcddjlnaa
