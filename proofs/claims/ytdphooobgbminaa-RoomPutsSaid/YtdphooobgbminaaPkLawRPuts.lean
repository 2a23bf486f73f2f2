/- Proved here: the law RoomPuts of layer 17 holds for every input: a pod is put in just if it fits, and then so much less is left; taken out again all is as it was; and the chapter's example. No conditions. -/
import Derived.Test.YtdphooobgbminaaPk8
import Derived.BigQuiet
namespace Go.Proofs.Ytdphooobgbminaa.roomPuts
open Go.ChangeShapes Go.WideShapes Go.ChangeAt Go.RowKit Go.Lib Go.Shelf Go.Sort Go.Deep
open Go.Joins (cell_of_block unfrozen_of_block block_setCell)
open Go.Proofs.Ytdphooobgbminaa.Ow Go.Proofs.Ytdphooobgbminaa.Rm
set_option linter.unusedVariables false
set_option linter.unusedSimpArgs false
set_option maxRecDepth 20000

set_option maxHeartbeats 32000000 in
theorem walk_at (W : World) (X Y : Array Value) (no po : Ob) (q : Option Addr) (c : Nat) (l : List Obv) (hX : ObjV W X no) (fX : FitsO no) (hY : ObjV W Y po) (fY : FitsO po) (hr : RowR 47 encOb W q l) (hok : ∀ x ∈ l, okOb W x) (hlen : l.length ≤ 140737488351232) :
    Calls Try.prog 3 #[.agg X, .agg Y, .slice q l.length c] W fun e W' => e = .returned (.bool true) ∧ Below W.heap.size W W' := by
  have mixed : Try.prog.follows .mixedOrders = true := by kernel_rfl
  obtain ⟨n, hn⟩ : ∃ n, n = l.length := ⟨_, rfl⟩
  obtain ⟨B, hB⟩ : ∃ B, B = W.heap.size := ⟨_, rfl⟩
  obtain ⟨w1, hw1⟩ : ∃ x, x = (W.alloc (.cells X OTy)).alloc (.cells Y OTy) := ⟨_, rfl⟩
  have G1 : Gr W w1 := hw1 ▸ ((Gr.refl W).alloc _).alloc _
  have y0 : w1.heap[B]? = some (.cells X OTy (0, 0)) := by
    rw [hw1, hB, Below.heap_alloc _ _ _ (by simp)]
    exact heap_alloc_new W _
  have y1 : w1.heap[B + 1]? = some (.cells Y OTy (0, 0)) := by
    rw [hw1, hB]
    have := heap_alloc_new (W.alloc (.cells X OTy)) (.cells Y OTy)
    simpa using this
  have HW1 : Hid ((W.alloc (.cells X OTy)).alloc (.cells Y OTy) = w1 ∧ W.heap.size = B) := ⟨hw1.symm, hB.symm⟩
  -- the world behind whatever was called: what was boxed is there
  have KP : Hid (∀ ws, Below w1.heap.size w1 ws → ws.heap[B]? = some (.cells X OTy (0, 0)) ∧ ws.heap[B + 1]? = some (.cells Y OTy (0, 0)) ∧ Below W.heap.size W ws ∧ B + 1 < ws.heap.size) := fun ws b =>
    ⟨(b.block _ (Array.getElem?_eq_some_iff.1 y0).1).trans y0, (b.block _ (Array.getElem?_eq_some_iff.1 y1).1).trans y1, G1.below.trans (b.mono G1.size), Nat.lt_of_lt_of_le (Array.getElem?_eq_some_iff.1 y1).1 b.size⟩
  have HA := Lib.hid (And.intro hX (And.intro fX (And.intro hY fY)))
  have HL := Lib.hid (And.intro hr (And.intro hok (And.intro hlen hn)))
  have CL := Lib.hid (fun w => rlives w)
  rw [← hn]
  clear hw1 hB G1 y0 y1 hX fX hY fY hr hok hlen hn
  go_enter Try.func3, Try.ntmps3
  go_upto_region 1 with fail
  rw [HW1.out.1, HW1.out.2]
  go_wp2_with fail
  refine (CL.out w1).mono ?_
  rintro e w2 ⟨rfl, b2⟩
  obtain ⟨z0, z1, low2, hz2⟩ := KP.out w2 b2
  obtain ⟨hX, fX, hY, fY⟩ := HA.out
  obtain ⟨w3, hw3⟩ : ∃ x, x = w2.alloc (.cells (X ++ Y) OTy) := ⟨_, rfl⟩
  obtain ⟨M, hM⟩ : ∃ x, x = w2.heap.size := ⟨_, rfl⟩
  have b3 : Below w2.heap.size w2 w3 := hw3 ▸ ((Gr.refl w2).alloc _).below
  have y3 : w3.heap[M]? = some (.cells (X ++ Y) OTy (0, 0)) := by rw [hw3, hM]; exact heap_alloc_new w2 _
  have B13 : Hid (Below w1.heap.size w1 w3) := b2.trans (b3.mono b2.size)
  have low3 := low2.trans (b3.mono low2.size)
  have CF := rm_few w3 w3 (Below.refl _ _) (some ⟨M, 0, none⟩) 2 [(⟨X, hX.1, objV_one hX⟩, no), (⟨Y, hY.1, objV_one hY⟩, po)] (row_two (x := (⟨X, hX.1, objV_one hX⟩, no)) (y := (⟨Y, hY.1, objV_one hY⟩, po)) y3)
    (fun x hx => by
      simp only [List.mem_cons, List.not_mem_nil, or_false] at hx
      rcases hx with rfl | rfl
      · exact ⟨hX.below low3, fX⟩
      · exact ⟨hY.below low3, fY⟩) (by show 2 ≤ 140737488351232; decide)
  have CF2 : Hid (Calls Try.prog 5 #[.slice (some ⟨M, 0, none⟩) 2 2] w3 fun e w' => (∃ b, e = .returned (.bool b) ∧ Hid (b = true → FewP [no, po] ∧ 2 ≤ 60)) ∧ Below w3.heap.size w3 w') := CF
  have LX := Lib.hid (load_ob z0 hX.1)
  have LY := Lib.hid (load_ob z1 hY.1)
  have SX : Hid (X.size = 47) := hX.1
  have SY : Hid (Y.size = 47) := hY.1
  have HW3 : Hid (w2.alloc (.cells (X ++ Y) OTy) = w3 ∧ w2.heap.size = M) := ⟨hw3.symm, hM.symm⟩
  obtain ⟨kn, hkn⟩ : ∃ a, a = no.kind := ⟨_, rfl⟩
  obtain ⟨kp, hkp⟩ : ∃ a, a = po.kind := ⟨_, rfl⟩
  have HK := Lib.hid (And.intro hkn hkp)
  clear b2 z0 z1 low2 hz2 hX fX hY fY hw3 hM b3 y3 low3 CF hkn hkp
  go_wp2_with (first | (refine wpList_load_by (by kernel_rfl) OTy _ rfl (.pointer (some ⟨B, 0, none⟩)) (.agg X) (by rfl) LX.out ?_) | (refine wpList_load_by (by kernel_rfl) OTy _ rfl (.pointer (some ⟨B + 1, 0, none⟩)) (.agg Y) (by rfl) LY.out ?_) | (refine list_build2 (by kernel_rfl) 45 OTy _ _ rfl (.agg zerC) 47 X Y (by rfl) (by rfl) SX.out SY.out (by decide) (by decide) Try.underlying45 (by kernel_rfl) ?_; rw [HW3.out.1, HW3.out.2]))
  refine CF2.out.mono ?_
  rintro e w4 ⟨⟨fb, rfl, hfb⟩, b4⟩
  have B14 : Hid (Below w1.heap.size w1 w4) := B13.out.trans (b4.mono B13.out.size)
  obtain ⟨z0, z1, low4, hz4⟩ := KP.out w4 B14.out
  have d0 : w4.cell? ⟨B, 0, none⟩ = some (.int .i64 kn) := by rw [HK.out.1]; exact (cell_of_block z0 0).trans HA.out.1.2.1.1
  have e0 : w4.cell? ⟨B + 1, 0, none⟩ = some (.int .i64 kp) := by rw [HK.out.2]; exact (cell_of_block z1 0).trans HA.out.2.2.1.2.1.1
  have FINA : Hid (∀ ws, Below w4.heap.size w4 ws → Below W.heap.size W ws) := fun ws b => low4.trans (b.mono low4.size)
  have CFO : Hid (Calls Try.prog 5 #[.slice q n c] w4 fun e w' => (∃ b, e = .returned (.bool b) ∧ Hid (b = true → FewP (l.map (·.2)) ∧ n ≤ 60)) ∧ Below w4.heap.size w4 w') := by
    obtain ⟨hr, hok, hlen, hn⟩ := HL.out
    have := rm_few W w4 low4 q c l hr (fun x hx => ⟨(hok x hx).1, (hok x hx).2.2.1⟩) hlen
    rw [← hn] at this
    exact this
  have LIV := Lib.hid (CL.out w4)
  clear b4 z0 z1 low4 hz4 CF2 LX LY SX SY HW3 B13
  cases fb with
  | false =>
    clear CFO
    go_wp2_with fail
    refine LIV.out.mono ?_
    rintro e w5 ⟨rfl, b5⟩
    have F := Lib.hid (FINA.out w5 b5)
    clear b5
    go_wp2
    go_ret
    exact ⟨rfl, F.out⟩
  | true =>
  by_cases hkn : kn = 2
  · by_cases hkp : kp = 1
    · have F0 := Lib.hid (hfb.out rfl).1
      have t1 : (kn != 2) = false := by simp [bne, hkn]
      have t2 : (kp != 1) = false := by simp [bne, hkp]
      have HK2 : Hid (no.kind = 2 ∧ po.kind = 1) := ⟨by rw [← HK.out.1, hkn], by rw [← HK.out.2, hkp]⟩
      clear hfb LIV hkn hkp HK
      go_wp2_with fail
      refine CFO.out.mono ?_
      rintro e w5 ⟨⟨fo, rfl, hfo⟩, b5⟩
      have B15 : Hid (Below w1.heap.size w1 w5) := B14.out.trans (b5.mono B14.out.size)
      have LIV := Lib.hid (CL.out w5)
      have F5 := Lib.hid (FINA.out w5 b5)
      clear b5 CFO FINA d0 e0 t1 t2
      cases fo with
      | false =>
        go_wp2_with fail
        refine LIV.out.mono ?_
        rintro e w6 ⟨rfl, b6⟩
        have F := Lib.hid (F5.out.trans (b6.mono F5.out.size))
        clear b6
        go_wp2
        go_ret
        exact ⟨rfl, F.out⟩
      | true =>
        have FO := Lib.hid (hfo.out rfl)
        clear hfo LIV CL
        obtain ⟨hX, fX, hY, fY⟩ := HA.out
        obtain ⟨hr, hok, hlen, hn⟩ := HL.out
        obtain ⟨z0, z1, low5, hz5⟩ := KP.out w5 B15.out
        have LX := Lib.hid (load_ob z0 hX.1)
        obtain ⟨w6, hw6⟩ : ∃ x, x = w5.alloc (.cells X OTy) := ⟨_, rfl⟩
        obtain ⟨M, hM⟩ : ∃ x, x = w5.heap.size := ⟨_, rfl⟩
        have b6 : Below w5.heap.size w5 w6 := hw6 ▸ ((Gr.refl w5).alloc _).below
        have y6 : w6.heap[M]? = some (.cells X OTy (0, 0)) := by rw [hw6, hM]; exact heap_alloc_new w5 _
        have B16 : Hid (Below w1.heap.size w1 w6) := B15.out.trans (b6.mono B15.out.size)
        have low6 := low5.trans (b6.mono low5.size)
        have rX : RowR 47 encOb w6 (some ⟨M, 0, none⟩) [(⟨X, hX.1, objV_one hX⟩, no)] := row_one (x := (⟨X, hX.1, objV_one hX⟩, no)) y6 rfl
        have each0 : ∀ o ∈ l.map (·.2), rgtE o = 0 := fun o ho => (FO.out.1.each o ho).2
        have CR0 := rm_rooms w6 w6 (Below.refl _ _) (some ⟨M, 0, none⟩) q 1 c [(⟨X, hX.1, objV_one hX⟩, no)] l rX
          (fun x hx => by
            rw [List.mem_singleton.1 hx]
            exact ⟨hX.below low6, by have := ftT_iff.1 fX.name; show no.name.size ≤ maxLen; unfold maxLen; omega⟩) (by show 1 < 1000000; decide) (hr.below low6)
          (fun x hx => ⟨(hok x hx).1.below low6, fun hk => by
            have := pod_of (each0 x.2 (List.mem_map.2 ⟨x, hx, rfl⟩)) hk
            exact ⟨i64_of (by omega), i64_of (by omega)⟩, by have := ftT_iff.1 (hok x hx).2.2.1.p_node; unfold maxLen; omega⟩) (by have := FO.out.2; omega)
        rw [← hn] at CR0
        have CR : Hid (Calls Try.prog 6 #[.slice (some ⟨M, 0, none⟩) 1 1, .slice q n c] w6 fun e w' => (∃ q' c' n, e = .returned (.slice q' n c') ∧ Hid (∃ p s : List El, n = s.length ∧ w'.ownsRow w6.heap.size RT 11 (.slice q' n c') n (flat enc s) ∧ Sorted s ∧ Same1 p s ∧ p.map (·.1.2) = ([no].filter isNode).map (roomOf (l.map (·.2))) ∧ ∀ x ∈ s, RmV w6 x.1.1.1 x.1.2)) ∧ Below w6.heap.size w6 w') := CR0
        clear CR0
        have CO := Lib.hid (come_of no po (l.map (·.2)) (F0.out.each no (by simp)).2 HK2.out.1 (F0.out.each po (by simp)).2 HK2.out.2 each0 (by rw [List.length_map]; have := FO.out.2; omega))
        obtain ⟨rm, hrm⟩ : ∃ r, r = roomOf (l.map (·.2)) no := ⟨_, rfl⟩
        have ER : Hid (([no].filter isNode).map (roomOf (l.map (·.2))) = [rm]) := by
          show (List.map _ (List.filter isNode [no])) = _
          have : isNode no = true := by unfold isNode; exact decide_eq_true HK2.out.1
          simp [this, hrm]
        have EN : Hid (rm.name = no.name ∧ rm.n = no.n) := by rw [hrm]; exact ⟨rfl, rfl⟩
        rw [← hrm] at CO
        have SX : Hid (X.size = 47) := hX.1
        have HW6 : Hid (w5.alloc (.cells X OTy) = w6 ∧ w5.heap.size = M) := ⟨hw6.symm, hM.symm⟩
        have SHT : Hid (Short rm.n po.p) := ⟨by rw [EN.out.2]; have := fX.n_lab_r; omega, by rw [EN.out.2]; have := fX.n_tnt_r; omega, by have := fY.p_sel_r; omega, by have := fY.p_tol_r; omega⟩
        clear hX fX hY fY hr hok hlen hn z0 z1 low5 hz5 hw6 hM b6 y6 low6 rX each0 hrm F0 FO HK2 B15 F5
        go_wp2_with (first | (refine wpList_load_by (by kernel_rfl) OTy _ rfl (.pointer (some ⟨B, 0, none⟩)) (.agg X) (by rfl) LX.out ?_) | (refine Ld.wpList_build (by kernel_rfl) 45 OTy _ rfl (.agg zerC) 47 X (by rfl) SX.out (by decide) (by decide) Try.underlying45 (by kernel_rfl) ?_; rw [HW6.out.1, HW6.out.2]))
        refine CR.out.mono ?_
        rintro e w7 ⟨⟨q7, c7, n7, rfl, HP⟩, b7⟩
        obtain ⟨p, s, hn7, own, ss, sm, hp, hv⟩ := HP.out
        obtain ⟨y, rfl, hy⟩ := one_room sm (r := rm) (by rw [hp]; exact ER.out)
        simp at hn7
        subst hn7
        obtain ⟨g, rfl, _, hg, hra⟩ := own_at own rfl (j := 0) (x := y) rfl
        have rv := (hv y (by simp)).below b7
        rw [hy] at rv
        have LD7 := Lib.hid (load_room (x := y) (by rw [Nat.zero_mul] at hra; exact hra))
        obtain ⟨R, hR⟩ : ∃ R, R = y.1.1.1 := ⟨_, rfl⟩
        rw [← hR] at LD7 rv
        have sR := rv.one.1
        have B17 : Below w1.heap.size w1 w7 := B16.out.trans (b7.mono B16.out.size)
        obtain ⟨t7, x7, l7⟩ := cell_new w7 RT zerR R (by rw [sR]; rfl)
        obtain ⟨w8, hw8⟩ : ∃ x, x = (w7.alloc (.cells zerR RT)).setCells w7.heap.size 0 R.toList := ⟨_, rfl⟩
        obtain ⟨D7, hD7⟩ : ∃ x, x = w7.heap.size := ⟨_, rfl⟩
        have HW8 : Hid ((w7.alloc (.cells zerR RT)).setCells w7.heap.size 0 R.toList = w8 ∧ w7.heap.size = D7) := ⟨hw8.symm, hD7.symm⟩
        rw [← hw8] at x7 l7
        rw [← hD7] at x7
        have T7 := Lib.hid t7
        have I7 : Hid ((Try.prog.info? RT).map (·.size) = some R.size) := by show _ = _; rw [sR]; kernel_rfl
        have O7 := Lib.hid rv.one.2.1
        have B18 : Below w1.heap.size w1 w8 := B17.trans (l7.mono B17.size)
        obtain ⟨z0, z1, low8, hz8⟩ := KP.out w8 B18
        obtain ⟨P, hP⟩ : ∃ P, P = Y.extract 10 20 := ⟨_, rfl⟩
        have LP8 := Lib.hid (load_in z1 HA.out.2.2.1.1)
        have pd8 := ext_pd (HA.out.2.2.1.below low8)
        rw [← hP] at LP8 pd8
        have LR8 := run_loadAt_mid (P := Try.prog) w8 D7 0 RT R.toList _ (Ld.rangeAt_block x7) Try.underlying49 rfl (by rw [Array.length_toList, sR]; kernel_rfl)
        rw [Array.toArray_toList] at LR8
        have LR8 := Lib.hid LR8
        have rv8 := rv.below l7
        have CP := Lib.hid (rm_put w8 R P rm po.p rv8 pd8 SHT.out CO.out.nums CO.out.asks ⟨CO.out.pods.1, by have := CO.out.pods.2; omega⟩)
        obtain ⟨fbit, hfbit⟩ : ∃ b, b = FitsB rm po.p := ⟨_, rfl⟩
        rw [← hfbit] at CP
        have HFB := Lib.hid hfbit
        have H8 := Lib.hid (And.intro x7 (And.intro B18 (And.intro rv8 (And.intro hP sR))))
        clear hfbit HP own ss sm hp hv hy hg hra hR hw8 hD7 t7 x7 l7 z0 z1 low8 hz8 hP pd8 rv rv8 sR B17 B18 b7 B16 LX SX HW6 CR ER B14
        go_upto_region 4 with (first | (refine wpList_load_by (by kernel_rfl) RT _ rfl (.pointer (some ⟨g, 0, none⟩)) (.agg R) (by rfl) LD7.out ?_) | (refine wpList_store_mid rfl _ _ _ rfl w7.heap.size 0 R (by rfl) (by rfl) T7.out I7.out O7.out ?_; rw [HW8.out.1, HW8.out.2]))
        clear LD7 T7 I7 O7 HW8
        go_wp2_with (first | (refine wpList_load_by (by kernel_rfl) RT _ rfl (.pointer (some ⟨D7, 0, none⟩)) (.agg R) (by rfl) LR8.out ?_) | (refine wpList_load_by (by kernel_rfl) PTy _ rfl (.pointer (some ⟨B + 1, 10, none⟩)) (.agg P) (by rfl) LP8.out ?_))
        refine CP.out.mono ?_
        rintro e w9 ⟨⟨R', rfl, HR'⟩, b9⟩
        obtain ⟨x7, B18, rv8, hP, sR⟩ := H8.out
        have rv' : RmV w8 R' (if fbit = true then putR rm po.p else rm) := HR'.out
        have sR' := rv'.one.1
        have B19 : Below w1.heap.size w1 w9 := B18.trans (b9.mono B18.size)
        have x79 := (b9.block _ (Array.getElem?_eq_some_iff.1 x7).1).trans x7
        obtain ⟨t8, x8, l8⟩ := cell_new w9 RT zerR R' (by rw [sR']; rfl)
        obtain ⟨w10, hw10⟩ : ∃ x, x = (w9.alloc (.cells zerR RT)).setCells w9.heap.size 0 R'.toList := ⟨_, rfl⟩
        obtain ⟨D8, hD8⟩ : ∃ x, x = w9.heap.size := ⟨_, rfl⟩
        have HW10 : Hid ((w9.alloc (.cells zerR RT)).setCells w9.heap.size 0 R'.toList = w10 ∧ w9.heap.size = D8) := ⟨hw10.symm, hD8.symm⟩
        rw [← hw10] at x8 l8
        rw [← hD8] at x8
        have T8 := Lib.hid t8
        have I8 : Hid ((Try.prog.info? RT).map (·.size) = some R'.size) := by show _ = _; rw [sR']; kernel_rfl
        have O8 := Lib.hid rv'.one.2.1
        have x70 := (l8.block _ (Array.getElem?_eq_some_iff.1 x79).1).trans x79
        have B20 : Below w1.heap.size w1 w10 := B19.trans (l8.mono B19.size)
        have b80 : Below w8.heap.size w8 w10 := b9.trans (l8.mono b9.size)
        obtain ⟨z0, z1, low10, hz10⟩ := KP.out w10 B20
        have LP10 := Lib.hid (load_in z1 HA.out.2.2.1.1)
        have pd10 := ext_pd (HA.out.2.2.1.below low10)
        rw [← hP] at LP10 pd10
        have LR10 := run_loadAt_mid (P := Try.prog) w10 D7 0 RT R.toList _ (Ld.rangeAt_block x70) Try.underlying49 rfl (by rw [Array.length_toList, sR]; kernel_rfl)
        rw [Array.toArray_toList] at LR10
        have LR10 := Lib.hid LR10
        have CFT := Lib.hid (rm_fits w10 R P rm po.p (rv8.below b80) pd10 SHT.out CO.out.nums CO.out.asks)
        rw [← HFB.out] at CFT
        have H10 := Lib.hid (And.intro x70 (And.intro x8 (And.intro B20 (And.intro (rv8.below b80) (And.intro (rv'.below b80) hP)))))
        clear x7 B18 rv8 hP sR rv' sR' B19 x79 t8 x8 l8 hw10 hD8 x70 B20 b80 z0 z1 low10 hz10 pd10 b9 H8 LR8 LP8 CP HR'
        cases fbit with
        | false =>
          go_upto_region 5 with (refine wpList_store_mid rfl _ _ _ rfl w9.heap.size 0 R' (by rfl) (by rfl) T8.out I8.out O8.out ?_; rw [HW10.out.1, HW10.out.2])
          clear T8 I8 O8 HW10
          go_wp2_with (first | (refine wpList_load_by (by kernel_rfl) RT _ rfl (.pointer (some ⟨D7, 0, none⟩)) (.agg R) (by rfl) LR10.out ?_) | (refine wpList_load_by (by kernel_rfl) PTy _ rfl (.pointer (some ⟨B + 1, 10, none⟩)) (.agg P) (by rfl) LP10.out ?_))
          refine CFT.out.mono ?_
          rintro e w11 ⟨rfl, b11⟩
          obtain ⟨x70, x8, B20, rv, rv', hP⟩ := H10.out
          have m7 := (b11.block _ (Array.getElem?_eq_some_iff.1 x70).1).trans x70
          have m8 := (b11.block _ (Array.getElem?_eq_some_iff.1 x8).1).trans x8
          obtain ⟨z0, z1, low11, hz11⟩ := KP.out w11 (B20.trans (b11.mono B20.size))
          obtain ⟨d0, d1, d2, d3, d4, d5, d6, eR, _⟩ := rv.lit
          obtain ⟨f0, f1, f2, f3, f4, f5, f6, eR', _⟩ := rv'.lit
          rw [eR] at m7
          rw [eR', if_neg (by decide)] at m8
          obtain ⟨uc, huc⟩ : ∃ a, a = rm.cpu := ⟨_, rfl⟩
          obtain ⟨um, hum⟩ : ∃ a, a = rm.mem := ⟨_, rfl⟩
          obtain ⟨k, hk⟩ : ∃ a, a = rm.pods := ⟨_, rfl⟩
          rw [← huc, ← hum, ← hk] at m7 m8
          have c8 : w11.cell? ⟨D7, 8, none⟩ = some (.int .i64 uc) := cell_of_block m7 8
          have c9 : w11.cell? ⟨D7, 9, none⟩ = some (.int .i64 um) := cell_of_block m7 9
          have c10 : w11.cell? ⟨D7, 10, none⟩ = some (.int .i64 k) := cell_of_block m7 10
          have e8 : w11.cell? ⟨D8, 8, none⟩ = some (.int .i64 uc) := cell_of_block m8 8
          have e9 : w11.cell? ⟨D8, 9, none⟩ = some (.int .i64 um) := cell_of_block m8 9
          have e10 : w11.cell? ⟨D8, 10, none⟩ = some (.int .i64 k) := cell_of_block m8 10
          have EQ := eql_res uc um
          have KK : (k == k) = true := by simp
          have F := Lib.hid low11
          clear x70 x8 B20 rv rv' hP m7 m8 z0 z1 low11 hz11 eR eR' huc hum hk b11 LR10 LP10 CFT H10
          go_wp2
          go_ret
          exact ⟨rfl, F.out⟩
        | true =>
          obtain ⟨PU1, PU2, PU3, PU4, PU5, PU6⟩ := CO.out.put HFB.out.symm
          have HPU := Lib.hid (And.intro PU2 (And.intro PU3 (And.intro PU4 (And.intro PU5 PU6))))
          have HNU := Lib.hid PU1
          clear PU1 PU2 PU3 PU4 PU5 PU6
          go_upto_region 5 with (refine wpList_store_mid rfl _ _ _ rfl w9.heap.size 0 R' (by rfl) (by rfl) T8.out I8.out O8.out ?_; rw [HW10.out.1, HW10.out.2])
          clear T8 I8 O8 HW10
          go_wp2_with (first | (refine wpList_load_by (by kernel_rfl) RT _ rfl (.pointer (some ⟨D7, 0, none⟩)) (.agg R) (by rfl) LR10.out ?_) | (refine wpList_load_by (by kernel_rfl) PTy _ rfl (.pointer (some ⟨B + 1, 10, none⟩)) (.agg P) (by rfl) LP10.out ?_))
          refine CFT.out.mono ?_
          rintro e wz ⟨rfl, b11⟩
          obtain ⟨x70, x8, B20, rv, rv', hP⟩ := H10.out
          have rv' : RmV w10 R' (putR rm po.p) := by simpa using rv'
          have m7 := (b11.block _ (Array.getElem?_eq_some_iff.1 x70).1).trans x70
          have m8 := (b11.block _ (Array.getElem?_eq_some_iff.1 x8).1).trans x8
          have BZ := Lib.hid (B20.trans (b11.mono B20.size))
          have rz := rv.below b11
          have rz' := rv'.below b11
          have KS : Hid (∀ ws, Gr wz ws → PutS2 D7 D8 R R' ws) := fun ws g => ⟨(g.heap (Array.getElem?_eq_some_iff.1 m7).1).trans m7, (g.heap (Array.getElem?_eq_some_iff.1 m8).1).trans m8⟩
          obtain ⟨la1, hla1⟩ : ∃ a, a = leftI rm.n.cpu rm.cpu := ⟨_, rfl⟩
          obtain ⟨la2, hla2⟩ : ∃ a, a = leftI rm.n.mem rm.mem := ⟨_, rfl⟩
          obtain ⟨lb1, hlb1⟩ : ∃ a, a = leftI rm.n.cpu (putR rm po.p).cpu := ⟨_, rfl⟩
          obtain ⟨lb2, hlb2⟩ : ∃ a, a = leftI rm.n.mem (putR rm po.p).mem := ⟨_, rfl⟩
          have CLA : Hid (∀ ws, Gr wz ws → Calls Try.prog 9 #[.agg R] ws fun e w' => e = .returned (.agg #[.int .i64 la1, .int .i64 la2]) ∧ Gr ws w') := fun ws g => by
            have := rm_left ws R rm (rz.below g.below) CO.out.nums
            rw [← hla1, ← hla2] at this
            exact this
          have CLB : Hid (∀ ws, Gr wz ws → Calls Try.prog 9 #[.agg R'] ws fun e w' => e = .returned (.agg #[.int .i64 lb1, .int .i64 lb2]) ∧ Gr ws w') := fun ws g => by
            have := rm_left ws R' (putR rm po.p) (rz'.below g.below) HNU.out
            have e1 : leftI (putR rm po.p).n.cpu (putR rm po.p).cpu = lb1 := hlb1.symm
            have e2 : leftI (putR rm po.p).n.mem (putR rm po.p).mem = lb2 := hlb2.symm
            rw [e1, e2] at this
            exact this
          have HLA : Hid (la1 - lb1 = po.p.cpu ∧ la2 - lb2 = po.p.mem ∧ I64 la1 ∧ I64 lb1 ∧ I64 la2 ∧ I64 lb2) := ⟨by rw [hla1, hlb1]; exact HPU.out.1, by rw [hla2, hlb2]; exact HPU.out.2.1, by rw [hla1]; exact leftI_64 _ _, by rw [hlb1]; exact leftI_64 _ _, by rw [hla2]; exact leftI_64 _ _, by rw [hlb2]; exact leftI_64 _ _⟩
          have HZ := Lib.hid (And.intro m7 (And.intro m8 (And.intro rz (And.intro rz' hP))))
          have KR : Hid (∀ ws : World, PutS2 D7 D8 R R' ws → ws.rangeAt D7 0 R.toList) := fun ws h => Ld.rangeAt_block h.1
          have KR' : Hid (∀ ws : World, PutS2 D7 D8 R R' ws → ws.rangeAt D8 0 R'.toList) := fun ws h => Ld.rangeAt_block h.2
          have iR : (Try.prog.info? RT).map (·.size) = some R.toList.length := by rw [Array.length_toList, rz.one.1]; kernel_rfl
          have iR' : (Try.prog.info? RT).map (·.size) = some R'.toList.length := by rw [Array.length_toList, rz'.one.1]; kernel_rfl
          have FDone : Hid (∀ (wx : World) (D E : Nat), Gr wz wx → wz.heap.size ≤ D → wz.heap.size ≤ E → D ≠ E → wx.heap[D]? = some (.cells #[.int .i64 0, .int .i64 0] ResT (0, 0)) → wx.heap[E]? = some (.cells #[.int .i64 0, .int .i64 0] ResT (0, 0)) →
              wx.there D 0 2 ∧ PutS2 D7 D8 R R' (wx.setCells D 0 [.int .i64 la1, .int .i64 la2]) ∧ (wx.setCells D 0 [.int .i64 la1, .int .i64 la2]).there E 0 2 ∧ PutS2 D7 D8 R R' ((wx.setCells D 0 [.int .i64 la1, .int .i64 la2]).setCells E 0 [.int .i64 lb1, .int .i64 lb2]) ∧
              Hid (((wx.setCells D 0 [.int .i64 la1, .int .i64 la2]).setCells E 0 [.int .i64 lb1, .int .i64 lb2]).heap[D]? = some (.cells #[.int .i64 la1, .int .i64 la2] ResT (0, 0)) ∧ ((wx.setCells D 0 [.int .i64 la1, .int .i64 la2]).setCells E 0 [.int .i64 lb1, .int .i64 lb2]).heap[E]? = some (.cells #[.int .i64 lb1, .int .i64 lb2] ResT (0, 0)) ∧ Gr wz ((wx.setCells D 0 [.int .i64 la1, .int .i64 la2]).setCells E 0 [.int .i64 lb1, .int .i64 lb2]))) := fun wx D E g hD hE hne zD zE => by
            have g2 : Gr wz (wx.setCells D 0 [.int .i64 la1, .int .i64 la2]) := gr_setCells _ g _ _ hD
            have g3 : Gr wz ((wx.setCells D 0 [.int .i64 la1, .int .i64 la2]).setCells E 0 [.int .i64 lb1, .int .i64 lb2]) := gr_setCells _ g2 _ _ hE
            have zE2 : (wx.setCells D 0 [.int .i64 la1, .int .i64 la2]).heap[E]? = some (.cells #[.int .i64 0, .int .i64 0] ResT (0, 0)) := (heap_setCells_other' _ _ _ _ (Ne.symm hne)).trans zE
            have zD2 : (wx.setCells D 0 [.int .i64 la1, .int .i64 la2]).heap[D]? = some (.cells #[.int .i64 la1, .int .i64 la2] ResT (0, 0)) := Ld.laid (ds := #[.int .i64 la1, .int .i64 la2]) zD rfl
            exact ⟨Ld.there_block zD rfl, KS.out _ g2, Ld.there_block zE2 rfl, KS.out _ g3, (heap_setCells_other' _ _ _ _ hne).trans zD2, Ld.laid (ds := #[.int .i64 lb1, .int .i64 lb2]) zE2 rfl, g3⟩
          clear x70 x8 B20 rv rv' hP m7 m8 rz rz' hla1 hla2 hlb1 hlb2 b11 LR10 LP10 CFT H10
          go_upto_region 9 with fail
          go_cut [10, 11] from 71 to 74 (fun v10 v11 wx => ∃ D E, v10 = .pointer (some ⟨D, 0, none⟩) ∧ v11 = .pointer (some ⟨E, 0, none⟩) ∧ Hid (wx.heap[D]? = some (.cells #[.int .i64 la1, .int .i64 la2] ResT (0, 0)) ∧ wx.heap[E]? = some (.cells #[.int .i64 lb1, .int .i64 lb2] ResT (0, 0)) ∧ Gr wz wx))
          case first =>
            have G0 : Gr wz wz.drew := (Gr.refl wz).drewN 1
            refine wp_region_held_drew (S := PutS2 D7 D8 R R') mixed (KS.out _ G0) (fun hS => ?_)
            generalize wz.drew = v0 at hS G0 ⊢
            refine wpAnyH_takeD (i := 0) (d := 71) (v := .agg R.toList.toArray) _ rfl rfl (by kernel_rfl) (by kernel_rfl) (by kernel_rfl) (fun _ _ _ h => h) (yieldsIf_load_mid (by kernel_rfl) _ _ rfl D7 0 (by kernel_rfl) R.toList _ (fun ws hSw => KR.out ws hSw) Try.underlying49 rfl iR) hS ?_
            simp only [Act.put, List.setIfInBounds_toArray, List.set_cons_zero, List.set_cons_succ]
            refine wpAnyH_takeD (i := 2) (d := 73) (v := .agg R'.toList.toArray) _ rfl rfl (by kernel_rfl) (by kernel_rfl) (by kernel_rfl) (fun _ _ _ h => h) (yieldsIf_load_mid (by kernel_rfl) _ _ rfl D8 0 (by kernel_rfl) R'.toList _ (fun ws hSw => KR'.out ws hSw) Try.underlying49 rfl iR') hS ?_
            simp only [Act.put, List.setIfInBounds_toArray, List.set_cons_zero, List.set_cons_succ]
            refine wpAnyH_ready (rs := [1, 4, 5]) (by kernel_rfl) (by simp) ?_
            refine AllReadyH.cons rfl (fun K hK => ?_) (AllReadyH.cons rfl (fun K hK => ?_) (AllReadyH.cons rfl (fun K hK => ?_) AllReadyH.nil))
            · go_simp
              refine (CLA.out _ G0).mono ?_
              rintro e v1 ⟨rfl, g1⟩
              have G1 : Gr wz v1 := G0.trans g1
              refine hK _ _ (KS.out _ G1) (fun hS => ?_)
              try simp only [Act.put, List.setIfInBounds_toArray, List.set_cons_zero, List.set_cons_succ]
              refine wpAnyH_ready (rs := [3, 4, 5]) (by kernel_rfl) (by simp) ?_
              refine AllReadyH.cons rfl (fun K hK => ?_) (AllReadyH.cons rfl (fun K hK => ?_) (AllReadyH.cons rfl (fun K hK => ?_) AllReadyH.nil))
              · go_simp
                refine (CLB.out _ G1).mono ?_
                rintro e v2 ⟨rfl, g2⟩
                have G2 : Gr wz v2 := G1.trans g2
                refine hK _ _ (KS.out _ G2) (fun hS => ?_)
                try simp only [Act.put, List.setIfInBounds_toArray, List.set_cons_zero, List.set_cons_succ]
                refine wpAnyH_ready (rs := [4, 5]) (by kernel_rfl) (by simp) ?_
                refine AllReadyH.cons rfl (fun K hK => ?_) (AllReadyH.cons rfl (fun K hK => ?_) AllReadyH.nil)
                · go_simp
                  obtain ⟨D, hDe⟩ : ∃ D, D = v2.heap.size := ⟨_, rfl⟩
                  obtain ⟨v3, hv3⟩ : ∃ x, x = v2.alloc (.cells #[.int .i64 0, .int .i64 0] ResT) := ⟨_, rfl⟩
                  have G3 : Gr wz v3 := hv3 ▸ G2.alloc _
                  have hD : wz.heap.size ≤ D := by rw [hDe]; exact G2.size
                  have zD : v3.heap[D]? = some (.cells #[.int .i64 0, .int .i64 0] ResT (0, 0)) := by rw [hv3, hDe]; exact heap_alloc_new v2 _
                  rw [← hv3, ← hDe]
                  clear hv3 hDe
                  refine hK _ _ (KS.out _ G3) (fun hS => ?_)
                  try simp only [Act.put, List.setIfInBounds_toArray, List.set_cons_zero, List.set_cons_succ]
                  refine wpAnyH_ready (rs := [5]) (by kernel_rfl) (by simp) ?_
                  refine AllReadyH.cons rfl (fun K hK => ?_) AllReadyH.nil
                  go_simp
                  obtain ⟨E, hEe⟩ : ∃ D, D = v3.heap.size := ⟨_, rfl⟩
                  obtain ⟨v4, hv4⟩ : ∃ x, x = v3.alloc (.cells #[.int .i64 0, .int .i64 0] ResT) := ⟨_, rfl⟩
                  have G4 : Gr wz v4 := hv4 ▸ G3.alloc _
                  have hE : wz.heap.size ≤ E := by rw [hEe]; exact G3.size
                  have hDE : D ≠ E := by have := (Array.getElem?_eq_some_iff.1 zD).1; omega
                  have zD : v4.heap[D]? = some (.cells #[.int .i64 0, .int .i64 0] ResT (0, 0)) := by rw [hv4, Below.heap_alloc _ _ _ (Array.getElem?_eq_some_iff.1 zD).1]; exact zD
                  have zE : v4.heap[E]? = some (.cells #[.int .i64 0, .int .i64 0] ResT (0, 0)) := by rw [hv4, hEe]; exact heap_alloc_new v3 _
                  rw [← hv4, ← hEe]
                  clear hv4 hEe
                  refine hK _ _ (KS.out _ G4) (fun hS => ?_)
                  try simp only [Act.put, List.setIfInBounds_toArray, List.set_cons_zero, List.set_cons_succ]
                  obtain ⟨tD, s1, tE, s2, FD⟩ := FDone.out _ D E G4 hD hE hDE zD zE
                  refine wpAnyH_ready (rs := [6]) (by kernel_rfl) (by simp) ?_
                  refine AllReadyH.cons rfl (fun K hK => ?_) AllReadyH.nil
                  refine Ld.step_store (by rfl) _ _ _ rfl D 0 #[.int .i64 la1, .int .i64 la2] (by rfl) (by rfl) tD (by kernel_rfl) (by kernel_rfl) ?_
                  refine hK _ _ s1 (fun hS => ?_)
                  try simp only [Act.put, List.setIfInBounds_toArray, List.set_cons_zero, List.set_cons_succ]
                  refine wpAnyH_ready (rs := [7]) (by kernel_rfl) (by simp) ?_
                  refine AllReadyH.cons rfl (fun K hK => ?_) AllReadyH.nil
                  refine Ld.step_store (by rfl) _ _ _ rfl E 0 #[.int .i64 lb1, .int .i64 lb2] (by rfl) (by rfl) tE (by kernel_rfl) (by kernel_rfl) ?_
                  refine hK _ _ s2 (fun hS => ?_)
                  try simp only [Act.put, List.setIfInBounds_toArray, List.set_cons_zero, List.set_cons_succ]
                  refine wpAnyH_done (by kernel_rfl) ?_ _
                  go_wp2_with fail
                  go_meet
                  case rel => exact ⟨D, E, rfl, rfl, FD⟩
                · go_simp
                  obtain ⟨E, hEe⟩ : ∃ D, D = v2.heap.size := ⟨_, rfl⟩
                  obtain ⟨v3, hv3⟩ : ∃ x, x = v2.alloc (.cells #[.int .i64 0, .int .i64 0] ResT) := ⟨_, rfl⟩
                  have G3 : Gr wz v3 := hv3 ▸ G2.alloc _
                  have hE : wz.heap.size ≤ E := by rw [hEe]; exact G2.size
                  have zE : v3.heap[E]? = some (.cells #[.int .i64 0, .int .i64 0] ResT (0, 0)) := by rw [hv3, hEe]; exact heap_alloc_new v2 _
                  rw [← hv3, ← hEe]
                  clear hv3 hEe
                  refine hK _ _ (KS.out _ G3) (fun hS => ?_)
                  try simp only [Act.put, List.setIfInBounds_toArray, List.set_cons_zero, List.set_cons_succ]
                  refine wpAnyH_ready (rs := [4]) (by kernel_rfl) (by simp) ?_
                  refine AllReadyH.cons rfl (fun K hK => ?_) AllReadyH.nil
                  go_simp
                  obtain ⟨D, hDe⟩ : ∃ D, D = v3.heap.size := ⟨_, rfl⟩
                  obtain ⟨v4, hv4⟩ : ∃ x, x = v3.alloc (.cells #[.int .i64 0, .int .i64 0] ResT) := ⟨_, rfl⟩
                  have G4 : Gr wz v4 := hv4 ▸ G3.alloc _
                  have hD : wz.heap.size ≤ D := by rw [hDe]; exact G3.size
                  have hDE : D ≠ E := by have := (Array.getElem?_eq_some_iff.1 zE).1; omega
                  have zE : v4.heap[E]? = some (.cells #[.int .i64 0, .int .i64 0] ResT (0, 0)) := by rw [hv4, Below.heap_alloc _ _ _ (Array.getElem?_eq_some_iff.1 zE).1]; exact zE
                  have zD : v4.heap[D]? = some (.cells #[.int .i64 0, .int .i64 0] ResT (0, 0)) := by rw [hv4, hDe]; exact heap_alloc_new v3 _
                  rw [← hv4, ← hDe]
                  clear hv4 hDe
                  refine hK _ _ (KS.out _ G4) (fun hS => ?_)
                  try simp only [Act.put, List.setIfInBounds_toArray, List.set_cons_zero, List.set_cons_succ]
                  obtain ⟨tD, s1, tE, s2, FD⟩ := FDone.out _ D E G4 hD hE hDE zD zE
                  refine wpAnyH_ready (rs := [6]) (by kernel_rfl) (by simp) ?_
                  refine AllReadyH.cons rfl (fun K hK => ?_) AllReadyH.nil
                  refine Ld.step_store (by rfl) _ _ _ rfl D 0 #[.int .i64 la1, .int .i64 la2] (by rfl) (by rfl) tD (by kernel_rfl) (by kernel_rfl) ?_
                  refine hK _ _ s1 (fun hS => ?_)
                  try simp only [Act.put, List.setIfInBounds_toArray, List.set_cons_zero, List.set_cons_succ]
                  refine wpAnyH_ready (rs := [7]) (by kernel_rfl) (by simp) ?_
                  refine AllReadyH.cons rfl (fun K hK => ?_) AllReadyH.nil
                  refine Ld.step_store (by rfl) _ _ _ rfl E 0 #[.int .i64 lb1, .int .i64 lb2] (by rfl) (by rfl) tE (by kernel_rfl) (by kernel_rfl) ?_
                  refine hK _ _ s2 (fun hS => ?_)
                  try simp only [Act.put, List.setIfInBounds_toArray, List.set_cons_zero, List.set_cons_succ]
                  refine wpAnyH_done (by kernel_rfl) ?_ _
                  go_wp2_with fail
                  go_meet
                  case rel => exact ⟨D, E, rfl, rfl, FD⟩
              · go_simp
                obtain ⟨D, hDe⟩ : ∃ D, D = v1.heap.size := ⟨_, rfl⟩
                obtain ⟨v2, hv2⟩ : ∃ x, x = v1.alloc (.cells #[.int .i64 0, .int .i64 0] ResT) := ⟨_, rfl⟩
                have G2 : Gr wz v2 := hv2 ▸ G1.alloc _
                have hD : wz.heap.size ≤ D := by rw [hDe]; exact G1.size
                have zD : v2.heap[D]? = some (.cells #[.int .i64 0, .int .i64 0] ResT (0, 0)) := by rw [hv2, hDe]; exact heap_alloc_new v1 _
                rw [← hv2, ← hDe]
                clear hv2 hDe
                refine hK _ _ (KS.out _ G2) (fun hS => ?_)
                try simp only [Act.put, List.setIfInBounds_toArray, List.set_cons_zero, List.set_cons_succ]
                refine wpAnyH_ready (rs := [3, 5]) (by kernel_rfl) (by simp) ?_
                refine AllReadyH.cons rfl (fun K hK => ?_) (AllReadyH.cons rfl (fun K hK => ?_) AllReadyH.nil)
                · go_simp
                  refine (CLB.out _ G2).mono ?_
                  rintro e v3 ⟨rfl, g3⟩
                  have G3 : Gr wz v3 := G2.trans g3
                  refine hK _ _ (KS.out _ G3) (fun hS => ?_)
                  have zD := (g3.heap (Array.getElem?_eq_some_iff.1 zD).1).trans zD
                  try simp only [Act.put, List.setIfInBounds_toArray, List.set_cons_zero, List.set_cons_succ]
                  refine wpAnyH_ready (rs := [5]) (by kernel_rfl) (by simp) ?_
                  refine AllReadyH.cons rfl (fun K hK => ?_) AllReadyH.nil
                  go_simp
                  obtain ⟨E, hEe⟩ : ∃ D, D = v3.heap.size := ⟨_, rfl⟩
                  obtain ⟨v4, hv4⟩ : ∃ x, x = v3.alloc (.cells #[.int .i64 0, .int .i64 0] ResT) := ⟨_, rfl⟩
                  have G4 : Gr wz v4 := hv4 ▸ G3.alloc _
                  have hE : wz.heap.size ≤ E := by rw [hEe]; exact G3.size
                  have hDE : D ≠ E := by have := (Array.getElem?_eq_some_iff.1 zD).1; omega
                  have zD : v4.heap[D]? = some (.cells #[.int .i64 0, .int .i64 0] ResT (0, 0)) := by rw [hv4, Below.heap_alloc _ _ _ (Array.getElem?_eq_some_iff.1 zD).1]; exact zD
                  have zE : v4.heap[E]? = some (.cells #[.int .i64 0, .int .i64 0] ResT (0, 0)) := by rw [hv4, hEe]; exact heap_alloc_new v3 _
                  rw [← hv4, ← hEe]
                  clear hv4 hEe
                  refine hK _ _ (KS.out _ G4) (fun hS => ?_)
                  try simp only [Act.put, List.setIfInBounds_toArray, List.set_cons_zero, List.set_cons_succ]
                  obtain ⟨tD, s1, tE, s2, FD⟩ := FDone.out _ D E G4 hD hE hDE zD zE
                  refine wpAnyH_ready (rs := [6]) (by kernel_rfl) (by simp) ?_
                  refine AllReadyH.cons rfl (fun K hK => ?_) AllReadyH.nil
                  refine Ld.step_store (by rfl) _ _ _ rfl D 0 #[.int .i64 la1, .int .i64 la2] (by rfl) (by rfl) tD (by kernel_rfl) (by kernel_rfl) ?_
                  refine hK _ _ s1 (fun hS => ?_)
                  try simp only [Act.put, List.setIfInBounds_toArray, List.set_cons_zero, List.set_cons_succ]
                  refine wpAnyH_ready (rs := [7]) (by kernel_rfl) (by simp) ?_
                  refine AllReadyH.cons rfl (fun K hK => ?_) AllReadyH.nil
                  refine Ld.step_store (by rfl) _ _ _ rfl E 0 #[.int .i64 lb1, .int .i64 lb2] (by rfl) (by rfl) tE (by kernel_rfl) (by kernel_rfl) ?_
                  refine hK _ _ s2 (fun hS => ?_)
                  try simp only [Act.put, List.setIfInBounds_toArray, List.set_cons_zero, List.set_cons_succ]
                  refine wpAnyH_done (by kernel_rfl) ?_ _
                  go_wp2_with fail
                  go_meet
                  case rel => exact ⟨D, E, rfl, rfl, FD⟩
                · go_simp
                  obtain ⟨E, hEe⟩ : ∃ D, D = v2.heap.size := ⟨_, rfl⟩
                  obtain ⟨v3, hv3⟩ : ∃ x, x = v2.alloc (.cells #[.int .i64 0, .int .i64 0] ResT) := ⟨_, rfl⟩
                  have G3 : Gr wz v3 := hv3 ▸ G2.alloc _
                  have hE : wz.heap.size ≤ E := by rw [hEe]; exact G2.size
                  have hDE : D ≠ E := by have := (Array.getElem?_eq_some_iff.1 zD).1; omega
                  have zD : v3.heap[D]? = some (.cells #[.int .i64 0, .int .i64 0] ResT (0, 0)) := by rw [hv3, Below.heap_alloc _ _ _ (Array.getElem?_eq_some_iff.1 zD).1]; exact zD
                  have zE : v3.heap[E]? = some (.cells #[.int .i64 0, .int .i64 0] ResT (0, 0)) := by rw [hv3, hEe]; exact heap_alloc_new v2 _
                  rw [← hv3, ← hEe]
                  clear hv3 hEe
                  refine hK _ _ (KS.out _ G3) (fun hS => ?_)
                  try simp only [Act.put, List.setIfInBounds_toArray, List.set_cons_zero, List.set_cons_succ]
                  refine wpAnyH_ready (rs := [3]) (by kernel_rfl) (by simp) ?_
                  refine AllReadyH.cons rfl (fun K hK => ?_) AllReadyH.nil
                  go_simp
                  refine (CLB.out _ G3).mono ?_
                  rintro e v4 ⟨rfl, g4⟩
                  have G4 : Gr wz v4 := G3.trans g4
                  refine hK _ _ (KS.out _ G4) (fun hS => ?_)
                  have zD := (g4.heap (Array.getElem?_eq_some_iff.1 zD).1).trans zD
                  have zE := (g4.heap (Array.getElem?_eq_some_iff.1 zE).1).trans zE
                  try simp only [Act.put, List.setIfInBounds_toArray, List.set_cons_zero, List.set_cons_succ]
                  obtain ⟨tD, s1, tE, s2, FD⟩ := FDone.out _ D E G4 hD hE hDE zD zE
                  refine wpAnyH_ready (rs := [6]) (by kernel_rfl) (by simp) ?_
                  refine AllReadyH.cons rfl (fun K hK => ?_) AllReadyH.nil
                  refine Ld.step_store (by rfl) _ _ _ rfl D 0 #[.int .i64 la1, .int .i64 la2] (by rfl) (by rfl) tD (by kernel_rfl) (by kernel_rfl) ?_
                  refine hK _ _ s1 (fun hS => ?_)
                  try simp only [Act.put, List.setIfInBounds_toArray, List.set_cons_zero, List.set_cons_succ]
                  refine wpAnyH_ready (rs := [7]) (by kernel_rfl) (by simp) ?_
                  refine AllReadyH.cons rfl (fun K hK => ?_) AllReadyH.nil
                  refine Ld.step_store (by rfl) _ _ _ rfl E 0 #[.int .i64 lb1, .int .i64 lb2] (by rfl) (by rfl) tE (by kernel_rfl) (by kernel_rfl) ?_
                  refine hK _ _ s2 (fun hS => ?_)
                  try simp only [Act.put, List.setIfInBounds_toArray, List.set_cons_zero, List.set_cons_succ]
                  refine wpAnyH_done (by kernel_rfl) ?_ _
                  go_wp2_with fail
                  go_meet
                  case rel => exact ⟨D, E, rfl, rfl, FD⟩
              · go_simp
                obtain ⟨E, hEe⟩ : ∃ D, D = v1.heap.size := ⟨_, rfl⟩
                obtain ⟨v2, hv2⟩ : ∃ x, x = v1.alloc (.cells #[.int .i64 0, .int .i64 0] ResT) := ⟨_, rfl⟩
                have G2 : Gr wz v2 := hv2 ▸ G1.alloc _
                have hE : wz.heap.size ≤ E := by rw [hEe]; exact G1.size
                have zE : v2.heap[E]? = some (.cells #[.int .i64 0, .int .i64 0] ResT (0, 0)) := by rw [hv2, hEe]; exact heap_alloc_new v1 _
                rw [← hv2, ← hEe]
                clear hv2 hEe
                refine hK _ _ (KS.out _ G2) (fun hS => ?_)
                try simp only [Act.put, List.setIfInBounds_toArray, List.set_cons_zero, List.set_cons_succ]
                refine wpAnyH_ready (rs := [3, 4]) (by kernel_rfl) (by simp) ?_
                refine AllReadyH.cons rfl (fun K hK => ?_) (AllReadyH.cons rfl (fun K hK => ?_) AllReadyH.nil)
                · go_simp
                  refine (CLB.out _ G2).mono ?_
                  rintro e v3 ⟨rfl, g3⟩
                  have G3 : Gr wz v3 := G2.trans g3
                  refine hK _ _ (KS.out _ G3) (fun hS => ?_)
                  have zE := (g3.heap (Array.getElem?_eq_some_iff.1 zE).1).trans zE
                  try simp only [Act.put, List.setIfInBounds_toArray, List.set_cons_zero, List.set_cons_succ]
                  refine wpAnyH_ready (rs := [4]) (by kernel_rfl) (by simp) ?_
                  refine AllReadyH.cons rfl (fun K hK => ?_) AllReadyH.nil
                  go_simp
                  obtain ⟨D, hDe⟩ : ∃ D, D = v3.heap.size := ⟨_, rfl⟩
                  obtain ⟨v4, hv4⟩ : ∃ x, x = v3.alloc (.cells #[.int .i64 0, .int .i64 0] ResT) := ⟨_, rfl⟩
                  have G4 : Gr wz v4 := hv4 ▸ G3.alloc _
                  have hD : wz.heap.size ≤ D := by rw [hDe]; exact G3.size
                  have hDE : D ≠ E := by have := (Array.getElem?_eq_some_iff.1 zE).1; omega
                  have zE : v4.heap[E]? = some (.cells #[.int .i64 0, .int .i64 0] ResT (0, 0)) := by rw [hv4, Below.heap_alloc _ _ _ (Array.getElem?_eq_some_iff.1 zE).1]; exact zE
                  have zD : v4.heap[D]? = some (.cells #[.int .i64 0, .int .i64 0] ResT (0, 0)) := by rw [hv4, hDe]; exact heap_alloc_new v3 _
                  rw [← hv4, ← hDe]
                  clear hv4 hDe
                  refine hK _ _ (KS.out _ G4) (fun hS => ?_)
                  try simp only [Act.put, List.setIfInBounds_toArray, List.set_cons_zero, List.set_cons_succ]
                  obtain ⟨tD, s1, tE, s2, FD⟩ := FDone.out _ D E G4 hD hE hDE zD zE
                  refine wpAnyH_ready (rs := [6]) (by kernel_rfl) (by simp) ?_
                  refine AllReadyH.cons rfl (fun K hK => ?_) AllReadyH.nil
                  refine Ld.step_store (by rfl) _ _ _ rfl D 0 #[.int .i64 la1, .int .i64 la2] (by rfl) (by rfl) tD (by kernel_rfl) (by kernel_rfl) ?_
                  refine hK _ _ s1 (fun hS => ?_)
                  try simp only [Act.put, List.setIfInBounds_toArray, List.set_cons_zero, List.set_cons_succ]
                  refine wpAnyH_ready (rs := [7]) (by kernel_rfl) (by simp) ?_
                  refine AllReadyH.cons rfl (fun K hK => ?_) AllReadyH.nil
                  refine Ld.step_store (by rfl) _ _ _ rfl E 0 #[.int .i64 lb1, .int .i64 lb2] (by rfl) (by rfl) tE (by kernel_rfl) (by kernel_rfl) ?_
                  refine hK _ _ s2 (fun hS => ?_)
                  try simp only [Act.put, List.setIfInBounds_toArray, List.set_cons_zero, List.set_cons_succ]
                  refine wpAnyH_done (by kernel_rfl) ?_ _
                  go_wp2_with fail
                  go_meet
                  case rel => exact ⟨D, E, rfl, rfl, FD⟩
                · go_simp
                  obtain ⟨D, hDe⟩ : ∃ D, D = v2.heap.size := ⟨_, rfl⟩
                  obtain ⟨v3, hv3⟩ : ∃ x, x = v2.alloc (.cells #[.int .i64 0, .int .i64 0] ResT) := ⟨_, rfl⟩
                  have G3 : Gr wz v3 := hv3 ▸ G2.alloc _
                  have hD : wz.heap.size ≤ D := by rw [hDe]; exact G2.size
                  have hDE : D ≠ E := by have := (Array.getElem?_eq_some_iff.1 zE).1; omega
                  have zE : v3.heap[E]? = some (.cells #[.int .i64 0, .int .i64 0] ResT (0, 0)) := by rw [hv3, Below.heap_alloc _ _ _ (Array.getElem?_eq_some_iff.1 zE).1]; exact zE
                  have zD : v3.heap[D]? = some (.cells #[.int .i64 0, .int .i64 0] ResT (0, 0)) := by rw [hv3, hDe]; exact heap_alloc_new v2 _
                  rw [← hv3, ← hDe]
                  clear hv3 hDe
                  refine hK _ _ (KS.out _ G3) (fun hS => ?_)
                  try simp only [Act.put, List.setIfInBounds_toArray, List.set_cons_zero, List.set_cons_succ]
                  refine wpAnyH_ready (rs := [3]) (by kernel_rfl) (by simp) ?_
                  refine AllReadyH.cons rfl (fun K hK => ?_) AllReadyH.nil
                  go_simp
                  refine (CLB.out _ G3).mono ?_
                  rintro e v4 ⟨rfl, g4⟩
                  have G4 : Gr wz v4 := G3.trans g4
                  refine hK _ _ (KS.out _ G4) (fun hS => ?_)
                  have zE := (g4.heap (Array.getElem?_eq_some_iff.1 zE).1).trans zE
                  have zD := (g4.heap (Array.getElem?_eq_some_iff.1 zD).1).trans zD
                  try simp only [Act.put, List.setIfInBounds_toArray, List.set_cons_zero, List.set_cons_succ]
                  obtain ⟨tD, s1, tE, s2, FD⟩ := FDone.out _ D E G4 hD hE hDE zD zE
                  refine wpAnyH_ready (rs := [6]) (by kernel_rfl) (by simp) ?_
                  refine AllReadyH.cons rfl (fun K hK => ?_) AllReadyH.nil
                  refine Ld.step_store (by rfl) _ _ _ rfl D 0 #[.int .i64 la1, .int .i64 la2] (by rfl) (by rfl) tD (by kernel_rfl) (by kernel_rfl) ?_
                  refine hK _ _ s1 (fun hS => ?_)
                  try simp only [Act.put, List.setIfInBounds_toArray, List.set_cons_zero, List.set_cons_succ]
                  refine wpAnyH_ready (rs := [7]) (by kernel_rfl) (by simp) ?_
                  refine AllReadyH.cons rfl (fun K hK => ?_) AllReadyH.nil
                  refine Ld.step_store (by rfl) _ _ _ rfl E 0 #[.int .i64 lb1, .int .i64 lb2] (by rfl) (by rfl) tE (by kernel_rfl) (by kernel_rfl) ?_
                  refine hK _ _ s2 (fun hS => ?_)
                  try simp only [Act.put, List.setIfInBounds_toArray, List.set_cons_zero, List.set_cons_succ]
                  refine wpAnyH_done (by kernel_rfl) ?_ _
                  go_wp2_with fail
                  go_meet
                  case rel => exact ⟨D, E, rfl, rfl, FD⟩
            · go_simp
              obtain ⟨D, hDe⟩ : ∃ D, D = v0.heap.size := ⟨_, rfl⟩
              obtain ⟨v1, hv1⟩ : ∃ x, x = v0.alloc (.cells #[.int .i64 0, .int .i64 0] ResT) := ⟨_, rfl⟩
              have G1 : Gr wz v1 := hv1 ▸ G0.alloc _
              have hD : wz.heap.size ≤ D := by rw [hDe]; exact G0.size
              have zD : v1.heap[D]? = some (.cells #[.int .i64 0, .int .i64 0] ResT (0, 0)) := by rw [hv1, hDe]; exact heap_alloc_new v0 _
              rw [← hv1, ← hDe]
              clear hv1 hDe
              refine hK _ _ (KS.out _ G1) (fun hS => ?_)
              try simp only [Act.put, List.setIfInBounds_toArray, List.set_cons_zero, List.set_cons_succ]
              refine wpAnyH_ready (rs := [1, 5]) (by kernel_rfl) (by simp) ?_
              refine AllReadyH.cons rfl (fun K hK => ?_) (AllReadyH.cons rfl (fun K hK => ?_) AllReadyH.nil)
              · go_simp
                refine (CLA.out _ G1).mono ?_
                rintro e v2 ⟨rfl, g2⟩
                have G2 : Gr wz v2 := G1.trans g2
                refine hK _ _ (KS.out _ G2) (fun hS => ?_)
                have zD := (g2.heap (Array.getElem?_eq_some_iff.1 zD).1).trans zD
                try simp only [Act.put, List.setIfInBounds_toArray, List.set_cons_zero, List.set_cons_succ]
                refine wpAnyH_ready (rs := [3, 5]) (by kernel_rfl) (by simp) ?_
                refine AllReadyH.cons rfl (fun K hK => ?_) (AllReadyH.cons rfl (fun K hK => ?_) AllReadyH.nil)
                · go_simp
                  refine (CLB.out _ G2).mono ?_
                  rintro e v3 ⟨rfl, g3⟩
                  have G3 : Gr wz v3 := G2.trans g3
                  refine hK _ _ (KS.out _ G3) (fun hS => ?_)
                  have zD := (g3.heap (Array.getElem?_eq_some_iff.1 zD).1).trans zD
                  try simp only [Act.put, List.setIfInBounds_toArray, List.set_cons_zero, List.set_cons_succ]
                  refine wpAnyH_ready (rs := [5]) (by kernel_rfl) (by simp) ?_
                  refine AllReadyH.cons rfl (fun K hK => ?_) AllReadyH.nil
                  go_simp
                  obtain ⟨E, hEe⟩ : ∃ D, D = v3.heap.size := ⟨_, rfl⟩
                  obtain ⟨v4, hv4⟩ : ∃ x, x = v3.alloc (.cells #[.int .i64 0, .int .i64 0] ResT) := ⟨_, rfl⟩
                  have G4 : Gr wz v4 := hv4 ▸ G3.alloc _
                  have hE : wz.heap.size ≤ E := by rw [hEe]; exact G3.size
                  have hDE : D ≠ E := by have := (Array.getElem?_eq_some_iff.1 zD).1; omega
                  have zD : v4.heap[D]? = some (.cells #[.int .i64 0, .int .i64 0] ResT (0, 0)) := by rw [hv4, Below.heap_alloc _ _ _ (Array.getElem?_eq_some_iff.1 zD).1]; exact zD
                  have zE : v4.heap[E]? = some (.cells #[.int .i64 0, .int .i64 0] ResT (0, 0)) := by rw [hv4, hEe]; exact heap_alloc_new v3 _
                  rw [← hv4, ← hEe]
                  clear hv4 hEe
                  refine hK _ _ (KS.out _ G4) (fun hS => ?_)
                  try simp only [Act.put, List.setIfInBounds_toArray, List.set_cons_zero, List.set_cons_succ]
                  obtain ⟨tD, s1, tE, s2, FD⟩ := FDone.out _ D E G4 hD hE hDE zD zE
                  refine wpAnyH_ready (rs := [6]) (by kernel_rfl) (by simp) ?_
                  refine AllReadyH.cons rfl (fun K hK => ?_) AllReadyH.nil
                  refine Ld.step_store (by rfl) _ _ _ rfl D 0 #[.int .i64 la1, .int .i64 la2] (by rfl) (by rfl) tD (by kernel_rfl) (by kernel_rfl) ?_
                  refine hK _ _ s1 (fun hS => ?_)
                  try simp only [Act.put, List.setIfInBounds_toArray, List.set_cons_zero, List.set_cons_succ]
                  refine wpAnyH_ready (rs := [7]) (by kernel_rfl) (by simp) ?_
                  refine AllReadyH.cons rfl (fun K hK => ?_) AllReadyH.nil
                  refine Ld.step_store (by rfl) _ _ _ rfl E 0 #[.int .i64 lb1, .int .i64 lb2] (by rfl) (by rfl) tE (by kernel_rfl) (by kernel_rfl) ?_
                  refine hK _ _ s2 (fun hS => ?_)
                  try simp only [Act.put, List.setIfInBounds_toArray, List.set_cons_zero, List.set_cons_succ]
                  refine wpAnyH_done (by kernel_rfl) ?_ _
                  go_wp2_with fail
                  go_meet
                  case rel => exact ⟨D, E, rfl, rfl, FD⟩
                · go_simp
                  obtain ⟨E, hEe⟩ : ∃ D, D = v2.heap.size := ⟨_, rfl⟩
                  obtain ⟨v3, hv3⟩ : ∃ x, x = v2.alloc (.cells #[.int .i64 0, .int .i64 0] ResT) := ⟨_, rfl⟩
                  have G3 : Gr wz v3 := hv3 ▸ G2.alloc _
                  have hE : wz.heap.size ≤ E := by rw [hEe]; exact G2.size
                  have hDE : D ≠ E := by have := (Array.getElem?_eq_some_iff.1 zD).1; omega
                  have zD : v3.heap[D]? = some (.cells #[.int .i64 0, .int .i64 0] ResT (0, 0)) := by rw [hv3, Below.heap_alloc _ _ _ (Array.getElem?_eq_some_iff.1 zD).1]; exact zD
                  have zE : v3.heap[E]? = some (.cells #[.int .i64 0, .int .i64 0] ResT (0, 0)) := by rw [hv3, hEe]; exact heap_alloc_new v2 _
                  rw [← hv3, ← hEe]
                  clear hv3 hEe
                  refine hK _ _ (KS.out _ G3) (fun hS => ?_)
                  try simp only [Act.put, List.setIfInBounds_toArray, List.set_cons_zero, List.set_cons_succ]
                  refine wpAnyH_ready (rs := [3]) (by kernel_rfl) (by simp) ?_
                  refine AllReadyH.cons rfl (fun K hK => ?_) AllReadyH.nil
                  go_simp
                  refine (CLB.out _ G3).mono ?_
                  rintro e v4 ⟨rfl, g4⟩
                  have G4 : Gr wz v4 := G3.trans g4
                  refine hK _ _ (KS.out _ G4) (fun hS => ?_)
                  have zD := (g4.heap (Array.getElem?_eq_some_iff.1 zD).1).trans zD
                  have zE := (g4.heap (Array.getElem?_eq_some_iff.1 zE).1).trans zE
                  try simp only [Act.put, List.setIfInBounds_toArray, List.set_cons_zero, List.set_cons_succ]
                  obtain ⟨tD, s1, tE, s2, FD⟩ := FDone.out _ D E G4 hD hE hDE zD zE
                  refine wpAnyH_ready (rs := [6]) (by kernel_rfl) (by simp) ?_
                  refine AllReadyH.cons rfl (fun K hK => ?_) AllReadyH.nil
                  refine Ld.step_store (by rfl) _ _ _ rfl D 0 #[.int .i64 la1, .int .i64 la2] (by rfl) (by rfl) tD (by kernel_rfl) (by kernel_rfl) ?_
                  refine hK _ _ s1 (fun hS => ?_)
                  try simp only [Act.put, List.setIfInBounds_toArray, List.set_cons_zero, List.set_cons_succ]
                  refine wpAnyH_ready (rs := [7]) (by kernel_rfl) (by simp) ?_
                  refine AllReadyH.cons rfl (fun K hK => ?_) AllReadyH.nil
                  refine Ld.step_store (by rfl) _ _ _ rfl E 0 #[.int .i64 lb1, .int .i64 lb2] (by rfl) (by rfl) tE (by kernel_rfl) (by kernel_rfl) ?_
                  refine hK _ _ s2 (fun hS => ?_)
                  try simp only [Act.put, List.setIfInBounds_toArray, List.set_cons_zero, List.set_cons_succ]
                  refine wpAnyH_done (by kernel_rfl) ?_ _
                  go_wp2_with fail
                  go_meet
                  case rel => exact ⟨D, E, rfl, rfl, FD⟩
              · go_simp
                obtain ⟨E, hEe⟩ : ∃ D, D = v1.heap.size := ⟨_, rfl⟩
                obtain ⟨v2, hv2⟩ : ∃ x, x = v1.alloc (.cells #[.int .i64 0, .int .i64 0] ResT) := ⟨_, rfl⟩
                have G2 : Gr wz v2 := hv2 ▸ G1.alloc _
                have hE : wz.heap.size ≤ E := by rw [hEe]; exact G1.size
                have hDE : D ≠ E := by have := (Array.getElem?_eq_some_iff.1 zD).1; omega
                have zD : v2.heap[D]? = some (.cells #[.int .i64 0, .int .i64 0] ResT (0, 0)) := by rw [hv2, Below.heap_alloc _ _ _ (Array.getElem?_eq_some_iff.1 zD).1]; exact zD
                have zE : v2.heap[E]? = some (.cells #[.int .i64 0, .int .i64 0] ResT (0, 0)) := by rw [hv2, hEe]; exact heap_alloc_new v1 _
                rw [← hv2, ← hEe]
                clear hv2 hEe
                refine hK _ _ (KS.out _ G2) (fun hS => ?_)
                try simp only [Act.put, List.setIfInBounds_toArray, List.set_cons_zero, List.set_cons_succ]
                refine wpAnyH_ready (rs := [1]) (by kernel_rfl) (by simp) ?_
                refine AllReadyH.cons rfl (fun K hK => ?_) AllReadyH.nil
                go_simp
                refine (CLA.out _ G2).mono ?_
                rintro e v3 ⟨rfl, g3⟩
                have G3 : Gr wz v3 := G2.trans g3
                refine hK _ _ (KS.out _ G3) (fun hS => ?_)
                have zD := (g3.heap (Array.getElem?_eq_some_iff.1 zD).1).trans zD
                have zE := (g3.heap (Array.getElem?_eq_some_iff.1 zE).1).trans zE
                try simp only [Act.put, List.setIfInBounds_toArray, List.set_cons_zero, List.set_cons_succ]
                refine wpAnyH_ready (rs := [3]) (by kernel_rfl) (by simp) ?_
                refine AllReadyH.cons rfl (fun K hK => ?_) AllReadyH.nil
                go_simp
                refine (CLB.out _ G3).mono ?_
                rintro e v4 ⟨rfl, g4⟩
                have G4 : Gr wz v4 := G3.trans g4
                refine hK _ _ (KS.out _ G4) (fun hS => ?_)
                have zD := (g4.heap (Array.getElem?_eq_some_iff.1 zD).1).trans zD
                have zE := (g4.heap (Array.getElem?_eq_some_iff.1 zE).1).trans zE
                try simp only [Act.put, List.setIfInBounds_toArray, List.set_cons_zero, List.set_cons_succ]
                obtain ⟨tD, s1, tE, s2, FD⟩ := FDone.out _ D E G4 hD hE hDE zD zE
                refine wpAnyH_ready (rs := [6]) (by kernel_rfl) (by simp) ?_
                refine AllReadyH.cons rfl (fun K hK => ?_) AllReadyH.nil
                refine Ld.step_store (by rfl) _ _ _ rfl D 0 #[.int .i64 la1, .int .i64 la2] (by rfl) (by rfl) tD (by kernel_rfl) (by kernel_rfl) ?_
                refine hK _ _ s1 (fun hS => ?_)
                try simp only [Act.put, List.setIfInBounds_toArray, List.set_cons_zero, List.set_cons_succ]
                refine wpAnyH_ready (rs := [7]) (by kernel_rfl) (by simp) ?_
                refine AllReadyH.cons rfl (fun K hK => ?_) AllReadyH.nil
                refine Ld.step_store (by rfl) _ _ _ rfl E 0 #[.int .i64 lb1, .int .i64 lb2] (by rfl) (by rfl) tE (by kernel_rfl) (by kernel_rfl) ?_
                refine hK _ _ s2 (fun hS => ?_)
                try simp only [Act.put, List.setIfInBounds_toArray, List.set_cons_zero, List.set_cons_succ]
                refine wpAnyH_done (by kernel_rfl) ?_ _
                go_wp2_with fail
                go_meet
                case rel => exact ⟨D, E, rfl, rfl, FD⟩
            · go_simp
              obtain ⟨E, hEe⟩ : ∃ D, D = v0.heap.size := ⟨_, rfl⟩
              obtain ⟨v1, hv1⟩ : ∃ x, x = v0.alloc (.cells #[.int .i64 0, .int .i64 0] ResT) := ⟨_, rfl⟩
              have G1 : Gr wz v1 := hv1 ▸ G0.alloc _
              have hE : wz.heap.size ≤ E := by rw [hEe]; exact G0.size
              have zE : v1.heap[E]? = some (.cells #[.int .i64 0, .int .i64 0] ResT (0, 0)) := by rw [hv1, hEe]; exact heap_alloc_new v0 _
              rw [← hv1, ← hEe]
              clear hv1 hEe
              refine hK _ _ (KS.out _ G1) (fun hS => ?_)
              try simp only [Act.put, List.setIfInBounds_toArray, List.set_cons_zero, List.set_cons_succ]
              refine wpAnyH_ready (rs := [1, 4]) (by kernel_rfl) (by simp) ?_
              refine AllReadyH.cons rfl (fun K hK => ?_) (AllReadyH.cons rfl (fun K hK => ?_) AllReadyH.nil)
              · go_simp
                refine (CLA.out _ G1).mono ?_
                rintro e v2 ⟨rfl, g2⟩
                have G2 : Gr wz v2 := G1.trans g2
                refine hK _ _ (KS.out _ G2) (fun hS => ?_)
                have zE := (g2.heap (Array.getElem?_eq_some_iff.1 zE).1).trans zE
                try simp only [Act.put, List.setIfInBounds_toArray, List.set_cons_zero, List.set_cons_succ]
                refine wpAnyH_ready (rs := [3, 4]) (by kernel_rfl) (by simp) ?_
                refine AllReadyH.cons rfl (fun K hK => ?_) (AllReadyH.cons rfl (fun K hK => ?_) AllReadyH.nil)
                · go_simp
                  refine (CLB.out _ G2).mono ?_
                  rintro e v3 ⟨rfl, g3⟩
                  have G3 : Gr wz v3 := G2.trans g3
                  refine hK _ _ (KS.out _ G3) (fun hS => ?_)
                  have zE := (g3.heap (Array.getElem?_eq_some_iff.1 zE).1).trans zE
                  try simp only [Act.put, List.setIfInBounds_toArray, List.set_cons_zero, List.set_cons_succ]
                  refine wpAnyH_ready (rs := [4]) (by kernel_rfl) (by simp) ?_
                  refine AllReadyH.cons rfl (fun K hK => ?_) AllReadyH.nil
                  go_simp
                  obtain ⟨D, hDe⟩ : ∃ D, D = v3.heap.size := ⟨_, rfl⟩
                  obtain ⟨v4, hv4⟩ : ∃ x, x = v3.alloc (.cells #[.int .i64 0, .int .i64 0] ResT) := ⟨_, rfl⟩
                  have G4 : Gr wz v4 := hv4 ▸ G3.alloc _
                  have hD : wz.heap.size ≤ D := by rw [hDe]; exact G3.size
                  have hDE : D ≠ E := by have := (Array.getElem?_eq_some_iff.1 zE).1; omega
                  have zE : v4.heap[E]? = some (.cells #[.int .i64 0, .int .i64 0] ResT (0, 0)) := by rw [hv4, Below.heap_alloc _ _ _ (Array.getElem?_eq_some_iff.1 zE).1]; exact zE
                  have zD : v4.heap[D]? = some (.cells #[.int .i64 0, .int .i64 0] ResT (0, 0)) := by rw [hv4, hDe]; exact heap_alloc_new v3 _
                  rw [← hv4, ← hDe]
                  clear hv4 hDe
                  refine hK _ _ (KS.out _ G4) (fun hS => ?_)
                  try simp only [Act.put, List.setIfInBounds_toArray, List.set_cons_zero, List.set_cons_succ]
                  obtain ⟨tD, s1, tE, s2, FD⟩ := FDone.out _ D E G4 hD hE hDE zD zE
                  refine wpAnyH_ready (rs := [6]) (by kernel_rfl) (by simp) ?_
                  refine AllReadyH.cons rfl (fun K hK => ?_) AllReadyH.nil
                  refine Ld.step_store (by rfl) _ _ _ rfl D 0 #[.int .i64 la1, .int .i64 la2] (by rfl) (by rfl) tD (by kernel_rfl) (by kernel_rfl) ?_
                  refine hK _ _ s1 (fun hS => ?_)
                  try simp only [Act.put, List.setIfInBounds_toArray, List.set_cons_zero, List.set_cons_succ]
                  refine wpAnyH_ready (rs := [7]) (by kernel_rfl) (by simp) ?_
                  refine AllReadyH.cons rfl (fun K hK => ?_) AllReadyH.nil
                  refine Ld.step_store (by rfl) _ _ _ rfl E 0 #[.int .i64 lb1, .int .i64 lb2] (by rfl) (by rfl) tE (by kernel_rfl) (by kernel_rfl) ?_
                  refine hK _ _ s2 (fun hS => ?_)
                  try simp only [Act.put, List.setIfInBounds_toArray, List.set_cons_zero, List.set_cons_succ]
                  refine wpAnyH_done (by kernel_rfl) ?_ _
                  go_wp2_with fail
                  go_meet
                  case rel => exact ⟨D, E, rfl, rfl, FD⟩
                · go_simp
                  obtain ⟨D, hDe⟩ : ∃ D, D = v2.heap.size := ⟨_, rfl⟩
                  obtain ⟨v3, hv3⟩ : ∃ x, x = v2.alloc (.cells #[.int .i64 0, .int .i64 0] ResT) := ⟨_, rfl⟩
                  have G3 : Gr wz v3 := hv3 ▸ G2.alloc _
                  have hD : wz.heap.size ≤ D := by rw [hDe]; exact G2.size
                  have hDE : D ≠ E := by have := (Array.getElem?_eq_some_iff.1 zE).1; omega
                  have zE : v3.heap[E]? = some (.cells #[.int .i64 0, .int .i64 0] ResT (0, 0)) := by rw [hv3, Below.heap_alloc _ _ _ (Array.getElem?_eq_some_iff.1 zE).1]; exact zE
                  have zD : v3.heap[D]? = some (.cells #[.int .i64 0, .int .i64 0] ResT (0, 0)) := by rw [hv3, hDe]; exact heap_alloc_new v2 _
                  rw [← hv3, ← hDe]
                  clear hv3 hDe
                  refine hK _ _ (KS.out _ G3) (fun hS => ?_)
                  try simp only [Act.put, List.setIfInBounds_toArray, List.set_cons_zero, List.set_cons_succ]
                  refine wpAnyH_ready (rs := [3]) (by kernel_rfl) (by simp) ?_
                  refine AllReadyH.cons rfl (fun K hK => ?_) AllReadyH.nil
                  go_simp
                  refine (CLB.out _ G3).mono ?_
                  rintro e v4 ⟨rfl, g4⟩
                  have G4 : Gr wz v4 := G3.trans g4
                  refine hK _ _ (KS.out _ G4) (fun hS => ?_)
                  have zE := (g4.heap (Array.getElem?_eq_some_iff.1 zE).1).trans zE
                  have zD := (g4.heap (Array.getElem?_eq_some_iff.1 zD).1).trans zD
                  try simp only [Act.put, List.setIfInBounds_toArray, List.set_cons_zero, List.set_cons_succ]
                  obtain ⟨tD, s1, tE, s2, FD⟩ := FDone.out _ D E G4 hD hE hDE zD zE
                  refine wpAnyH_ready (rs := [6]) (by kernel_rfl) (by simp) ?_
                  refine AllReadyH.cons rfl (fun K hK => ?_) AllReadyH.nil
                  refine Ld.step_store (by rfl) _ _ _ rfl D 0 #[.int .i64 la1, .int .i64 la2] (by rfl) (by rfl) tD (by kernel_rfl) (by kernel_rfl) ?_
                  refine hK _ _ s1 (fun hS => ?_)
                  try simp only [Act.put, List.setIfInBounds_toArray, List.set_cons_zero, List.set_cons_succ]
                  refine wpAnyH_ready (rs := [7]) (by kernel_rfl) (by simp) ?_
                  refine AllReadyH.cons rfl (fun K hK => ?_) AllReadyH.nil
                  refine Ld.step_store (by rfl) _ _ _ rfl E 0 #[.int .i64 lb1, .int .i64 lb2] (by rfl) (by rfl) tE (by kernel_rfl) (by kernel_rfl) ?_
                  refine hK _ _ s2 (fun hS => ?_)
                  try simp only [Act.put, List.setIfInBounds_toArray, List.set_cons_zero, List.set_cons_succ]
                  refine wpAnyH_done (by kernel_rfl) ?_ _
                  go_wp2_with fail
                  go_meet
                  case rel => exact ⟨D, E, rfl, rfl, FD⟩
              · go_simp
                obtain ⟨D, hDe⟩ : ∃ D, D = v1.heap.size := ⟨_, rfl⟩
                obtain ⟨v2, hv2⟩ : ∃ x, x = v1.alloc (.cells #[.int .i64 0, .int .i64 0] ResT) := ⟨_, rfl⟩
                have G2 : Gr wz v2 := hv2 ▸ G1.alloc _
                have hD : wz.heap.size ≤ D := by rw [hDe]; exact G1.size
                have hDE : D ≠ E := by have := (Array.getElem?_eq_some_iff.1 zE).1; omega
                have zE : v2.heap[E]? = some (.cells #[.int .i64 0, .int .i64 0] ResT (0, 0)) := by rw [hv2, Below.heap_alloc _ _ _ (Array.getElem?_eq_some_iff.1 zE).1]; exact zE
                have zD : v2.heap[D]? = some (.cells #[.int .i64 0, .int .i64 0] ResT (0, 0)) := by rw [hv2, hDe]; exact heap_alloc_new v1 _
                rw [← hv2, ← hDe]
                clear hv2 hDe
                refine hK _ _ (KS.out _ G2) (fun hS => ?_)
                try simp only [Act.put, List.setIfInBounds_toArray, List.set_cons_zero, List.set_cons_succ]
                refine wpAnyH_ready (rs := [1]) (by kernel_rfl) (by simp) ?_
                refine AllReadyH.cons rfl (fun K hK => ?_) AllReadyH.nil
                go_simp
                refine (CLA.out _ G2).mono ?_
                rintro e v3 ⟨rfl, g3⟩
                have G3 : Gr wz v3 := G2.trans g3
                refine hK _ _ (KS.out _ G3) (fun hS => ?_)
                have zE := (g3.heap (Array.getElem?_eq_some_iff.1 zE).1).trans zE
                have zD := (g3.heap (Array.getElem?_eq_some_iff.1 zD).1).trans zD
                try simp only [Act.put, List.setIfInBounds_toArray, List.set_cons_zero, List.set_cons_succ]
                refine wpAnyH_ready (rs := [3]) (by kernel_rfl) (by simp) ?_
                refine AllReadyH.cons rfl (fun K hK => ?_) AllReadyH.nil
                go_simp
                refine (CLB.out _ G3).mono ?_
                rintro e v4 ⟨rfl, g4⟩
                have G4 : Gr wz v4 := G3.trans g4
                refine hK _ _ (KS.out _ G4) (fun hS => ?_)
                have zE := (g4.heap (Array.getElem?_eq_some_iff.1 zE).1).trans zE
                have zD := (g4.heap (Array.getElem?_eq_some_iff.1 zD).1).trans zD
                try simp only [Act.put, List.setIfInBounds_toArray, List.set_cons_zero, List.set_cons_succ]
                obtain ⟨tD, s1, tE, s2, FD⟩ := FDone.out _ D E G4 hD hE hDE zD zE
                refine wpAnyH_ready (rs := [6]) (by kernel_rfl) (by simp) ?_
                refine AllReadyH.cons rfl (fun K hK => ?_) AllReadyH.nil
                refine Ld.step_store (by rfl) _ _ _ rfl D 0 #[.int .i64 la1, .int .i64 la2] (by rfl) (by rfl) tD (by kernel_rfl) (by kernel_rfl) ?_
                refine hK _ _ s1 (fun hS => ?_)
                try simp only [Act.put, List.setIfInBounds_toArray, List.set_cons_zero, List.set_cons_succ]
                refine wpAnyH_ready (rs := [7]) (by kernel_rfl) (by simp) ?_
                refine AllReadyH.cons rfl (fun K hK => ?_) AllReadyH.nil
                refine Ld.step_store (by rfl) _ _ _ rfl E 0 #[.int .i64 lb1, .int .i64 lb2] (by rfl) (by rfl) tE (by kernel_rfl) (by kernel_rfl) ?_
                refine hK _ _ s2 (fun hS => ?_)
                try simp only [Act.put, List.setIfInBounds_toArray, List.set_cons_zero, List.set_cons_succ]
                refine wpAnyH_done (by kernel_rfl) ?_ _
                go_wp2_with fail
                go_meet
                case rel => exact ⟨D, E, rfl, rfl, FD⟩
          case rest =>
            obtain ⟨D, E, rfl, rfl, HD⟩ := hcut
            obtain ⟨hD, hE, gc⟩ := HD.out
            obtain ⟨m7, m8, rz, rz', hP⟩ := HZ.out
            have n7 := (gc.heap (Array.getElem?_eq_some_iff.1 m7).1).trans m7
            have n8 := (gc.heap (Array.getElem?_eq_some_iff.1 m8).1).trans m8
            have B1c : Below w1.heap.size w1 wc := BZ.out.trans (gc.below.mono BZ.out.size)
            obtain ⟨z0, z1, lowc, hzc⟩ := KP.out wc B1c
            have sR' := rz'.one.1
            have LQ := run_loadAt_mid (P := Try.prog) wc D8 0 RT R'.toList _ (Ld.rangeAt_block n8) Try.underlying49 rfl (by rw [Array.length_toList, sR']; kernel_rfl)
            rw [Array.toArray_toList] at LQ
            have LQ := Lib.hid LQ
            have LPc := Lib.hid (load_in z1 HA.out.2.2.1.1)
            have pdc := ext_pd (HA.out.2.2.1.below lowc)
            rw [← hP] at LPc pdc
            have CT := Lib.hid (rm_take wc R' P (putR rm po.p) po.p (rz'.below gc.below) pdc ⟨HNU.out.2.2.1, HNU.out.2.2.2⟩ CO.out.asks ⟨by show 0 ≤ rm.pods + 1; have := CO.out.pods.1; omega, by show rm.pods + 1 ≤ 1000001; have := CO.out.pods.2; omega⟩)
            have HN := Lib.hid (And.intro hD (And.intro hE (And.intro n7 (And.intro n8 (And.intro B1c (And.intro rz (And.intro rz' gc)))))))
            clear hD hE gc m7 m8 rz rz' hP n7 n8 B1c z0 z1 lowc hzc sR' pdc HD HZ KR KR' iR iR' KS CLA CLB FDone
            go_wp2_with (first | (refine wpList_load_by (by kernel_rfl) RT _ rfl (.pointer (some ⟨D8, 0, none⟩)) (.agg R') (by rfl) LQ.out ?_) | (refine wpList_load_by (by kernel_rfl) PTy _ rfl (.pointer (some ⟨B + 1, 10, none⟩)) (.agg P) (by rfl) LPc.out ?_))
            refine CT.out.mono ?_
            rintro e wt ⟨⟨T, rfl, HT⟩, bt⟩
            obtain ⟨hD, hE, n7, n8, B1c, rz, rz', gc⟩ := HN.out
            have rt : RmV wc T (takeR (putR rm po.p) po.p) := HT.out
            have sT := rt.one.1
            obtain ⟨t12, x12, l12⟩ := cell_new wt RT zerR T (by rw [sT]; rfl)
            obtain ⟨wu, hwu⟩ : ∃ x, x = (wt.alloc (.cells zerR RT)).setCells wt.heap.size 0 T.toList := ⟨_, rfl⟩
            obtain ⟨D12, hD12⟩ : ∃ x, x = wt.heap.size := ⟨_, rfl⟩
            have HWU : Hid ((wt.alloc (.cells zerR RT)).setCells wt.heap.size 0 T.toList = wu ∧ wt.heap.size = D12) := ⟨hwu.symm, hD12.symm⟩
            rw [← hwu] at x12 l12
            rw [← hD12] at x12
            have T12 := Lib.hid t12
            have I12 : Hid ((Try.prog.info? RT).map (·.size) = some T.size) := by show _ = _; rw [sT]; kernel_rfl
            have O12 := Lib.hid rt.one.2.1
            have bu : Below wc.heap.size wc wu := bt.trans (l12.mono bt.size)
            have u7 := (bu.block _ (Array.getElem?_eq_some_iff.1 n7).1).trans n7
            have u8 := (bu.block _ (Array.getElem?_eq_some_iff.1 n8).1).trans n8
            have uD := (bu.block _ (Array.getElem?_eq_some_iff.1 hD).1).trans hD
            have uE := (bu.block _ (Array.getElem?_eq_some_iff.1 hE).1).trans hE
            obtain ⟨z0, z1, lowu, hzu⟩ := KP.out wu (B1c.trans (bu.mono B1c.size))
            obtain ⟨d0, d1, d2, d3, d4, d5, d6, eR, _⟩ := rz.lit
            obtain ⟨f0, f1, f2, f3, f4, f5, f6, eR', _⟩ := rz'.lit
            obtain ⟨h0, h1, h2, h3, h4, h5, h6, eT, _⟩ := rt.lit
            rw [eR] at u7
            rw [eR'] at u8
            rw [eT] at x12
            have k8 : (putR rm po.p).pods = rm.pods + 1 := rfl
            have k0 : (putR rm po.p).name = no.name := EN.out.1
            rw [HPU.out.2.2.1, HPU.out.2.2.2.1, HPU.out.2.2.2.2] at x12
            rw [k8, k0] at u8
            obtain ⟨hl1, hl2, i1, i2, i3, i4⟩ := HLA.out
            obtain ⟨uc, huc⟩ : ∃ a, a = rm.cpu := ⟨_, rfl⟩
            obtain ⟨um, hum⟩ : ∃ a, a = rm.mem := ⟨_, rfl⟩
            obtain ⟨k, hk⟩ : ∃ a, a = rm.pods := ⟨_, rfl⟩
            obtain ⟨k1, hk1⟩ : ∃ a, a = rm.pods + 1 := ⟨_, rfl⟩
            obtain ⟨ac, hac⟩ : ∃ a, a = po.p.cpu := ⟨_, rfl⟩
            obtain ⟨am, ham⟩ : ∃ a, a = po.p.mem := ⟨_, rfl⟩
            obtain ⟨nm, hnm⟩ : ∃ a, a = no.name := ⟨_, rfl⟩
            rw [← huc, ← hum, ← hk] at u7 x12
            rw [← hk1, ← hnm] at u8
            have c8 : wu.cell? ⟨D7, 8, none⟩ = some (.int .i64 uc) := cell_of_block u7 8
            have c9 : wu.cell? ⟨D7, 9, none⟩ = some (.int .i64 um) := cell_of_block u7 9
            have c10 : wu.cell? ⟨D7, 10, none⟩ = some (.int .i64 k) := cell_of_block u7 10
            have e0 : wu.cell? ⟨D8, 0, none⟩ = some (.string nm) := cell_of_block u8 0
            have e10 : wu.cell? ⟨D8, 10, none⟩ = some (.int .i64 k1) := cell_of_block u8 10
            have t8 : wu.cell? ⟨D12, 8, none⟩ = some (.int .i64 uc) := cell_of_block x12 8
            have t9 : wu.cell? ⟨D12, 9, none⟩ = some (.int .i64 um) := cell_of_block x12 9
            have t10 : wu.cell? ⟨D12, 10, none⟩ = some (.int .i64 k) := cell_of_block x12 10
            have a0 : wu.cell? ⟨D, 0, none⟩ = some (.int .i64 la1) := cell_of_block uD 0
            have a1 : wu.cell? ⟨D, 1, none⟩ = some (.int .i64 la2) := cell_of_block uD 1
            have b0 : wu.cell? ⟨E, 0, none⟩ = some (.int .i64 lb1) := cell_of_block uE 0
            have b1 : wu.cell? ⟨E, 1, none⟩ = some (.int .i64 lb2) := cell_of_block uE 1
            have p14 : wu.cell? ⟨B + 1, 14, none⟩ = some (.int .i64 ac) := by rw [hac]; exact (cell_of_block z1 14).trans HA.out.2.2.1.2.2.2.1.2.2.2.2.1
            have p15 : wu.cell? ⟨B + 1, 15, none⟩ = some (.int .i64 am) := by rw [ham]; exact (cell_of_block z1 15).trans HA.out.2.2.1.2.2.2.1.2.2.2.2.2.1
            have n1 : wu.cell? ⟨B, 1, none⟩ = some (.string nm) := by rw [hnm]; exact (cell_of_block z0 1).trans HA.out.1.2.1.2.1
            have w1' : IntKind.i64.wrap (la1 - lb1) = ac := by
              rw [hl1, hac, IntKind.wrap_i64]
              have := CO.out.asks.1
              unfold I64 at this
              omega
            have w2' : IntKind.i64.wrap (la2 - lb2) = am := by
              rw [hl2, ham, IntKind.wrap_i64]
              have := CO.out.asks.2
              unfold I64 at this
              omega
            have w3' : IntKind.i64.wrap (k + 1) = k1 := by
              rw [hk, hk1, IntKind.wrap_i64]
              have := CO.out.pods
              omega
            have q1 : (ac == ac) = true := by simp
            have q2 : (am == am) = true := by simp
            have q3 : (k1 == k1) = true := by simp
            have q4 : (k == k) = true := by simp
            have q5 : (nm.toList == nm.toList) = true := by simp
            have EQ := eql_res uc um
            have F := Lib.hid lowu
            clear hD hE n7 n8 B1c rz rz' gc rt sT t12 x12 l12 hwu hD12 bu u7 u8 uD uE z0 z1 lowu hzu eR eR' eT k8 k0 hl1 hl2 i1 i2 i3 i4 huc hum hk hk1 hac ham hnm bt HN HT LQ LPc CT HLA HPU HNU BZ
            go_upto_region 11 with (refine wpList_store_mid rfl _ _ _ rfl wt.heap.size 0 T (by rfl) (by rfl) T12.out I12.out O12.out ?_; rw [HWU.out.1, HWU.out.2])
            clear T12 I12 O12 HWU
            go_wp2
            go_ret
            exact ⟨rfl, F.out⟩
    · have t1 : (kn != 2) = false := by simp [bne, hkn]
      have t2 : (kp != 1) = true := by simp [bne, hkp]
      clear CFO hkn hkp HK hfb
      go_wp2_with fail
      refine LIV.out.mono ?_
      rintro e w5 ⟨rfl, b5⟩
      have F := Lib.hid (FINA.out w5 b5)
      clear b5
      go_wp2
      go_ret
      exact ⟨rfl, F.out⟩
  · have t1 : (kn != 2) = true := by simp [bne, hkn]
    clear CFO hkn HK hfb
    go_wp2_with fail
    refine LIV.out.mono ?_
    rintro e w5 ⟨rfl, b5⟩
    have F := Lib.hid (FINA.out w5 b5)
    clear b5
    go_wp2
    go_ret
    exact ⟨rfl, F.out⟩

theorem walk {H : Type} {enc : TypeId × Value → H} {base : Nat} (W : World) (v0 : Value) (d0 : DataW H) (p0 : List MemPlace) (o0 : Value.okWide Try.prog W .any base 44 v0) (h0 : DataW.Trod enc Try.prog W 0 (fun _ => true) true 44 v0 d0 p0)
    (v1 : Value) (d1 : DataW H) (p1 : List MemPlace) (o1 : Value.okWide Try.prog W .any base 44 v1) (h1 : DataW.Trod enc Try.prog W 0 (fun _ => true) true 44 v1 d1 p1)
    (v2 : Value) (d2 : DataW H) (p2 : List MemPlace) (o2 : Value.okWide Try.prog W .any base 45 v2) (h2 : DataW.Trod enc Try.prog W 0 (fun _ => true) true 45 v2 d2 p2) (wt0 : Wt 44 d0) (wt1 : Wt 44 d1) (wt2 : Wt 45 d2) :
    Calls Try.prog 3 #[v0, v1, v2] W fun e W' => e = .returned (.bool true) ∧ Below W.heap.size W W' := by
  obtain ⟨X, no, rfl, hX, fX⟩ := open_ob o0 h0 wt0
  obtain ⟨Y, po, rfl, hY, fY⟩ := open_ob o1 h1 wt1
  obtain ⟨q, c, l, rfl, hr, hok, hlen⟩ := open_objs o2 h2 wt2
  exact walk_at W X Y no po q c l hX fX hY fY hr hok hlen
/-! ### THE ROW's STEP -/
set_option maxRecDepth 100000 in
theorem lifted (os : Os) (started : os.Started) (H : Type) (enc : TypeId × Value → H) :
    ReturnsInHanded {} Try.checked os 3 .any (Rows.roomPutsSpec.pre6 enc Try.prog Try.f3 Rows.roomPutsRow.domain false) (Rows.roomPutsSpec.post enc Try.prog Try.f3 false true false false) := by
  refine returnsInHanded_of_change_sized (C := Try.checked) own started (by kernel_rfl) Try.func3
    (ChangeSpec.witness6 (enc := enc) (C := Try.checked) false ⟨#[], #[.agg zerC, .agg zerC, .slice none 0 0], []⟩ 8 (by kernel_rfl) (by kernel_rfl) (by kernel_rfl) (by kernel_rfl)) ?_
  intro W base args ds gs before hval0 hW hcnd hsz0 _
  have hval : ∀ (j : Nat) t v, Try.f3.params[j]? = some t → args[j]? = some v → Value.okWide Try.prog W .any base t v := hval0
  have hW' := hW
  obtain ⟨p, q, hA0, hV, rfl, hfz, hnd⟩ := hW
  have hA : DataW.TrodAll enc Try.prog W 0 (fun _ => true) true Try.f3.params.toList args.toList ds p := hA0
  have hlt : ∀ x ∈ p, x.block < W.heap.size := fun x hx => hW'.lt x (List.mem_append_left _ hx)
  rw [Try.params3] at hA hval
  have hread : ∀ t ∈ [44, 44, 45], Try.prog.readableRec t = true ∧ t < Try.prog.types.size := by
    intro t ht
    simp only [List.mem_cons, List.not_mem_nil, or_false] at ht
    rcases ht with rfl | rfl | rfl <;> exact ⟨by kernel_rfl, of_decide_eq_true (by kernel_rfl)⟩
  have again : ∀ (W' : World), Below W.heap.size W W' → ∀ sp : Nat → Bool, (∀ x ∈ p, sp x.block = true) → DataW.TrodAll enc Try.prog W' 0 sp true [44, 44, 45] args.toList ds p :=
    fun W' hb sp hsp => all_again (by kernel_rfl) hb [44, 44, 45] args.toList ds p hread hA hlt hsp
  obtain ⟨v0, v1, v2, d0, d1, d2, p0, p1, p2, rfl, rfl, rfl, h0, h1, h2⟩ := trodAll_three hA
  obtain ⟨rfl, rfl⟩ := trodVars_none hV
  have wt0 : Wt 44 d0 := fun n hn => by
    have := List.all_eq_true.1 hsz0 n (DataW.weights_mem_each (j := 0) (t := 44) (d := d0) (by kernel_rfl) rfl n hn)
    simpa using this
  have wt1 : Wt 44 d1 := fun n hn => by
    have := List.all_eq_true.1 hsz0 n (DataW.weights_mem_each (j := 1) (t := 44) (d := d1) (by kernel_rfl) rfl n hn)
    simpa using this
  have wt2 : Wt 45 d2 := fun n hn => by
    have := List.all_eq_true.1 hsz0 n (DataW.weights_mem_each (j := 2) (t := 45) (d := d2) (by kernel_rfl) rfl n hn)
    simpa using this
  clear hA0 hval0
  simp only [List.append_nil] at hW' again
  refine (walk W v0 d0 p0 (hval 0 44 v0 rfl rfl) h0 v1 d1 p1 (hval 1 44 v1 rfl rfl) h1 v2 d2 p2 (hval 2 45 v2 rfl rfl) h2 wt0 wt1 wt2).mono fun e W' ⟨he, hg⟩ => ?_
  subst he
  exact ⟨_, rfl, post_below hW' hg (fun _ _ _ => trodAll_mk1 (shut_bool Try.underlying4 _)) (fun sp hsp => again W' hg sp hsp) (fun _ => rfl) (ok_one (by kernel_rfl) rfl (okWide_bool_mk Try.underlying4 _))⟩

theorem over : Rows.roomPutsRow.holds Try.pinned (OpenSpec.ofChange Rows.roomPutsSpec) :=
  OpenClaim.holds_of_wide 3 Try.f3 rfl rfl rfl rfl rfl rfl rfl ⟨rfl, rfl, rfl, rfl, rfl⟩ rfl rfl rfl rfl rfl (by kernel_rfl) Try.func3 (by kernel_rfl)
    (of_decide_eq_true (by kernel_rfl)) (by unfold Func.isWrapper; first | (rw [if_pos (by decide +kernel)]; kernel_rfl) | (rw [if_neg (by decide +kernel)]; exact ⟨rfl, rfl⟩))
    (fun os started H enc _ => lifted os started H enc)

/-- The statement. -/
theorem proved : Rows.RoomPutsSaid :=
  over
#print axioms proved
end Go.Proofs.Ytdphooobgbminaa.roomPuts
