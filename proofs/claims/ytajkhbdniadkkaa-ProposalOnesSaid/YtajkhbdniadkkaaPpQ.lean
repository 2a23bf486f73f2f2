/- Layer 20: of one value, of one on the average: the document. -/
import Derived.Test.YtajkhbdniadkkaaPpO
namespace Go.Proofs.Ytajkhbdniadkkaa.Pp
open Go.RowKit Go.Shelf Go.Lib Go.Sort Go.Deep
open Go.Joins (cell_of_block unfrozen_of_block block_setCell)
open Go.Proofs.Ytajkhbdniadkkaa.Ow Go.Proofs.Ytajkhbdniadkkaa.Ld
set_option linter.unusedVariables false
set_option linter.unusedSimpArgs false
set_option maxRecDepth 20000

/-! ### the document -/
theorem whole_any (m : Int) (w : World) : Calls Try.prog 25 #[.int .i64 m] w fun e w' => e = .returned (.bool (okQ m)) ∧ w = w' := by
  have HO : Hid (okQ m = (decide (0 ≤ m) && decide (m ≤ 9007199254740992))) := by show _ = _; unfold okQ; rw [Bool.decide_and]
  cases t1 : decide (0 ≤ m) with
  | false =>
    rw [t1] at HO
    go_enter Try.func25, Try.ntmps25
    go_wp2
    go_ret
    exact ⟨by rw [HO.out]; rfl, rfl⟩
  | true =>
    rw [t1] at HO
    cases t2 : decide (m ≤ 9007199254740992) <;>
    · rw [t2] at HO
      go_enter Try.func25, Try.ntmps25
      go_wp2
      go_ret
      exact ⟨by rw [HO.out]; rfl, rfl⟩
set_option maxHeartbeats 2000000 in
theorem rr_right (w : World) (k : Int) (s : ByteArray) (t r x : Int) :
    Calls Try.prog 24 #[.agg (metC k s t), .int .i64 r, .int .i64 x] w fun e w' => e = .returned (.bool (rightB t r x)) ∧ Below w.heap.size w w' := by
  have G := Lib.hid ((Gr.refl w).alloc (.cells #[.int .i64 k, .string s, .int .i64 t] MT)).below
  have HO : Hid (rightB t r x = (decide (0 ≤ r) && (decide (r ≤ 1000000) && (decide (0 ≤ x) && (decide (x ≤ 1000) && (okQ t && !(t == 0))))))) := rfl
  have C := Lib.hid (fun W => whole_any t W)
  generalize hq : okQ t = q at HO C
  clear hq
  show Calls Try.prog 24 #[.agg #[.int .i64 k, .string s, .int .i64 t], .int .i64 r, .int .i64 x] w _
  cases t1 : decide (0 ≤ r) with
  | false =>
    rw [t1] at HO
    go_enter Try.func24, Try.ntmps24
    go_wp2
    go_ret
    exact ⟨by rw [HO.out]; rfl, G.out⟩
  | true =>
  cases t2 : decide (r ≤ 1000000) with
  | false =>
    rw [t1, t2] at HO
    go_enter Try.func24, Try.ntmps24
    go_wp2
    go_ret
    exact ⟨by rw [HO.out]; rfl, G.out⟩
  | true =>
  cases t3 : decide (0 ≤ x) with
  | false =>
    rw [t1, t2, t3] at HO
    go_enter Try.func24, Try.ntmps24
    go_wp2
    go_ret
    exact ⟨by rw [HO.out]; rfl, G.out⟩
  | true =>
  cases t4 : decide (x ≤ 1000) with
  | false =>
    rw [t1, t2, t3, t4] at HO
    go_enter Try.func24, Try.ntmps24
    go_wp2
    go_ret
    exact ⟨by rw [HO.out]; rfl, G.out⟩
  | true =>
  rw [t1, t2, t3, t4] at HO
  cases q with
  | false =>
    go_enter Try.func24, Try.ntmps24
    go_wp2_with fail
    refine (C.out _).mono ?_
    rintro e w1 ⟨rfl, rfl⟩
    go_wp2
    go_ret
    exact ⟨by rw [HO.out]; rfl, G.out⟩
  | true =>
    cases t5 : (t == 0) with
    | false =>
      rw [t5] at HO
      have t6 : (t != 0) = !false := by rw [bne, t5]
      have t6 : (t != 0) = true := t6
      go_enter Try.func24, Try.ntmps24
      go_wp2_with fail
      refine (C.out _).mono ?_
      rintro e w1 ⟨rfl, rfl⟩
      go_wp2
      go_ret
      exact ⟨by rw [HO.out]; rfl, G.out⟩
    | true =>
      rw [t5] at HO
      have t6 : (t != 0) = !true := by rw [bne, t5]
      have t6 : (t != 0) = false := t6
      go_enter Try.func24, Try.ntmps24
      go_wp2_with fail
      refine (C.out _).mono ?_
      rintro e w1 ⟨rfl, rfl⟩
      go_wp2
      go_ret
      exact ⟨by rw [HO.out]; rfl, G.out⟩

set_option maxHeartbeats 4000000 in
theorem rone_bad (w : World) (k : Int) (s : ByteArray) (t v r x : Int) (h : rightB t r x = false ∨ okQ v = false) :
    Calls Try.prog 10 #[.agg (metC k s t), .int .i64 v, .int .i64 r, .int .i64 x] w fun e w' => e = .returned (.tuple #[.int .i64 0, .int .i64 1]) ∧ Below w.heap.size w w' := by
  obtain ⟨M, hM⟩ : ∃ M, M = metC k s t := ⟨_, rfl⟩
  have sM : M.size = 3 := by rw [hM]; rfl
  rw [← hM]
  obtain ⟨w1, B, HW, Ba, y0⟩ := box1 w M
  have LM := Lib.hid (load_met y0 sM)
  have CR := Lib.hid (rr_right w1 k s t r x)
  rw [← hM] at CR
  have CQ := Lib.hid (fun W => whole_any v W)
  have HBa := Lib.hid Ba
  generalize rightB t r x = rb at CR h
  generalize okQ v = ob at CQ h
  clear hM sM y0 Ba
  cases rb with
  | false =>
    go_enter Try.func10, Try.ntmps10
    go_upto_region 1 with fail
    rw [HW.out.1, HW.out.2]
    go_wp2_with (refine wpList_load_by (by kernel_rfl) MT _ rfl (.pointer (some ⟨B, 0, none⟩)) (.agg M) (by rfl) LM.out ?_)
    refine CR.out.mono ?_
    rintro e w2 ⟨rfl, b2⟩
    have FIN := Lib.hid (HBa.out.trans (b2.mono HBa.out.size))
    clear b2 CQ CR LM HBa
    go_wp2
    go_ret2
    exact ⟨rfl, FIN.out⟩
  | true =>
    obtain rfl : ob = false := by simpa using h
    go_enter Try.func10, Try.ntmps10
    go_upto_region 1 with fail
    rw [HW.out.1, HW.out.2]
    go_wp2_with (refine wpList_load_by (by kernel_rfl) MT _ rfl (.pointer (some ⟨B, 0, none⟩)) (.agg M) (by rfl) LM.out ?_)
    refine CR.out.mono ?_
    rintro e w2 ⟨rfl, b2⟩
    have FIN := Lib.hid (HBa.out.trans (b2.mono HBa.out.size))
    clear b2 CR LM HBa
    go_wp2_with fail
    refine (CQ.out _).mono ?_
    rintro e w3 ⟨rfl, rfl⟩
    go_wp2
    go_ret2
    exact ⟨rfl, FIN.out⟩

set_option maxHeartbeats 4000000 in
theorem rone_ok (w : World) (k : Int) (s : ByteArray) (t v r x : Nat) (ht0 : 0 < t) (ht : t ≤ 9007199254740992) (hr : r ≤ 1000000) (hx : x ≤ 1000) (hv : v ≤ 9007199254740992) :
    Calls Try.prog 10 #[.agg (metC k s (t : Int)), .int .i64 (v : Int), .int .i64 (r : Int), .int .i64 (x : Int)] w fun e w' => e = .returned (.tuple #[.int .i64 (oneN t v r x : Int), .int .i64 0]) ∧ Below w.heap.size w w' := by
  obtain ⟨M, hM⟩ : ∃ M, M = metC k s (t : Int) := ⟨_, rfl⟩
  have sM : M.size = 3 := by rw [hM]; rfl
  rw [← hM]
  obtain ⟨w1, B, HW, Ba, y0⟩ := box1 w M
  have LM := Lib.hid (load_met y0 sM)
  have CR := rr_right w1 k s (t : Int) (r : Int) (x : Int)
  rw [← hM, right_nat ht0 ht hr hx] at CR
  have CR := Lib.hid CR
  have CQ : Hid (∀ W, Calls Try.prog 25 #[.int .i64 (v : Int)] W fun e w' => e = .returned (.bool true) ∧ W = w') := fun W => by
    have := whole_any (v : Int) W
    rwa [okQ_nat hv] at this
  have m2 : M[2]? = some (.int .i64 (t : Int)) := by rw [hM]; rfl
  have HC : Hid (∀ W, Below w1.heap.size w1 W → W.cell? ⟨B, 2, none⟩ = some (.int .i64 (t : Int))) := fun W b => (cell_of_block ((b.block B (Array.getElem?_eq_some_iff.1 y0).1).trans y0) 2).trans m2
  have HBa := Lib.hid Ba
  obtain ⟨nb, hnb⟩ : ∃ b, b = nearB v t x := ⟨_, rfl⟩
  obtain ⟨nd, hnd⟩ : ∃ b, b = needN r v t := ⟨_, rfl⟩
  have EV : Hid (oneN t v r x = if nb = true then r else nd) := by show _ = _; rw [hnb, hnd]; rfl
  have CN : Hid (∀ W, Calls Try.prog 26 #[.int .u64 (v : Int), .int .u64 (t : Int), .int .u64 (x : Int)] W fun e w' => e = .returned (.bool nb) ∧ Below W.heap.size W w') := fun W => by
    have := near_ref v t x W (by omega) (by omega) (by omega)
    have e : nb = decide (apart v t * 1000 ≤ t * x) := by rw [hnb]; unfold nearB; rw [decide_eq_true ht0]; rfl
    rw [e]
    exact this
  have CD : Hid (∀ W, Calls Try.prog 27 #[.int .u64 (r : Int), .int .u64 (v : Int), .int .u64 (t : Int), .int .u64 1000000] W fun e w' => e = .returned (.int .u64 (nd : Int)) ∧ Below W.heap.size W w') := fun W => by
    rw [hnd]
    exact ceil_any r v t 1000000 W (by omega) (by omega) (by omega) (by decide) ht0
  have ndl : nd ≤ 1000000 := by rw [hnd]; unfold needN; omega
  have u1 : IntKind.u64.wrap (v : Int) = (v : Int) := by rw [IntKind.wrap_u64]; omega
  have u2 : IntKind.u64.wrap (t : Int) = (t : Int) := by rw [IntKind.wrap_u64]; omega
  have u3 : IntKind.u64.wrap (x : Int) = (x : Int) := by rw [IntKind.wrap_u64]; omega
  have u4 : IntKind.u64.wrap (r : Int) = (r : Int) := by rw [IntKind.wrap_u64]; omega
  have u5 : IntKind.i64.wrap (nd : Int) = (nd : Int) := by rw [IntKind.wrap_i64]; omega
  generalize oneN t v r x = RV at EV ⊢
  clear hM sM y0 Ba m2 hnb hnd ht0 ht hr hx hv ndl
  go_enter Try.func10, Try.ntmps10
  go_upto_region 1 with fail
  rw [HW.out.1, HW.out.2]
  go_wp2_with (refine wpList_load_by (by kernel_rfl) MT _ rfl (.pointer (some ⟨B, 0, none⟩)) (.agg M) (by rfl) LM.out ?_)
  refine CR.out.mono ?_
  rintro e w2 ⟨rfl, b2⟩
  have B2 := Lib.hid b2
  clear b2 CR LM
  go_wp2_with fail
  refine (CQ.out _).mono ?_
  rintro e w3 ⟨rfl, rfl⟩
  have c2 := HC.out _ B2.out
  clear CQ
  go_wp2_with fail
  refine (CN.out _).mono ?_
  rintro e w4 ⟨rfl, b4⟩
  have B4 := Lib.hid (B2.out.trans (b4.mono B2.out.size))
  clear c2 b4 CN
  have c2 := HC.out _ B4.out
  cases nb with
  | true =>
    have EV2 : Hid (RV = r) := EV.out
    have FIN := Lib.hid (HBa.out.trans (B4.out.mono HBa.out.size))
    clear CD EV HC
    go_wp2
    go_ret2
    exact ⟨by rw [EV2.out]; rfl, FIN.out⟩
  | false =>
    have EV2 : Hid (RV = nd) := EV.out
    clear EV HC
    go_wp2_with fail
    refine (CD.out _).mono ?_
    rintro e w5 ⟨rfl, b5⟩
    have b15 := B4.out.trans (b5.mono B4.out.size)
    have FIN := Lib.hid (HBa.out.trans (b15.mono HBa.out.size))
    clear b5 b15 c2 CD
    go_wp2
    go_ret2
    exact ⟨by rw [EV2.out]; rfl, FIN.out⟩

set_option maxHeartbeats 4000000 in
theorem ravg_bad (w : World) (k : Int) (s : ByteArray) (t v r x : Int) (h : rightB t r x = false ∨ okQ v = false) :
    Calls Try.prog 11 #[.agg (metC k s t), .int .i64 v, .int .i64 r, .int .i64 x] w fun e w' => e = .returned (.tuple #[.int .i64 0, .int .i64 1]) ∧ Below w.heap.size w w' := by
  obtain ⟨M, hM⟩ : ∃ M, M = metC k s t := ⟨_, rfl⟩
  have sM : M.size = 3 := by rw [hM]; rfl
  rw [← hM]
  obtain ⟨w1, B, HW, Ba, y0⟩ := box1 w M
  have LM := Lib.hid (load_met y0 sM)
  have CR := Lib.hid (rr_right w1 k s t r x)
  rw [← hM] at CR
  have CQ := Lib.hid (fun W => whole_any v W)
  have HBa := Lib.hid Ba
  generalize rightB t r x = rb at CR h
  generalize okQ v = ob at CQ h
  clear hM sM y0 Ba
  cases rb with
  | false =>
    go_enter Try.func11, Try.ntmps11
    go_upto_region 1 with fail
    rw [HW.out.1, HW.out.2]
    go_wp2_with (refine wpList_load_by (by kernel_rfl) MT _ rfl (.pointer (some ⟨B, 0, none⟩)) (.agg M) (by rfl) LM.out ?_)
    refine CR.out.mono ?_
    rintro e w2 ⟨rfl, b2⟩
    have FIN := Lib.hid (HBa.out.trans (b2.mono HBa.out.size))
    clear b2 CQ CR LM HBa
    go_wp2
    go_ret2
    exact ⟨rfl, FIN.out⟩
  | true =>
    obtain rfl : ob = false := by simpa using h
    go_enter Try.func11, Try.ntmps11
    go_upto_region 1 with fail
    rw [HW.out.1, HW.out.2]
    go_wp2_with (refine wpList_load_by (by kernel_rfl) MT _ rfl (.pointer (some ⟨B, 0, none⟩)) (.agg M) (by rfl) LM.out ?_)
    refine CR.out.mono ?_
    rintro e w2 ⟨rfl, b2⟩
    have FIN := Lib.hid (HBa.out.trans (b2.mono HBa.out.size))
    clear b2 CR LM HBa
    go_wp2_with fail
    refine (CQ.out _).mono ?_
    rintro e w3 ⟨rfl, rfl⟩
    go_wp2
    go_ret2
    exact ⟨rfl, FIN.out⟩

set_option maxHeartbeats 4000000 in
theorem ravg_ok (w : World) (k : Int) (s : ByteArray) (t v r x : Nat) (ht0 : 0 < t) (ht : t ≤ 9007199254740992) (hr : r ≤ 1000000) (hx : x ≤ 1000) (hv : v ≤ 9007199254740992) :
    Calls Try.prog 11 #[.agg (metC k s (t : Int)), .int .i64 (v : Int), .int .i64 (r : Int), .int .i64 (x : Int)] w fun e w' => e = .returned (.tuple #[.int .i64 (avgN t v r x : Int), .int .i64 0]) ∧ Below w.heap.size w w' := by
  obtain ⟨M, hM⟩ : ∃ M, M = metC k s (t : Int) := ⟨_, rfl⟩
  have sM : M.size = 3 := by rw [hM]; rfl
  rw [← hM]
  obtain ⟨w1, B, HW, Ba, y0⟩ := box1 w M
  have LM := Lib.hid (load_met y0 sM)
  have CR := rr_right w1 k s (t : Int) (r : Int) (x : Int)
  rw [← hM, right_nat ht0 ht hr hx] at CR
  have CR := Lib.hid CR
  have CQ : Hid (∀ W, Calls Try.prog 25 #[.int .i64 (v : Int)] W fun e w' => e = .returned (.bool true) ∧ W = w') := fun W => by
    have := whole_any (v : Int) W
    rwa [okQ_nat hv] at this
  have m2 : M[2]? = some (.int .i64 (t : Int)) := by rw [hM]; rfl
  have HC : Hid (∀ W, Below w1.heap.size w1 W → W.cell? ⟨B, 2, none⟩ = some (.int .i64 (t : Int))) := fun W b => (cell_of_block ((b.block B (Array.getElem?_eq_some_iff.1 y0).1).trans y0) 2).trans m2
  have HBa := Lib.hid Ba
  obtain ⟨g, hg⟩ : ∃ g, g = min (t * r) 9007199254740992 := ⟨_, rfl⟩
  have hg1 : g ≤ 9007199254740992 := by omega
  obtain ⟨nb, hnb⟩ : ∃ b, b = nearB v g x := ⟨_, rfl⟩
  obtain ⟨nd, hnd⟩ : ∃ b, b = needN 1 v t := ⟨_, rfl⟩
  have EV : Hid (avgN t v r x = if nb = true then r else nd) := by show _ = _; rw [hnb, hnd, hg]; rfl
  have CN : Hid (0 < g → ∀ W, Calls Try.prog 26 #[.int .u64 (v : Int), .int .u64 (g : Int), .int .u64 (x : Int)] W fun e w' => e = .returned (.bool nb) ∧ Below W.heap.size W w') := fun h0 W => by
    have := near_ref v g x W (by omega) (by omega) (by omega)
    have e : nb = decide (apart v g * 1000 ≤ g * x) := by rw [hnb]; unfold nearB; rw [decide_eq_true h0]; rfl
    rw [e]
    exact this
  have NB0 : Hid (g = 0 → nb = false) := fun h => by rw [hnb, h]; rfl
  have CD : Hid (∀ W, Calls Try.prog 27 #[.int .u64 1, .int .u64 (v : Int), .int .u64 (t : Int), .int .u64 1000000] W fun e w' => e = .returned (.int .u64 (nd : Int)) ∧ Below W.heap.size W w') := fun W => by
    rw [hnd]
    exact ceil_any 1 v t 1000000 W (by omega) (by omega) (by omega) (by decide) ht0
  have CG : Hid (∀ W, Calls Try.prog 27 #[.int .u64 (t : Int), .int .u64 (r : Int), .int .u64 1, .int .u64 9007199254740992] W fun e w' => e = .returned (.int .u64 (g : Int)) ∧ Below W.heap.size W w') := fun W => by
    have := ceil_any t r 1 9007199254740992 W (by omega) (by omega) (by omega) (by decide) (by decide)
    have e : upDiv t r 1 = t * r := by unfold upDiv; rw [Nat.div_one, Nat.mod_one, if_pos rfl, Nat.add_zero]
    rw [e, ← hg] at this
    exact this
  have ndl : nd ≤ 1000000 := by rw [hnd]; unfold needN; omega
  have u1 : IntKind.u64.wrap (v : Int) = (v : Int) := by rw [IntKind.wrap_u64]; omega
  have u2 : IntKind.u64.wrap (t : Int) = (t : Int) := by rw [IntKind.wrap_u64]; omega
  have u3 : IntKind.u64.wrap (x : Int) = (x : Int) := by rw [IntKind.wrap_u64]; omega
  have u4 : IntKind.u64.wrap (r : Int) = (r : Int) := by rw [IntKind.wrap_u64]; omega
  have u5 : IntKind.i64.wrap (nd : Int) = (nd : Int) := by rw [IntKind.wrap_i64]; omega
  generalize avgN t v r x = RV at EV ⊢
  clear hM sM y0 Ba m2 hnb hnd ht0 ht hr hx hv ndl hg hg1
  go_enter Try.func11, Try.ntmps11
  go_upto_region 1 with fail
  rw [HW.out.1, HW.out.2]
  go_wp2_with (refine wpList_load_by (by kernel_rfl) MT _ rfl (.pointer (some ⟨B, 0, none⟩)) (.agg M) (by rfl) LM.out ?_)
  refine CR.out.mono ?_
  rintro e w2 ⟨rfl, b2⟩
  have B2 := Lib.hid b2
  clear b2 CR LM
  go_wp2_with fail
  refine (CQ.out _).mono ?_
  rintro e w3 ⟨rfl, rfl⟩
  have c2 := HC.out _ B2.out
  clear CQ
  go_wp2_with fail
  refine (CG.out _).mono ?_
  rintro e w5 ⟨rfl, b5⟩
  have B5 := Lib.hid (B2.out.trans (b5.mono B2.out.size))
  clear c2 b5 CG B2
  have c2 := HC.out _ B5.out
  by_cases h0 : g = 0
  · obtain rfl := NB0.out h0
    subst h0
    have EV2 : Hid (RV = nd) := EV.out
    clear EV HC CN
    go_wp2_with fail
    refine (CD.out _).mono ?_
    rintro e w6 ⟨rfl, b6⟩
    have b16 := B5.out.trans (b6.mono B5.out.size)
    have FIN := Lib.hid (HBa.out.trans (b16.mono HBa.out.size))
    clear b6 b16 c2 CD
    go_wp2
    go_ret2
    exact ⟨by rw [EV2.out]; rfl, FIN.out⟩
  · have CN2 := Lib.hid (CN.out (Nat.pos_of_ne_zero h0))
    have t0 : (g == 0) = false := by simpa using h0
    have t1 : (g != 0) = true := by simpa using h0
    have t2 : ((g : Int) != 0) = true := by simpa using h0
    go_wp2_with fail
    refine (CN2.out _).mono ?_
    rintro e w7 ⟨rfl, b7⟩
    have B7 := Lib.hid (B5.out.trans (b7.mono B5.out.size))
    clear c2 b7 CN2 B5
    have c2 := HC.out _ B7.out
    have B5 := B7
    clear B7
    cases nb with
    | true =>
      have EV2 : Hid (RV = r) := EV.out
      have FIN := Lib.hid (HBa.out.trans (B5.out.mono HBa.out.size))
      clear CD EV HC
      go_wp2
      go_ret2
      exact ⟨by rw [EV2.out]; rfl, FIN.out⟩
    | false =>
      have EV2 : Hid (RV = nd) := EV.out
      clear EV HC CN
      go_wp2_with fail
      refine (CD.out _).mono ?_
      rintro e w6 ⟨rfl, b6⟩
      have b16 := B5.out.trans (b6.mono B5.out.size)
      have FIN := Lib.hid (HBa.out.trans (b16.mono HBa.out.size))
      clear b6 b16 c2 CD
      go_wp2
      go_ret2
      exact ⟨by rw [EV2.out]; rfl, FIN.out⟩
end Go.Proofs.Ytajkhbdniadkkaa.Pp
