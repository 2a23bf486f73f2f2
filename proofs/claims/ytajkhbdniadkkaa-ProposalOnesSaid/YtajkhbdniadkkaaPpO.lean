/- Layer 20: of one value, of one on the average: the program, the document. -/
import Derived.Test.YtajkhbdniadkkaaPpC
namespace Go.Proofs.Ytajkhbdniadkkaa.Pp
open Go.RowKit Go.Shelf Go.Lib Go.Sort Go.Deep
open Go.Joins (cell_of_block unfrozen_of_block block_setCell)
open Go.Proofs.Ytajkhbdniadkkaa.Ow Go.Proofs.Ytajkhbdniadkkaa.Ld
set_option linter.unusedVariables false
set_option linter.unusedSimpArgs false
set_option maxRecDepth 20000

def oneN (t v r x : Nat) : Nat := if nearB v t x = true then r else needN r v t
def avgN (t v r x : Nat) : Nat := if nearB v (min (t * r) 9007199254740992) x = true then r else needN 1 v t
theorem box1 (w : World) (M : Array Value) : ∃ w1 B, Hid (w.alloc (.cells M MT) = w1 ∧ w.heap.size = B) ∧ Below w.heap.size w w1 ∧ w1.heap[B]? = some (.cells M MT (0, 0)) :=
  ⟨_, _, ⟨rfl, rfl⟩, ((Gr.refl w).alloc _).below, heap_alloc_new w _⟩
theorem right_nat {t r x : Nat} (ht0 : 0 < t) (ht : t ≤ 9007199254740992) (hr : r ≤ 1000000) (hx : x ≤ 1000) : rightB (t : Int) (r : Int) (x : Int) = true := rightB_iff.2 ⟨⟨by omega, by omega⟩, ⟨by omega, by omega⟩, by omega, by omega⟩
theorem okQ_nat {v : Nat} (h : v ≤ 9007199254740992) : okQ (v : Int) = true := decide_eq_true ⟨by omega, by omega⟩

theorem whole_ok (u t : Nat) (w : World) (hu : u ≤ 9007199254740992) (ht : t ≤ 9007199254740992) (h0 : 0 < t) :
    Calls Try.prog 23 #[.int .i64 (u : Int), .int .i64 (t : Int)] w fun e w' => e = .returned (.tuple #[.int .i64 (needN 1 u t : Int), .int .i64 0]) ∧ Below w.heap.size w w' := by
  have C := Lib.hid (fun W => need_ok 1 u t W (by omega) hu ht h0)
  have e : min (upDiv 1 u t) 1000000 = needN 1 u t := rfl
  rw [e] at C
  generalize needN 1 u t = n at C ⊢
  clear hu ht h0 e
  go_enter Try.func23, Try.ntmps23
  go_wp2_with fail
  refine (C.out _).mono ?_
  rintro e w1 ⟨rfl, b1⟩
  have B1 := Lib.hid b1
  clear b1 C
  go_wp2
  go_ret2
  exact ⟨rfl, B1.out⟩

set_option maxHeartbeats 4000000 in
theorem one_bad (w : World) (k : Int) (s : ByteArray) (t v r x : Int) (h : rightB t r x = false ∨ okQ v = false) :
    Calls Try.prog 8 #[.agg (metC k s t), .int .i64 v, .int .i64 r, .int .i64 x] w fun e w' => e = .returned (.tuple #[.int .i64 0, .int .i64 1]) ∧ Below w.heap.size w w' := by
  obtain ⟨M, hM⟩ : ∃ M, M = metC k s t := ⟨_, rfl⟩
  have sM : M.size = 3 := by rw [hM]; rfl
  rw [← hM]
  obtain ⟨w1, B, HW, Ba, y0⟩ := box1 w M
  have LM := Lib.hid (load_met y0 sM)
  have CR := Lib.hid (pp_right w1 k s t r x)
  rw [← hM] at CR
  have CQ := Lib.hid (fun W => qright_any v W)
  have HBa := Lib.hid Ba
  generalize rightB t r x = rb at CR h
  generalize okQ v = ob at CQ h
  clear hM sM y0 Ba
  cases rb with
  | false =>
    go_enter Try.func8, Try.ntmps8
    go_upto_region 1 with fail
    rw [HW.out.1, HW.out.2]
    go_wp2_with (refine wpList_load_by (by kernel_rfl) MT _ rfl (.pointer (some ⟨B, 0, none⟩)) (.agg M) (by rfl) LM.out ?_)
    refine CR.out.mono ?_
    rintro e w2 ⟨rfl, b2⟩
    have FIN := Lib.hid (HBa.out.trans (b2.mono HBa.out.size))
    clear b2 CQ CR LM HBa
    go_wp2
    go_ret2
    exact ⟨rfl, FIN.out⟩
  | true =>
    obtain rfl : ob = false := by simpa using h
    go_enter Try.func8, Try.ntmps8
    go_upto_region 1 with fail
    rw [HW.out.1, HW.out.2]
    go_wp2_with (refine wpList_load_by (by kernel_rfl) MT _ rfl (.pointer (some ⟨B, 0, none⟩)) (.agg M) (by rfl) LM.out ?_)
    refine CR.out.mono ?_
    rintro e w2 ⟨rfl, b2⟩
    have FIN := Lib.hid (HBa.out.trans (b2.mono HBa.out.size))
    clear b2 CR LM HBa
    go_wp2_with fail
    refine (CQ.out _).mono ?_
    rintro e w3 ⟨rfl, rfl⟩
    go_wp2
    go_ret2
    exact ⟨rfl, FIN.out⟩

set_option maxHeartbeats 4000000 in
theorem one_ok (w : World) (k : Int) (s : ByteArray) (t v r x : Nat) (ht0 : 0 < t) (ht : t ≤ 9007199254740992) (hr : r ≤ 1000000) (hx : x ≤ 1000) (hv : v ≤ 9007199254740992) :
    Calls Try.prog 8 #[.agg (metC k s (t : Int)), .int .i64 (v : Int), .int .i64 (r : Int), .int .i64 (x : Int)] w fun e w' => e = .returned (.tuple #[.int .i64 (oneN t v r x : Int), .int .i64 0]) ∧ Below w.heap.size w w' := by
  obtain ⟨M, hM⟩ : ∃ M, M = metC k s (t : Int) := ⟨_, rfl⟩
  have sM : M.size = 3 := by rw [hM]; rfl
  rw [← hM]
  obtain ⟨w1, B, HW, Ba, y0⟩ := box1 w M
  have LM := Lib.hid (load_met y0 sM)
  have CR := pp_right w1 k s (t : Int) (r : Int) (x : Int)
  rw [← hM, right_nat ht0 ht hr hx] at CR
  have CR := Lib.hid CR
  have CQ : Hid (∀ W, Calls Try.prog 19 #[.int .i64 (v : Int)] W fun e w' => e = .returned (.bool true) ∧ W = w') := fun W => by
    have := qright_any (v : Int) W
    rwa [okQ_nat hv] at this
  have m2 : M[2]? = some (.int .i64 (t : Int)) := by rw [hM]; rfl
  have HC : Hid (∀ W, Below w1.heap.size w1 W → W.cell? ⟨B, 2, none⟩ = some (.int .i64 (t : Int))) := fun W b => (cell_of_block ((b.block B (Array.getElem?_eq_some_iff.1 y0).1).trans y0) 2).trans m2
  have HBa := Lib.hid Ba
  obtain ⟨nb, hnb⟩ : ∃ b, b = nearB v t x := ⟨_, rfl⟩
  obtain ⟨nd, hnd⟩ : ∃ b, b = needN r v t := ⟨_, rfl⟩
  have EV : Hid (oneN t v r x = if nb = true then r else nd) := by show _ = _; rw [hnb, hnd]; rfl
  have CN := Lib.hid (fun W => pp_near v t x W hv ht hx)
  have CD := Lib.hid (fun W => need_ok r v t W hr hv ht ht0)
  rw [← hnb] at CN
  have hnd' : min (upDiv r v t) 1000000 = nd := hnd.symm
  rw [hnd'] at CD
  generalize oneN t v r x = RV at EV ⊢
  clear hM sM y0 Ba m2 hnb hnd hnd' ht0 ht hr hx hv
  go_enter Try.func8, Try.ntmps8
  go_upto_region 1 with fail
  rw [HW.out.1, HW.out.2]
  go_wp2_with (refine wpList_load_by (by kernel_rfl) MT _ rfl (.pointer (some ⟨B, 0, none⟩)) (.agg M) (by rfl) LM.out ?_)
  refine CR.out.mono ?_
  rintro e w2 ⟨rfl, b2⟩
  have B2 := Lib.hid b2
  clear b2 CR LM
  go_wp2_with fail
  refine (CQ.out _).mono ?_
  rintro e w3 ⟨rfl, rfl⟩
  have c2 := HC.out _ B2.out
  clear CQ
  go_wp2_with fail
  refine (CN.out _).mono ?_
  rintro e w4 ⟨rfl, b4⟩
  have B4 := Lib.hid (B2.out.trans (b4.mono B2.out.size))
  clear c2 b4 CN
  have c2 := HC.out _ B4.out
  cases nb with
  | true =>
    have EV2 : Hid (RV = r) := EV.out
    have FIN := Lib.hid (HBa.out.trans (B4.out.mono HBa.out.size))
    clear CD EV HC
    go_wp2
    go_ret2
    exact ⟨by rw [EV2.out]; rfl, FIN.out⟩
  | false =>
    have EV2 : Hid (RV = nd) := EV.out
    clear EV HC
    go_wp2_with fail
    refine (CD.out _).mono ?_
    rintro e w5 ⟨rfl, b5⟩
    have b15 := B4.out.trans (b5.mono B4.out.size)
    have FIN := Lib.hid (HBa.out.trans (b15.mono HBa.out.size))
    clear b5 b15 c2 CD
    go_wp2
    go_ret2
    exact ⟨by rw [EV2.out]; rfl, FIN.out⟩

set_option maxHeartbeats 4000000 in
theorem avg_bad (w : World) (k : Int) (s : ByteArray) (t v r x : Int) (h : rightB t r x = false ∨ okQ v = false) :
    Calls Try.prog 9 #[.agg (metC k s t), .int .i64 v, .int .i64 r, .int .i64 x] w fun e w' => e = .returned (.tuple #[.int .i64 0, .int .i64 1]) ∧ Below w.heap.size w w' := by
  obtain ⟨M, hM⟩ : ∃ M, M = metC k s t := ⟨_, rfl⟩
  have sM : M.size = 3 := by rw [hM]; rfl
  rw [← hM]
  obtain ⟨w1, B, HW, Ba, y0⟩ := box1 w M
  have LM := Lib.hid (load_met y0 sM)
  have CR := Lib.hid (pp_right w1 k s t r x)
  rw [← hM] at CR
  have CQ := Lib.hid (fun W => qright_any v W)
  have HBa := Lib.hid Ba
  generalize rightB t r x = rb at CR h
  generalize okQ v = ob at CQ h
  clear hM sM y0 Ba
  cases rb with
  | false =>
    go_enter Try.func9, Try.ntmps9
    go_upto_region 1 with fail
    rw [HW.out.1, HW.out.2]
    go_wp2_with (refine wpList_load_by (by kernel_rfl) MT _ rfl (.pointer (some ⟨B, 0, none⟩)) (.agg M) (by rfl) LM.out ?_)
    refine CR.out.mono ?_
    rintro e w2 ⟨rfl, b2⟩
    have FIN := Lib.hid (HBa.out.trans (b2.mono HBa.out.size))
    clear b2 CQ CR LM HBa
    go_wp2
    go_ret2
    exact ⟨rfl, FIN.out⟩
  | true =>
    obtain rfl : ob = false := by simpa using h
    go_enter Try.func9, Try.ntmps9
    go_upto_region 1 with fail
    rw [HW.out.1, HW.out.2]
    go_wp2_with (refine wpList_load_by (by kernel_rfl) MT _ rfl (.pointer (some ⟨B, 0, none⟩)) (.agg M) (by rfl) LM.out ?_)
    refine CR.out.mono ?_
    rintro e w2 ⟨rfl, b2⟩
    have FIN := Lib.hid (HBa.out.trans (b2.mono HBa.out.size))
    clear b2 CR LM HBa
    go_wp2_with fail
    refine (CQ.out _).mono ?_
    rintro e w3 ⟨rfl, rfl⟩
    go_wp2
    go_ret2
    exact ⟨rfl, FIN.out⟩

set_option maxHeartbeats 4000000 in
theorem avg_ok (w : World) (k : Int) (s : ByteArray) (t v r x : Nat) (ht0 : 0 < t) (ht : t ≤ 9007199254740992) (hr : r ≤ 1000000) (hx : x ≤ 1000) (hv : v ≤ 9007199254740992) :
    Calls Try.prog 9 #[.agg (metC k s (t : Int)), .int .i64 (v : Int), .int .i64 (r : Int), .int .i64 (x : Int)] w fun e w' => e = .returned (.tuple #[.int .i64 (avgN t v r x : Int), .int .i64 0]) ∧ Below w.heap.size w w' := by
  obtain ⟨M, hM⟩ : ∃ M, M = metC k s (t : Int) := ⟨_, rfl⟩
  have sM : M.size = 3 := by rw [hM]; rfl
  rw [← hM]
  obtain ⟨w1, B, HW, Ba, y0⟩ := box1 w M
  have LM := Lib.hid (load_met y0 sM)
  have CR := pp_right w1 k s (t : Int) (r : Int) (x : Int)
  rw [← hM, right_nat ht0 ht hr hx] at CR
  have CR := Lib.hid CR
  have CQ : Hid (∀ W, Calls Try.prog 19 #[.int .i64 (v : Int)] W fun e w' => e = .returned (.bool true) ∧ W = w') := fun W => by
    have := qright_any (v : Int) W
    rwa [okQ_nat hv] at this
  have m2 : M[2]? = some (.int .i64 (t : Int)) := by rw [hM]; rfl
  have HC : Hid (∀ W, Below w1.heap.size w1 W → W.cell? ⟨B, 2, none⟩ = some (.int .i64 (t : Int))) := fun W b => (cell_of_block ((b.block B (Array.getElem?_eq_some_iff.1 y0).1).trans y0) 2).trans m2
  have HBa := Lib.hid Ba
  obtain ⟨g, hg⟩ : ∃ g, g = min (t * r) 9007199254740992 := ⟨_, rfl⟩
  have hg1 : g ≤ 9007199254740992 := by omega
  obtain ⟨nb, hnb⟩ : ∃ b, b = nearB v g x := ⟨_, rfl⟩
  obtain ⟨nd, hnd⟩ : ∃ b, b = needN 1 v t := ⟨_, rfl⟩
  have EV : Hid (avgN t v r x = if nb = true then r else nd) := by show _ = _; rw [hnb, hnd, hg]; rfl
  have CN := Lib.hid (fun W => pp_near v g x W hv hg1 hx)
  have CD := Lib.hid (fun W => whole_ok v t W hv ht ht0)
  rw [← hnb] at CN
  rw [← hnd] at CD
  obtain ⟨ov, hov⟩ : ∃ b, b = decide (9007199254740992 < t * r) := ⟨_, rfl⟩
  have CT : Hid (∀ W, Calls Try.prog 22 #[.int .i64 (t : Int), .int .i64 (r : Int)] W fun e w' => e = .returned (.tuple #[.int .i64 (if ov = true then 0 else (g : Int)), .int .i64 (if ov = true then 3 else 0)]) ∧ Below W.heap.size W w') := fun W => by
    by_cases h : 9007199254740992 < t * r
    · rw [hov, decide_eq_true h]
      exact times_over t r W ht (by omega) h
    · rw [hov, decide_eq_false h]
      have e : g = t * r := by omega
      rw [e]
      exact times_within t r W ht (by omega) (by omega)
  have GO : Hid (ov = true → g = 9007199254740992) := fun h => by
    rw [hov] at h
    have := of_decide_eq_true h
    omega
  generalize avgN t v r x = RV at EV ⊢
  clear hM sM y0 Ba m2 hnb hnd ht0 ht hr hx hv hg hg1 hov
  go_enter Try.func9, Try.ntmps9
  go_upto_region 1 with fail
  rw [HW.out.1, HW.out.2]
  go_wp2_with (refine wpList_load_by (by kernel_rfl) MT _ rfl (.pointer (some ⟨B, 0, none⟩)) (.agg M) (by rfl) LM.out ?_)
  refine CR.out.mono ?_
  rintro e w2 ⟨rfl, b2⟩
  have B2 := Lib.hid b2
  clear b2 CR LM
  go_wp2_with fail
  refine (CQ.out _).mono ?_
  rintro e w3 ⟨rfl, rfl⟩
  have c2 := HC.out _ B2.out
  clear CQ
  go_wp2_with fail
  refine (CT.out _).mono ?_
  rintro e w4 ⟨rfl, b4⟩
  have B4 := Lib.hid (B2.out.trans (b4.mono B2.out.size))
  clear c2 b4 CT B2
  cases ov <;> simp only [if_true, if_false, Bool.false_eq_true]
  rotate_left
  · obtain rfl := GO.out rfl
    go_wp2_with fail
    refine (CN.out _).mono ?_
    rintro e w5 ⟨rfl, b5⟩
    have B5 := Lib.hid (B4.out.trans (b5.mono B4.out.size))
    clear b5 CN B4
    have c2 := HC.out _ B5.out
    cases nb with
    | true =>
      have EV2 : Hid (RV = r) := EV.out
      have FIN := Lib.hid (HBa.out.trans (B5.out.mono HBa.out.size))
      clear CD EV HC
      go_wp2
      go_ret2
      exact ⟨by rw [EV2.out]; rfl, FIN.out⟩
    | false =>
      have EV2 : Hid (RV = nd) := EV.out
      clear EV HC
      go_wp2_with fail
      refine (CD.out _).mono ?_
      rintro e w6 ⟨rfl, b6⟩
      have b16 := B5.out.trans (b6.mono B5.out.size)
      have FIN := Lib.hid (HBa.out.trans (b16.mono HBa.out.size))
      clear b6 b16 c2 CD
      go_wp2
      go_ret2
      exact ⟨by rw [EV2.out]; rfl, FIN.out⟩
  · skip
    go_wp2_with fail
    refine (CN.out _).mono ?_
    rintro e w5 ⟨rfl, b5⟩
    have B5 := Lib.hid (B4.out.trans (b5.mono B4.out.size))
    clear b5 CN B4
    have c2 := HC.out _ B5.out
    cases nb with
    | true =>
      have EV2 : Hid (RV = r) := EV.out
      have FIN := Lib.hid (HBa.out.trans (B5.out.mono HBa.out.size))
      clear CD EV HC
      go_wp2
      go_ret2
      exact ⟨by rw [EV2.out]; rfl, FIN.out⟩
    | false =>
      have EV2 : Hid (RV = nd) := EV.out
      clear EV HC
      go_wp2_with fail
      refine (CD.out _).mono ?_
      rintro e w6 ⟨rfl, b6⟩
      have b16 := B5.out.trans (b6.mono B5.out.size)
      have FIN := Lib.hid (HBa.out.trans (b16.mono HBa.out.size))
      clear b6 b16 c2 CD
      go_wp2
      go_ret2
      exact ⟨by rw [EV2.out]; rfl, FIN.out⟩
end Go.Proofs.Ytajkhbdniadkkaa.Pp
