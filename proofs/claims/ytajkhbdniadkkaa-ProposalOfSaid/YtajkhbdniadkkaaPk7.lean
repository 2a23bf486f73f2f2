/- Layer 20: of one value, of one on the average: the program, the document. -/
import Derived.Test.YtajkhbdniadkkaaPk5
import Derived.Test.YtajkhbdniadkkaaSoQF
import Derived.Test.YtajkhbdniadkkaaPk3
import Derived.Test.YtajkhbdniadkkaaQyD
import Derived.Test.YtajkhbdniadkkaaPk4
import Derived.Laws.AppendOwn
import Derived.Deep.AppendLies
namespace Go.Proofs.Ytajkhbdniadkkaa.Pp
open Go.RowKit Go.Shelf Go.Lib Go.Sort Go.Deep
open Go.Joins (cell_of_block unfrozen_of_block block_setCell)
open Go.Proofs.Ytajkhbdniadkkaa.Ow Go.Proofs.Ytajkhbdniadkkaa.Ld
set_option linter.unusedVariables false
set_option linter.unusedSimpArgs false
set_option maxRecDepth 20000

def oneN (t v r x : Nat) : Nat := if nearB v t x = true then r else needN r v t
def avgN (t v r x : Nat) : Nat := if nearB v (min (t * r) 9007199254740992) x = true then r else needN 1 v t
theorem box1 (w : World) (M : Array Value) : ∃ w1 B, Hid (w.alloc (.cells M MT) = w1 ∧ w.heap.size = B) ∧ Below w.heap.size w w1 ∧ w1.heap[B]? = some (.cells M MT (0, 0)) :=
  ⟨_, _, ⟨rfl, rfl⟩, ((Gr.refl w).alloc _).below, heap_alloc_new w _⟩
theorem right_nat {t r x : Nat} (ht0 : 0 < t) (ht : t ≤ 9007199254740992) (hr : r ≤ 1000000) (hx : x ≤ 1000) : rightB (t : Int) (r : Int) (x : Int) = true := rightB_iff.2 ⟨⟨by omega, by omega⟩, ⟨by omega, by omega⟩, by omega, by omega⟩
theorem okQ_nat {v : Nat} (h : v ≤ 9007199254740992) : okQ (v : Int) = true := decide_eq_true ⟨by omega, by omega⟩

theorem whole_ok (u t : Nat) (w : World) (hu : u ≤ 9007199254740992) (ht : t ≤ 9007199254740992) (h0 : 0 < t) :
    Calls Try.prog 23 #[.int .i64 (u : Int), .int .i64 (t : Int)] w fun e w' => e = .returned (.tuple #[.int .i64 (needN 1 u t : Int), .int .i64 0]) ∧ Below w.heap.size w w' := by
  have C := Lib.hid (fun W => need_ok 1 u t W (by omega) hu ht h0)
  have e : min (upDiv 1 u t) 1000000 = needN 1 u t := rfl
  rw [e] at C
  generalize needN 1 u t = n at C ⊢
  clear hu ht h0 e
  go_enter Try.func23, Try.ntmps23
  go_wp2_with fail
  refine (C.out _).mono ?_
  rintro e w1 ⟨rfl, b1⟩
  have B1 := Lib.hid b1
  clear b1 C
  go_wp2
  go_ret2
  exact ⟨rfl, B1.out⟩

set_option maxHeartbeats 4000000 in
theorem one_bad (w : World) (k : Int) (s : ByteArray) (t v r x : Int) (h : rightB t r x = false ∨ okQ v = false) :
    Calls Try.prog 8 #[.agg (metC k s t), .int .i64 v, .int .i64 r, .int .i64 x] w fun e w' => e = .returned (.tuple #[.int .i64 0, .int .i64 1]) ∧ Below w.heap.size w w' := by
  obtain ⟨M, hM⟩ : ∃ M, M = metC k s t := ⟨_, rfl⟩
  have sM : M.size = 3 := by rw [hM]; rfl
  rw [← hM]
  obtain ⟨w1, B, HW, Ba, y0⟩ := box1 w M
  have LM := Lib.hid (load_met y0 sM)
  have CR := Lib.hid (pp_right w1 k s t r x)
  rw [← hM] at CR
  have CQ := Lib.hid (fun W => qright_any v W)
  have HBa := Lib.hid Ba
  generalize rightB t r x = rb at CR h
  generalize okQ v = ob at CQ h
  clear hM sM y0 Ba
  cases rb with
  | false =>
    go_enter Try.func8, Try.ntmps8
    go_upto_region 1 with fail
    rw [HW.out.1, HW.out.2]
    go_wp2_with (refine wpList_load_by (by kernel_rfl) MT _ rfl (.pointer (some ⟨B, 0, none⟩)) (.agg M) (by rfl) LM.out ?_)
    refine CR.out.mono ?_
    rintro e w2 ⟨rfl, b2⟩
    have FIN := Lib.hid (HBa.out.trans (b2.mono HBa.out.size))
    clear b2 CQ CR LM HBa
    go_wp2
    go_ret2
    exact ⟨rfl, FIN.out⟩
  | true =>
    obtain rfl : ob = false := by simpa using h
    go_enter Try.func8, Try.ntmps8
    go_upto_region 1 with fail
    rw [HW.out.1, HW.out.2]
    go_wp2_with (refine wpList_load_by (by kernel_rfl) MT _ rfl (.pointer (some ⟨B, 0, none⟩)) (.agg M) (by rfl) LM.out ?_)
    refine CR.out.mono ?_
    rintro e w2 ⟨rfl, b2⟩
    have FIN := Lib.hid (HBa.out.trans (b2.mono HBa.out.size))
    clear b2 CR LM HBa
    go_wp2_with fail
    refine (CQ.out _).mono ?_
    rintro e w3 ⟨rfl, rfl⟩
    go_wp2
    go_ret2
    exact ⟨rfl, FIN.out⟩

set_option maxHeartbeats 4000000 in
theorem one_ok (w : World) (k : Int) (s : ByteArray) (t v r x : Nat) (ht0 : 0 < t) (ht : t ≤ 9007199254740992) (hr : r ≤ 1000000) (hx : x ≤ 1000) (hv : v ≤ 9007199254740992) :
    Calls Try.prog 8 #[.agg (metC k s (t : Int)), .int .i64 (v : Int), .int .i64 (r : Int), .int .i64 (x : Int)] w fun e w' => e = .returned (.tuple #[.int .i64 (oneN t v r x : Int), .int .i64 0]) ∧ Below w.heap.size w w' := by
  obtain ⟨M, hM⟩ : ∃ M, M = metC k s (t : Int) := ⟨_, rfl⟩
  have sM : M.size = 3 := by rw [hM]; rfl
  rw [← hM]
  obtain ⟨w1, B, HW, Ba, y0⟩ := box1 w M
  have LM := Lib.hid (load_met y0 sM)
  have CR := pp_right w1 k s (t : Int) (r : Int) (x : Int)
  rw [← hM, right_nat ht0 ht hr hx] at CR
  have CR := Lib.hid CR
  have CQ : Hid (∀ W, Calls Try.prog 19 #[.int .i64 (v : Int)] W fun e w' => e = .returned (.bool true) ∧ W = w') := fun W => by
    have := qright_any (v : Int) W
    rwa [okQ_nat hv] at this
  have m2 : M[2]? = some (.int .i64 (t : Int)) := by rw [hM]; rfl
  have HC : Hid (∀ W, Below w1.heap.size w1 W → W.cell? ⟨B, 2, none⟩ = some (.int .i64 (t : Int))) := fun W b => (cell_of_block ((b.block B (Array.getElem?_eq_some_iff.1 y0).1).trans y0) 2).trans m2
  have HBa := Lib.hid Ba
  obtain ⟨nb, hnb⟩ : ∃ b, b = nearB v t x := ⟨_, rfl⟩
  obtain ⟨nd, hnd⟩ : ∃ b, b = needN r v t := ⟨_, rfl⟩
  have EV : Hid (oneN t v r x = if nb = true then r else nd) := by show _ = _; rw [hnb, hnd]; rfl
  have CN := Lib.hid (fun W => pp_near v t x W hv ht hx)
  have CD := Lib.hid (fun W => need_ok r v t W hr hv ht ht0)
  rw [← hnb] at CN
  have hnd' : min (upDiv r v t) 1000000 = nd := hnd.symm
  rw [hnd'] at CD
  generalize oneN t v r x = RV at EV ⊢
  clear hM sM y0 Ba m2 hnb hnd hnd' ht0 ht hr hx hv
  go_enter Try.func8, Try.ntmps8
  go_upto_region 1 with fail
  rw [HW.out.1, HW.out.2]
  go_wp2_with (refine wpList_load_by (by kernel_rfl) MT _ rfl (.pointer (some ⟨B, 0, none⟩)) (.agg M) (by rfl) LM.out ?_)
  refine CR.out.mono ?_
  rintro e w2 ⟨rfl, b2⟩
  have B2 := Lib.hid b2
  clear b2 CR LM
  go_wp2_with fail
  refine (CQ.out _).mono ?_
  rintro e w3 ⟨rfl, rfl⟩
  have c2 := HC.out _ B2.out
  clear CQ
  go_wp2_with fail
  refine (CN.out _).mono ?_
  rintro e w4 ⟨rfl, b4⟩
  have B4 := Lib.hid (B2.out.trans (b4.mono B2.out.size))
  clear c2 b4 CN
  have c2 := HC.out _ B4.out
  cases nb with
  | true =>
    have EV2 : Hid (RV = r) := EV.out
    have FIN := Lib.hid (HBa.out.trans (B4.out.mono HBa.out.size))
    clear CD EV HC
    go_wp2
    go_ret2
    exact ⟨by rw [EV2.out]; rfl, FIN.out⟩
  | false =>
    have EV2 : Hid (RV = nd) := EV.out
    clear EV HC
    go_wp2_with fail
    refine (CD.out _).mono ?_
    rintro e w5 ⟨rfl, b5⟩
    have b15 := B4.out.trans (b5.mono B4.out.size)
    have FIN := Lib.hid (HBa.out.trans (b15.mono HBa.out.size))
    clear b5 b15 c2 CD
    go_wp2
    go_ret2
    exact ⟨by rw [EV2.out]; rfl, FIN.out⟩

set_option maxHeartbeats 4000000 in
theorem avg_bad (w : World) (k : Int) (s : ByteArray) (t v r x : Int) (h : rightB t r x = false ∨ okQ v = false) :
    Calls Try.prog 9 #[.agg (metC k s t), .int .i64 v, .int .i64 r, .int .i64 x] w fun e w' => e = .returned (.tuple #[.int .i64 0, .int .i64 1]) ∧ Below w.heap.size w w' := by
  obtain ⟨M, hM⟩ : ∃ M, M = metC k s t := ⟨_, rfl⟩
  have sM : M.size = 3 := by rw [hM]; rfl
  rw [← hM]
  obtain ⟨w1, B, HW, Ba, y0⟩ := box1 w M
  have LM := Lib.hid (load_met y0 sM)
  have CR := Lib.hid (pp_right w1 k s t r x)
  rw [← hM] at CR
  have CQ := Lib.hid (fun W => qright_any v W)
  have HBa := Lib.hid Ba
  generalize rightB t r x = rb at CR h
  generalize okQ v = ob at CQ h
  clear hM sM y0 Ba
  cases rb with
  | false =>
    go_enter Try.func9, Try.ntmps9
    go_upto_region 1 with fail
    rw [HW.out.1, HW.out.2]
    go_wp2_with (refine wpList_load_by (by kernel_rfl) MT _ rfl (.pointer (some ⟨B, 0, none⟩)) (.agg M) (by rfl) LM.out ?_)
    refine CR.out.mono ?_
    rintro e w2 ⟨rfl, b2⟩
    have FIN := Lib.hid (HBa.out.trans (b2.mono HBa.out.size))
    clear b2 CQ CR LM HBa
    go_wp2
    go_ret2
    exact ⟨rfl, FIN.out⟩
  | true =>
    obtain rfl : ob = false := by simpa using h
    go_enter Try.func9, Try.ntmps9
    go_upto_region 1 with fail
    rw [HW.out.1, HW.out.2]
    go_wp2_with (refine wpList_load_by (by kernel_rfl) MT _ rfl (.pointer (some ⟨B, 0, none⟩)) (.agg M) (by rfl) LM.out ?_)
    refine CR.out.mono ?_
    rintro e w2 ⟨rfl, b2⟩
    have FIN := Lib.hid (HBa.out.trans (b2.mono HBa.out.size))
    clear b2 CR LM HBa
    go_wp2_with fail
    refine (CQ.out _).mono ?_
    rintro e w3 ⟨rfl, rfl⟩
    go_wp2
    go_ret2
    exact ⟨rfl, FIN.out⟩

set_option maxHeartbeats 4000000 in
theorem avg_ok (w : World) (k : Int) (s : ByteArray) (t v r x : Nat) (ht0 : 0 < t) (ht : t ≤ 9007199254740992) (hr : r ≤ 1000000) (hx : x ≤ 1000) (hv : v ≤ 9007199254740992) :
    Calls Try.prog 9 #[.agg (metC k s (t : Int)), .int .i64 (v : Int), .int .i64 (r : Int), .int .i64 (x : Int)] w fun e w' => e = .returned (.tuple #[.int .i64 (avgN t v r x : Int), .int .i64 0]) ∧ Below w.heap.size w w' := by
  obtain ⟨M, hM⟩ : ∃ M, M = metC k s (t : Int) := ⟨_, rfl⟩
  have sM : M.size = 3 := by rw [hM]; rfl
  rw [← hM]
  obtain ⟨w1, B, HW, Ba, y0⟩ := box1 w M
  have LM := Lib.hid (load_met y0 sM)
  have CR := pp_right w1 k s (t : Int) (r : Int) (x : Int)
  rw [← hM, right_nat ht0 ht hr hx] at CR
  have CR := Lib.hid CR
  have CQ : Hid (∀ W, Calls Try.prog 19 #[.int .i64 (v : Int)] W fun e w' => e = .returned (.bool true) ∧ W = w') := fun W => by
    have := qright_any (v : Int) W
    rwa [okQ_nat hv] at this
  have m2 : M[2]? = some (.int .i64 (t : Int)) := by rw [hM]; rfl
  have HC : Hid (∀ W, Below w1.heap.size w1 W → W.cell? ⟨B, 2, none⟩ = some (.int .i64 (t : Int))) := fun W b => (cell_of_block ((b.block B (Array.getElem?_eq_some_iff.1 y0).1).trans y0) 2).trans m2
  have HBa := Lib.hid Ba
  obtain ⟨g, hg⟩ : ∃ g, g = min (t * r) 9007199254740992 := ⟨_, rfl⟩
  have hg1 : g ≤ 9007199254740992 := by omega
  obtain ⟨nb, hnb⟩ : ∃ b, b = nearB v g x := ⟨_, rfl⟩
  obtain ⟨nd, hnd⟩ : ∃ b, b = needN 1 v t := ⟨_, rfl⟩
  have EV : Hid (avgN t v r x = if nb = true then r else nd) := by show _ = _; rw [hnb, hnd, hg]; rfl
  have CN := Lib.hid (fun W => pp_near v g x W hv hg1 hx)
  have CD := Lib.hid (fun W => whole_ok v t W hv ht ht0)
  rw [← hnb] at CN
  rw [← hnd] at CD
  obtain ⟨ov, hov⟩ : ∃ b, b = decide (9007199254740992 < t * r) := ⟨_, rfl⟩
  have CT : Hid (∀ W, Calls Try.prog 22 #[.int .i64 (t : Int), .int .i64 (r : Int)] W fun e w' => e = .returned (.tuple #[.int .i64 (if ov = true then 0 else (g : Int)), .int .i64 (if ov = true then 3 else 0)]) ∧ Below W.heap.size W w') := fun W => by
    by_cases h : 9007199254740992 < t * r
    · rw [hov, decide_eq_true h]
      exact times_over t r W ht (by omega) h
    · rw [hov, decide_eq_false h]
      have e : g = t * r := by omega
      rw [e]
      exact times_within t r W ht (by omega) (by omega)
  have GO : Hid (ov = true → g = 9007199254740992) := fun h => by
    rw [hov] at h
    have := of_decide_eq_true h
    omega
  generalize avgN t v r x = RV at EV ⊢
  clear hM sM y0 Ba m2 hnb hnd ht0 ht hr hx hv hg hg1 hov
  go_enter Try.func9, Try.ntmps9
  go_upto_region 1 with fail
  rw [HW.out.1, HW.out.2]
  go_wp2_with (refine wpList_load_by (by kernel_rfl) MT _ rfl (.pointer (some ⟨B, 0, none⟩)) (.agg M) (by rfl) LM.out ?_)
  refine CR.out.mono ?_
  rintro e w2 ⟨rfl, b2⟩
  have B2 := Lib.hid b2
  clear b2 CR LM
  go_wp2_with fail
  refine (CQ.out _).mono ?_
  rintro e w3 ⟨rfl, rfl⟩
  have c2 := HC.out _ B2.out
  clear CQ
  go_wp2_with fail
  refine (CT.out _).mono ?_
  rintro e w4 ⟨rfl, b4⟩
  have B4 := Lib.hid (B2.out.trans (b4.mono B2.out.size))
  clear c2 b4 CT B2
  cases ov <;> simp only [if_true, if_false, Bool.false_eq_true]
  rotate_left
  · obtain rfl := GO.out rfl
    go_wp2_with fail
    refine (CN.out _).mono ?_
    rintro e w5 ⟨rfl, b5⟩
    have B5 := Lib.hid (B4.out.trans (b5.mono B4.out.size))
    clear b5 CN B4
    have c2 := HC.out _ B5.out
    cases nb with
    | true =>
      have EV2 : Hid (RV = r) := EV.out
      have FIN := Lib.hid (HBa.out.trans (B5.out.mono HBa.out.size))
      clear CD EV HC
      go_wp2
      go_ret2
      exact ⟨by rw [EV2.out]; rfl, FIN.out⟩
    | false =>
      have EV2 : Hid (RV = nd) := EV.out
      clear EV HC
      go_wp2_with fail
      refine (CD.out _).mono ?_
      rintro e w6 ⟨rfl, b6⟩
      have b16 := B5.out.trans (b6.mono B5.out.size)
      have FIN := Lib.hid (HBa.out.trans (b16.mono HBa.out.size))
      clear b6 b16 c2 CD
      go_wp2
      go_ret2
      exact ⟨by rw [EV2.out]; rfl, FIN.out⟩
  · skip
    go_wp2_with fail
    refine (CN.out _).mono ?_
    rintro e w5 ⟨rfl, b5⟩
    have B5 := Lib.hid (B4.out.trans (b5.mono B4.out.size))
    clear b5 CN B4
    have c2 := HC.out _ B5.out
    cases nb with
    | true =>
      have EV2 : Hid (RV = r) := EV.out
      have FIN := Lib.hid (HBa.out.trans (B5.out.mono HBa.out.size))
      clear CD EV HC
      go_wp2
      go_ret2
      exact ⟨by rw [EV2.out]; rfl, FIN.out⟩
    | false =>
      have EV2 : Hid (RV = nd) := EV.out
      clear EV HC
      go_wp2_with fail
      refine (CD.out _).mono ?_
      rintro e w6 ⟨rfl, b6⟩
      have b16 := B5.out.trans (b6.mono B5.out.size)
      have FIN := Lib.hid (HBa.out.trans (b16.mono HBa.out.size))
      clear b6 b16 c2 CD
      go_wp2
      go_ret2
      exact ⟨by rw [EV2.out]; rfl, FIN.out⟩
end Go.Proofs.Ytajkhbdniadkkaa.Pp
/- A row of the call's own, sorted by the library's stable sort (by sort/gensort.py). -/
namespace Go.Proofs.Ytajkhbdniadkkaa.Qs
open Go.Shelf Go.RowKit Go.Lib Go.Sort Go.Deep
open Go.Joins (cell_of_block unfrozen_of_block block_setCell)
set_option linter.unusedVariables false
set_option linter.unusedSimpArgs false
set_option maxRecDepth 20000
theorem flat_K (l : List El) : flatK enc 5 l.toArray = (flat enc l).toArray := by
  refine ext_get! (by simp [flat_length enc_len]) fun t ht => ?_
  have ht' : t < l.length * 5 := by simpa using ht
  rw [get_flatK _ _ _ t (by simpa using ht')]
  have hlt : t / 5 < l.length := Nat.div_lt_of_lt_mul (by rw [Nat.mul_comm]; exact ht')
  have hm : t % 5 < 5 := Nat.mod_lt _ (by decide)
  obtain ⟨x, hx⟩ : ∃ x, l[t / 5]? = some x := ⟨l[t / 5], List.getElem?_eq_getElem hlt⟩
  have e2 : l.toArray[t / 5]! = x := by
    have hj := List.getElem?_eq_some_iff.1 hx
    rw [getElem!_pos _ _ (by simpa using hj.1)]
    simpa using hj.2
  have e3 := flat_at enc_len l (t / 5) (t % 5) x hx hm
  rw [show t / 5 * 5 + t % 5 = t by rw [Nat.mul_comm]; exact Nat.div_add_mod t 5] at e3
  have hlf : t < (flat enc l).length := by rw [flat_length enc_len]; exact ht'
  have hxl : t % 5 < (enc x).length := by rw [enc_len]; exact hm
  rw [e2, getElem!_pos (flat enc l).toArray t (by simpa using hlf), getElem!_pos (enc x) (t % 5) hxl]
  rw [List.getElem?_eq_getElem hlf, List.getElem?_eq_getElem hxl] at e3
  simpa using (Option.some.inj e3).symm
theorem holds_own {w : World} {N g c n : Nat} {l : List El} (h : w.ownsRow N 52 5 (.slice (some ⟨g, 0, none⟩) n c) n (flat enc l)) (hn : n = l.length) : HoldsK enc 5 w g 0 l.toArray ∧ g < w.heap.size ∧ N ≤ g := by
  subst hn
  obtain ⟨h0, h⟩ := h
  rcases h with ⟨e, _⟩ | ⟨g', c', cur, e, hb, hg, hc, hm, hsz, htk⟩
  · cases e
  · simp only [Value.slice.injEq, Option.some.injEq, Addr.mk.injEq, and_true, true_and] at e
    obtain ⟨rfl, rfl⟩ := e
    refine ⟨?_, (Array.getElem?_eq_some_iff.1 hg).1, hb⟩
    unfold HoldsK
    rw [flat_K]
    intro t ht
    have ht' : t < (flat enc l).length := by simpa using ht
    have e : cur.toList[t]? = some (flat enc l)[t] := by
      have h2 : (cur.toList.take (l.length * 5))[t]? = some (flat enc l)[t] := by rw [htk, List.getElem?_eq_getElem ht']
      rw [List.getElem?_take_of_lt (by rw [← flat_length enc_len]; exact ht')] at h2
      exact h2
    refine ⟨?_, by simp [World.frozen?, hg]⟩
    rw [Nat.zero_add, getElem!_pos _ _ (by simpa using ht')]
    simp only [World.cell?, hg, Option.isSome_none, Bool.false_eq_true, if_false]
    rw [← Array.getElem?_toList, e]
    simp
theorem grown_sorted {w W : World} {g off : Nat} {d : Array El} (h : SWK enc 5 w g off d W) : w.grownBy W (some g) := by
  obtain ⟨n, os, rfl⟩ := h
  refine ⟨rfl, rfl, rfl, by simp [sortWorldK, putRowK, putRow, mapBlock, Sort.ahead], fun k hk hm => ?_⟩
  unfold sortWorldK
  rw [heap_grow_old _ _ (by simp [putRowK, putRow, mapBlock, Sort.ahead]; omega)]
  have : g ≠ k := fun e => hm (by rw [e])
  simp [putRowK, putRow, mapBlock, Sort.ahead, Array.getElem?_modify, this]
theorem owns_sorted {w W : World} {N g c n : Nat} {l s : List El} (h : w.ownsRow N 52 5 (.slice (some ⟨g, 0, none⟩) n c) n (flat enc l)) (hn : n = l.length) (hs : s.length = l.length) (hw : SWK enc 5 w g 0 s.toArray W) : W.ownsRow N 52 5 (.slice (some ⟨g, 0, none⟩) n c) n (flat enc s) := by
  obtain ⟨h0, h⟩ := h
  refine ⟨by rw [flat_length enc_len, hs, hn], .inr ?_⟩
  rcases h with ⟨e, _⟩ | ⟨g', c', cur, e, hb, hg, hc, hm, hsz, htk⟩
  · cases e
  · simp only [Value.slice.injEq, Option.some.injEq, Addr.mk.injEq, and_true, true_and] at e
    obtain ⟨rfl, rfl⟩ := e
    obtain ⟨m, os, rfl⟩ := hw
    have hlt : g < w.heap.size := (Array.getElem?_eq_some_iff.1 hg).1
    refine ⟨g, c, putCells id 0 (flatK enc 5 s.toArray) cur, rfl, hb, ?_, hc, hm, by simp [putCells, hsz], ?_⟩
    · unfold sortWorldK
      rw [heap_grow_old _ _ (by simp [putRowK, putRow, mapBlock, Sort.ahead]; omega)]
      simp [putRowK, putRow, mapBlock, Sort.ahead, Array.getElem?_modify, hg, onCells]
    · rw [flat_K]
      have hL : (flat enc s).length = n * 5 := by rw [flat_length enc_len, hs, hn]
      have hcK : n * 5 ≤ cur.size := by rw [hsz]; exact Nat.mul_le_mul_right _ hc
      apply List.ext_getElem?
      intro j
      by_cases hj : j < n * 5
      · rw [List.getElem?_take_of_lt hj, Array.getElem?_toList]
        have hj' : j < (flat enc s).length := by omega
        simp [putCells, hj', show j < cur.size by omega]
      · rw [List.getElem?_take_eq_none (by omega), List.getElem?_eq_none (by omega)]
set_option maxHeartbeats 2000000 in
theorem ins_none (fv : Value) (w : World) : Calls Try.prog 81 #[.slice none 0 0, .int .i64 0, .int .i64 0, fv] w fun e w' => e = .returned (.tuple #[]) ∧ w = w' := by
  go_enter Try.func81, Try.ntmps81
  go_wp2
  refine wp_loop_rounds 1 ?_
  rw [rounds_succ]
  go_wp2
  go_end0
  exact ⟨rfl, rfl⟩
set_option maxHeartbeats 2000000 in
theorem stab_none (fv : Value) (w : World) : Calls Try.prog 64 #[.slice none 0 0, .int .i64 0, fv] w fun e w' => e = .returned (.tuple #[]) ∧ w = w' := by
  have C := Lib.hid (fun W => ins_none fv W)
  go_enter Try.func64, Try.ntmps64
  go_wp2_with fail
  refine wp_loop_rounds 1 ?_
  rw [rounds_succ]
  go_wp2_with fail
  refine (C.out _).mono ?_
  rintro e w' ⟨rfl, rfl⟩
  go_wp2_with fail
  refine wp_loop_rounds 1 ?_
  rw [rounds_succ]
  go_wp2
  go_end0
  exact ⟨rfl, rfl⟩
set_option maxHeartbeats 2000000 in
theorem sort_none (fv : Value) (w : World) : Calls Try.prog 39 #[.slice none 0 0, fv] w fun e w' => e = .returned (.tuple #[]) ∧ w = w' := by
  have C := Lib.hid (fun W => stab_none fv W)
  go_enter Try.func39, Try.ntmps39
  go_wp2_with fail
  refine (C.out _).mono ?_
  rintro e w' ⟨rfl, rfl⟩
  go_wp2
  go_end0
  exact ⟨rfl, rfl⟩
/-- A row of the call's own, sorted. -/
theorem sort_own (w : World) (N : Nat) (q : Option Addr) (c : Nat) (p : List El) (h : w.ownsRow N 52 5 (.slice q p.length c) p.length (flat enc p)) (hlen : p.length < 1000000) :
    Calls Try.prog 39 #[.slice q p.length c, fvC] w fun e w' => e = .returned (.tuple #[]) ∧ (∃ s : List El, s.length = p.length ∧ w'.ownsRow N 52 5 (.slice q p.length c) p.length (flat enc s) ∧ Sorted s ∧ Same1 p s) ∧ w.grownBy w' (Value.slice q p.length c).ownBlock := by
  cases q with
  | none =>
    have e0 : p = [] ∧ c = 0 := by
      rcases h.2 with ⟨e1, e⟩ | ⟨g, cap, cur, e, _⟩
      · simp only [Value.slice.injEq] at e1
        exact ⟨List.eq_nil_of_length_eq_zero e, e1.2.2⟩
      · cases e
    obtain ⟨rfl, rfl⟩ := e0
    refine (sort_none fvC w).mono ?_
    rintro e w' ⟨rfl, rfl⟩
    exact ⟨rfl, ⟨[], rfl, h, Sorted.nil, Same1.refl _⟩, ⟨rfl, rfl, rfl, Nat.le_refl _, fun _ _ _ => rfl⟩⟩
  | some ad =>
    obtain ⟨g, rfl⟩ : ∃ g, ad = ⟨g, 0, none⟩ := by
      rcases h.2 with ⟨e, _⟩ | ⟨g, cap, cur, e, _⟩
      · cases e
      · simp only [Value.slice.injEq, Option.some.injEq] at e
        exact ⟨g, e.1⟩
    obtain ⟨hH, hg, hN⟩ := holds_own h rfl
    refine (sortStable_any w g 0 c p hH hg hlen).mono ?_
    rintro e w' ⟨rfl, s, hs, ss, sm, sw⟩
    exact ⟨rfl, ⟨s, hs, owns_sorted h rfl hs sw, ss, sm⟩, grown_sorted sw⟩
/-- There is but one way to sort a row so. -/
theorem sorted_uniq : ∀ {s t : List El}, Sorted s → Sorted t → Same1 s t → s = t
  | [], t, _, _, h => (List.nil_perm.1 h.1).symm
  | x :: s, [], _, _, h => absurd (List.perm_nil.1 h.1) (by simp)
  | x :: s, y :: t, hs, ht, h => by
    have hx : x ∈ y :: t := h.1.mem_iff.1 List.mem_cons_self
    have hy : y ∈ x :: s := h.1.mem_iff.2 List.mem_cons_self
    have a : ¬ lt x y := by
      rcases List.mem_cons.1 hx with e | e
      · rw [e]; exact lt_irr _
      · exact (List.pairwise_cons.1 ht).1 x e
    have b : ¬ lt y x := by
      rcases List.mem_cons.1 hy with e | e
      · rw [e]; exact lt_irr _
      · exact (List.pairwise_cons.1 hs).1 y e
    have e := h.2 x
    rw [List.filter_cons_of_pos (eqv_iff.2 ⟨lt_irr _, lt_irr _⟩), List.filter_cons_of_pos (eqv_iff.2 ⟨a, b⟩)] at e
    injection e with e1 e2
    subst e1
    have k : Same1 s t := ⟨h.1.cons_inv, fun z => by
      have f := h.2 z
      by_cases hz : eqv z x = true
      · rw [List.filter_cons_of_pos hz, List.filter_cons_of_pos hz] at f
        injection f
      · rw [List.filter_cons_of_neg hz, List.filter_cons_of_neg hz] at f
        exact f⟩
    rw [sorted_uniq (List.pairwise_cons.1 hs).2 (List.pairwise_cons.1 ht).2 k]
end Go.Proofs.Ytajkhbdniadkkaa.Qs
/- Layer 13: Row of any row of objects: the uses of all pods that count, rising by names. -/
namespace Go.Proofs.Ytajkhbdniadkkaa.Qy
open Go.RowKit Go.Deep Go.Lib Go.Shelf Go.Sort
open Go.Joins (cell_of_block unfrozen_of_block block_setCell)
open Go.Proofs.Ytajkhbdniadkkaa.Ow Go.Proofs.Ytajkhbdniadkkaa.Qs
set_option linter.unusedVariables false
set_option linter.unusedSimpArgs false
set_option maxRecDepth 20000

/-- An object that is counted: a pod that isn't failed. -/
def isCnt (o : Ob) : Bool := cntB o.kind o.p.ph
/-- A pod's use. -/
def useS (now : Int) (a : Nat) (E : List En) (m : ByteArray) (o : Ob) : Us := ⟨o.name, o.p.ph == 2, freE now a (upto now (smpsOf E (o.name, m))) == 0, askV m o.p.cpu o.p.mem, freV now a (upto now (smpsOf E (o.name, m)))⟩
theorem useS_en (now : Int) (a : Nat) (E : List En) (m : ByteArray) (o : Ob) : enA (useS now a E m o) = useOf now a E m o.name o.p.ph o.p.cpu o.p.mem := rfl
/-- The uses of a row, as it stands. -/
def usesOf (now : Int) (a : Nat) (E : List En) (m : ByteArray) (l : List Ob) : List Us := (l.filter isCnt).map (useS now a E m)
theorem podC_of {W : World} {X : Array Value} {o : Ob} (h : ObjV W X o) : PodC X o.kind o.name o.p.ph o.p.cpu o.p.mem := ⟨h.1, h.2.1.1, h.2.1.2.1, h.2.2.2.1.2.2.1, h.2.2.2.1.2.2.2.2.1, h.2.2.2.1.2.2.2.2.2.1⟩
theorem info_U : ∃ i : TypeInfo, Try.prog.info? UT = some i ∧ i.zero = some (.agg zU) ∧ i.size = 5 ∧ i.bytes ≤ 10000 := by
  have hinf : (Try.prog.info? UT).map (fun i => (i.zero, i.size, decide (i.bytes ≤ 10000))) = some (some (.agg zU), 5, true) := by kernel_rfl
  cases hi : Try.prog.info? UT with
  | none => rw [hi] at hinf; cases hinf
  | some i =>
    rw [hi] at hinf
    simp only [Option.map_some, Option.some.injEq, Prod.mk.injEq] at hinf
    exact ⟨i, rfl, hinf.1, hinf.2.1, of_decide_eq_true hinf.2.2⟩
abbrev SlW : TypeId := 38
/-- A whole object is loaded. -/
theorem load_whole {w : World} {b : Nat} {cs : Array Value} {T : TypeId} {fz : Nat × Nat} (h : w.heap[b]? = some (.cells cs T fz)) (hs : cs.size = 47) :
    (Instr.loadAt OT (.pointer (some ⟨b, 0, none⟩))).run Try.prog w = .ok (.agg cs) w := by
  have h1 := run_loadAt_mid (P := Try.prog) w b 0 OT cs.toList _ (Ld.rangeAt_block h) Try.underlying99 rfl (by rw [Array.length_toList, hs]; exact info_ob47)
  simpa using h1
theorem own_lt' {N n k : Nat} {w : World} {T : TypeId} {v : Value} {xs : List Value} (h : w.ownsRow N T k v n xs) {g : Nat} (hg : v.ownBlock = some g) : N ≤ g := by
  rcases h.2 with ⟨rfl, _⟩ | ⟨g', cap, cur, rfl, hb, hh, _⟩
  · simp [Value.ownBlock] at hg
  · simp [Value.ownBlock] at hg
    subst hg
    exact hb

set_option maxHeartbeats 8000000 in
theorem qrow_any (W w : World) (low : Below W.heap.size W w) (bb mb n a : Nat) (E : List En) (h : Bk w bb mb n a E) (now : Int) (hn : now ≤ 9223372036854775807) (m : ByteArray) (hm : m.size ≤ maxLen) (q : Option Addr) (c : Nat) (l : List Obv) (hr : RowR 47 encOb W q l) (hok : ∀ x ∈ l, ObjV W x.1.1 x.2 ∧ x.2.name.size ≤ maxLen) (hlen : l.length < 1000000) :
    Calls Try.prog 15 #[.pointer (some ⟨bb, 0, none⟩), .int .i64 now, .string m, .slice q l.length c] w fun e w' => (∃ q' c' k, e = .returned (.slice q' k c') ∧ Hid (∃ s : List Us, k = s.length ∧ w'.ownsRow w.heap.size UT 5 (.slice q' k c') k (flat enc s) ∧ Sorted s ∧ Same1 (usesOf now a E m (l.map (·.2))) s)) ∧ Below w.heap.size w w' := by
  have mixed : Try.prog.follows .mixedOrders = true := by kernel_rfl
  obtain ⟨inf, i1, i2, i3, i4⟩ := info_U
  have HI := Lib.hid (And.intro i1 (And.intro i2 (And.intro i3 i4)))
  obtain ⟨n0, hn0⟩ : ∃ n, n = l.length := ⟨_, rfl⟩
  rw [← hn0] at hlen ⊢
  have HH := Lib.hid (And.intro low (And.intro hr (And.intro hok (And.intro hn0 (And.intro h (And.intro hn hm))))))
  clear low hr hok hn0 h hn hm i1 i2 i3 i4
  go_enter Try.func15, Try.ntmps15
  go_wp2_with fail
  go_loopg [14, 9] n0 (fun g1 vi v9 wr => ∃ j : Nat, vi = .int .i64 (j : Int) ∧ j ≤ n0 ∧ n0 - j ≤ g1 ∧ (∃ q' c' k, v9 = .slice q' k c' ∧ k ≤ j ∧ Hid (k = (usesOf now a E m ((l.take j).map (·.2))).length ∧ wr.ownsRow w.heap.size UT 5 (.slice q' k c') k (flat enc (usesOf now a E m ((l.take j).map (·.2)))))) ∧ Hid (Below w.heap.size w wr))
  case atStart => exact ⟨0, rfl, Nat.zero_le _, by omega, ⟨none, 0, 0, rfl, Nat.le_refl _, rfl, World.ownsRow_nil _ _ _ _⟩, Below.refl _ _⟩
  case round =>
    obtain ⟨j, rfl, h1, h2, ⟨q', c', k, rfl, hk, HP⟩, HB⟩ := hrel
    by_cases hlt : j < n0
    · obtain ⟨low, hr, hok, hn0, hbk, hn, hm⟩ := HH.out
      obtain ⟨x, hx⟩ : ∃ x, l[j]? = some x := ⟨l[j]'(by omega), List.getElem?_eq_getElem (by omega)⟩
      obtain ⟨b, off, rfl, _, _⟩ := hr j x hx
      obtain ⟨hbl, hra⟩ := rangeAt_obs hr hx
      have lowr : Below W.heap.size W wr := low.trans (HB.out.mono low.size)
      have LD := Lib.hid (Ow.load_at (x := x) (w := wr) (fun t v hv => (lowr.cell (p := ⟨b, off + j * 47 + t, none⟩) hbl).trans (hra t v hv)))
      obtain ⟨okv, okn⟩ := hok x (List.mem_of_getElem? hx)
      obtain ⟨X, hX⟩ : ∃ X, X = x.1.1 := ⟨_, rfl⟩
      obtain ⟨o, ho⟩ : ∃ o, o = x.2 := ⟨_, rfl⟩
      rw [← hX] at LD okv
      rw [← ho] at okv okn
      have ON := Lib.hid (objV_one okv)
      have pc := podC_of okv
      obtain ⟨th, inn, el⟩ := el_new wr X okv.1
      have TH := Lib.hid th
      have IN := Lib.hid inn
      obtain ⟨w3, hw3⟩ : ∃ W', W' = (wr.alloc (.cells zerC OTy)).setCells wr.heap.size 0 X.toList := ⟨_, rfl⟩
      obtain ⟨O, hO⟩ : ∃ A, A = wr.heap.size := ⟨_, rfl⟩
      have HW3 : Hid ((wr.alloc (.cells zerC OTy)).setCells wr.heap.size 0 X.toList = w3 ∧ wr.heap.size = O) := ⟨hw3.symm, hO.symm⟩
      rw [← hw3, ← hO] at el
      have elb : w3.heap[O]? = some (.cells X OTy (0, 0)) := el.blk
      have ell : Below wr.heap.size wr w3 := el.low
      have B3 : Below w.heap.size w w3 := HB.out.trans (ell.mono HB.out.size)
      have L3 := Lib.hid (load_whole elb okv.1)
      have C1 := Lib.hid (counted_any w3 X _ _ _ _ _ pc)
      obtain ⟨ct, hct⟩ : ∃ b, b = cntB o.kind o.p.ph := ⟨_, rfl⟩
      rw [← hct] at C1
      have TK : Hid (usesOf now a E m ((l.take (j + 1)).map (·.2)) = usesOf now a E m ((l.take j).map (·.2)) ++ (if ct = true then [useS now a E m o] else [])) := by
        show _ = _
        unfold usesOf
        rw [List.take_add_one, hx, List.map_append, List.filter_append, List.map_append]
        congr 1
        show ((List.filter isCnt [x.2]).map _) = _
        rw [← ho]
        have e : isCnt o = ct := hct.symm
        by_cases h : ct = true
        · rw [if_pos h]
          rw [h] at e
          simp [e]
        · rw [if_neg h]
          have : isCnt o = false := by rw [e]; exact Bool.eq_false_iff.2 h
          simp [this]
      have NX : Hid (∀ w4, Below w3.heap.size w3 w4 → (Instr.loadAt OT (.pointer (some ⟨O, 0, none⟩))).run Try.prog w4 = .ok (.agg X) w4 ∧ Calls Try.prog 38 #[.pointer (some ⟨bb, 0, none⟩), .int .i64 now, .string m, .agg X] w4 fun r w' => r = .returned (.agg (enA (useS now a E m o))) ∧ Below w4.heap.size w4 w') := fun w4 b4 => by
        have b34 : Below w.heap.size w w4 := B3.trans (b4.mono B3.size)
        exact ⟨load_whole ((b4.block O (Array.getElem?_eq_some_iff.1 elb).1).trans elb) okv.1, use_any w4 bb mb n a E (hbk.gr b34) now hn m hm X _ _ okn _ _ _ pc⟩
      have HX := Lib.hid (And.intro B3 ell)
      clear low hr hok hn0 hbk hn hm hx hbl hra lowr okv okn hX th inn el hw3 hO elb ell pc B3 hct
      go_upto_region 5 with (first | (refine Ld.wpList_load_by (by kernel_rfl) OT _ rfl (.pointer (some ⟨b, off + j * 47, none⟩)) (.agg X) (by kernel_rfl) LD.out ?_) | (refine wpList_store_mid rfl _ _ _ rfl wr.heap.size 0 X (by rfl) (by rfl) TH.out IN.out ON.out ?_; rw [HW3.out.1, HW3.out.2]))
      clear TH IN ON HW3 LD
      go_wp2_with (refine Ld.wpList_load_by (by kernel_rfl) OT _ rfl (.pointer (some ⟨O, 0, none⟩)) (.agg X) (by kernel_rfl) L3.out ?_)
      refine C1.out.mono ?_
      rintro e w4 ⟨rfl, b4⟩
      obtain ⟨l4, CO⟩ := NX.out _ b4
      have L4 := Lib.hid l4
      have CO := Lib.hid CO
      have B34 := Lib.hid b4
      clear b4 l4 NX C1 L3
      cases hct : ct with
      | true =>
        rw [hct] at TK
        go_wp2_with (refine Ld.wpList_load_by (by kernel_rfl) OT _ rfl (.pointer (some ⟨O, 0, none⟩)) (.agg X) (by kernel_rfl) L4.out ?_)
        refine CO.out.mono ?_
        rintro e w5 ⟨rfl, b5⟩
        obtain ⟨B3, ell⟩ := HX.out
        obtain ⟨u, hu⟩ : ∃ u, u = useS now a E m o := ⟨_, rfl⟩
        obtain ⟨U, hU⟩ : ∃ U, U = enA u := ⟨_, rfl⟩
        rw [← hu, ← hU]
        have TK2 : Hid (usesOf now a E m ((l.take (j + 1)).map (·.2)) = usesOf now a E m ((l.take j).map (·.2)) ++ [u]) := by rw [hu]; exact TK.out
        have b45 : Below w3.heap.size w3 w5 := B34.out.trans (b5.mono B34.out.size)
        have br5 : Below wr.heap.size wr w5 := ell.trans (b45.mono ell.size)
        obtain ⟨w6, hw6⟩ : ∃ w6, w6 = w5.alloc (.cells U UT) := ⟨_, rfl⟩
        obtain ⟨M, hM⟩ : ∃ M, M = w5.heap.size := ⟨_, rfl⟩
        have NEW : Hid (∀ (t : Nat) v, U.toList[t]? = some v → w6.cell? ((⟨M, 0, none⟩ : Addr).add t) = some v) := by
          have := World.news_of_block (w := w6) (B := M) (cs := U) (t := UT) (fr := (0, 0)) (by rw [hw6, hM]; exact heap_alloc_new w5 _)
          exact this
        have b6 : Below wr.heap.size wr w6 := by rw [hw6]; exact br5.trans (((Gr.refl w5).alloc _).below.mono br5.size)
        have OW : Hid (w6.ownsRow w.heap.size UT 5 (.slice q' k c') k (flat enc (usesOf now a E m ((l.take j).map (·.2))))) := own_stays HP.out.2 fun g _ hg => b6.block g hg
        have BS : Hid (w.heap.size ≤ w6.heap.size) := by
          have := HB.out.size
          have := b6.size
          show _ ≤ _
          omega
        have XS : Hid (U.size = 5) := by show _ = _; rw [hU]; rfl
        have XO : Hid (∀ v ∈ U.toList, v.oneCell' = true) := by
          have e := enc_one u
          rw [hU]
          exact e
        have HW6 : Hid (w5.alloc (.cells U UT) = w6 ∧ w5.heap.size = M) := ⟨hw6.symm, hM.symm⟩
        have LL : Hid (k = (usesOf now a E m ((l.take j).map (·.2))).length ∧ Below wr.heap.size wr w6 ∧ U.toList = enc u) := ⟨HP.out.1, b6, by rw [hU]; rfl⟩
        have hby : (k + 1) * inf.bytes ≤ 140737488355328 := Nat.le_trans (Nat.mul_le_mul (show k + 1 ≤ 1000001 by omega) HI.out.2.2.2) (by decide)
        clear B3 ell b45 br5 hw6 hM b6 b5 L4 CO HX HP B34 TK hu hU
        subst hct
        go_wp2_with (first | (refine Ld.wpList_build (by kernel_rfl) SlW UT _ rfl (.agg zU) 5 U (by rfl) XS.out (by decide) (by decide) Try.underlying38 (by kernel_rfl) ?_; rw [HW6.out.1, HW6.out.2]) | (at_builtin; refine wpList_append_own_at w6 rfl _ _ SlW rfl w.heap.size UT inf (.agg zU) 5 inf.bytes Try.underlying38 HI.out.1 HI.out.2.1 HI.out.2.2.1 rfl rfl (by decide) (.slice q' k c') k (flat enc (usesOf now a E m ((l.take j).map (·.2)))) (by rfl) OW.out ⟨M, 0, none⟩ 1 1 U.toList (by rfl) (by rw [Array.length_toList, XS.out]) NEW.out XO.out (by unfold maxLen; omega) hby BS.out ?_; intro v7 w7 ho7 hg7 hn7 ha7; obtain ⟨q7, c7, rfl⟩ := slc_own ho7))
        have FIN : Hid (∃ q'' c'' k', (Value.slice q7 (k + 1) c7) = .slice q'' k' c'' ∧ k' ≤ j + 1 ∧ Hid (k' = (usesOf now a E m ((l.take (j + 1)).map (·.2))).length ∧ w7.ownsRow w.heap.size UT 5 (.slice q'' k' c'') k' (flat enc (usesOf now a E m ((l.take (j + 1)).map (·.2)))))) := by
          refine ⟨q7, c7, k + 1, rfl, by omega, ?_, ?_⟩
          · rw [TK2.out, List.length_append, ← LL.out.1]
            rfl
          · rw [TK2.out]
            have e : flat enc (usesOf now a E m ((l.take j).map (·.2)) ++ [u]) = flat enc (usesOf now a E m ((l.take j).map (·.2))) ++ U.toList := by rw [LL.out.2.2]; simp [flat]
            rw [e]
            exact ho7
        have K72 : Hid (Below w.heap.size w w7) := (HB.out.trans (LL.out.2.1.mono HB.out.size)).grown hg7 BS.out (fun k e => own_lt' OW.out e)
        clear ho7 hg7 hn7 ha7 OW BS NEW XO XS HB LL TK2
        go_wp2_with fail
        go_roundg (n0 - (j + 1))
        case measure => omega
        case rel => exact ⟨j + 1, by push_cast; rfl, by omega, by omega, FIN.out, K72.out⟩
      | false =>
        rw [hct] at TK
        have b04 : Below wr.heap.size wr w4 := HX.out.2.trans (B34.out.mono HX.out.2.size)
        have FIN : Hid (∃ q'' c'' k', (Value.slice q' k c') = .slice q'' k' c'' ∧ k' ≤ j + 1 ∧ Hid (k' = (usesOf now a E m ((l.take (j + 1)).map (·.2))).length ∧ w4.ownsRow w.heap.size UT 5 (.slice q'' k' c'') k' (flat enc (usesOf now a E m ((l.take (j + 1)).map (·.2)))))) := by
          have e : usesOf now a E m ((l.take (j + 1)).map (·.2)) = usesOf now a E m ((l.take j).map (·.2)) := by
            rw [TK.out, if_neg (by simp)]
            exact List.append_nil _
          rw [e]
          exact ⟨q', c', k, rfl, by omega, HP.out.1, own_stays HP.out.2 fun g _ hg => b04.block g hg⟩
        have K : Hid (Below w.heap.size w w4) := HB.out.trans (b04.mono HB.out.size)
        clear HX HP HB TK L4 CO B34 b04
        subst hct
        go_wp2
        go_roundg (n0 - (j + 1))
        case measure => omega
        case rel => exact ⟨j + 1, by push_cast; rfl, by omega, by omega, FIN.out, K.out⟩
    · obtain rfl : j = n0 := by omega
      have el : l.take j = l := List.take_of_length_le (by have := HH.out.2.2.2.1; omega)
      obtain ⟨e1, ow⟩ := HP.out
      rw [el] at e1 ow
      obtain ⟨p, hp⟩ : ∃ p, p = usesOf now a E m (l.map (·.2)) := ⟨_, rfl⟩
      rw [← hp] at e1 ow
      have hpl : p.length < 1000000 := by omega
      subst e1
      have CS := Lib.hid (sort_own wr w.heap.size q' c' p ow hpl)
      have H1 := Lib.hid ow
      obtain ⟨mm, hmm⟩ : ∃ m, m = p.length := ⟨_, rfl⟩
      rw [← hmm] at CS H1 ⊢
      have HMM : Hid (mm = p.length) := hmm
      have HPE := Lib.hid hp
      clear ow HP hpl hmm el hp
      go_wp2_with fail
      refine CS.out.mono ?_
      rintro e w2 ⟨rfl, ⟨s, hs, os, ss, sm⟩, gb⟩
      have FIN : Hid ((∃ q'' c'' n', Ending.returned (.slice q' mm c') = .returned (.slice q'' n' c'') ∧ Hid (∃ s : List Us, n' = s.length ∧ w2.ownsRow w.heap.size UT 5 (.slice q'' n' c'') n' (flat enc s) ∧ Sorted s ∧ Same1 p s)) ∧ Below w.heap.size w w2) := by
        have bb : Below w.heap.size w w2 := HB.out.grown gb HB.out.size (fun k e => own_lt' H1.out e)
        exact ⟨⟨q', c', mm, rfl, s, by rw [hs, HMM.out], os, ss, sm⟩, bb⟩
      rw [HPE.out] at FIN
      clear hs os ss sm gb CS H1 HMM HH HB HPE
      go_wp2
      go_ret
      exact FIN.out
end Go.Proofs.Ytajkhbdniadkkaa.Qy
