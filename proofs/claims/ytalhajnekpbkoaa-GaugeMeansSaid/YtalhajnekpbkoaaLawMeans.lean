/- Proved here: the law GaugeMeans of layer 4 holds for every row of samples: the mean is that of the quantities that there are, rounded down. No conditions. -/
import Derived.Test.YtalhajnekpbkoaaGLawBase
import Derived.Test.YtalhajnekpbkoaaGaugeM
import Derived.ChangeSlices
namespace Go.Proofs.Ytalhajnekpbkoaa.gaugeMeans
open Go.ChangeShapes Go.WideShapes Go.ChangeAt Go.RowKit
set_option linter.unusedVariables false

theorem long (a : Option Addr) (len cap : Nat) (w : World) (hl : 50 < len) (hm : len ≤ 9223372036854775807) :
    Calls Try.prog 7 #[.slice a len cap] w fun e w' => e = .returned (.bool true) ∧ Below w.heap.size w w' := by
  have t1 : (50 : Int) < (len : Int) := by omega
  go_enter Try.func7, Try.ntmps7
  go_wp2_with fail
  refine (lives_any _).mono ?_
  rintro e w1 ⟨rfl, k1, rfl⟩
  go_wp2_with fail
  refine (lives_any _).mono ?_
  rintro e w1 ⟨rfl, k2, rfl⟩
  go_wp2
  go_ret
  exact ⟨rfl, below_draw _ _ _⟩

set_option maxHeartbeats 1000000 in
theorem short (a : Option Addr) (c : Nat) (l : List Nat) (w : World) (hl : l.length ≤ 50) (h : Samp w a l) :
    Calls Try.prog 7 #[.slice a l.length c] w fun e w' => e = .returned (.bool true) ∧ Below w.heap.size w w' := by
  have HS := Lib.hid h
  have t1 : ¬ ((50 : Int) < (l.length : Int)) := by omega
  have O0 := Lib.hid (fun W : World => of_any W 0 (by decide))
  clear h
  go_enter Try.func7, Try.ntmps7
  go_wp2_with fail
  refine (lives_any _).mono ?_
  rintro e w1 ⟨rfl, k1, rfl⟩
  go_wp2_with fail
  refine (O0.out _).mono ?_
  rintro e w1 ⟨v1, rfl, n1, h1⟩
  have hb1 : Below w.heap.size w w1 := (Below.refl _ _).trans ⟨h1.os, h1.tape, h1.output, h1.size, h1.block⟩
  have n1' : Num w1 w.heap.size v1 0 := n1
  go_wp2_with fail
  go_loopw [3, 4, 26] (fun s n i wr => ∃ k N T : Nat, k ≤ l.length ∧ n = .int .i64 (N : Int) ∧ i = .int .i64 (k : Int) ∧ Hid (N = cnt (l.take k)) ∧ Hid (T = tot (l.take k)) ∧ Hid (Num wr w.heap.size s T) ∧ Below w.heap.size w wr) (fun _ _ i _ => l.length - (intOf i).toNat)
  case atStart => exact ⟨0, 0, 0, Nat.zero_le _, rfl, rfl, rfl, rfl, n1', hb1⟩
  case round =>
    obtain ⟨k, N, T, hk, rfl, rfl, hN, hT, hnum, hbel⟩ := hrel
    have bN : N ≤ 50 := by
      rw [hN.out]
      exact Nat.le_trans (cnt_le _) (by rw [List.length_take]; omega)
    have bT : T ≤ 50 * 9007199254740992 := by
      rw [hT.out]
      refine Nat.le_trans (tot_le _) (Nat.mul_le_mul_right _ ?_)
      rw [List.length_take]
      omega
    have HBEL := Lib.hid hbel
    by_cases hlt : k < l.length
    · obtain ⟨x, hx⟩ : ∃ x, l[k]? = some x := ⟨l[k], List.getElem?_eq_getElem hlt⟩
      obtain ⟨hx64, ad, rfl, had, hcell⟩ := HS.out k x hx
      have hcell2 : wr.cell? (ad.add k) = some (.int .u64 (x : Int)) := (hbel.cell (by rw [add_block]; exact had)).trans hcell
      have M := Lib.hid (fun W : World => lread_any x W hx64)
      have HX := Lib.hid hx
      have bx := rdV_le x
      by_cases hg : rdE x = 0
      · obtain ⟨m, hm⟩ : ∃ m, m = rdV x := ⟨_, rfl⟩
        rw [hg, ← hm] at M
        rw [← hm] at bx
        have HM := Lib.hid hm
        have HG := Lib.hid hg
        have hcv : IntKind.u64.wrap (m : Int) = (m : Int) := wrapN m (by omega)
        have O := Lib.hid (fun W : World => of_any W m (by omega))
        have B1 := Lib.hid (show T < 2 ^ 64 by omega)
        have B2 := Lib.hid (show m < 2 ^ 64 by omega)
        clear hcell hx had hx64 hm hg hbel
        go_wp2_with fail
        refine (M.out _).mono ?_
        rintro e w2 ⟨rfl, hb2⟩
        go_wp2_with fail
        refine (O.out _).mono ?_
        rintro e w3 ⟨v3, rfl, n3, hb3⟩
        have n4 := Lib.hid ((hnum.out.below hb2).below hb3)
        go_wp2_with fail
        refine (add_any 64 n4.out n3 B1.out B2.out (by decide)).mono ?_
        rintro e w4 ⟨v4, rfl, n5, hb4⟩
        have z2 := hb2.size
        have z3 := hb3.size
        have z0 := HBEL.out.size
        have hn5 := Lib.hid (n5.more (base' := w.heap.size) (by omega))
        have hB := Lib.hid (((HBEL.out.trans (hb2.mono z0)).trans (hb3.mono (by omega))).trans (hb4.mono (by omega)))
        clear n3 n5 hb2 hb3 hb4 z2 z3 z0
        go_wp2_with fail
        refine ⟨⟨k + 1, N + 1, T + m, hlt, by go_num, by go_num, ?_, ?_, hn5, hB.out⟩, by simp [intOf]; omega⟩
        · show _ = _
          rw [cnt_more HX.out HG.out, ← hN.out]
        · show _ = _
          rw [tot_more HX.out, ← hT.out, ← HM.out]
      · obtain ⟨m, hm⟩ : ∃ m, m = rdV x := ⟨_, rfl⟩
        obtain ⟨q, hq⟩ : ∃ q, q = rdE x := ⟨_, rfl⟩
        rw [← hq, ← hm] at M
        have hz : rdV x = 0 := rdV_bad hg
        have hq0 : ((q : Int) == 0) = false := by rw [hq]; simpa using hg
        have HM := Lib.hid hz
        have HG := Lib.hid hg
        clear hcell hx had hx64 hm hg hbel hq hz bx
        go_wp2_with fail
        refine (M.out _).mono ?_
        rintro e w2 ⟨rfl, hb2⟩
        have n4 := Lib.hid (hnum.out.below hb2)
        have hB := Lib.hid (HBEL.out.trans (hb2.mono HBEL.out.size))
        clear hb2
        go_wp2_with fail
        refine ⟨⟨k + 1, N, T, hlt, rfl, by go_num, ?_, ?_, n4, hB.out⟩, by simp [intOf]; omega⟩
        · show _ = _
          rw [cnt_same HX.out HG.out, ← hN.out]
        · show _ = _
          rw [tot_more HX.out, ← hT.out, HM.out, Nat.add_zero]
    · obtain rfl : k = l.length := by omega
      have eN : N = cnt l := by rw [hN.out, List.take_length]
      have eT : T = tot l := by rw [hT.out, List.take_length]
      have M := Lib.hid (fun (W : World) (hs : Samp W a l) => mean_any W a c l hl hs)
      rw [← eN, ← eT] at M
      obtain ⟨Q, hQ⟩ : ∃ Q, Q = T / N := ⟨_, rfl⟩
      rw [← hQ] at M
      have hQ2 : Q ≤ T := by rw [hQ]; exact Nat.div_le_self _ _
      have HQ := Lib.hid hQ
      have HS2 := Lib.hid (HS.out.below hbel)
      have O := Lib.hid (fun W : World => of_any W N (by omega))
      have B1 := Lib.hid (show T < 2 ^ 64 by omega)
      have B2 := Lib.hid (show N < 2 ^ 64 by omega)
      have B3 := Lib.hid (show Q < 2 ^ 64 by omega)
      have lo : low Q = Q := low_of (by omega)
      have LO := Lib.hid lo
      have hcv : IntKind.u64.wrap (N : Int) = (N : Int) := wrapN N (by omega)
      have hcv2 : IntKind.u64.wrap (Q : Int) = (Q : Int) := wrapN Q (by omega)
      clear eN eT hN hT hbel hQ2 lo
      rcases Nat.eq_zero_or_pos N with rfl | h0
      · obtain rfl : Q = 0 := by rw [hQ, Nat.div_zero]
        clear hQ
        go_wp2_with fail
        refine (M.out _ HS2.out).mono ?_
        rintro e w2 ⟨rfl, hb2⟩
        have hB := Lib.hid (HBEL.out.trans (hb2.mono HBEL.out.size))
        clear hb2
        go_wp2
        go_ret
        exact ⟨rfl, hB.out⟩
      · have t2 : ((N : Int) == 0) = false := by simp; omega
        have H0 := Lib.hid h0
        clear hQ h0
        go_wp2_with fail
        refine (M.out _ HS2.out).mono ?_
        rintro e w2 ⟨rfl, hb2⟩
        go_wp2_with fail
        refine (O.out _).mono ?_
        rintro e w3 ⟨v3, rfl, n3, hb3⟩
        have n4 := Lib.hid ((hnum.out.below hb2).below hb3)
        go_wp2_with fail
        refine (div_any 64 n4.out n3 B1.out B2.out H0.out (by decide)).mono ?_
        rintro e w4 ⟨v4, v5, rfl, n5, n6, hb4⟩
        rw [← HQ.out] at n5
        have z2 := hb2.size
        have z3 := hb3.size
        have z0 := HBEL.out.size
        have hB := Lib.hid (((HBEL.out.trans (hb2.mono z0)).trans (hb3.mono (by omega))).trans (hb4.mono (by omega)))
        clear n3 n6 hb2 hb3 hb4 z2 z3 z0
        go_wp2_with fail
        refine (number_num n5 64 B3.out (by decide)).mono ?_
        rintro e w' ⟨rfl, rfl⟩
        rw [LO.out]
        go_wp2
        go_ret
        exact ⟨by simp, hB.out⟩

theorem nats_of (zs : List Int) (h : ∀ z ∈ zs, (Lit.int .u64 z).wf = true) : ∃ l : List Nat, l.map (fun (x : Nat) => (x : Int)) = zs ∧ ∀ x ∈ l, x < 18446744073709551616 := by
  induction zs with
  | nil => exact ⟨[], rfl, fun x hx => by cases hx⟩
  | cons z zs ih =>
    obtain ⟨l, h1, h2⟩ := ih (fun y hy => h y (List.mem_cons_of_mem _ hy))
    obtain ⟨n, rfl, hn⟩ := nat_of_wf (h z List.mem_cons_self)
    refine ⟨n :: l, by rw [List.map_cons, h1], fun x hx => ?_⟩
    rcases List.mem_cons.1 hx with rfl | hx
    · exact hn
    · exact h2 x hx

theorem walk (a : Option Addr) (c : Nat) (l : List Nat) (w : World) (hm : l.length ≤ 9223372036854775807) (h : Samp w a l) :
    Calls Try.prog 7 #[.slice a l.length c] w fun e w' => e = .returned (.bool true) ∧ Below w.heap.size w w' := by
  by_cases hl : l.length ≤ 50
  · exact short a c l w hl h
  · exact long a l.length c w (by omega) hm

theorem c_u64 : Try.prog.cellsOf 22 = 1 := by kernel_rfl
/-! ### THE ROW's STEP -/
set_option maxRecDepth 100000 in
theorem lifted (os : Os) (started : os.Started) (H : Type) (enc : TypeId × Value → H) :
    ReturnsInHanded {} Try.checked os 7 .any (Rows.gaugeMeansSpec.pre6 enc Try.prog Try.f7 Rows.gaugeMeansRow.domain false) (Rows.gaugeMeansSpec.post enc Try.prog Try.f7 false true false false) := by
  refine returnsInHanded_of_change (C := Try.checked) own started (by kernel_rfl) Try.func7
    (ChangeSpec.witness6 (enc := enc) (C := Try.checked) false ⟨#[], #[.slice none 0 0], []⟩ 8 (by kernel_rfl) (by kernel_rfl) (by kernel_rfl) (by kernel_rfl)) ?_
  intro W base args ds gs before hval0 hW hcnd _
  have hval : ∀ (j : Nat) t v, Try.f7.params[j]? = some t → args[j]? = some v → Value.okWide Try.prog W .any base t v := hval0
  have hW' := hW
  obtain ⟨p, q, hA0, hV, rfl, hfz, hnd⟩ := hW
  have hA : DataW.TrodAll enc Try.prog W 0 (fun _ => true) true Try.f7.params.toList args.toList ds p := hA0
  rw [Try.params7] at hA hval
  obtain ⟨v0, d0, rfl, rfl, h0⟩ := trodAll_one hA
  obtain ⟨rfl, rfl⟩ := trodVars_none hV
  obtain ⟨a0, len, cap, rfl⟩ := okWide_slice Try.underlying39 (hval 0 39 v0 rfl rfl)
  obtain ⟨fuel, hf⟩ := h0
  clear hA0 hval0
  simp only [List.append_nil] at hW'
  rcases open_ints Try.underlying39 Try.underlying22 c_u64 hf with ⟨hcs, hx⟩ | ⟨a, len', cap', zs, hcs, _, hl, hm, hz, hx, hcell, hwz⟩
  · simp [Value.cells] at hcs
    obtain ⟨rfl, rfl, rfl⟩ := hcs
    simp only [Prod.mk.injEq] at hx
    obtain ⟨rfl, rfl⟩ := hx
    refine (walk none 0 [] W (by decide) (fun j x hj => by simp at hj)).mono fun e W' ⟨he, hg⟩ => ?_
    subst he
    exact ⟨_, rfl, post_below hW' hg (fun _ _ _ => trodAll_mk1 (shut_bool Try.underlying4 _)) (fun sp _ => trodAll_mk1 (shut_slice_nil Try.underlying39)) (fun _ => rfl) (ok_one (by kernel_rfl) rfl (okWide_bool_mk Try.underlying4 _))⟩
  · simp [Value.cells] at hcs
    obtain ⟨rfl, rfl, rfl⟩ := hcs
    simp only [Prod.mk.injEq] at hx
    obtain ⟨rfl, rfl⟩ := hx
    simp only [if_true] at hz
    have hlen : (zs.take len).length = len := by rw [List.length_take]; omega
    obtain ⟨l, hl1, hl2⟩ := nats_of (zs.take len) (fun z hz => hwz z (List.mem_of_mem_take hz))
    have hll : l.length = len := by rw [← hl1, List.length_map] at hlen; exact hlen
    have hs : Samp W (some a) l := fun j x hj => by
      have hj2 : j < len := by rw [← hll]; exact (List.getElem?_eq_some_iff.1 hj).1
      have hc := hcell j (by omega)
      have hz : zs.getD j 0 = (x : Int) := by
        have h3 : (zs.take len)[j]? = some (x : Int) := by rw [← hl1, List.getElem?_map, hj]; rfl
        rw [List.getElem?_take_of_lt hj2] at h3
        rw [List.getD_eq_getElem?_getD, h3]
        rfl
      rw [hz] at hc
      refine ⟨hl2 x (List.mem_of_getElem? hj), a, rfl, ?_, hc⟩
      rcases Nat.lt_or_ge (a.add j).block W.heap.size with h' | h'
      · rwa [add_block] at h'
      · simp [World.cell?, Array.getElem?_eq_none h'] at hc
    have fin : Calls Try.prog 7 #[.slice (some a) len cap] W fun e W' => e = .returned (.bool true) ∧ Below W.heap.size W W' := by
      have := walk (some a) cap l W (by rw [hll]; unfold maxLen at hm; omega) hs
      rwa [hll] at this
    refine fin.mono fun e W' ⟨he, hg⟩ => ?_
    subst he
    have hcell' : ∀ i, i < zs.length → W'.cell? (a.add i) = some (.int .u64 (zs.getD i 0)) := fun i hi => by
      have h := hcell i hi
      rw [← h]
      refine hg.cell ?_
      rcases Nat.lt_or_ge (a.add i).block W.heap.size with h' | h'
      · exact h'
      · simp [World.cell?, Array.getElem?_eq_none h'] at h
    have again : ∀ sp : Nat → Bool, (∀ p ∈ MemPlace.row a zs.length, sp p.block = true) → DataW.TrodAll enc Try.prog W' 0 sp true [39] [.slice (some a) len cap] [.slice (lits .u64 (zs.take len)) (lits .u64 (zs.drop len))] (MemPlace.row a zs.length) := by
      intro sp hsp
      by_cases hz0 : zs.length = 0
      · have hc0 : cap = 0 := by omega
        have hl0 : len = 0 := by omega
        subst hc0; subst hl0
        have t0 := shut_ints (enc := enc) (w := W') (base := 0) (spare := sp) (held := true) (a := a) (len := 0) (cap := 0) (zs := zs) 0 Try.underlying39 Try.underlying22 c_u64 (Nat.zero_le _) (Nat.le_refl _) hm (by simp [hz0]) hcell' hwz
        exact trodAll_mk1 ⟨2, by simpa [Value.cells] using t0⟩
      · have hspb : sp a.block = true := by
          have := hsp (.cell a.block a.off) (MemPlace.mem_row.2 ⟨0, by omega, by simp⟩)
          exact this
        have t0 := shut_ints (enc := enc) (w := W') (base := 0) (spare := sp) (held := true) (a := a) (len := len) (cap := cap) (zs := zs) 0 Try.underlying39 Try.underlying22 c_u64 (Nat.zero_le _) hl hm (by simp [hspb, hz]) hcell' hwz
        exact trodAll_mk1 ⟨2, by simpa [Value.cells] using t0⟩
    refine ⟨_, rfl, post_below hW' hg (fun _ _ _ => trodAll_mk1 (shut_bool Try.underlying4 _)) (fun sp hsp => again sp (fun p hp => hsp p (by simpa using hp))) (fun _ => rfl) (ok_one (by kernel_rfl) rfl (okWide_bool_mk Try.underlying4 _))⟩

theorem over : Rows.gaugeMeansRow.holds Try.pinned (OpenSpec.ofChange Rows.gaugeMeansSpec) :=
  OpenClaim.holds_of_wide 7 Try.f7 rfl rfl rfl rfl rfl rfl rfl ⟨rfl, rfl, rfl, rfl, rfl⟩ rfl rfl rfl rfl rfl (by kernel_rfl) Try.func7 (by kernel_rfl)
    (of_decide_eq_true (by kernel_rfl)) (by unfold Func.isWrapper; first | (rw [if_pos (by decide +kernel)]; kernel_rfl) | (rw [if_neg (by decide +kernel)]; exact ⟨rfl, rfl⟩))
    (fun os started H enc _ => lifted os started H enc)

/-- The statement. -/
theorem proved : Rows.GaugeMeansSaid :=
  over
#print axioms proved
end Go.Proofs.Ytalhajnekpbkoaa.gaugeMeans
