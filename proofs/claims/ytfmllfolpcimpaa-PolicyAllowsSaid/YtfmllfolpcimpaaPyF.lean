/- Layer 22 (policy): how far a behavior lets one go (Limit), of any row of policies, and of what was done. -/
import Derived.Test.YtfmllfolpcimpaaPyC
import Derived.Test.YtfmllfolpcimpaaPyD
import Derived.Test.YtfmllfolpcimpaaPyE
namespace Go.Proofs.Ytfmllfolpcimpaa.Py
open Go.RowKit Go.Shelf Go.Lib Go.Sort Go.Deep
open Go.Joins (cell_of_block unfrozen_of_block block_setCell)
open Go.Proofs.Ytfmllfolpcimpaa.Ow
set_option linter.unusedVariables false
set_option linter.unusedSimpArgs false
set_option maxRecDepth 20000

abbrev BehT : TypeId := 34
/-- How far each policy lets one go. -/
def limsS (pol : List Pol) (l : List Sca) (now there : Int) (up : Bool) : List Int := pol.map fun p => limS p (startS now p.2.2 there up l) up
/-- How far a behavior lets one go. -/
def LimS (pk : Int) (pol : List Pol) (l : List Sca) (now there : Int) (up : Bool) : Int :=
  if (pk = 0 ∨ pk = 1) ∧ pol ≠ [] then if decide (pk = 0) = up then maxZ (limsS pol l now there up) else minZ (limsS pol l now there up) else cnt there
theorem box_beh (wr : World) (win pk : Int) (v : Value) : ∃ wb E, Hid (wr.alloc (.cells #[.int .i64 win, .int .i64 pk, v] BehT) = wb ∧ wr.heap.size = E) ∧ Below wr.heap.size wr wb ∧ wb.heap[E]? = some (.cells #[.int .i64 win, .int .i64 pk, v] BehT (0, 0)) := by
  have e : (wr.alloc (.cells #[.int .i64 win, .int .i64 pk, v] BehT)).heap[wr.heap.size]? = some (.cells #[.int .i64 win, .int .i64 pk, v] BehT (0, 0)) := heap_alloc_new _ _
  exact ⟨_, _, ⟨rfl, rfl⟩, ((Gr.refl wr).alloc _).below, e⟩

theorem own_ne {w : World} {N : Nat} {E T : TypeId} {k n sp : Nat} {v : Value} {xs : List Value} {cs : Array Value} {fz : Nat × Nat} (h : w.ownsRow N E k v n xs) (hs : w.heap[sp]? = some (.cells cs T fz)) (hne : T ≠ E) : v.ownBlock ≠ some sp := by
  rcases h.2 with ⟨rfl, rfl⟩ | ⟨g, cap, cur, rfl, _, hg, _⟩
  · intro e; cases e
  · intro e
    simp [Value.ownBlock] at e
    subst e
    rw [hs] at hg
    simp only [Option.some.injEq, Obj.cells.injEq] at hg
    exact hne hg.2.1

set_option maxHeartbeats 4000000 in
theorem Lim_none (w : World) (win pk : Int) (qp : Option Addr) (m cp : Nat) (h : (pk ≠ 0 ∧ pk ≠ 1) ∨ m = 0) (V : Value) (now there : Int) (up : Bool) :
    Calls Try.prog 11 #[.agg #[.int .i64 win, .int .i64 pk, .slice qp m cp], V, .int .i64 now, .int .i64 there, .bool up] w fun e w' => e = .returned (.int .i64 (cnt there)) ∧ Below w.heap.size w w' := by
  have CC := Lib.hid (fun W => py_cnt there W)
  obtain ⟨wb, E, HW, bb, bE⟩ := box_beh w win pk (.slice qp m cp)
  have BB := Lib.hid bb
  have b1 := cell_of_block bE 1
  have b2 := cell_of_block bE 2
  have key : Hid (((pk == 0) = false ∧ (pk == 1) = false) ∨ ((pk == 0) = true ∧ m = 0) ∨ ((pk == 0) = false ∧ (pk == 1) = true ∧ m = 0)) := by
    by_cases h0 : pk = 0
    · rcases h with h | h
      · exact absurd h0 h.1
      · exact .inr (.inl ⟨by simpa using h0, h⟩)
    · by_cases h1 : pk = 1
      · rcases h with h | h
        · exact absurd h1 h.2
        · exact .inr (.inr ⟨by simpa using h0, by simpa using h1, h⟩)
      · exact .inl ⟨by simpa using h0, by simpa using h1⟩
  clear h bb bE
  rcases key.out with ⟨t0, t1⟩ | ⟨t0, rfl⟩ | ⟨t0, t1, rfl⟩
  all_goals
    clear key
    go_enter Try.func11, Try.ntmps11
    go_upto_region 1 with fail
    rw [HW.out.1, HW.out.2]
    go_wp2_with fail
    refine (CC.out _).mono ?_
    rintro e w1 ⟨rfl, rfl⟩
    go_wp2
    go_ret
    exact ⟨rfl, BB.out⟩

set_option maxHeartbeats 16000000 in
theorem py_Limit (w : World) (win pk : Int) (qp : Option Addr) (cp : Nat) (pol : List Pol) (hrp : RowR 3 encP w qp pol) (hpl : pol.length ≤ 1000000) (hpp : ∀ x ∈ pol, x.2.2 < 9223372036854775808)
    (q : Option Addr) (c : Nat) (l : List Sca) (hr : RowR 3 encS w q l) (hl : l.length ≤ 1000000) (hi : ∀ x ∈ l, I64 x.1) (now there : Int) (up : Bool) (hn : I64 now) :
    Calls Try.prog 11 #[.agg #[.int .i64 win, .int .i64 pk, .slice qp pol.length cp], .slice q l.length c, .int .i64 now, .int .i64 there, .bool up] w fun e w' => e = .returned (.int .i64 (LimS pk pol l now there up)) ∧ Below w.heap.size w w' := by
  by_cases h : (pk = 0 ∨ pk = 1) ∧ pol ≠ []
  case neg =>
    have e : LimS pk pol l now there up = cnt there := by unfold LimS; rw [if_neg h]
    rw [e]
    refine Lim_none w win pk qp _ cp ?_ _ now there up
    by_cases h2 : pol = []
    · exact .inr (by rw [h2]; rfl)
    · exact .inl ⟨fun h0 => h ⟨.inl h0, h2⟩, fun h0 => h ⟨.inr h0, h2⟩⟩
  have mixed : Try.prog.follows .mixedOrders = true := by kernel_rfl
  obtain ⟨ls, hls⟩ : ∃ ls, ls = limsS pol l now there up := ⟨_, rfl⟩
  obtain ⟨R, hR⟩ : ∃ R, R = LimS pk pol l now there up := ⟨_, rfl⟩
  have eR : R = if decide (pk = 0) = up then maxZ ls else minZ ls := by rw [hR, hls]; unfold LimS; rw [if_pos h]
  rw [← hR]
  obtain ⟨n, hnl⟩ : ∃ n, n = l.length := ⟨_, rfl⟩
  obtain ⟨m, hm⟩ : ∃ m, m = pol.length := ⟨_, rfl⟩
  have lsl : ls.length = m := by rw [hls, hm]; unfold limsS; rw [List.length_map]
  have h1 : 1 ≤ m := by
    rw [hm]
    cases pol with
    | nil => exact absurd rfl h.2
    | cons x r => simp
  have CST : Hid (∀ x ∈ pol, ∀ W, Below w.heap.size w W → Calls Try.prog 13 #[.slice q n c, .int .i64 now, .int .i64 x.2.2, .int .i64 there, .bool up] W fun e w' => e = .returned (.int .i64 (startS now x.2.2 there up l)) ∧ Below W.heap.size W w') := fun x hx W b => by
    rw [hnl]
    exact py_start W q c l (hr.below b) hl hi now x.2.2 there up hn (hpp x hx)
  have CLI : Hid (∀ (x : Pol) (W : World), Calls Try.prog 12 #[.agg #[.bool x.1, .int .i64 x.2.1, .int .i64 x.2.2], .int .i64 (startS now x.2.2 there up l), .bool up] W fun e w' => e = .returned (.int .i64 (limS x (startS now x.2.2 there up l) up)) ∧ Below W.heap.size W w') := fun x W =>
    py_limit W x _ (startS_range _ _ _ _ _).1 (startS_range _ _ _ _ _).2 up
  have LS : Hid (∀ j x, pol[j]? = some x → ls.take (j + 1) = ls.take j ++ [limS x (startS now x.2.2 there up l) up]) := fun j x hx => by
    rw [hls]
    unfold limsS
    rw [← List.map_take, ← List.map_take, List.take_add_one, hx, List.map_append]
    rfl
  have CMX : Hid (∀ W q' c', RowR 1 encZ W q' ls → Calls Try.prog 14 #[.slice q' m c'] W fun e w' => e = .returned (.int .i64 (maxZ ls)) ∧ W = w') := fun W q' c' hr' => by
    have := py_max W q' c' ls hr' (by omega) (by omega)
    rw [lsl] at this
    exact this
  have CMN : Hid (∀ W q' c', RowR 1 encZ W q' ls → Calls Try.prog 15 #[.slice q' m c'] W fun e w' => e = .returned (.int .i64 (minZ ls)) ∧ W = w') := fun W q' c' hr' => by
    have := py_min W q' c' ls hr' (by omega) (by omega)
    rw [lsl] at this
    exact this
  obtain ⟨wb, E, HW, bb, bE⟩ := box_beh w win pk (.slice qp m cp)
  obtain ⟨N, hN⟩ : ∃ N, N = wb.heap.size := ⟨_, rfl⟩
  have b1 := cell_of_block bE 1
  have b2 := cell_of_block bE 2
  obtain ⟨ii, hii, hz0, hz1, hz2⟩ := info_InT
  have HI := Lib.hid (And.intro hii (And.intro hz0 (And.intro hz1 hz2)))
  have hNb : N ≤ wb.heap.size := Nat.le_of_eq hN
  have HH := Lib.hid (And.intro hrp (And.intro hN (And.intro hm (And.intro lsl (And.intro bb (And.intro bE hNb))))))
  have tm : ((m : Int) == 0) = false := by simp; omega
  rw [← hm]
  rw [← hnl]
  rw [← hm] at hpl
  have ER := Lib.hid eR
  have m1 := Lib.hid h1
  have key : Hid ((pk == 0) = true ∧ decide (pk = 0) = true ∨ (pk == 0) = false ∧ (pk == 1) = true ∧ decide (pk = 0) = false) := by
    rcases h.1 with e | e
    · exact .inl ⟨by simpa using e, decide_eq_true e⟩
    · exact .inr ⟨by rw [e]; rfl, by simpa using e, decide_eq_false (by omega)⟩
  clear hrp hpp hr hl hi hn h hls hR eR hnl hm lsl h1 bb bE hN hii hz0 hz1 hz2 hNb
  rcases key.out with ⟨t0, t1⟩ | ⟨t0, t1, t2⟩
  all_goals
    clear key
    go_enter Try.func11, Try.ntmps11
    go_upto_region 1 with fail
    rw [HW.out.1, HW.out.2]
    go_wp2_with (at_make; refine wpList_make_own wb rfl _ _ _ rfl N InT ii _ 1 Try.underlying29 HI.out.1 HI.out.2.1 HI.out.2.2.1 .i64 .i64 _ m rfl rfl rfl (by rw [HI.out.2.2.2]; omega) (by unfold maxLen; omega) HH.out.2.2.2.2.2.2 ?_; intro w1 ho1 hg1; have e1 := (hg1.block E (Array.getElem?_eq_some_iff.1 HH.out.2.2.2.2.2.1).1 (by simp)).trans HH.out.2.2.2.2.2.1; have d2 := cell_of_block e1 2)
    have S0 : Hid (OwnZ N w1 (.slice (some ⟨wb.heap.size, 0, none⟩) 0 m) (ls.take 0) ∧ Below N wb w1) := ⟨ho1, (Below.refl _ wb).grown hg1 (Nat.le_of_eq HH.out.2.1) (by simp)⟩
    clear ho1 hg1 e1 d2 b1 b2 HI tm
    go_loopg [12, 40] m (fun g1 v12 vi wr => ∃ (j c12 : Nat) (q12 : Option Addr), vi = .int .i64 (j : Int) ∧ j ≤ m ∧ m - j ≤ g1 ∧ v12 = .slice q12 j c12 ∧ Hid (OwnZ N wr (.slice q12 j c12) (ls.take j) ∧ Below N wb wr))
    case atStart => exact ⟨0, m, _, rfl, Nat.zero_le _, by omega, rfl, S0.out⟩
    case round =>
      clear S0
      obtain ⟨j, c12, q12, rfl, h1, h2, rfl, HS⟩ := hrel
      by_cases hlt : j < m
      · obtain ⟨hrp, hN, hm, lsl, bb, bE, hNb⟩ := HH.out
        obtain ⟨x, hx⟩ : ∃ x, pol[j]? = some x := ⟨pol[j]'(by omega), List.getElem?_eq_getElem (by omega)⟩
        obtain ⟨fo, bl⟩ := HS.out
        have hNr : N ≤ wr.heap.size := Nat.le_trans hNb bl.size
        have blw : Below w.heap.size w wr := bb.trans (bl.mono (by rw [hN]; exact bb.size))
        obtain ⟨gb, off, rfl, c0, c1, c2⟩ := pol_at hrp blw hx
        have CS1 := CST.out x (List.mem_of_getElem? hx)
        have CL1 := CLI.out x
        have LS1 := LS.out j x hx
        obtain ⟨xb, xv, xp⟩ := x
        dsimp only at c0 c1 c2 CS1 CL1 LS1
        obtain ⟨S, hS⟩ : ∃ S, S = startS now xp there up l := ⟨_, rfl⟩
        rw [← hS] at CS1 CL1 LS1
        obtain ⟨V, hV⟩ : ∃ V, V = limS (xb, xv, xp) S up := ⟨_, rfl⟩
        rw [← hV] at CL1 LS1
        obtain ⟨wd, D, HD, bd, bD, e0, e1, e2⟩ := box_pol wr xb xv xp
        have DD := Lib.hid bD
        have BW := Lib.hid (And.intro (blw.trans (bd.mono blw.size)) (And.intro (fo.below bd) (And.intro (Nat.le_trans hNr bd.size) (bl.trans (bd.mono hNr)))))
        have NX1 := Lib.hid LS1
        have CS2 := Lib.hid CS1
        have CL2 := Lib.hid CL1
        have LN : Hid ((ls.take j).length = j) := by show _ = _; rw [List.length_take]; omega
        clear hrp hN hm lsl bb bE hNb hx fo bl blw hS hV bd bD hNr CS1 CL1 LS1
        go_upto_region 8 with fail
        rw [HD.out.1, HD.out.2]
        have KP : Hid (∀ ws : World, ws.heap[D]? = some (.cells #[.bool xb, .int .i64 xv, .int .i64 xp] PolT (0, 0)) → ws.cell? ⟨D, 0, none⟩ = some (.bool xb) ∧ ws.cell? ⟨D, 1, none⟩ = some (.int .i64 xv) ∧ ws.cell? ⟨D, 2, none⟩ = some (.int .i64 xp)) := fun ws e =>
          ⟨cell_of_block e 0, cell_of_block e 1, cell_of_block e 2⟩
        have GD : Hid (Below wd.heap.size wd wd.drew) := ((Gr.refl wd).drewN 1).below
        have SD : Hid (∀ ws : World, Below wd.heap.size wd ws → ws.heap[D]? = some (.cells #[.bool xb, .int .i64 xv, .int .i64 xp] PolT (0, 0))) := fun ws b => (b.block D (Array.getElem?_eq_some_iff.1 DD.out).1).trans DD.out
        refine wp_region_held_drew (S := fun ws => ws.heap[D]? = some (.cells #[.bool xb, .int .i64 xv, .int .i64 xp] PolT (0, 0))) mixed (SD.out _ GD.out) (fun hS => ?_)
        refine wpAnyH_takeD (i := 0) (d := 44) (v := .slice q12 j c12) _ rfl rfl (by kernel_rfl) (by kernel_rfl) (by kernel_rfl) (fun _ _ _ h => h) (Or.inl ⟨by kernel_rfl, fun ws hSw => by first | (go_simp; done) | (go_simp; with_reducible rfl) | (go_simp; rfl)⟩) hS ?_
        simp only [Act.put, List.setIfInBounds_toArray, List.set_cons_zero, List.set_cons_succ]
        refine wpAnyH_takeD (i := 1) (d := 45) (v := .agg #[.bool xb, .int .i64 xv, .int .i64 xp]) _ rfl rfl (by kernel_rfl) (by kernel_rfl) (by kernel_rfl) (fun _ _ _ h => h) (Or.inl ⟨by kernel_rfl, fun ws hSw => by have q := KP.out ws hSw; first | (go_simp; done) | (go_simp; with_reducible rfl) | (go_simp; rfl)⟩) hS ?_
        simp only [Act.put, List.setIfInBounds_toArray, List.set_cons_zero, List.set_cons_succ]
        refine wpAnyH_takeD (i := 2) (d := 46) (v := .slice q n c) _ rfl rfl (by kernel_rfl) (by kernel_rfl) (by kernel_rfl) (fun _ _ _ h => h) (Or.inl ⟨by kernel_rfl, fun ws hSw => by first | (go_simp; done) | (go_simp; with_reducible rfl) | (go_simp; rfl)⟩) hS ?_
        simp only [Act.put, List.setIfInBounds_toArray, List.set_cons_zero, List.set_cons_succ]
        refine wpAnyH_takeD (i := 3) (d := 47) (v := .int .i64 now) _ rfl rfl (by kernel_rfl) (by kernel_rfl) (by kernel_rfl) (fun _ _ _ h => h) (Or.inl ⟨by kernel_rfl, fun ws hSw => by first | (go_simp; done) | (go_simp; with_reducible rfl) | (go_simp; rfl)⟩) hS ?_
        simp only [Act.put, List.setIfInBounds_toArray, List.set_cons_zero, List.set_cons_succ]
        refine wpAnyH_takeD (i := 4) (d := 48) (v := .pointer (some ⟨D, 2, none⟩)) _ rfl rfl (by kernel_rfl) (by kernel_rfl) (by kernel_rfl) (fun _ _ _ h => h) (Or.inl ⟨by kernel_rfl, fun ws hSw => by first | (go_simp; done) | (go_simp; with_reducible rfl) | (go_simp; rfl)⟩) hS ?_
        simp only [Act.put, List.setIfInBounds_toArray, List.set_cons_zero, List.set_cons_succ]
        refine wpAnyH_takeD (i := 5) (d := 49) (v := .int .i64 xp) _ rfl rfl (by kernel_rfl) (by kernel_rfl) (by kernel_rfl) (fun _ _ _ h => h) (Or.inl ⟨by kernel_rfl, fun ws hSw => by have q := KP.out ws hSw; first | (go_simp; done) | (go_simp; with_reducible rfl) | (go_simp; rfl)⟩) hS ?_
        simp only [Act.put, List.setIfInBounds_toArray, List.set_cons_zero, List.set_cons_succ]
        refine wpAnyH_takeD (i := 6) (d := 50) (v := .int .i64 there) _ rfl rfl (by kernel_rfl) (by kernel_rfl) (by kernel_rfl) (fun _ _ _ h => h) (Or.inl ⟨by kernel_rfl, fun ws hSw => by first | (go_simp; done) | (go_simp; with_reducible rfl) | (go_simp; rfl)⟩) hS ?_
        simp only [Act.put, List.setIfInBounds_toArray, List.set_cons_zero, List.set_cons_succ]
        refine wpAnyH_takeD (i := 7) (d := 51) (v := .bool up) _ rfl rfl (by kernel_rfl) (by kernel_rfl) (by kernel_rfl) (fun _ _ _ h => h) (Or.inl ⟨by kernel_rfl, fun ws hSw => by first | (go_simp; done) | (go_simp; with_reducible rfl) | (go_simp; rfl)⟩) hS ?_
        simp only [Act.put, List.setIfInBounds_toArray, List.set_cons_zero, List.set_cons_succ]
        refine wpAnyH_takeD (i := 9) (d := 53) (v := .bool up) _ rfl rfl (by kernel_rfl) (by kernel_rfl) (by kernel_rfl) (fun _ _ _ h => h) (Or.inl ⟨by kernel_rfl, fun ws hSw => by first | (go_simp; done) | (go_simp; with_reducible rfl) | (go_simp; rfl)⟩) hS ?_
        simp only [Act.put, List.setIfInBounds_toArray, List.set_cons_zero, List.set_cons_succ]
        refine wpAnyH_ready (rs := [8]) (by kernel_rfl) (by simp) ?_
        refine AllReadyH.cons rfl (fun K hK => ?_) AllReadyH.nil
        go_simp
        refine (CS2.out _ (BW.out.1.trans (GD.out.mono BW.out.1.size))).mono ?_
        rintro e w5 ⟨rfl, b5⟩
        have G5 : Hid (Below wd.heap.size wd w5) := GD.out.trans (b5.mono GD.out.size)
        refine hK _ _ (SD.out _ G5.out) (fun hS => ?_)
        try simp only [Act.put, List.setIfInBounds_toArray, List.set_cons_zero, List.set_cons_succ]
        clear b5 GD
        refine wpAnyH_ready (rs := [10]) (by kernel_rfl) (by simp) ?_
        refine AllReadyH.cons rfl (fun K hK => ?_) AllReadyH.nil
        go_simp
        refine (CL2.out _).mono ?_
        rintro e w6 ⟨rfl, b6⟩
        have G6 : Hid (Below wd.heap.size wd w6) := G5.out.trans (b6.mono G5.out.size)
        refine hK _ _ (SD.out _ G6.out) (fun hS => ?_)
        try simp only [Act.put, List.setIfInBounds_toArray, List.set_cons_zero, List.set_cons_succ]
        clear b6 G5
        refine wpAnyH_ready (rs := [11]) (by kernel_rfl) (by simp) ?_
        refine AllReadyH.cons rfl (fun K hK => ?_) AllReadyH.nil
        go_simp
        obtain ⟨B, hB⟩ : ∃ B, B = w6.heap.size := ⟨_, rfl⟩
        obtain ⟨w7, hw7⟩ : ∃ x, x = w6.alloc (.cells #[.int .i64 V] InT) := ⟨_, rfl⟩
        have g7 : Below w6.heap.size w6 w7 := by rw [hw7]; exact ((Gr.refl w6).alloc _).below
        have y7 : w7.heap[B]? = some (.cells #[.int .i64 V] InT (0, 0)) := by rw [hw7, hB]; exact heap_alloc_new w6 _
        have G7 : Hid (Below wd.heap.size wd w7) := G6.out.trans (g7.mono G6.out.size)
        have HE : Hid (w6.alloc (.cells #[.int .i64 V] InT) = w7 ∧ w6.heap.size = B) := ⟨hw7.symm, hB.symm⟩
        have NEW : Hid (∀ (t : Nat) (u : Value), ([.int .i64 V] : List Value)[t]? = some u → w7.cell? ((⟨B, 0, none⟩ : Addr).add t) = some u) := fun t u hu => by
          have ea : (⟨B, 0, none⟩ : Addr).add t = ⟨B, t, none⟩ := by unfold Addr.add; split <;> simp_all
          rw [ea, cell_of_block y7, ← hu]
          simp
        rw [HE.out.1, HE.out.2]
        clear hw7 hB g7 y7 HE G6
        refine hK _ _ (SD.out _ G7.out) (fun hS => ?_)
        try simp only [Act.put, List.setIfInBounds_toArray, List.set_cons_zero, List.set_cons_succ]
        have OW : Hid (w7.ownsRow N InT 1 (.slice q12 j c12) j (flat encZ (ls.take j))) := by
          have := BW.out.2.1.below G7.out
          unfold OwnZ at this
          rw [LN.out] at this
          exact this
        have BS : Hid (N ≤ w7.heap.size) := Nat.le_trans BW.out.2.2.1 G7.out.size
        refine wpAnyH_ready (rs := [12]) (by kernel_rfl) (by simp) ?_
        refine AllReadyH.cons rfl (fun K hK => ?_) AllReadyH.nil
        refine step_appendS (by rfl) _ _ SlIn rfl N InT (.int .i64 0) 1 8 Try.underlying29 (by kernel_rfl) rfl (by decide) (.slice q12 j c12) j (flat encZ (ls.take j)) (by rfl) OW.out ⟨B, 0, none⟩ 1 1 [.int .i64 V] (by rfl) rfl NEW.out (by intro u hu; simp at hu; rw [hu]; rfl) (by unfold maxLen; omega) (by omega) BS.out ?_
        intro v8 w8 ho8 hg8 _
        obtain ⟨q8, c8, rfl⟩ := slc_own ho8
        have hne : (Value.slice q12 j c12).ownBlock ≠ some D := own_ne OW.out (SD.out _ G7.out) (by decide)
        refine hK _ _ ((hg8.block D (Array.getElem?_eq_some_iff.1 (SD.out _ G7.out)).1 (fun e => hne e.symm)).trans (SD.out _ G7.out)) (fun hS => ?_)
        try simp only [Act.put, List.setIfInBounds_toArray, List.set_cons_zero, List.set_cons_succ]
        refine wpAnyH_takeD (i := 13) (d := 12) (v := .slice q8 (j + 1) c8) _ rfl rfl (by kernel_rfl) (by kernel_rfl) (by kernel_rfl) (fun _ _ _ h => h) (Or.inl ⟨by kernel_rfl, fun ws hSw => by first | (go_simp; done) | (go_simp; with_reducible rfl) | (go_simp; rfl)⟩) hS ?_
        simp only [Act.put, List.setIfInBounds_toArray, List.set_cons_zero, List.set_cons_succ]
        refine wpAnyH_done (by kernel_rfl) ?_ _
        have NX : Hid (OwnZ N w8 (.slice q8 (j + 1) c8) (ls.take (j + 1)) ∧ Below N wb w8) := by
          rw [NX1.out]
          refine ⟨?_, (BW.out.2.2.2.trans (G7.out.mono BW.out.2.2.1)).trans (grown_low BS.out OW.out hg8)⟩
          unfold OwnZ
          rw [flat_appZ, List.length_append, LN.out]
          exact ho8
        clear OW BS NEW SD KP G7 hS ho8 hg8 hne BW NX1 LN CS2 CL2 DD HD c0 c1 c2 e0 e1 e2
        go_wp2
        go_roundg (m - (j + 1))
        case measure => omega
        case rel => exact ⟨j + 1, c8, q8, by push_cast; rfl, by omega, by omega, rfl, NX.out⟩
      · obtain rfl : j = m := by omega
        obtain ⟨hrp, hN, hm, lsl, bb, bE, hNb⟩ := HH.out
        obtain ⟨fo, bl⟩ := HS.out
        rw [List.take_of_length_le (by omega)] at fo
        have RZ := Lib.hid fo.row.2
        have CX := Lib.hid (CMX.out wr q12 c12 fo.row.2)
        have CN := Lib.hid (CMN.out wr q12 c12 fo.row.2)
        have BF : Hid (Below w.heap.size w wr) := bb.trans (bl.mono (by rw [hN]; exact bb.size))
        have b1 : wr.cell? ⟨E, 1, none⟩ = some (.int .i64 pk) := cell_of_block ((bl.block E (by rw [hN]; exact (Array.getElem?_eq_some_iff.1 bE).1)).trans bE) 1
        clear hrp hN hm lsl bb bE hNb fo bl HS CST CLI LS CMX CMN
        cases up
        all_goals
          go_wp2_with fail
          first
          | refine CX.out.mono ?_
          | refine CN.out.mono ?_
          rintro e w9 ⟨rfl, rfl⟩
          go_wp2
          go_ret
          refine ⟨?_, BF.out⟩
          first
          | (rw [ER.out, if_pos (by first | exact t1 | exact t2)]; rfl)
          | (rw [ER.out, if_neg (by first | (rw [t1]; decide) | (rw [t2]; decide))]; rfl)
end Go.Proofs.Ytfmllfolpcimpaa.Py
