/- Proved here: the law ProposalOf of layer 20 holds for every input: by what was scraped a metric of each kind asks for what its values ask for; and the chapter's example. No conditions. -/
import Derived.Test.YtajkhbdniadkkaaPk6
import Derived.Test.YtajkhbdniadkkaaPk8
import Derived.ChangeMaps5
namespace Go.Proofs.Ytajkhbdniadkkaa.proposalOf
open Go.ChangeShapes Go.WideShapes Go.ChangeAt Go.RowKit Go.Lib Go.Shelf Go.Sort Go.Deep
open Go.Joins (cell_of_block unfrozen_of_block block_setCell)
open Go.Proofs.Ytajkhbdniadkkaa.Ow Go.Proofs.Ytajkhbdniadkkaa.Pp Go.Proofs.Ytajkhbdniadkkaa.Ld Go.ChangeMaps
set_option linter.unusedVariables false
set_option linter.unusedSimpArgs false
set_option maxRecDepth 20000

abbrev RuT : TypeId := 31
theorem open_rules {H : Type} {enc : TypeId × Value → H} {W : World} {base : Nat} {v : Value} {d : DataW H} {p : List MemPlace} (o : Value.okWide Try.prog W .any base 31 v)
    (h : DataW.Trod enc Try.prog W 0 (fun _ => true) true 31 v d p) : ∃ n a : Int, v = .agg #[.int .i64 n, .int .i64 a] := by
  have c1 : Try.prog.cellsOf 3 = 1 := by kernel_rfl
  have c2 : Try.prog.cellsOf 31 = 2 := by kernel_rfl
  obtain ⟨cs, rfl, hs⟩ := okWide_struct Try.underlying31 o
  obtain ⟨fuel, hf⟩ := h
  have hf : DataW.trod enc Try.prog W 0 (fun _ => true) true fuel 31 cs.toList = some (d, p) := hf
  rw [c2] at hs
  obtain ⟨a, b, rfl⟩ : ∃ a b, cs = #[a, b] := by
    obtain ⟨l⟩ := cs
    match l, hs with
    | [a, b], _ => exact ⟨a, b, rfl⟩
  obtain ⟨y0, y1, k, _, _, t0, t1⟩ := trod_struct2 Try.underlying31 hf
  obtain ⟨s1, e1, _, z1⟩ := DataW.trod_int Try.underlying3 t0
  obtain ⟨s2, e2, _, z2⟩ := DataW.trod_int Try.underlying3 t1
  simp [c1] at e1 e2
  subst e1 e2
  exact ⟨s1, s2, rfl⟩

theorem ft_len {s : ByteArray} (h : ftT s = true) : s.size ≤ maxLen := by
  have := ftT_iff.1 h
  unfold maxLen
  omega
/-- Two boxes: the rules', the metric's. -/
theorem box2 (W : World) (n a : Int) (M : Array Value) : ∃ w1 B, Hid ((W.alloc (.cells #[.int .i64 n, .int .i64 a] RuT)).alloc (.cells M MT) = w1 ∧ W.heap.size = B) ∧ Below W.heap.size W w1 ∧ w1.heap[B]? = some (.cells #[.int .i64 n, .int .i64 a] RuT (0, 0)) ∧ w1.heap[B + 1]? = some (.cells M MT (0, 0)) := by
  refine ⟨_, _, ⟨rfl, rfl⟩, (((Gr.refl W).alloc _).alloc _).below, ?_, ?_⟩
  · rw [Below.heap_alloc _ _ _ (by simp)]
    exact heap_alloc_new W _
  · have := heap_alloc_new (W.alloc (.cells #[.int .i64 n, .int .i64 a] RuT)) (.cells M MT)
    simpa using this

set_option maxHeartbeats 4000000 in
/-- There is no book. -/
theorem none_ (W : World) (n a : Int) (ql : Option Addr) (cl L : Nat) (now : Int) (M : Array Value) (tg : ByteArray) (q : Option Addr) (N c : Nat) (r x : Int)
    (hb : ∀ w, Calls Try.prog 12 #[.agg #[.int .i64 n, .int .i64 a], .slice ql L cl] w fun r w' => r = .returned (.pointer none) ∧ Below w.heap.size w w') :
    Calls Try.prog 4 #[.agg #[.int .i64 n, .int .i64 a], .slice ql L cl, .int .i64 now, .agg M, .string tg, .slice q N c, .int .i64 r, .int .i64 x] W fun e w' => e = .returned (.bool true) ∧ Below W.heap.size W w' := by
  obtain ⟨w1, B, HW, Ba, y0, y1⟩ := box2 W n a M
  have CB := Lib.hid (hb w1)
  have V := Lib.hid (fun w => plives w)
  have c0 : w1.cell? ⟨B, 0, none⟩ = some (.int .i64 n) := cell_of_block y0 0
  have c1 : w1.cell? ⟨B, 1, none⟩ = some (.int .i64 a) := cell_of_block y0 1
  have HB := Lib.hid Ba
  clear Ba y0 y1 hb
  go_enter Try.func4, Try.ntmps4
  go_upto_region 1 with fail
  rw [HW.out.1, HW.out.2]
  go_wp2_with fail
  refine CB.out.mono ?_
  rintro e w2 ⟨rfl, b2⟩
  have B2 := Lib.hid (HB.out.trans (b2.mono HB.out.size))
  clear b2 CB c0 c1
  go_wp2_with fail
  refine (V.out _).mono ?_
  rintro e w3 ⟨rfl, b3⟩
  have B3 := Lib.hid (B2.out.trans (b3.mono B2.out.size))
  clear b3
  go_wp2_with fail
  refine (V.out _).mono ?_
  rintro e w4 ⟨rfl, b4⟩
  have B4 := Lib.hid (B3.out.trans (b4.mono B3.out.size))
  clear b4 V
  go_wp2
  go_ret
  exact ⟨rfl, B4.out⟩

set_option maxHeartbeats 4000000 in
/-- Too many pods. -/
theorem long (W : World) (n a : Nat) (hn : 1 ≤ n ∧ n ≤ 32) (ha : 1 ≤ a ∧ a ≤ 1800) (ql : Option Addr) (cl : Nat) (l : List Qy.Sp) (hl : Qy.Sps W ql l) (hL : l.length ≤ 100) (now : Int) (M : Array Value) (tg : ByteArray) (q : Option Addr) (N c : Nat) (hN : 40 < N) (r x : Int) :
    Calls Try.prog 4 #[.agg #[.int .i64 (n : Int), .int .i64 (a : Int)], .slice ql l.length cl, .int .i64 now, .agg M, .string tg, .slice q N c, .int .i64 r, .int .i64 x] W fun e w' => e = .returned (.bool true) ∧ Below W.heap.size W w' := by
  obtain ⟨w1, B, HW, Ba, y0, y1⟩ := box2 W n a M
  have hl1 : Qy.Sps w1 ql l := fun i x hx => by
    obtain ⟨ok, b, off, e, hb, x0, x1, x2, x3⟩ := hl i x hx
    exact ⟨ok, b, off, e, Nat.lt_of_lt_of_le hb Ba.size, (Ba.cell (p := ⟨b, _, none⟩) hb).trans x0, (Ba.cell (p := ⟨b, _, none⟩) hb).trans x1, (Ba.cell (p := ⟨b, _, none⟩) hb).trans x2, (Ba.cell (p := ⟨b, _, none⟩) hb).trans x3⟩
  have CB := Lib.hid (Qy.book_ok w1 n a hn ha ql cl l hl1 hL)
  obtain ⟨L, hLl⟩ : ∃ L, L = l.length := ⟨_, rfl⟩
  rw [← hLl] at CB
  rw [← hLl]
  have V := Lib.hid (fun w => plives w)
  have c0 : w1.cell? ⟨B, 0, none⟩ = some (.int .i64 (n : Int)) := cell_of_block y0 0
  have c1 : w1.cell? ⟨B, 1, none⟩ = some (.int .i64 (a : Int)) := cell_of_block y0 1
  have HB := Lib.hid Ba
  clear Ba y0 y1 hl1 hl hLl hL
  go_enter Try.func4, Try.ntmps4
  go_upto_region 1 with fail
  rw [HW.out.1, HW.out.2]
  go_wp2_with fail
  refine CB.out.mono ?_
  rintro e w2 ⟨bb, rfl, mb, E, sk⟩
  have B2 := Lib.hid (HB.out.trans (sk.low.mono HB.out.size))
  clear sk CB c0 c1
  go_wp2_with fail
  refine (V.out _).mono ?_
  rintro e w3 ⟨rfl, b3⟩
  have B3 := Lib.hid (B2.out.trans (b3.mono B2.out.size))
  clear b3
  go_wp2_with fail
  refine (V.out _).mono ?_
  rintro e w4 ⟨rfl, b4⟩
  have B4 := Lib.hid (B3.out.trans (b4.mono B3.out.size))
  clear b4 V
  go_wp2
  go_ret
  exact ⟨rfl, B4.out⟩

set_option maxHeartbeats 32000000 in
theorem some_ (W : World) (n a : Nat) (hn : 1 ≤ n ∧ n ≤ 32) (ha : 1 ≤ a ∧ a ≤ 1800) (ql : Option Addr) (cl : Nat) (l1 : List Qy.Sp) (hl : Qy.Sps W ql l1) (hL : l1.length ≤ 100) (now : Int) (hnow : now ≤ 9223372036854775807) (k : Int) (m : ByteArray) (hm : m.size ≤ maxLen) (t : Int) (tg : ByteArray) (htg : tg.size ≤ maxLen)
    (q : Option Addr) (c : Nat) (l : List Obv) (hr : RowR 47 encOb W q l) (hok : ∀ x ∈ l, ObjV W x.1.1 x.2 ∧ x.2.name.size ≤ maxLen) (hlen : ¬ 40 < l.length) (r x : Int) :
    Calls Try.prog 4 #[.agg #[.int .i64 (n : Int), .int .i64 (a : Int)], .slice ql l1.length cl, .int .i64 now, .agg (metC k m t), .string tg, .slice q l.length c, .int .i64 r, .int .i64 x] W fun e w' => e = .returned (.bool true) ∧ Below W.heap.size W w' := by
  have mixed : Try.prog.follows .mixedOrders = true := by kernel_rfl
  obtain ⟨M, hM⟩ : ∃ M, M = metC k m t := ⟨_, rfl⟩
  have sM : M.size = 3 := by rw [hM]; rfl
  rw [← hM]
  obtain ⟨w1, B, HW, Ba, y0, y1⟩ := box2 W n a M
  have hl1 : Qy.Sps w1 ql l1 := fun i x hx => by
    obtain ⟨ok, b, off, e, hb, x0, x1, x2, x3⟩ := hl i x hx
    exact ⟨ok, b, off, e, Nat.lt_of_lt_of_le hb Ba.size, (Ba.cell (p := ⟨b, _, none⟩) hb).trans x0, (Ba.cell (p := ⟨b, _, none⟩) hb).trans x1, (Ba.cell (p := ⟨b, _, none⟩) hb).trans x2, (Ba.cell (p := ⟨b, _, none⟩) hb).trans x3⟩
  have CB := Lib.hid (Qy.book_ok w1 n a hn ha ql cl l1 hl1 hL)
  obtain ⟨L, hLl⟩ : ∃ L, L = l1.length := ⟨_, rfl⟩
  rw [← hLl] at CB
  rw [← hLl]
  have V := Lib.hid (fun w => plives w)
  have c0 : w1.cell? ⟨B, 0, none⟩ = some (.int .i64 (n : Int)) := cell_of_block y0 0
  have c1 : w1.cell? ⟨B, 1, none⟩ = some (.int .i64 (a : Int)) := cell_of_block y0 1
  have OH : Hid (∀ (w : World) (bb mb : Nat) (E : List En), Below W.heap.size W w → Bk w bb mb n a E → OfH w bb now a E m q l.length c (Qy.usesOf now a E m (l.map (·.2)))) := fun w bb mb E low bk => OfH.mk_ W w low bb mb n a E bk now hnow m hm q c l hr hok (by omega)
  obtain ⟨N, hN⟩ : ∃ N, N = l.length := ⟨_, rfl⟩
  rw [← hN] at OH hlen
  rw [← hN]
  generalize l.map (·.2) = obs at OH
  have KP : Hid (∀ w, Below w1.heap.size w1 w → w.heap[B + 1]? = some (.cells M MT (0, 0))) := fun w b => (b.block (B + 1) (Array.getElem?_eq_some_iff.1 y1).1).trans y1
  have HB := Lib.hid Ba
  have HM := Lib.hid (And.intro hM (And.intro sM htg))
  have t40 : ¬ (40 : Int) < (N : Int) := by omega
  clear Ba y0 y1 hl1 hl hLl hL hr hok hnow hm hN hM sM htg
  go_enter Try.func4, Try.ntmps4
  go_upto_region 1 with fail
  rw [HW.out.1, HW.out.2]
  go_wp2_with fail
  refine CB.out.mono ?_
  rintro e w2 ⟨bb, rfl, mb, E, sk⟩
  have B2 := Lib.hid sk.low
  have K2 := Lib.hid sk.bk
  clear sk CB c0 c1
  go_wp2_with fail
  refine (V.out _).mono ?_
  rintro e w3 ⟨rfl, b3⟩
  have b13 : Below w1.heap.size w1 w3 := B2.out.trans (b3.mono B2.out.size)
  have B13 := Lib.hid b13
  have BW3 := Lib.hid (HB.out.trans (b13.mono HB.out.size))
  have H3 := Lib.hid (OH.out w3 bb mb E BW3.out (K2.out.gr b3))
  have y3 := KP.out w3 b13
  have LM := Lib.hid (load_met y3 HM.out.2.1)
  have d0 : w3.cell? ⟨B + 1, 0, none⟩ = some (.int .i64 k) := (cell_of_block y3 0).trans (by rw [HM.out.1]; rfl)
  clear b3 b13 V OH K2 B2 y3
  -- by the kind
  by_cases hk01 : k = 0 ∨ k = 1
  · have CO := Lib.hid (of_row w3 bb now a E m q N c _ H3.out k t r x tg hk01)
    rw [← HM.out.1] at CO
    clear d0
    go_wp2_with (refine wpList_load_by (by kernel_rfl) MT _ rfl (.pointer (some ⟨B + 1, 0, none⟩)) (.agg M) (by rfl) LM.out ?_)
    refine CO.out.mono ?_
    rintro e w4 ⟨⟨s1, hs1, rfl⟩, b4⟩
    have b14 : Below w1.heap.size w1 w4 := B13.out.trans (b4.mono B13.out.size)
    have y4 := KP.out w4 b14
    have d0 : w4.cell? ⟨B + 1, 0, none⟩ = some (.int .i64 k) := (cell_of_block y4 0).trans (by rw [HM.out.1]; rfl)
    have H4 := Lib.hid (H3.out.below b4)
    have B14 := Lib.hid b14
    clear b4 b14 CO LM H3 B13 BW3
    obtain ⟨rv, hrv⟩ : ∃ v, v = (rowA k t (s1.map cv) r x).1 := ⟨_, rfl⟩
    obtain ⟨re, hre⟩ : ∃ v, v = (rowA k t (s1.map cv) r x).2 := ⟨_, rfl⟩
    rw [← hrv, ← hre]
    have HE := Lib.hid (And.intro hrv hre)
    have CR : Hid (∀ ws q2 c2 k2 (s : List Qs.Us), s = s1 → k2 = (s.map cv).length → k2 ≤ 1000000 → RowR 5 encT ws q2 (s.map cv) → Calls Try.prog 14 #[.agg M, .slice q2 k2 c2, .int .i64 r, .int .i64 x] ws fun e w' => e = .returned (.tuple #[.int .i64 rv, .int .i64 re]) ∧ Below ws.heap.size ws w') := fun ws q2 c2 k2 s e0 e1 e2 hr => by
      subst e0
      rw [HM.out.1, e1, hrv, hre]
      exact pp_row ws k m t r x q2 c2 (s.map cv) hr (by omega)
    clear hrv hre
    have KM : Hid (∀ ws : World, Below w4.heap.size w4 ws → ws.rangeAt (B + 1) 0 M.toList) := fun ws b => ld_range ((b.block (B + 1) (Array.getElem?_eq_some_iff.1 y4).1).trans y4)
    have KC : Hid (∀ ws : World, Below w4.heap.size w4 ws → ws.cell? ⟨B + 1, 1, none⟩ = some (.string m)) := fun ws b => (cell_of_block ((b.block (B + 1) (Array.getElem?_eq_some_iff.1 y4).1).trans y4) 1).trans (by rw [HM.out.1]; rfl)
    have iM : (Try.prog.info? MT).map (·.size) = some M.toList.length := by rw [Array.length_toList, HM.out.2.1]; kernel_rfl
    clear y4
    rcases hk01 with hk | hk
    all_goals
      rw [hk] at d0
      clear hk
      go_upto_region 9 with fail
      refine wp_region_held_drew (S := fun ws => Below w4.heap.size w4 ws) mixed (Below.refl _ w4).drew (fun hS => ?_)
      refine wpAnyH_takeD (i := 0) (d := 58) (v := .agg M.toList.toArray) _ rfl rfl (by kernel_rfl) (by kernel_rfl) (by kernel_rfl) (fun _ _ _ h => h) (yieldsIf_load_mid (by kernel_rfl) _ _ rfl (B+1) 0 (by kernel_rfl) M.toList _ (fun ws hSw => KM.out ws hSw) Try.underlying24 rfl iM) hS ?_
      simp only [Act.put, List.setIfInBounds_toArray, List.set_cons_zero, List.set_cons_succ]
      refine wpAnyH_takeD (i := 1) (d := 59) (v := .pointer (some ⟨bb, 0, none⟩)) _ rfl rfl (by kernel_rfl) (by kernel_rfl) (by kernel_rfl) (fun _ _ _ h => h) (Or.inl ⟨by kernel_rfl, fun ws hSw => by first | (go_simp; done) | (go_simp; with_reducible rfl) | (go_simp; rfl)⟩) hS ?_
      simp only [Act.put, List.setIfInBounds_toArray, List.set_cons_zero, List.set_cons_succ]
      refine wpAnyH_takeD (i := 2) (d := 60) (v := .int .i64 now) _ rfl rfl (by kernel_rfl) (by kernel_rfl) (by kernel_rfl) (fun _ _ _ h => h) (Or.inl ⟨by kernel_rfl, fun ws hSw => by first | (go_simp; done) | (go_simp; with_reducible rfl) | (go_simp; rfl)⟩) hS ?_
      simp only [Act.put, List.setIfInBounds_toArray, List.set_cons_zero, List.set_cons_succ]
      refine wpAnyH_takeD (i := 3) (d := 61) (v := .pointer (some ⟨B + 1, 1, none⟩)) _ rfl rfl (by kernel_rfl) (by kernel_rfl) (by kernel_rfl) (fun _ _ _ h => h) (Or.inl ⟨by kernel_rfl, fun ws hSw => by first | (go_simp; done) | (go_simp; with_reducible rfl) | (go_simp; rfl)⟩) hS ?_
      simp only [Act.put, List.setIfInBounds_toArray, List.set_cons_zero, List.set_cons_succ]
      refine wpAnyH_takeD (i := 4) (d := 62) (v := .string m) _ rfl rfl (by kernel_rfl) (by kernel_rfl) (by kernel_rfl) (fun _ _ _ h => h) (Or.inl ⟨by kernel_rfl, fun ws hSw => by have q := KC.out ws hSw; first | (go_simp; done) | (go_simp; with_reducible rfl) | (go_simp; rfl)⟩) hS ?_
      simp only [Act.put, List.setIfInBounds_toArray, List.set_cons_zero, List.set_cons_succ]
      refine wpAnyH_takeD (i := 5) (d := 63) (v := .slice q N c) _ rfl rfl (by kernel_rfl) (by kernel_rfl) (by kernel_rfl) (fun _ _ _ h => h) (Or.inl ⟨by kernel_rfl, fun ws hSw => by first | (go_simp; done) | (go_simp; with_reducible rfl) | (go_simp; rfl)⟩) hS ?_
      simp only [Act.put, List.setIfInBounds_toArray, List.set_cons_zero, List.set_cons_succ]
      refine wpAnyH_takeD (i := 7) (d := 65) (v := .int .i64 r) _ rfl rfl (by kernel_rfl) (by kernel_rfl) (by kernel_rfl) (fun _ _ _ h => h) (Or.inl ⟨by kernel_rfl, fun ws hSw => by first | (go_simp; done) | (go_simp; with_reducible rfl) | (go_simp; rfl)⟩) hS ?_
      simp only [Act.put, List.setIfInBounds_toArray, List.set_cons_zero, List.set_cons_succ]
      refine wpAnyH_takeD (i := 8) (d := 66) (v := .int .i64 x) _ rfl rfl (by kernel_rfl) (by kernel_rfl) (by kernel_rfl) (fun _ _ _ h => h) (Or.inl ⟨by kernel_rfl, fun ws hSw => by first | (go_simp; done) | (go_simp; with_reducible rfl) | (go_simp; rfl)⟩) hS ?_
      simp only [Act.put, List.setIfInBounds_toArray, List.set_cons_zero, List.set_cons_succ]
      refine wpAnyH_ready (rs := [6]) (by kernel_rfl) (by simp) ?_
      refine AllReadyH.cons rfl (fun K hK => ?_) AllReadyH.nil
      go_simp
      refine (H4.out.row _ (Below.refl _ w4).drew).mono ?_
      rintro e w5 ⟨⟨q2, c2, k2, s2, rfl, HS, HO⟩, b5⟩
      have b45 : Below w4.heap.size w4 w5 := (Below.refl _ w4).drew.trans b5
      have e12 : s2 = s1 := (Qs.sorted_uniq hs1.out.1 HO.out.1 (hs1.out.2.symm.trans HO.out.2)).symm
      have CX := Lib.hid (CR.out w5 q2 c2 k2 s2 e12 HS.out.1 HS.out.2.1 HS.out.2.2)
      have B45 := Lib.hid b45
      refine hK _ _ b45 (fun hS => ?_)
      clear b45 b5 e12 HS HO
      try simp only [Act.put, List.setIfInBounds_toArray, List.set_cons_zero, List.set_cons_succ]
      refine wpAnyH_ready (rs := [9]) (by kernel_rfl) (by simp) ?_
      refine AllReadyH.cons rfl (fun K hK => ?_) AllReadyH.nil
      go_simp
      refine CX.out.mono ?_
      rintro e w6 ⟨rfl, b6⟩
      have b46 : Below w4.heap.size w4 w6 := B45.out.trans (b6.mono B45.out.size)
      have b16 : Below w1.heap.size w1 w6 := B14.out.trans (b46.mono B14.out.size)
      have FIN := Lib.hid (HB.out.trans (b16.mono HB.out.size))
      refine hK _ _ b46 (fun hS => ?_)
      clear b46 b16 b6
      try simp only [Act.put, List.setIfInBounds_toArray, List.set_cons_zero, List.set_cons_succ]
      refine wpAnyH_takeD (i := 10) (d := 57) (v := .tuple #[.int .i64 rv, .int .i64 re]) _ rfl rfl (by kernel_rfl) (by kernel_rfl) (by kernel_rfl) (fun _ _ _ h => h) (Or.inl ⟨by kernel_rfl, fun ws hSw => by first | (go_simp; done) | (go_simp; with_reducible rfl) | (go_simp; rfl)⟩) hS ?_
      simp only [Act.put, List.setIfInBounds_toArray, List.set_cons_zero, List.set_cons_succ]
      refine wpAnyH_takeD (i := 11) (d := 68) (v := .int .i64 rv) _ rfl rfl (by kernel_rfl) (by kernel_rfl) (by kernel_rfl) (fun _ _ _ h => h) (Or.inl ⟨by kernel_rfl, fun ws hSw => by first | (go_simp; done) | (go_simp; with_reducible rfl) | (go_simp; rfl)⟩) hS ?_
      simp only [Act.put, List.setIfInBounds_toArray, List.set_cons_zero, List.set_cons_succ]
      refine wpAnyH_takeD (i := 12) (d := 69) (v := .int .i64 re) _ rfl rfl (by kernel_rfl) (by kernel_rfl) (by kernel_rfl) (fun _ _ _ h => h) (Or.inl ⟨by kernel_rfl, fun ws hSw => by first | (go_simp; done) | (go_simp; with_reducible rfl) | (go_simp; rfl)⟩) hS ?_
      simp only [Act.put, List.setIfInBounds_toArray, List.set_cons_zero, List.set_cons_succ]
      refine wpAnyH_takeD (i := 13) (d := 20) (v := .int .i64 rv) _ rfl rfl (by kernel_rfl) (by kernel_rfl) (by kernel_rfl) (fun _ _ _ h => h) (Or.inl ⟨by kernel_rfl, fun ws hSw => by first | (go_simp; done) | (go_simp; with_reducible rfl) | (go_simp; rfl)⟩) hS ?_
      simp only [Act.put, List.setIfInBounds_toArray, List.set_cons_zero, List.set_cons_succ]
      refine wpAnyH_takeD (i := 14) (d := 21) (v := .int .i64 re) _ rfl rfl (by kernel_rfl) (by kernel_rfl) (by kernel_rfl) (fun _ _ _ h => h) (Or.inl ⟨by kernel_rfl, fun ws hSw => by first | (go_simp; done) | (go_simp; with_reducible rfl) | (go_simp; rfl)⟩) hS ?_
      simp only [Act.put, List.setIfInBounds_toArray, List.set_cons_zero, List.set_cons_succ]
      refine wpAnyH_done (by kernel_rfl) ?_ _
      clear CX CR KM KC B45 B14 hS H4 HE
      go_wp2
      go_ret
      exact ⟨rfl, FIN.out⟩
  · by_cases hk2 : k = 2
    · have CO := Lib.hid (of_obj w3 bb now a E m q N c _ H3.out k t r x tg hk2 HM.out.2.2)
      rw [← HM.out.1] at CO
      clear d0 hk01
      go_wp2_with (refine wpList_load_by (by kernel_rfl) MT _ rfl (.pointer (some ⟨B + 1, 0, none⟩)) (.agg M) (by rfl) LM.out ?_)
      refine CO.out.mono ?_
      rintro e w4 ⟨rfl, b4⟩
      have b14 : Below w1.heap.size w1 w4 := B13.out.trans (b4.mono B13.out.size)
      have y4 := KP.out w4 b14
      have d0 : w4.cell? ⟨B + 1, 0, none⟩ = some (.int .i64 2) := (cell_of_block y4 0).trans (by rw [HM.out.1, hk2]; rfl)
      have d1 : w4.cell? ⟨B + 1, 1, none⟩ = some (.string m) := (cell_of_block y4 1).trans (by rw [HM.out.1]; rfl)
      have CF := Lib.hid ((H3.out.below b4).fresh w4 (Below.refl _ _) tg HM.out.2.2)
      have B14 := Lib.hid b14
      clear b4 b14 CO LM H3 B13 BW3 y4 hk2
      generalize freV now a (upto now (smpsOf E (tg, m))) = fv at CF
      generalize freE now a (upto now (smpsOf E (tg, m))) = fe at CF
      have C1 : Hid (∀ ws, Calls Try.prog 8 #[.agg M, .int .i64 fv, .int .i64 r, .int .i64 x] ws fun e w' => e = .returned (.tuple #[.int .i64 (oneA t fv r x).1, .int .i64 (oneA t fv r x).2]) ∧ Below ws.heap.size ws w') := fun ws => by rw [HM.out.1]; exact pp_one ws k m t fv r x
      generalize oneA t fv r x = OA at C1
      have HV : Hid (fe = 0 → (orE fe OA).1 = OA.1 ∧ (orE fe OA).2 = OA.2) := fun e => by unfold orE; rw [if_pos e]; exact ⟨rfl, rfl⟩
      have HX : Hid (fe ≠ 0 → (orE fe OA).1 = 0 ∧ (orE fe OA).2 = fe) := fun e => by unfold orE; rw [if_neg e]; exact ⟨rfl, rfl⟩
      generalize (orE fe OA).1 = rv at HV HX
      generalize (orE fe OA).2 = re at HV HX
      generalize OA.1 = o1 at C1 HV
      generalize OA.2 = o2 at C1 HV
      clear OA
      go_wp2_with fail
      refine CF.out.mono ?_
      rintro e w5 ⟨rfl, b5⟩
      have b15 : Below w1.heap.size w1 w5 := B14.out.trans (b5.mono B14.out.size)
      have LM5 := Lib.hid (load_met (KP.out w5 b15) HM.out.2.1)
      have B15 := Lib.hid b15
      clear b5 b15 CF B14 d0 d1
      go_wp2_with (refine wpList_load_by (by kernel_rfl) MT _ rfl (.pointer (some ⟨B + 1, 0, none⟩)) (.agg M) (by rfl) LM5.out ?_)
      refine (C1.out _).mono ?_
      rintro e w6 ⟨rfl, b6⟩
      have b16 : Below w1.heap.size w1 w6 := B15.out.trans (b6.mono B15.out.size)
      have FIN := Lib.hid (HB.out.trans (b16.mono HB.out.size))
      clear b6 b16 C1 LM5 B15
      by_cases h0 : fe = 0
      · obtain ⟨e1, e2⟩ := HV.out h0
        subst h0 e1 e2
        clear HV HX
        go_wp2
        go_ret
        exact ⟨rfl, FIN.out⟩
      · obtain ⟨e1, e2⟩ := HX.out h0
        have t0 : (fe == 0) = false := by simpa using h0
        have t1 : (fe != 0) = true := by simpa using h0
        clear HV HX
        subst e1 e2
        go_wp2
        go_ret
        exact ⟨rfl, FIN.out⟩
    · by_cases hk3 : k = 3
      · have CO := Lib.hid (of_ext w3 bb now a E m q N c _ H3.out k t r x tg hk3)
        rw [← HM.out.1] at CO
        clear d0 hk01 hk2
        go_wp2_with (refine wpList_load_by (by kernel_rfl) MT _ rfl (.pointer (some ⟨B + 1, 0, none⟩)) (.agg M) (by rfl) LM.out ?_)
        refine CO.out.mono ?_
        rintro e w4 ⟨rfl, b4⟩
        have b14 : Below w1.heap.size w1 w4 := B13.out.trans (b4.mono B13.out.size)
        have y4 := KP.out w4 b14
        have d0 : w4.cell? ⟨B + 1, 0, none⟩ = some (.int .i64 3) := (cell_of_block y4 0).trans (by rw [HM.out.1, hk3]; rfl)
        have d1 : w4.cell? ⟨B + 1, 1, none⟩ = some (.string m) := (cell_of_block y4 1).trans (by rw [HM.out.1]; rfl)
        have CF0 := (H3.out.below b4).fresh w4 (Below.refl _ _) exT (by decide)
        have B14 := Lib.hid b14
        clear b4 b14 CO LM H3 B13 BW3 y4 hk3
        generalize freV now a (upto now (smpsOf E (exT, m))) = fv at CF0
        generalize freE now a (upto now (smpsOf E (exT, m))) = fe at CF0
        have CF : Hid (Calls Try.prog 16 #[.pointer (some ⟨bb, 0, none⟩), .int .i64 now, .agg #[.string { data := #[101, 120, 116, 101, 114, 110, 97, 108] }, .string m]] w4 fun e w' => e = .returned (.tuple #[.int .i64 fv, .int .i64 fe]) ∧ Below w4.heap.size w4 w') := CF0
        clear CF0
        have C1 : Hid (∀ ws, Calls Try.prog 9 #[.agg M, .int .i64 fv, .int .i64 r, .int .i64 x] ws fun e w' => e = .returned (.tuple #[.int .i64 (avgA t fv r x).1, .int .i64 (avgA t fv r x).2]) ∧ Below ws.heap.size ws w') := fun ws => by rw [HM.out.1]; exact pp_avg ws k m t fv r x
        generalize avgA t fv r x = OA at C1
        have HV : Hid (fe = 0 → (orE fe OA).1 = OA.1 ∧ (orE fe OA).2 = OA.2) := fun e => by unfold orE; rw [if_pos e]; exact ⟨rfl, rfl⟩
        have HX : Hid (fe ≠ 0 → (orE fe OA).1 = 0 ∧ (orE fe OA).2 = fe) := fun e => by unfold orE; rw [if_neg e]; exact ⟨rfl, rfl⟩
        generalize (orE fe OA).1 = rv at HV HX
        generalize (orE fe OA).2 = re at HV HX
        generalize OA.1 = o1 at C1 HV
        generalize OA.2 = o2 at C1 HV
        clear OA
        go_wp2_with fail
        refine CF.out.mono ?_
        rintro e w5 ⟨rfl, b5⟩
        have b15 : Below w1.heap.size w1 w5 := B14.out.trans (b5.mono B14.out.size)
        have LM5 := Lib.hid (load_met (KP.out w5 b15) HM.out.2.1)
        have B15 := Lib.hid b15
        clear b5 b15 CF B14 d0 d1
        go_wp2_with (refine wpList_load_by (by kernel_rfl) MT _ rfl (.pointer (some ⟨B + 1, 0, none⟩)) (.agg M) (by rfl) LM5.out ?_)
        refine (C1.out _).mono ?_
        rintro e w6 ⟨rfl, b6⟩
        have b16 : Below w1.heap.size w1 w6 := B15.out.trans (b6.mono B15.out.size)
        have FIN := Lib.hid (HB.out.trans (b16.mono HB.out.size))
        clear b6 b16 C1 LM5 B15
        by_cases h0 : fe = 0
        · obtain ⟨e1, e2⟩ := HV.out h0
          subst h0 e1 e2
          clear HV HX
          go_wp2
          go_ret
          exact ⟨rfl, FIN.out⟩
        · obtain ⟨e1, e2⟩ := HX.out h0
          have t0 : (fe == 0) = false := by simpa using h0
          have t1 : (fe != 0) = true := by simpa using h0
          clear HV HX
          subst e1 e2
          go_wp2
          go_ret
          exact ⟨rfl, FIN.out⟩
      · have CO := Lib.hid (of_none w3 now m q N c k t r x tg (fun e => hk01 (.inl e)) (fun e => hk01 (.inr e)) hk2 hk3 (.pointer (some ⟨bb, 0, none⟩)))
        rw [← HM.out.1] at CO
        have t0 : (k == 0) = false := by simpa using fun e => hk01 (.inl e)
        have t1 : (k == 1) = false := by simpa using fun e => hk01 (.inr e)
        have t2 : (k == 2) = false := by simpa using hk2
        have t3 : (k == 3) = false := by simpa using hk3
        clear d0 hk01 hk2 hk3
        go_wp2_with (refine wpList_load_by (by kernel_rfl) MT _ rfl (.pointer (some ⟨B + 1, 0, none⟩)) (.agg M) (by rfl) LM.out ?_)
        refine CO.out.mono ?_
        rintro e w4 ⟨rfl, b4⟩
        have b14 : Below w1.heap.size w1 w4 := B13.out.trans (b4.mono B13.out.size)
        have y4 := KP.out w4 b14
        have d0 : w4.cell? ⟨B + 1, 0, none⟩ = some (.int .i64 k) := (cell_of_block y4 0).trans (by rw [HM.out.1]; rfl)
        have FIN := Lib.hid (HB.out.trans (b14.mono HB.out.size))
        clear b4 b14 y4 CO LM H3 B13 BW3
        go_wp2
        go_ret
        exact ⟨rfl, FIN.out⟩

theorem walk {H : Type} {enc : TypeId × Value → H} {base : Nat} (W : World) (v0 : Value) (d0 : DataW H) (p0 : List MemPlace) (o0 : Value.okWide Try.prog W .any base 31 v0) (h0 : DataW.Trod enc Try.prog W 0 (fun _ => true) true 31 v0 d0 p0)
    (v1 : Value) (d1 : DataW H) (p1 : List MemPlace) (o1 : Value.okWide Try.prog W .any base 32 v1) (h1 : DataW.Trod enc Try.prog W 0 (fun _ => true) true 32 v1 d1 p1)
    (v2 : Value) (d2 : DataW H) (p2 : List MemPlace) (o2 : Value.okWide Try.prog W .any base 2 v2) (h2 : DataW.Trod enc Try.prog W 0 (fun _ => true) true 2 v2 d2 p2)
    (v3 : Value) (d3 : DataW H) (p3 : List MemPlace) (o3 : Value.okWide Try.prog W .any base 24 v3) (h3 : DataW.Trod enc Try.prog W 0 (fun _ => true) true 24 v3 d3 p3)
    (v4 : Value) (d4 : DataW H) (p4 : List MemPlace) (o4 : Value.okWide Try.prog W .any base 9 v4) (h4 : DataW.Trod enc Try.prog W 0 (fun _ => true) true 9 v4 d4 p4)
    (v5 : Value) (d5 : DataW H) (p5 : List MemPlace) (o5 : Value.okWide Try.prog W .any base 33 v5) (h5 : DataW.Trod enc Try.prog W 0 (fun _ => true) true 33 v5 d5 p5)
    (v6 : Value) (d6 : DataW H) (p6 : List MemPlace) (o6 : Value.okWide Try.prog W .any base 3 v6) (h6 : DataW.Trod enc Try.prog W 0 (fun _ => true) true 3 v6 d6 p6)
    (v7 : Value) (d7 : DataW H) (p7 : List MemPlace) (o7 : Value.okWide Try.prog W .any base 3 v7) (h7 : DataW.Trod enc Try.prog W 0 (fun _ => true) true 3 v7 d7 p7)
    (wt0 : Wt 31 d0) (wt1 : Wt 32 d1) (wt2 : Wt 2 d2) (wt3 : Wt 24 d3) (wt4 : Wt 9 d4) (wt5 : Wt 33 d5) (wt6 : Wt 3 d6) (wt7 : Wt 3 d7) :
    Calls Try.prog 4 #[v0, v1, v2, v3, v4, v5, v6, v7] W fun e W' => e = .returned (.bool true) ∧ Below W.heap.size W W' := by
  obtain ⟨n, a, rfl⟩ := open_rules o0 h0
  obtain ⟨ql, cl, l1, rfl, hl⟩ := Qy.open_sps o1 h1
  obtain ⟨now, rfl, rfl, rfl, hnow⟩ := open_int Try.underlying2 o2 h2
  obtain ⟨k, m, t, rfl, _, hm, _⟩ := open_met o3 h3 wt3
  obtain ⟨tg, rfl, rfl, rfl, htg⟩ := open_string Try.underlying9 o4 h4
  obtain ⟨q, c, l, rfl, hr, hok, hlen⟩ := open_objs o5 h5 wt5
  obtain ⟨r, rfl, rfl, rfl, _⟩ := open_int Try.underlying3 o6 h6
  obtain ⟨x, rfl, rfl, rfl, _⟩ := open_int Try.underlying3 o7 h7
  by_cases hb : n < 1 ∨ 32 < n ∨ a < 1 ∨ 1800 < a
  · exact none_ W n a ql cl l1.length now _ tg q _ c r x (fun w => Qy.book_bad w n a ql cl l1.length hb)
  · obtain ⟨n', rfl⟩ : ∃ k : Nat, n = (k : Int) := ⟨n.toNat, by omega⟩
    obtain ⟨a', rfl⟩ : ∃ k : Nat, a = (k : Int) := ⟨a.toNat, by omega⟩
    by_cases hL : l1.length ≤ 100
    · by_cases h40 : 40 < l.length
      · exact long W n' a' (by omega) (by omega) ql cl l1 hl hL now _ tg q _ c h40 r x
      · exact some_ W n' a' (by omega) (by omega) ql cl l1 hl hL now (by have := (wf_i64 hnow).2; omega) k m (ft_len hm) t tg htg q c l hr (fun y hy => ⟨(hok y hy).1, ft_len (hok y hy).2.2.1.name⟩) h40 r x
    · exact none_ W n' a' ql cl l1.length now _ tg q _ c r x (fun w => Qy.book_long w n' a' (by omega) (by omega) ql cl l1.length (by omega))

/-! ### THE ROW's STEP -/
set_option maxRecDepth 100000 in
theorem lifted (os : Os) (started : os.Started) (H : Type) (enc : TypeId × Value → H) :
    ReturnsInHanded {} Try.checked os 4 .any (Rows.proposalOfSpec.pre6 enc Try.prog Try.f4 Rows.proposalOfRow.domain false) (Rows.proposalOfSpec.post enc Try.prog Try.f4 false true false false) := by
  refine returnsInHanded_of_change_sized (C := Try.checked) own started (by kernel_rfl) Try.func4
    (ChangeSpec.witness6 (enc := enc) (C := Try.checked) false ⟨#[], #[.agg #[.int .i64 0, .int .i64 0], .slice none 0 0, .int .i64 0, .agg #[.int .i64 0, .string ⟨#[]⟩, .int .i64 0], .string ⟨#[]⟩, .slice none 0 0, .int .i64 0, .int .i64 0], []⟩ 8 (by kernel_rfl) (by kernel_rfl) (by kernel_rfl) (by kernel_rfl)) ?_
  intro W base args ds gs before hval0 hW hcnd hsz0 _
  have hval : ∀ (j : Nat) t v, Try.f4.params[j]? = some t → args[j]? = some v → Value.okWide Try.prog W .any base t v := hval0
  have hW' := hW
  obtain ⟨p, q, hA0, hV, rfl, hfz, hnd⟩ := hW
  have hA : DataW.TrodAll enc Try.prog W 0 (fun _ => true) true Try.f4.params.toList args.toList ds p := hA0
  have hlt : ∀ x ∈ p, x.block < W.heap.size := fun x hx => hW'.lt x (List.mem_append_left _ hx)
  rw [Try.params4] at hA hval
  have hread : ∀ t ∈ [31, 32, 2, 24, 9, 33, 3, 3], Try.prog.readableRec t = true ∧ t < Try.prog.types.size := by
    intro t ht
    simp only [List.mem_cons, List.not_mem_nil, or_false] at ht
    rcases ht with rfl | rfl | rfl | rfl | rfl | rfl | rfl | rfl <;> exact ⟨by kernel_rfl, of_decide_eq_true (by kernel_rfl)⟩
  have again : ∀ (W' : World), Below W.heap.size W W' → ∀ sp : Nat → Bool, (∀ x ∈ p, sp x.block = true) → DataW.TrodAll enc Try.prog W' 0 sp true [31, 32, 2, 24, 9, 33, 3, 3] args.toList ds p :=
    fun W' hb sp hsp => all_again (by kernel_rfl) hb [31, 32, 2, 24, 9, 33, 3, 3] args.toList ds p hread hA hlt hsp
  obtain ⟨v0, vs0, d0, ds0, p0, q0, hargs, rfl, rfl, h0, r0⟩ := trodAll_cons hA
  obtain ⟨v1, vs1, d1, ds1, p1, q1, rfl, rfl, rfl, h1, r1⟩ := trodAll_cons r0
  obtain ⟨v2, vs2, d2, ds2, p2, q2, rfl, rfl, rfl, h2, r2⟩ := trodAll_cons r1
  obtain ⟨v3, vs3, d3, ds3, p3, q3, rfl, rfl, rfl, h3, r3⟩ := trodAll_cons r2
  obtain ⟨v4, vs4, d4, ds4, p4, q4, rfl, rfl, rfl, h4, r4⟩ := trodAll_cons r3
  obtain ⟨v5, vs5, d5, ds5, p5, q5, rfl, rfl, rfl, h5, r5⟩ := trodAll_cons r4
  obtain ⟨v6, vs6, d6, ds6, p6, q6, rfl, rfl, rfl, h6, r6⟩ := trodAll_cons r5
  obtain ⟨v7, vs7, d7, ds7, p7, q7, rfl, rfl, rfl, h7, r7⟩ := trodAll_cons r6
  obtain ⟨rfl, rfl, rfl⟩ := trodAll_nil r7
  obtain rfl : args = #[v0, v1, v2, v3, v4, v5, v6, v7] := by cases args; simp_all
  obtain ⟨rfl, rfl⟩ := trodVars_none hV
  have wt0 : Wt 31 d0 := fun n hn => by
    have := List.all_eq_true.1 hsz0 n (DataW.weights_mem_each (j := 0) (t := 31) (d := d0) (by kernel_rfl) rfl n hn)
    simpa using this
  have wt1 : Wt 32 d1 := fun n hn => by
    have := List.all_eq_true.1 hsz0 n (DataW.weights_mem_each (j := 1) (t := 32) (d := d1) (by kernel_rfl) rfl n hn)
    simpa using this
  have wt2 : Wt 2 d2 := fun n hn => by
    have := List.all_eq_true.1 hsz0 n (DataW.weights_mem_each (j := 2) (t := 2) (d := d2) (by kernel_rfl) rfl n hn)
    simpa using this
  have wt3 : Wt 24 d3 := fun n hn => by
    have := List.all_eq_true.1 hsz0 n (DataW.weights_mem_each (j := 3) (t := 24) (d := d3) (by kernel_rfl) rfl n hn)
    simpa using this
  have wt4 : Wt 9 d4 := fun n hn => by
    have := List.all_eq_true.1 hsz0 n (DataW.weights_mem_each (j := 4) (t := 9) (d := d4) (by kernel_rfl) rfl n hn)
    simpa using this
  have wt5 : Wt 33 d5 := fun n hn => by
    have := List.all_eq_true.1 hsz0 n (DataW.weights_mem_each (j := 5) (t := 33) (d := d5) (by kernel_rfl) rfl n hn)
    simpa using this
  have wt6 : Wt 3 d6 := fun n hn => by
    have := List.all_eq_true.1 hsz0 n (DataW.weights_mem_each (j := 6) (t := 3) (d := d6) (by kernel_rfl) rfl n hn)
    simpa using this
  have wt7 : Wt 3 d7 := fun n hn => by
    have := List.all_eq_true.1 hsz0 n (DataW.weights_mem_each (j := 7) (t := 3) (d := d7) (by kernel_rfl) rfl n hn)
    simpa using this
  clear hA0 hval0
  simp only [List.append_nil] at hW' again
  refine (walk W v0 d0 p0 (hval 0 31 v0 rfl rfl) h0 v1 d1 p1 (hval 1 32 v1 rfl rfl) h1 v2 d2 p2 (hval 2 2 v2 rfl rfl) h2 v3 d3 p3 (hval 3 24 v3 rfl rfl) h3 v4 d4 p4 (hval 4 9 v4 rfl rfl) h4 v5 d5 p5 (hval 5 33 v5 rfl rfl) h5 v6 d6 p6 (hval 6 3 v6 rfl rfl) h6 v7 d7 p7 (hval 7 3 v7 rfl rfl) h7 wt0 wt1 wt2 wt3 wt4 wt5 wt6 wt7).mono fun e W' ⟨he, hg⟩ => ?_
  subst he
  exact ⟨_, rfl, post_below hW' hg (fun _ _ _ => trodAll_mk1 (shut_bool Try.underlying4 _)) (fun sp hsp => again W' hg sp hsp) (fun _ => rfl) (ok_one (by kernel_rfl) rfl (okWide_bool_mk Try.underlying4 _))⟩

theorem over : Rows.proposalOfRow.holds Try.pinned (OpenSpec.ofChange Rows.proposalOfSpec) :=
  OpenClaim.holds_of_wide 4 Try.f4 rfl rfl rfl rfl rfl rfl rfl ⟨rfl, rfl, rfl, rfl, rfl⟩ rfl rfl rfl rfl rfl (by kernel_rfl) Try.func4 (by kernel_rfl)
    (of_decide_eq_true (by kernel_rfl)) (by unfold Func.isWrapper; first | (rw [if_pos (by decide +kernel)]; kernel_rfl) | (rw [if_neg (by decide +kernel)]; exact ⟨rfl, rfl⟩))
    (fun os started H enc _ => lifted os started H enc)

/-- The statement. -/
theorem proved : Rows.ProposalOfSaid :=
  over
#print axioms proved
end Go.Proofs.Ytajkhbdniadkkaa.proposalOf
