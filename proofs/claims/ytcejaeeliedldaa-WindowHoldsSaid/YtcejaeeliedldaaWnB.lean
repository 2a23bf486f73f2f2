/- Layer 21 (window): the least and the greatest of a row of ticks (slices.MinFunc, slices.MaxFunc). -/
import Derived.Test.YtcejaeeliedldaaWnA
namespace Go.Proofs.Ytcejaeeliedldaa.Wn
open Go.RowKit Go.Shelf Go.Lib Go.Sort Go.Deep
open Go.Joins (cell_of_block unfrozen_of_block block_setCell)
open Go.Proofs.Ytcejaeeliedldaa.Ow
set_option linter.unusedVariables false
set_option linter.unusedSimpArgs false
set_option maxRecDepth 20000

abbrev fvL : Value := .func (.func 21) #[] #[]
theorem enters_lo : ∀ args w, (callFunc 21 args).run Try.prog w = .ok (.enter 21 args) w := enters_of Try.func21 (by kernel_rfl) rfl
def loS (m y : Tk) : Tk := if sgI y.lo m.lo < 0 then y else m
def minT : List Tk → Option Tk
  | [] => none
  | x :: r => some (r.foldl loS x)
theorem min_add {l : List Tk} {j : Nat} {y m : Tk} (hy : l[j]? = some y) (hm : minT (l.take j) = some m) : minT (l.take (j + 1)) = some (loS m y) := by
  rw [List.take_add_one, hy]
  cases h : l.take j with
  | nil => rw [h] at hm; cases hm
  | cons x r =>
    rw [h] at hm
    unfold minT at hm
    cases hm
    show minT (x :: (r ++ [y])) = _
    unfold minT
    simp
abbrev fvH : Value := .func (.func 24) #[] #[]
theorem enters_hi : ∀ args w, (callFunc 24 args).run Try.prog w = .ok (.enter 24 args) w := enters_of Try.func24 (by kernel_rfl) rfl
def hiS (m y : Tk) : Tk := if sgI y.hi m.hi > 0 then y else m
def maxT : List Tk → Option Tk
  | [] => none
  | x :: r => some (r.foldl hiS x)
theorem max_add {l : List Tk} {j : Nat} {y m : Tk} (hy : l[j]? = some y) (hm : maxT (l.take j) = some m) : maxT (l.take (j + 1)) = some (hiS m y) := by
  rw [List.take_add_one, hy]
  cases h : l.take j with
  | nil => rw [h] at hm; cases hm
  | cons x r =>
    rw [h] at hm
    unfold maxT at hm
    cases hm
    show maxT (x :: (r ++ [y])) = _
    unfold maxT
    simp
/-- What stands in the two cells of a search for the least. -/
def MinAt (w wr : World) (Mb : Nat) (m : Tk) : Prop := wr.heap[Mb + 1]? = some (.cells (encA m) TT (0, 0)) ∧ wr.heap[Mb]? = some (.cells zerS TT (0, 0)) ∧ Below Mb w wr

set_option maxHeartbeats 8000000 in
theorem tk_min (w : World) (b off c : Nat) (l : List Tk) (hr : RowR 3 encS w (some ⟨b, off, none⟩) l) (hb : b < w.heap.size) (h1 : 1 ≤ l.length) (hlen : l.length ≤ 1000000) :
    Calls Try.prog 20 #[.slice (some ⟨b, off, none⟩) l.length c, fvL] w fun e w' => (∃ m, minT l = some m ∧ e = .returned (.agg (encA m))) ∧ Below w.heap.size w w' := by
  have mixed : Try.prog.follows .mixedOrders = true := by kernel_rfl
  have eg := enters_lo
  obtain ⟨n, hn⟩ : ∃ n, n = l.length := ⟨_, rfl⟩
  rw [← hn] at hlen h1
  rw [← hn]
  obtain ⟨x, hx⟩ : ∃ x, l[0]? = some x := ⟨l[0]'(by omega), List.getElem?_eq_getElem (by omega)⟩
  obtain ⟨Mb, hMb⟩ : ∃ B, B = w.heap.size := ⟨_, rfl⟩
  obtain ⟨wa, hwa⟩ : ∃ x, x = w.alloc (.cells zerS TT) := ⟨_, rfl⟩
  have Ba : Below w.heap.size w wa := by rw [hwa]; exact ((Gr.refl w).alloc _).below
  have zs : wa.heap.size = Mb + 1 := by rw [hwa, hMb]; simp
  have y0 : wa.heap[Mb]? = some (.cells zerS TT (0, 0)) := by rw [hwa, hMb]; exact heap_alloc_new w _
  have ra : ∀ W, Below w.heap.size w W → ∀ (j : Nat) (y : Tk), l[j]? = some y → W.rangeAt b (off + j * 3) (encA y).toList := fun W bl j y hy => by
    obtain ⟨b', off', e, h2, hc⟩ := hr.below bl j y hy
    cases e
    exact fun t v hv => hc t v hv
  have L0 := ra wa Ba 0 x hx
  rw [Nat.zero_mul, Nat.add_zero] at L0
  have LD := Lib.hid (load_tk L0)
  obtain ⟨th, eb, bl⟩ := cell_new wa TT zerS (encA x) rfl
  have TH := Lib.hid th
  have IN := Lib.hid (infoS3 x)
  have ON := Lib.hid (oneA x)
  obtain ⟨w2, hw2⟩ : ∃ W', W' = (wa.alloc (.cells zerS TT)).setCells wa.heap.size 0 (encA x).toList := ⟨_, rfl⟩
  have HW : Hid (w.alloc (.cells zerS TT) = wa ∧ w.heap.size = Mb) := ⟨hwa.symm, hMb.symm⟩
  have HW2 : Hid ((wa.alloc (.cells zerS TT)).setCells wa.heap.size 0 (encA x).toList = w2 ∧ wa.heap.size = Mb + 1) := ⟨hw2.symm, zs⟩
  rw [← hw2] at eb bl
  rw [zs] at eb bl
  have y2 : w2.heap[Mb]? = some (.cells zerS TT (0, 0)) := (bl.block Mb (by omega)).trans y0
  have B2 : Below Mb w w2 := by rw [hMb]; exact Ba.trans (bl.mono (by rw [hMb]; exact Nat.le_succ _))
  have M1 : Hid (minT (l.take 1) = some x ∧ MinAt w w2 Mb x) := by
    refine ⟨?_, eb, y2, B2⟩
    cases l with
    | nil => simp at hx
    | cons z r =>
      simp at hx
      subst hx
      rfl
  have RA : Hid (∀ W, Below Mb w W → ∀ (j : Nat) (y : Tk), l[j]? = some y → W.rangeAt b (off + j * 3) (encA y).toList) := fun W bl => ra W (by rw [← hMb]; exact bl)
  have HN := Lib.hid (And.intro hn (And.intro (show b < Mb by omega) hMb))
  obtain ⟨X, hX⟩ : ∃ X, X = encA x := ⟨_, rfl⟩
  have SX : X.size = 3 := by rw [hX]; rfl
  rw [← hX] at LD TH IN ON HW2
  have t1 : decide (n < 1) = false := decide_eq_false (by omega)
  have t1' : decide ((n : Int) < 1) = false := decide_eq_false (by omega)
  have n0 : (0 : Int) < (n : Int) := by omega
  clear hr hb hn hx hMb hwa Ba zs y0 ra L0 th eb bl hw2 y2 B2 hX SX
  go_enter Try.func20, Try.ntmps20
  go_upto_region 1 with fail
  rw [HW.out.1, HW.out.2]
  go_wp2_with (first | (refine wpList_load_by (by kernel_rfl) TT _ rfl (.pointer (some ⟨b, off, none⟩)) (.agg X) (by rfl) LD.out ?_) | (refine wpList_store_mid rfl _ _ _ rfl wa.heap.size 0 X (by rfl) (by rfl) TH.out IN.out ON.out ?_; rw [HW2.out.1, HW2.out.2]))
  clear TH IN ON HW2 LD t1 t1'
  go_loopg [6] n (fun g1 vi wr => ∃ j : Nat, vi = .int .i64 (j : Int) ∧ 1 ≤ j ∧ j ≤ n ∧ n - j ≤ g1 ∧ Hid (∃ m, minT (l.take j) = some m ∧ MinAt w wr Mb m))
  case atStart => exact ⟨1, rfl, Nat.le_refl _, h1, by omega, x, M1.out.1, M1.out.2⟩
  case round =>
    clear M1
    obtain ⟨j, rfl, hj1, hj2, hg, HM⟩ := hrel
    by_cases hlt : j < n
    · obtain ⟨y, hy⟩ : ∃ y, l[j]? = some y := ⟨l[j]'(by have := HN.out.1; omega), List.getElem?_eq_getElem (by have := HN.out.1; omega)⟩
      obtain ⟨m, hm, e1, e2, B⟩ := HM.out
      obtain ⟨Y, hY⟩ : ∃ Y, Y = encA y := ⟨_, rfl⟩
      obtain ⟨M, hM⟩ : ∃ M, M = encA m := ⟨_, rfl⟩
      rw [← hM] at e1
      have KY : Hid (∀ ws : World, Below wr.heap.size wr ws → ws.rangeAt b (off + j * 3) Y.toList) := fun ws h => by
        rw [hY]
        exact RA.out ws (B.trans (h.mono (by have := B.size; have := HN.out.2.2; omega))) j y hy
      have KM : Hid (∀ ws : World, Below wr.heap.size wr ws → ws.rangeAt (Mb + 1) 0 M.toList) := fun ws h => Ld.rangeAt_block ((h.block _ (Array.getElem?_eq_some_iff.1 e1).1).trans e1)
      have HJ : Hid (∀ ws : World, Below wr.heap.size wr ws → (0 : Int) ≤ (j : Int) ∧ (j : Int) < (n : Int)) := fun ws h => ⟨by omega, by omega⟩
      have hu := Try.underlying47
      have hiY : (Try.prog.info? TT).map (·.size) = some Y.toList.length := by rw [Array.length_toList, hY]; exact infoS3 y
      have hiM : (Try.prog.info? TT).map (·.size) = some M.toList.length := by rw [Array.length_toList, hM]; exact infoS3 m
      have CB : Hid (∀ W, Calls Try.prog 21 #[.agg Y, .agg M] W fun e w' => e = .returned (.int .i64 (sgI y.lo m.lo)) ∧ Gr W w') := fun W => by rw [hY, hM]; exact least_any y m W
      obtain ⟨r, hrr⟩ : ∃ r, r = sgI y.lo m.lo := ⟨_, rfl⟩
      rw [← hrr] at CB
      obtain ⟨rb, hrb⟩ : ∃ rb, rb = decide (r < 0) := ⟨_, rfl⟩
      have trb : decide (r < 0) = rb := hrb.symm
      have NX : Hid (minT (l.take (j + 1)) = some (if rb = true then y else m)) := by
        show _ = _
        rw [min_add hy hm]
        unfold loS
        rw [← hrr, hrb]
        by_cases h : r < 0 <;> simp [h]
      have HX := Lib.hid (And.intro e1 (And.intro e2 (And.intro B (And.intro hY hM))))
      have S0 : Below wr.heap.size wr wr.drew := (Below.refl _ wr).drew
      have hj0 : (0 : Int) ≤ (j : Int) := by omega
      have hjn : (j : Int) < (n : Int) := by omega
      have HY := Lib.hid hy
      clear hm e1 e2 B hrr hrb hY hM hy HM
      go_wp2_with fail
      refine wp_region_held_drew (S := fun ws => Below wr.heap.size wr ws) mixed S0 (fun hS => ?_)
      refine wpAnyH_takeD (i := 0) (d := 20) (v := fvL) _ rfl rfl (by kernel_rfl) (by kernel_rfl) (by kernel_rfl) (fun _ _ _ h => h) (Or.inl ⟨by kernel_rfl, fun ws hSw => by first | (go_simp; done) | (go_simp; with_reducible rfl) | (go_simp; rfl)⟩) hS ?_
      simp only [Act.put, List.setIfInBounds_toArray, List.set_cons_zero, List.set_cons_succ]
      refine wpAnyH_takeD (i := 1) (d := 21) (v := .slice (some ⟨b, off, none⟩) n c) _ rfl rfl (by kernel_rfl) (by kernel_rfl) (by kernel_rfl) (fun _ _ _ h => h) (Or.inl ⟨by kernel_rfl, fun ws hSw => by first | (go_simp; done) | (go_simp; with_reducible rfl) | (go_simp; rfl)⟩) hS ?_
      simp only [Act.put, List.setIfInBounds_toArray, List.set_cons_zero, List.set_cons_succ]
      refine wpAnyH_takeD (i := 2) (d := 22) (v := .int .i64 (j : Int)) _ rfl rfl (by kernel_rfl) (by kernel_rfl) (by kernel_rfl) (fun _ _ _ h => h) (Or.inl ⟨by kernel_rfl, fun ws hSw => by first | (go_simp; done) | (go_simp; with_reducible rfl) | (go_simp; rfl)⟩) hS ?_
      simp only [Act.put, List.setIfInBounds_toArray, List.set_cons_zero, List.set_cons_succ]
      refine wpAnyH_takeD (i := 3) (d := 23) (v := .pointer (some ⟨b, off + j * 3, none⟩)) _ rfl rfl (by kernel_rfl) (by kernel_rfl) (by kernel_rfl) (fun _ _ _ h => h) (Or.inl ⟨by kernel_rfl, fun ws hSw => by have q := HJ.out ws hSw; first | (go_simp; done) | (go_simp; with_reducible rfl) | (go_simp; rfl) | (go_simp; intro hlt; exfalso; omega) | (go_simp; omega)⟩) hS ?_
      simp only [Act.put, List.setIfInBounds_toArray, List.set_cons_zero, List.set_cons_succ]
      refine wpAnyH_takeD (i := 4) (d := 24) (v := .agg Y.toList.toArray) _ rfl rfl (by kernel_rfl) (by kernel_rfl) (by kernel_rfl) (fun _ _ _ h => h) (yieldsIf_load_mid (by kernel_rfl) _ _ rfl b (off+j*3) (by kernel_rfl) Y.toList _ (fun ws hSw => KY.out ws hSw) hu rfl hiY) hS ?_
      simp only [Act.put, List.setIfInBounds_toArray, List.set_cons_zero, List.set_cons_succ]
      refine wpAnyH_takeD (i := 5) (d := 25) (v := .agg M.toList.toArray) _ rfl rfl (by kernel_rfl) (by kernel_rfl) (by kernel_rfl) (fun _ _ _ h => h) (yieldsIf_load_mid (by kernel_rfl) _ _ rfl (Mb+1) 0 (by kernel_rfl) M.toList _ (fun ws hSw => KM.out ws hSw) hu rfl hiM) hS ?_
      simp only [Act.put, List.setIfInBounds_toArray, List.set_cons_zero, List.set_cons_succ]
      refine wpAnyH_ready (rs := [6]) (by kernel_rfl) (by simp) ?_
      refine AllReadyH.cons rfl (fun K hK => ?_) AllReadyH.nil
      go_simp
      go_at_fn 21
      refine (CB.out _).mono ?_
      rintro e w5 ⟨rfl, g5⟩
      refine hK _ _ (hS.trans (g5.below.mono hS.size)) (fun hS => ?_)
      clear g5
      try simp only [Act.put, List.setIfInBounds_toArray, List.set_cons_zero, List.set_cons_succ]
      refine wpAnyH_takeD (i := 7) (d := 27) (v := .bool rb) _ rfl rfl (by kernel_rfl) (by kernel_rfl) (by kernel_rfl) (fun _ _ _ h => h) (Or.inl ⟨by kernel_rfl, fun ws hSw => by first | (go_simp; done) | (go_simp; with_reducible rfl) | (go_simp; rfl)⟩) hS ?_
      simp only [Act.put, List.setIfInBounds_toArray, List.set_cons_zero, List.set_cons_succ]
      refine wpAnyH_done (by kernel_rfl) ?_ _
      obtain ⟨e1, e2, B, hY, hM⟩ := HX.out
      have z1 := (hS.block _ (Array.getElem?_eq_some_iff.1 e1).1).trans e1
      have z2 := (hS.block _ (Array.getElem?_eq_some_iff.1 e2).1).trans e2
      have B5 : Below Mb w w5 := B.trans (hS.mono (by have := B.size; have := HN.out.2.2; omega))
      have q3 : IntKind.i64.wrap ((j : Int) + 1) = (j : Int) + 1 := by rw [IntKind.wrap_i64]; omega
      cases rb with
      | false =>
        have FIN : Hid (∃ m, minT (l.take (j + 1)) = some m ∧ MinAt w w5 Mb m) := ⟨m, by rw [NX.out]; rfl, by rw [← hM]; exact z1, z2, B5⟩
        clear e1 e2 B hY hM z1 z2 B5 hS NX HX KY KM HJ CB hK K
        go_wp2
        go_roundg (n - (j + 1))
        case measure => omega
        case rel => exact ⟨j + 1, by push_cast; rfl, by omega, by omega, by omega, FIN.out⟩
      | true =>
        have sY : Y.size = 3 := by rw [hY]; rfl
        have sM : M.size = 3 := by rw [hM]; rfl
        have LD : Hid ((Instr.loadAt TT (.pointer (some ⟨b, off + j * 3, none⟩))).run Try.prog w5 = .ok (.agg Y) w5) := by
          show _ = _
          rw [hY]
          exact load_tk (RA.out w5 B5 j y HY.out)
        have TH := Lib.hid (Ld.there_block z1 (n := Y.size) (by rw [sY, sM]))
        have IN : Hid ((Try.prog.info? TT).map (·.size) = some Y.size) := by show _ = _; rw [hY]; exact infoS3 y
        have ON : Hid (Y.all (·.oneCell') = true) := by show _ = _; rw [hY]; exact oneA y
        have eb : (w5.setCells (Mb + 1) 0 Y.toList).heap[Mb + 1]? = some (.cells Y TT (0, 0)) := Ld.laid z1 (by rw [sY, sM])
        have bl : Below (Mb + 1) w5 (w5.setCells (Mb + 1) 0 Y.toList) := Ld.below_setCells _ _ _ (Nat.le_refl _) (Below.refl _ _)
        obtain ⟨w6, hw6⟩ : ∃ W', W' = w5.setCells (Mb + 1) 0 Y.toList := ⟨_, rfl⟩
        have HW6 : Hid (w5.setCells (Mb + 1) 0 Y.toList = w6) := hw6.symm
        rw [← hw6] at eb bl
        have FIN : Hid (∃ m, minT (l.take (j + 1)) = some m ∧ MinAt w w6 Mb m) := ⟨y, by rw [NX.out]; rfl, by rw [← hY]; exact eb, (bl.block Mb (by omega)).trans z2, B5.trans (bl.mono (by omega))⟩
        clear e1 e2 B hY hM z1 z2 B5 hS NX HX KY KM HJ CB hK K sY sM eb bl hw6
        go_wp2_with (first | (refine wpList_load_by (by kernel_rfl) TT _ rfl (.pointer (some ⟨b, off + j * 3, none⟩)) (.agg Y) (by rfl) LD.out ?_) | (refine wpList_store_mid rfl _ _ _ rfl (Mb + 1) 0 Y (by rfl) (by rfl) TH.out IN.out ON.out ?_; rw [HW6.out]))
        go_roundg (n - (j + 1))
        case measure => omega
        case rel => exact ⟨j + 1, by push_cast; rfl, by omega, by omega, by omega, FIN.out⟩
    · obtain rfl : j = n := by omega
      obtain ⟨m, hm, e1, e2, B⟩ := HM.out
      obtain ⟨M, hM⟩ : ∃ M, M = encA m := ⟨_, rfl⟩
      rw [← hM] at e1
      have sM : M.size = 3 := by rw [hM]; rfl
      have LD : Hid ((Instr.loadAt TT (.pointer (some ⟨Mb + 1, 0, none⟩))).run Try.prog wr = .ok (.agg M) wr) := by
        show _ = _
        rw [hM]
        exact load_tk (by rw [← hM]; exact Ld.rangeAt_block e1)
      have TH := Lib.hid (Ld.there_block e2 (n := M.size) (by rw [sM]; rfl))
      have IN : Hid ((Try.prog.info? TT).map (·.size) = some M.size) := by show _ = _; rw [hM]; exact infoS3 m
      have ON : Hid (M.all (·.oneCell') = true) := by show _ = _; rw [hM]; exact oneA m
      have EB : Hid ((wr.setCells Mb 0 M.toList).heap[Mb]? = some (.cells M TT (0, 0))) := Ld.laid e2 (by rw [sM]; rfl)
      have FB : Hid (Below w.heap.size w (wr.setCells Mb 0 M.toList)) := Ld.below_setCells _ _ _ (by rw [HN.out.2.2]; exact Nat.le_refl _) (by have h := HN.out.2.2; rw [← h]; exact B)
      have FM : Hid (minT l = some m ∧ M = encA m) := ⟨by rw [← hm, List.take_of_length_le (by have := HN.out.1; omega)], hM⟩
      clear hm e1 e2 B hM sM HM
      go_wp2_with (first | (refine wpList_load_by (by kernel_rfl) TT _ rfl (.pointer (some ⟨Mb + 1, 0, none⟩)) (.agg M) (by rfl) LD.out ?_) | (refine wpList_store_mid rfl _ _ _ rfl Mb 0 M (by rfl) (by rfl) TH.out IN.out ON.out ?_))
      refine bodyPost_ret (results_cell_row rfl _ _ Mb TT M (0, 0) _ (by rfl) EB.out Try.underlying47 rfl IN.out) rfl ?_
      exact ⟨⟨m, FM.out.1, by rw [FM.out.2]⟩, FB.out⟩
set_option maxHeartbeats 8000000 in
theorem tk_max (w : World) (b off c : Nat) (l : List Tk) (hr : RowR 3 encS w (some ⟨b, off, none⟩) l) (hb : b < w.heap.size) (h1 : 1 ≤ l.length) (hlen : l.length ≤ 1000000) :
    Calls Try.prog 23 #[.slice (some ⟨b, off, none⟩) l.length c, fvH] w fun e w' => (∃ m, maxT l = some m ∧ e = .returned (.agg (encA m))) ∧ Below w.heap.size w w' := by
  have mixed : Try.prog.follows .mixedOrders = true := by kernel_rfl
  have eg := enters_hi
  obtain ⟨n, hn⟩ : ∃ n, n = l.length := ⟨_, rfl⟩
  rw [← hn] at hlen h1
  rw [← hn]
  obtain ⟨x, hx⟩ : ∃ x, l[0]? = some x := ⟨l[0]'(by omega), List.getElem?_eq_getElem (by omega)⟩
  obtain ⟨Mb, hMb⟩ : ∃ B, B = w.heap.size := ⟨_, rfl⟩
  obtain ⟨wa, hwa⟩ : ∃ x, x = w.alloc (.cells zerS TT) := ⟨_, rfl⟩
  have Ba : Below w.heap.size w wa := by rw [hwa]; exact ((Gr.refl w).alloc _).below
  have zs : wa.heap.size = Mb + 1 := by rw [hwa, hMb]; simp
  have y0 : wa.heap[Mb]? = some (.cells zerS TT (0, 0)) := by rw [hwa, hMb]; exact heap_alloc_new w _
  have ra : ∀ W, Below w.heap.size w W → ∀ (j : Nat) (y : Tk), l[j]? = some y → W.rangeAt b (off + j * 3) (encA y).toList := fun W bl j y hy => by
    obtain ⟨b', off', e, h2, hc⟩ := hr.below bl j y hy
    cases e
    exact fun t v hv => hc t v hv
  have L0 := ra wa Ba 0 x hx
  rw [Nat.zero_mul, Nat.add_zero] at L0
  have LD := Lib.hid (load_tk L0)
  obtain ⟨th, eb, bl⟩ := cell_new wa TT zerS (encA x) rfl
  have TH := Lib.hid th
  have IN := Lib.hid (infoS3 x)
  have ON := Lib.hid (oneA x)
  obtain ⟨w2, hw2⟩ : ∃ W', W' = (wa.alloc (.cells zerS TT)).setCells wa.heap.size 0 (encA x).toList := ⟨_, rfl⟩
  have HW : Hid (w.alloc (.cells zerS TT) = wa ∧ w.heap.size = Mb) := ⟨hwa.symm, hMb.symm⟩
  have HW2 : Hid ((wa.alloc (.cells zerS TT)).setCells wa.heap.size 0 (encA x).toList = w2 ∧ wa.heap.size = Mb + 1) := ⟨hw2.symm, zs⟩
  rw [← hw2] at eb bl
  rw [zs] at eb bl
  have y2 : w2.heap[Mb]? = some (.cells zerS TT (0, 0)) := (bl.block Mb (by omega)).trans y0
  have B2 : Below Mb w w2 := by rw [hMb]; exact Ba.trans (bl.mono (by rw [hMb]; exact Nat.le_succ _))
  have M1 : Hid (maxT (l.take 1) = some x ∧ MinAt w w2 Mb x) := by
    refine ⟨?_, eb, y2, B2⟩
    cases l with
    | nil => simp at hx
    | cons z r =>
      simp at hx
      subst hx
      rfl
  have RA : Hid (∀ W, Below Mb w W → ∀ (j : Nat) (y : Tk), l[j]? = some y → W.rangeAt b (off + j * 3) (encA y).toList) := fun W bl => ra W (by rw [← hMb]; exact bl)
  have HN := Lib.hid (And.intro hn (And.intro (show b < Mb by omega) hMb))
  obtain ⟨X, hX⟩ : ∃ X, X = encA x := ⟨_, rfl⟩
  have SX : X.size = 3 := by rw [hX]; rfl
  rw [← hX] at LD TH IN ON HW2
  have t1 : decide (n < 1) = false := decide_eq_false (by omega)
  have t1' : decide ((n : Int) < 1) = false := decide_eq_false (by omega)
  have n0 : (0 : Int) < (n : Int) := by omega
  clear hr hb hn hx hMb hwa Ba zs y0 ra L0 th eb bl hw2 y2 B2 hX SX
  go_enter Try.func23, Try.ntmps23
  go_upto_region 1 with fail
  rw [HW.out.1, HW.out.2]
  go_wp2_with (first | (refine wpList_load_by (by kernel_rfl) TT _ rfl (.pointer (some ⟨b, off, none⟩)) (.agg X) (by rfl) LD.out ?_) | (refine wpList_store_mid rfl _ _ _ rfl wa.heap.size 0 X (by rfl) (by rfl) TH.out IN.out ON.out ?_; rw [HW2.out.1, HW2.out.2]))
  clear TH IN ON HW2 LD t1 t1'
  go_loopg [6] n (fun g1 vi wr => ∃ j : Nat, vi = .int .i64 (j : Int) ∧ 1 ≤ j ∧ j ≤ n ∧ n - j ≤ g1 ∧ Hid (∃ m, maxT (l.take j) = some m ∧ MinAt w wr Mb m))
  case atStart => exact ⟨1, rfl, Nat.le_refl _, h1, by omega, x, M1.out.1, M1.out.2⟩
  case round =>
    clear M1
    obtain ⟨j, rfl, hj1, hj2, hg, HM⟩ := hrel
    by_cases hlt : j < n
    · obtain ⟨y, hy⟩ : ∃ y, l[j]? = some y := ⟨l[j]'(by have := HN.out.1; omega), List.getElem?_eq_getElem (by have := HN.out.1; omega)⟩
      obtain ⟨m, hm, e1, e2, B⟩ := HM.out
      obtain ⟨Y, hY⟩ : ∃ Y, Y = encA y := ⟨_, rfl⟩
      obtain ⟨M, hM⟩ : ∃ M, M = encA m := ⟨_, rfl⟩
      rw [← hM] at e1
      have KY : Hid (∀ ws : World, Below wr.heap.size wr ws → ws.rangeAt b (off + j * 3) Y.toList) := fun ws h => by
        rw [hY]
        exact RA.out ws (B.trans (h.mono (by have := B.size; have := HN.out.2.2; omega))) j y hy
      have KM : Hid (∀ ws : World, Below wr.heap.size wr ws → ws.rangeAt (Mb + 1) 0 M.toList) := fun ws h => Ld.rangeAt_block ((h.block _ (Array.getElem?_eq_some_iff.1 e1).1).trans e1)
      have HJ : Hid (∀ ws : World, Below wr.heap.size wr ws → (0 : Int) ≤ (j : Int) ∧ (j : Int) < (n : Int)) := fun ws h => ⟨by omega, by omega⟩
      have hu := Try.underlying47
      have hiY : (Try.prog.info? TT).map (·.size) = some Y.toList.length := by rw [Array.length_toList, hY]; exact infoS3 y
      have hiM : (Try.prog.info? TT).map (·.size) = some M.toList.length := by rw [Array.length_toList, hM]; exact infoS3 m
      have CB : Hid (∀ W, Calls Try.prog 24 #[.agg Y, .agg M] W fun e w' => e = .returned (.int .i64 (sgI y.hi m.hi)) ∧ Gr W w') := fun W => by rw [hY, hM]; exact greatest_any y m W
      obtain ⟨r, hrr⟩ : ∃ r, r = sgI y.hi m.hi := ⟨_, rfl⟩
      rw [← hrr] at CB
      obtain ⟨rb, hrb⟩ : ∃ rb, rb = decide (r > 0) := ⟨_, rfl⟩
      have trb : decide (r > 0) = rb := hrb.symm
      have NX : Hid (maxT (l.take (j + 1)) = some (if rb = true then y else m)) := by
        show _ = _
        rw [max_add hy hm]
        unfold hiS
        rw [← hrr, hrb]
        by_cases h : r > 0 <;> simp [h]
      have HX := Lib.hid (And.intro e1 (And.intro e2 (And.intro B (And.intro hY hM))))
      have S0 : Below wr.heap.size wr wr.drew := (Below.refl _ wr).drew
      have hj0 : (0 : Int) ≤ (j : Int) := by omega
      have hjn : (j : Int) < (n : Int) := by omega
      have HY := Lib.hid hy
      clear hm e1 e2 B hrr hrb hY hM hy HM
      go_wp2_with fail
      refine wp_region_held_drew (S := fun ws => Below wr.heap.size wr ws) mixed S0 (fun hS => ?_)
      refine wpAnyH_takeD (i := 0) (d := 20) (v := fvH) _ rfl rfl (by kernel_rfl) (by kernel_rfl) (by kernel_rfl) (fun _ _ _ h => h) (Or.inl ⟨by kernel_rfl, fun ws hSw => by first | (go_simp; done) | (go_simp; with_reducible rfl) | (go_simp; rfl)⟩) hS ?_
      simp only [Act.put, List.setIfInBounds_toArray, List.set_cons_zero, List.set_cons_succ]
      refine wpAnyH_takeD (i := 1) (d := 21) (v := .slice (some ⟨b, off, none⟩) n c) _ rfl rfl (by kernel_rfl) (by kernel_rfl) (by kernel_rfl) (fun _ _ _ h => h) (Or.inl ⟨by kernel_rfl, fun ws hSw => by first | (go_simp; done) | (go_simp; with_reducible rfl) | (go_simp; rfl)⟩) hS ?_
      simp only [Act.put, List.setIfInBounds_toArray, List.set_cons_zero, List.set_cons_succ]
      refine wpAnyH_takeD (i := 2) (d := 22) (v := .int .i64 (j : Int)) _ rfl rfl (by kernel_rfl) (by kernel_rfl) (by kernel_rfl) (fun _ _ _ h => h) (Or.inl ⟨by kernel_rfl, fun ws hSw => by first | (go_simp; done) | (go_simp; with_reducible rfl) | (go_simp; rfl)⟩) hS ?_
      simp only [Act.put, List.setIfInBounds_toArray, List.set_cons_zero, List.set_cons_succ]
      refine wpAnyH_takeD (i := 3) (d := 23) (v := .pointer (some ⟨b, off + j * 3, none⟩)) _ rfl rfl (by kernel_rfl) (by kernel_rfl) (by kernel_rfl) (fun _ _ _ h => h) (Or.inl ⟨by kernel_rfl, fun ws hSw => by have q := HJ.out ws hSw; first | (go_simp; done) | (go_simp; with_reducible rfl) | (go_simp; rfl) | (go_simp; intro hlt; exfalso; omega) | (go_simp; omega)⟩) hS ?_
      simp only [Act.put, List.setIfInBounds_toArray, List.set_cons_zero, List.set_cons_succ]
      refine wpAnyH_takeD (i := 4) (d := 24) (v := .agg Y.toList.toArray) _ rfl rfl (by kernel_rfl) (by kernel_rfl) (by kernel_rfl) (fun _ _ _ h => h) (yieldsIf_load_mid (by kernel_rfl) _ _ rfl b (off+j*3) (by kernel_rfl) Y.toList _ (fun ws hSw => KY.out ws hSw) hu rfl hiY) hS ?_
      simp only [Act.put, List.setIfInBounds_toArray, List.set_cons_zero, List.set_cons_succ]
      refine wpAnyH_takeD (i := 5) (d := 25) (v := .agg M.toList.toArray) _ rfl rfl (by kernel_rfl) (by kernel_rfl) (by kernel_rfl) (fun _ _ _ h => h) (yieldsIf_load_mid (by kernel_rfl) _ _ rfl (Mb+1) 0 (by kernel_rfl) M.toList _ (fun ws hSw => KM.out ws hSw) hu rfl hiM) hS ?_
      simp only [Act.put, List.setIfInBounds_toArray, List.set_cons_zero, List.set_cons_succ]
      refine wpAnyH_ready (rs := [6]) (by kernel_rfl) (by simp) ?_
      refine AllReadyH.cons rfl (fun K hK => ?_) AllReadyH.nil
      go_simp
      go_at_fn 24
      refine (CB.out _).mono ?_
      rintro e w5 ⟨rfl, g5⟩
      refine hK _ _ (hS.trans (g5.below.mono hS.size)) (fun hS => ?_)
      clear g5
      try simp only [Act.put, List.setIfInBounds_toArray, List.set_cons_zero, List.set_cons_succ]
      refine wpAnyH_takeD (i := 7) (d := 27) (v := .bool rb) _ rfl rfl (by kernel_rfl) (by kernel_rfl) (by kernel_rfl) (fun _ _ _ h => h) (Or.inl ⟨by kernel_rfl, fun ws hSw => by first | (go_simp; done) | (go_simp; with_reducible rfl) | (go_simp; rfl)⟩) hS ?_
      simp only [Act.put, List.setIfInBounds_toArray, List.set_cons_zero, List.set_cons_succ]
      refine wpAnyH_done (by kernel_rfl) ?_ _
      obtain ⟨e1, e2, B, hY, hM⟩ := HX.out
      have z1 := (hS.block _ (Array.getElem?_eq_some_iff.1 e1).1).trans e1
      have z2 := (hS.block _ (Array.getElem?_eq_some_iff.1 e2).1).trans e2
      have B5 : Below Mb w w5 := B.trans (hS.mono (by have := B.size; have := HN.out.2.2; omega))
      have q3 : IntKind.i64.wrap ((j : Int) + 1) = (j : Int) + 1 := by rw [IntKind.wrap_i64]; omega
      cases rb with
      | false =>
        have FIN : Hid (∃ m, maxT (l.take (j + 1)) = some m ∧ MinAt w w5 Mb m) := ⟨m, by rw [NX.out]; rfl, by rw [← hM]; exact z1, z2, B5⟩
        clear e1 e2 B hY hM z1 z2 B5 hS NX HX KY KM HJ CB hK K
        go_wp2
        go_roundg (n - (j + 1))
        case measure => omega
        case rel => exact ⟨j + 1, by push_cast; rfl, by omega, by omega, by omega, FIN.out⟩
      | true =>
        have sY : Y.size = 3 := by rw [hY]; rfl
        have sM : M.size = 3 := by rw [hM]; rfl
        have LD : Hid ((Instr.loadAt TT (.pointer (some ⟨b, off + j * 3, none⟩))).run Try.prog w5 = .ok (.agg Y) w5) := by
          show _ = _
          rw [hY]
          exact load_tk (RA.out w5 B5 j y HY.out)
        have TH := Lib.hid (Ld.there_block z1 (n := Y.size) (by rw [sY, sM]))
        have IN : Hid ((Try.prog.info? TT).map (·.size) = some Y.size) := by show _ = _; rw [hY]; exact infoS3 y
        have ON : Hid (Y.all (·.oneCell') = true) := by show _ = _; rw [hY]; exact oneA y
        have eb : (w5.setCells (Mb + 1) 0 Y.toList).heap[Mb + 1]? = some (.cells Y TT (0, 0)) := Ld.laid z1 (by rw [sY, sM])
        have bl : Below (Mb + 1) w5 (w5.setCells (Mb + 1) 0 Y.toList) := Ld.below_setCells _ _ _ (Nat.le_refl _) (Below.refl _ _)
        obtain ⟨w6, hw6⟩ : ∃ W', W' = w5.setCells (Mb + 1) 0 Y.toList := ⟨_, rfl⟩
        have HW6 : Hid (w5.setCells (Mb + 1) 0 Y.toList = w6) := hw6.symm
        rw [← hw6] at eb bl
        have FIN : Hid (∃ m, maxT (l.take (j + 1)) = some m ∧ MinAt w w6 Mb m) := ⟨y, by rw [NX.out]; rfl, by rw [← hY]; exact eb, (bl.block Mb (by omega)).trans z2, B5.trans (bl.mono (by omega))⟩
        clear e1 e2 B hY hM z1 z2 B5 hS NX HX KY KM HJ CB hK K sY sM eb bl hw6
        go_wp2_with (first | (refine wpList_load_by (by kernel_rfl) TT _ rfl (.pointer (some ⟨b, off + j * 3, none⟩)) (.agg Y) (by rfl) LD.out ?_) | (refine wpList_store_mid rfl _ _ _ rfl (Mb + 1) 0 Y (by rfl) (by rfl) TH.out IN.out ON.out ?_; rw [HW6.out]))
        go_roundg (n - (j + 1))
        case measure => omega
        case rel => exact ⟨j + 1, by push_cast; rfl, by omega, by omega, by omega, FIN.out⟩
    · obtain rfl : j = n := by omega
      obtain ⟨m, hm, e1, e2, B⟩ := HM.out
      obtain ⟨M, hM⟩ : ∃ M, M = encA m := ⟨_, rfl⟩
      rw [← hM] at e1
      have sM : M.size = 3 := by rw [hM]; rfl
      have LD : Hid ((Instr.loadAt TT (.pointer (some ⟨Mb + 1, 0, none⟩))).run Try.prog wr = .ok (.agg M) wr) := by
        show _ = _
        rw [hM]
        exact load_tk (by rw [← hM]; exact Ld.rangeAt_block e1)
      have TH := Lib.hid (Ld.there_block e2 (n := M.size) (by rw [sM]; rfl))
      have IN : Hid ((Try.prog.info? TT).map (·.size) = some M.size) := by show _ = _; rw [hM]; exact infoS3 m
      have ON : Hid (M.all (·.oneCell') = true) := by show _ = _; rw [hM]; exact oneA m
      have EB : Hid ((wr.setCells Mb 0 M.toList).heap[Mb]? = some (.cells M TT (0, 0))) := Ld.laid e2 (by rw [sM]; rfl)
      have FB : Hid (Below w.heap.size w (wr.setCells Mb 0 M.toList)) := Ld.below_setCells _ _ _ (by rw [HN.out.2.2]; exact Nat.le_refl _) (by have h := HN.out.2.2; rw [← h]; exact B)
      have FM : Hid (maxT l = some m ∧ M = encA m) := ⟨by rw [← hm, List.take_of_length_le (by have := HN.out.1; omega)], hM⟩
      clear hm e1 e2 B hM sM HM
      go_wp2_with (first | (refine wpList_load_by (by kernel_rfl) TT _ rfl (.pointer (some ⟨Mb + 1, 0, none⟩)) (.agg M) (by rfl) LD.out ?_) | (refine wpList_store_mid rfl _ _ _ rfl Mb 0 M (by rfl) (by rfl) TH.out IN.out ON.out ?_))
      refine bodyPost_ret (results_cell_row rfl _ _ Mb TT M (0, 0) _ (by rfl) EB.out Try.underlying47 rfl IN.out) rfl ?_
      exact ⟨⟨m, FM.out.1, by rw [FM.out.2]⟩, FB.out⟩
end Go.Proofs.Ytcejaeeliedldaa.Wn
