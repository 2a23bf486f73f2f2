/- What an Hpa has done, all of it: the program. -/
import Derived.Test.YtbkoepghmcdnhaaGreatDoorVaS
import Derived.StillTailTactics
namespace Go.Proofs.YtbkoepghmcdnhaaGreatDoor
open Go.RowKit Go.Shelf Go.Lib Go.Sort
open Go.Joins (cell_of_block unfrozen_of_block block_setCell)
set_option linter.unusedVariables false
set_option linter.unusedSimpArgs false
set_option maxRecDepth 20000

set_option maxHeartbeats 2000000 in
theorem sca_closure (w : World) (x : Sca) (B L : Nat) (a : Int) (hL : LastIs w L a) (hB : w.cell? ⟨B, 0, none⟩ = some (.func (.func 145) #[] #[.pointer (some ⟨L, 0, none⟩)])) (hlt : B < w.heap.size) :
    Calls Tryz.prog 156 #[.agg #[.int .i64 x.1, .int .i64 x.2.1, .int .i64 x.2.2], .pointer (some ⟨B, 0, none⟩)] w fun e w' => e = .returned (.bool (!scaC a x)) ∧ LastIs w' L x.1 ∧ Xc L w w' := by
  obtain ⟨wb, hwb⟩ : ∃ wb, wb = w.alloc (.cells #[.int .i64 x.1, .int .i64 x.2.1, .int .i64 x.2.2] 139) := ⟨_, rfl⟩
  have G : Gr w wb := hwb ▸ (Gr.refl w).alloc _
  have C := Lib.hid (sca_any wb x L a (hL.gr G))
  have eg : ∀ args w, (callFunc 145 args).run Tryz.prog w = .ok (.enter 145 args) w := enters_of Tryz.func145 (by kernel_rfl) rfl
  obtain ⟨x1, x2, x3⟩ := x
  dsimp only at *
  have d : wb.cell? ⟨B, 0, none⟩ = some (.func (.func 145) #[] #[.pointer (some ⟨L, 0, none⟩)]) := G.cell hB
  have f0 : wb.cell? ⟨w.heap.size, 0, none⟩ = some (.int .i64 x1) := by rw [hwb]; simp
  have f1 : wb.cell? ⟨w.heap.size, 1, none⟩ = some (.int .i64 x2) := by rw [hwb]; simp
  have f2 : wb.cell? ⟨w.heap.size, 2, none⟩ = some (.int .i64 x3) := by rw [hwb]; simp
  have HG := Lib.hid G
  have HW := Lib.hid hwb
  clear G hL hB hlt hwb
  generalize scaC a (x1, x2, x3) = b at C ⊢
  go_enter Tryz.func156, Tryz.ntmps156
  go_upto_region 1 with fail
  rw [← HW.out]
  go_wp2_with (go_at_fn 145; refine C.out.mono ?_; rintro e w1 ⟨rfl, h1, h2⟩)
  go_ret
  exact ⟨rfl, h1, (Xc.ofGr HG.out L).trans h2⟩

set_option maxHeartbeats 2000000 in
theorem sca_index (w0 w : World) (q : Option Addr) (c : Nat) (l : List Sca) (hr : RowR 3 encS w0 q l) (hw : w0.heap.size ≤ w.heap.size) (hW0 : Below w0.heap.size w0 w) (hl : l.length ≤ 9223372036854775807) (B L : Nat) (h0 : w0.heap.size ≤ L) (hne : B ≠ L) (hL : LastIs w L 0) (hB : w.cell? ⟨B, 0, none⟩ = some (.func (.func 145) #[] #[.pointer (some ⟨L, 0, none⟩)])) (hlt : B < w.heap.size) :
    Calls Tryz.prog 163 #[.slice q l.length c, .func (.func 156) #[] #[.pointer (some ⟨B, 0, none⟩)]] w fun e w' => ((∃ i : Nat, e = .returned (.int .i64 (i : Int)) ∧ pastL 0 l = false) ∨ (e = .returned (.int .i64 (-1)) ∧ pastL 0 l = true)) ∧ Xc L w w' := by
  have HR := Lib.hid (hr.below hW0)
  have HLO : Hid (∀ b, b < w0.heap.size → b ≠ L) := fun b hb => by omega
  have HRX : Hid (∀ W, Xc L w W → RowR 3 encS W q l) := fun W hX => hr.below (hW0.trans (hX.below h0 hw))
  have eg : ∀ args w, (callFunc 156 args).run Tryz.prog w = .ok (.enter 156 args) w := enters_of Tryz.func156 (by kernel_rfl) rfl
  have HBB := Lib.hid (And.intro hB (And.intro hlt hne))
  have HL0 := Lib.hid hL
  clear hr hw hW0 h0 hne hL hB hlt
  go_enter Tryz.func163, Tryz.ntmps163
  go_wp2_with fail
  go_loopg [8] l.length (fun g vi wr => ∃ (k : Nat), k ≤ l.length ∧ l.length - k ≤ g ∧ vi = .int .i64 (k : Int) ∧ Hid (∀ (j : Nat) (x : Sca), j < k → l[j]? = some x → scaC (lastAt 0 l j) x = true) ∧ Hid (LastIs wr L (lastAt 0 l k)) ∧ Hid (Xc L w wr))
  case atStart => exact ⟨0, Nat.zero_le _, by omega, rfl, fun j x h => absurd h (Nat.not_lt_zero _), HL0.out, Xc.refl _ _⟩
  case round =>
    obtain ⟨k, hk, hg, rfl, HP, HS, HX⟩ := hrel
    by_cases hlt : k < l.length
    · obtain ⟨x, hx⟩ : ∃ x, l[k]? = some x := ⟨l[k], List.getElem?_eq_getElem hlt⟩
      obtain ⟨b, off, rfl, hb, hc⟩ := (HRX.out _ HX.out) k x hx
      have c1 := hc 0 _ rfl
      have c2 := hc 1 _ rfl
      have c3 := hc 2 _ rfl
      rw [Nat.add_zero] at c1
      have HXX := Lib.hid hx
      have C := Lib.hid (sca_closure wr x B L (lastAt 0 l k) HS.out (HX.out.cell HBB.out.1 HBB.out.2.2) (Nat.lt_of_lt_of_le HBB.out.2.1 HX.out.size))
      have hst : ∀ W, LastIs W L x.1 → LastIs W L (lastAt 0 l (k + 1)) := fun W h => by rw [lastAt_step hx]; exact h
      have HST := Lib.hid hst
      obtain ⟨x1, x2, x3⟩ := x
      dsimp only at *
      clear hx hc hst
      obtain ⟨b1, hb1⟩ : ∃ b1, scaC (lastAt 0 l k) (x1, x2, x3) = b1 := ⟨_, rfl⟩
      rw [hb1] at C
      have HB1 := Lib.hid hb1
      clear hb1
      cases b1 with
      | false =>
        go_wp2_with (go_at_fn 156; refine C.out.mono ?_; rintro e w1 ⟨rfl, g1, g2⟩)
        go_ret
        exact ⟨.inl ⟨k, rfl, past_bad HXX.out HB1.out⟩, HX.out.trans g2⟩
      | true =>
        have HP2 : Hid (∀ (j : Nat) (x : Sca), j < k + 1 → l[j]? = some x → scaC (lastAt 0 l j) x = true) := fun j x hj hx => by
          by_cases h : j = k
          · subst h
            rw [HXX.out] at hx
            cases hx
            exact HB1.out
          · exact HP.out j x (by omega) hx
        go_wp2_with (go_at_fn 156; refine C.out.mono ?_; rintro e w1 ⟨rfl, g1, g2⟩)
        go_roundg (l.length - (k + 1))
        case measure => omega
        case rel => exact ⟨k + 1, hlt, Nat.le_refl _, by go_num, HP2, HST.out _ g1, HX.out.trans g2⟩
    · obtain rfl : k = l.length := by omega
      have HA : Hid (pastL 0 l = true) := (past_iff l 0).2 fun j x hx => HP.out j x (List.getElem?_eq_some_iff.1 hx).1 hx
      go_wp2
      go_ret
      exact ⟨.inr ⟨rfl, HA.out⟩, HX.out⟩

theorem sca_contains (w0 w : World) (q : Option Addr) (c : Nat) (l : List Sca) (hr : RowR 3 encS w0 q l) (hw : w0.heap.size ≤ w.heap.size) (hW0 : Below w0.heap.size w0 w) (hl : l.length ≤ 9223372036854775807) (B L : Nat) (h0 : w0.heap.size ≤ L) (hne : B ≠ L) (hL : LastIs w L 0) (hB : w.cell? ⟨B, 0, none⟩ = some (.func (.func 145) #[] #[.pointer (some ⟨L, 0, none⟩)])) (hlt : B < w.heap.size) :
    Calls Tryz.prog 155 #[.slice q l.length c, .func (.func 156) #[] #[.pointer (some ⟨B, 0, none⟩)]] w fun e w' => e = .returned (.bool (!pastL 0 l)) ∧ Xc L w w' := by
  have C := Lib.hid (sca_index w0 w q c l hr hw hW0 hl B L h0 hne hL hB hlt)
  clear hr hw hW0 h0 hne hL hB hlt
  go_enter Tryz.func155, Tryz.ntmps155
  go_wp2_with fail
  refine C.out.mono ?_
  rintro e w1 ⟨⟨i, rfl, h⟩ | ⟨rfl, h⟩, g1⟩
  · have H := Lib.hid h
    have t : (0 : Int) ≤ (i : Int) := by omega
    have G := Lib.hid g1
    clear h g1
    go_wp2
    go_ret
    exact ⟨by rw [H.out]; rfl, G.out⟩
  · have H := Lib.hid h
    have G := Lib.hid g1
    clear h g1
    go_wp2
    go_ret
    exact ⟨by rw [H.out]; rfl, G.out⟩

set_option maxHeartbeats 2000000 in
theorem sca_every (w0 w : World) (q : Option Addr) (c : Nat) (l : List Sca) (hr : RowR 3 encS w0 q l) (hw : w0.heap.size ≤ w.heap.size) (hW0 : Below w0.heap.size w0 w) (hl : l.length ≤ 9223372036854775807) (L : Nat) (h0 : w0.heap.size ≤ L) (hL : LastIs w L 0) :
    Calls Tryz.prog 144 #[.slice q l.length c, .int .i64 0, .int .i64 32, .func (.func 145) #[] #[.pointer (some ⟨L, 0, none⟩)]] w fun e w' => e = .returned (.bool (pastB l)) ∧ Xc L w w' := by
  obtain ⟨wb, hwb⟩ : ∃ wb, wb = w.alloc (.cells #[.func (.func 145) #[] #[.pointer (some ⟨L, 0, none⟩)]] 211) := ⟨_, rfl⟩
  have G0 : Gr w wb := hwb ▸ (Gr.refl w).alloc _
  have C0 := Lib.hid (fun W => within_any W l.length 0 32)
  have C1 := Lib.hid (sca_contains w0 wb q c l hr (Nat.le_trans hw G0.size) (hW0.trans (G0.below.mono hw)) hl w.heap.size L h0 (by have := hL.lt; omega) (hL.gr G0) (by rw [hwb]; simp) (by rw [hwb]; simp))
  have HW := Lib.hid (And.intro hwb (Xc.ofGr G0 L))
  have HO : Hid (pastB l = (withinB l.length 0 32 && pastL 0 l)) := rfl
  clear hr hw hW0 h0 hL hwb G0
  generalize withinB l.length 0 32 = b0 at C0 HO
  generalize pastL 0 l = b1 at C1 HO
  go_enter Tryz.func144, Tryz.ntmps144
  go_wp2_with fail
  rw [← HW.out.1]
  refine (C0.out _).mono ?_
  rintro e w1 ⟨rfl, rfl⟩
  cases b0 with
  | false =>
    go_wp2
    go_ret
    exact ⟨by rw [HO.out]; rfl, HW.out.2⟩
  | true =>
    go_wp2_with fail
    refine C1.out.mono ?_
    rintro e w1 ⟨rfl, g1⟩
    have G1 := Lib.hid (HW.out.2.trans g1)
    clear g1
    cases b1 <;>
    · go_wp2
      go_ret
      exact ⟨by rw [HO.out]; rfl, G1.out⟩

set_option maxHeartbeats 2000000 in
theorem past_any (w : World) (q : Option Addr) (c : Nat) (l : List Sca) (hr : RowR 3 encS w q l) (hl : l.length ≤ 9223372036854775807) :
    Calls Tryz.prog 126 #[.slice q l.length c] w fun e w' => e = .returned (.bool (pastB l)) ∧ Gr w w' := by
  obtain ⟨wb, hwb⟩ : ∃ wb, wb = (w.alloc (.cells #[.int .i64 0] 2)) := ⟨_, rfl⟩
  have G0 : Gr w wb := hwb ▸ (Gr.refl w).alloc _
  have hL : LastIs wb w.heap.size 0 := by show _ = _; rw [hwb]; exact heap_alloc_new w _
  have C := Lib.hid (sca_every w wb q c l hr G0.size G0.below hl w.heap.size (Nat.le_refl _) hL)
  have HW := Lib.hid (And.intro hwb G0)
  clear hr hL hwb G0
  generalize pastB l = b at C ⊢
  go_enter Tryz.func126, Tryz.ntmps126
  go_wp2_with fail
  rw [← HW.out.1]
  refine C.out.mono ?_
  rintro e w1 ⟨rfl, g1⟩
  have G1 := Lib.hid (Xc.out HW.out.2 g1 (Nat.le_refl _))
  clear g1
  go_wp2
  go_ret
  exact ⟨rfl, G1.out⟩
end Go.Proofs.YtbkoepghmcdnhaaGreatDoor
