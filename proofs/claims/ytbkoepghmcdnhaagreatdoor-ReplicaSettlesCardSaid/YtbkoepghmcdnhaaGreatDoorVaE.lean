/- Every metric, every policy: the program. -/
import Derived.Test.YtbkoepghmcdnhaaGreatDoorVaB
import Derived.StillTailTactics
namespace Go.Proofs.YtbkoepghmcdnhaaGreatDoor
open Go.RowKit Go.Shelf Go.Lib Go.Sort
set_option linter.unusedVariables false
set_option linter.unusedSimpArgs false
set_option maxRecDepth 20000

def polC (pc : Bool) (va pe : Int) : Bool := withinB va 1 1000000 && withinB pe 1 1800
def polB (x : Pol) : Bool := polC x.1 x.2.1 x.2.2
def cpuT : List UInt8 := [99, 112, 117]
def memT : List UInt8 := [109, 101, 109]
def metB (x : Met) : Bool := !((x.1 == 0) && !(x.2.1.toList == cpuT) && !(x.2.1.toList == memT)) && (withinB x.1 0 3 && nameB x.2.1 && someB x.2.2)

set_option maxHeartbeats 2000000 in
theorem policy_any (w : World) (pc : Bool) (va : Int) (pe : Int) :
    Calls Tryz.prog 143 #[.agg #[.bool pc, .int .i64 va, .int .i64 pe]] w fun e w' => e = .returned (.bool (polC pc va pe)) ∧ Gr w w' := by
  have mixed : Tryz.prog.follows .mixedOrders = true := by kernel_rfl
  have HO : Hid (polC pc va pe = (withinB va 1 1000000 && withinB pe 1 1800)) := rfl
  have HF : Hid (∀ (W : World), Gr (w.alloc (.cells #[.bool pc, .int .i64 va, .int .i64 pe] 135)) W → Gr w W ∧ W.cell? ⟨w.heap.size, 0, none⟩ = some (.bool pc) ∧ W.cell? ⟨w.heap.size, 1, none⟩ = some (.int .i64 va) ∧ W.cell? ⟨w.heap.size, 2, none⟩ = some (.int .i64 pe)) := fun W g => ⟨((Gr.refl w).alloc _).trans g, g.cell (by simp), g.cell (by simp), g.cell (by simp)⟩
  have C0 := Lib.hid (fun (W : World) => within_any W va 1 1000000)
  have C1 := Lib.hid (fun (W : World) => within_any W pe 1 1800)
  generalize hb0 : (withinB va 1 1000000 : Bool) = b0 at HO C0
  generalize hb1 : (withinB pe 1 1800 : Bool) = b1 at HO C1
  clear hb0 hb1
  obtain ⟨g_0, d_0, d_1, d_2⟩ := HF.out _ (Gr.refl _)
  have G0 := Lib.hid g_0
  have K0 := Lib.hid (Gr.refl (w.alloc (.cells #[.bool pc, .int .i64 va, .int .i64 pe] 135)))
  clear g_0
  go_enter Tryz.func143, Tryz.ntmps143
  go_wp2_with fail
  refine (C0.out _).mono ?_
  rintro e w1 ⟨rfl, rfl⟩
  cases b0 with
  | false =>
    go_wp2
    go_ret
    exact ⟨by rw [HO.out]; first | rfl | (simp [*]; done) | (simp_all; done), G0.out⟩
  | true =>
    go_wp2_with fail
    refine (C1.out _).mono ?_
    rintro e w1 ⟨rfl, rfl⟩
    go_wp2
    go_ret
    exact ⟨by rw [HO.out]; first | rfl | (simp [*]; done) | (simp_all; done), G0.out⟩
theorem policy_b (w : World) (x : Pol) : Calls Tryz.prog 143 #[.agg #[.bool x.1, .int .i64 x.2.1, .int .i64 x.2.2]] w fun e w' => e = .returned (.bool (polB x)) ∧ Gr w w' := policy_any w x.1 x.2.1 x.2.2

set_option maxHeartbeats 2000000 in
theorem metric_any (w : World) (x : Met) (ft : ftM x = true) :
    Calls Tryz.prog 124 #[.agg #[.int .i64 x.1, .string x.2.1, .int .i64 x.2.2]] w fun e w' => e = .returned (.bool (metB x)) ∧ Gr w w' := by
  obtain ⟨k, s, m⟩ := x
  have hs : s.size ≤ 9223372036854775807 := by have : s.size ≤ 140737488351232 := of_decide_eq_true ft; omega
  have G := Lib.hid ((Gr.refl w).alloc (.cells #[.int .i64 k, .string s, .int .i64 m] 131))
  have HO : Hid (metB (k, s, m) = (!((k == 0) && !(s.toList == [99, 112, 117]) && !(s.toList == [109, 101, 109])) && (withinB k 0 3 && nameB s && someB m))) := rfl
  have C0 := Lib.hid (fun (W : World) => within_any W k 0 3)
  have C1 := Lib.hid (fun (W : World) => name_any W s hs)
  have C2 := Lib.hid (fun (W : World) => some_any W m)
  generalize withinB k 0 3 = b0 at HO C0
  generalize nameB s = b1 at HO C1
  generalize someB m = b2 at HO C2
  dsimp only
  clear hs ft
  cases hk : (k == 0) with
  | false =>
    rw [hk] at HO
    go_enter Tryz.func124, Tryz.ntmps124
    go_wp2_with fail
    refine (C0.out _).mono ?_
    rintro e w1 ⟨rfl, rfl⟩
    cases b0 with
    | false =>
      go_wp2
      go_ret
      exact ⟨by rw [HO.out]; rfl, G.out⟩
    | true =>
      go_wp2_with fail
      refine (C1.out _).mono ?_
      rintro e w1 ⟨rfl, rfl⟩
      cases b1 with
      | false =>
        go_wp2
        go_ret
        exact ⟨by rw [HO.out]; rfl, G.out⟩
      | true =>
        go_wp2_with fail
        refine (C2.out _).mono ?_
        rintro e w1 ⟨rfl, rfl⟩
        go_wp2
        go_ret
        exact ⟨by rw [HO.out]; rfl, G.out⟩
  | true =>
    rw [hk] at HO
    cases hc : (s.toList == [99, 112, 117]) with
    | true =>
      rw [hc] at HO
      go_enter Tryz.func124, Tryz.ntmps124
      go_wp2_with fail
      refine (C0.out _).mono ?_
      rintro e w1 ⟨rfl, rfl⟩
      cases b0 with
      | false =>
        go_wp2
        go_ret
        exact ⟨by rw [HO.out]; rfl, G.out⟩
      | true =>
        go_wp2_with fail
        refine (C1.out _).mono ?_
        rintro e w1 ⟨rfl, rfl⟩
        cases b1 with
        | false =>
          go_wp2
          go_ret
          exact ⟨by rw [HO.out]; rfl, G.out⟩
        | true =>
          go_wp2_with fail
          refine (C2.out _).mono ?_
          rintro e w1 ⟨rfl, rfl⟩
          go_wp2
          go_ret
          exact ⟨by rw [HO.out]; rfl, G.out⟩
    | false =>
      rw [hc] at HO
      cases hm : (s.toList == [109, 101, 109]) with
      | true =>
        rw [hm] at HO
        go_enter Tryz.func124, Tryz.ntmps124
        go_wp2_with fail
        refine (C0.out _).mono ?_
        rintro e w1 ⟨rfl, rfl⟩
        cases b0 with
        | false =>
          go_wp2
          go_ret
          exact ⟨by rw [HO.out]; rfl, G.out⟩
        | true =>
          go_wp2_with fail
          refine (C1.out _).mono ?_
          rintro e w1 ⟨rfl, rfl⟩
          cases b1 with
          | false =>
            go_wp2
            go_ret
            exact ⟨by rw [HO.out]; rfl, G.out⟩
          | true =>
            go_wp2_with fail
            refine (C2.out _).mono ?_
            rintro e w1 ⟨rfl, rfl⟩
            go_wp2
            go_ret
            exact ⟨by rw [HO.out]; rfl, G.out⟩
      | false =>
        rw [hm] at HO
        go_enter Tryz.func124, Tryz.ntmps124
        go_wp2
        go_ret
        exact ⟨by rw [HO.out]; rfl, G.out⟩

set_option maxHeartbeats 2000000 in
theorem met_closure (w : World) (x : Met) (ft : ftM x = true) (B : Nat) (hB : w.cell? ⟨B, 0, none⟩ = some (.func (.func 124) #[] #[])) (hlt : B < w.heap.size) :
    Calls Tryz.prog 141 #[.agg #[.int .i64 x.1, .string x.2.1, .int .i64 x.2.2], .pointer (some ⟨B, 0, none⟩)] w fun e w' => e = .returned (.bool (!metB x)) ∧ Gr w w' := by
  have C := Lib.hid (fun (W : World) => metric_any W x ft)
  have eg : ∀ args w, (callFunc 124 args).run Tryz.prog w = .ok (.enter 124 args) w := enters_of Tryz.func124 (by kernel_rfl) rfl
  obtain ⟨x1, x2, x3⟩ := x
  dsimp only at *
  have G := Lib.hid ((Gr.refl w).alloc (.cells #[.int .i64 x1, .string x2, .int .i64 x3] 131))
  have d : (w.alloc (.cells #[.int .i64 x1, .string x2, .int .i64 x3] 131)).cell? ⟨B, 0, none⟩ = some (.func (.func 124) #[] #[]) := ((Gr.refl w).alloc _).cell hB
  have hne : B ≠ w.heap.size := by omega
  generalize metB (x1, x2, x3) = b at C ⊢
  go_enter Tryz.func141, Tryz.ntmps141
  go_wp2_with (go_at_fn 124; refine (C.out _).mono ?_; rintro e w1 ⟨rfl, g1⟩)
  go_ret
  exact ⟨rfl, G.out.trans g1⟩

set_option maxHeartbeats 2000000 in
theorem met_index (w : World) (q : Option Addr) (c : Nat) (l : List Met) (h : RowR 3 encM w q l) (hl : l.length ≤ 9223372036854775807) (hf : l.all ftM = true) (B : Nat) (hB : w.cell? ⟨B, 0, none⟩ = some (.func (.func 124) #[] #[])) (hlt : B < w.heap.size) :
    Calls Tryz.prog 152 #[.slice q l.length c, .func (.func 141) #[] #[.pointer (some ⟨B, 0, none⟩)]] w fun e w' => ((∃ i : Nat, e = .returned (.int .i64 (i : Int)) ∧ l.all metB = false) ∨ (e = .returned (.int .i64 (-1)) ∧ l.all metB = true)) ∧ Gr w w' := by
  have HR := Lib.hid h
  have HO := Lib.hid (List.all_eq_true.1 hf)
  clear hf
  have eg : ∀ args w, (callFunc 141 args).run Tryz.prog w = .ok (.enter 141 args) w := enters_of Tryz.func141 (by kernel_rfl) rfl
  have HBB := Lib.hid (And.intro hB hlt)
  clear h hB hlt
  go_enter Tryz.func152, Tryz.ntmps152
  go_wp2_with fail
  go_loopg [8] l.length (fun g vi wr => ∃ (k : Nat), k ≤ l.length ∧ l.length - k ≤ g ∧ vi = .int .i64 (k : Int) ∧ Hid (∀ (j : Nat) (x : Met), j < k → l[j]? = some x → metB x = true) ∧ Hid (Gr w wr))
  case atStart => exact ⟨0, Nat.zero_le _, by omega, rfl, fun j x h => absurd h (Nat.not_lt_zero _), Gr.refl _⟩
  case round =>
    obtain ⟨k, hk, hg, rfl, HP, HG⟩ := hrel
    by_cases hlt : k < l.length
    · obtain ⟨x, hx⟩ : ∃ x, l[k]? = some x := ⟨l[k], List.getElem?_eq_getElem hlt⟩
      obtain ⟨b, off, rfl, hb, hc⟩ := (HR.out.gr HG.out) k x hx
      have c1 := hc 0 _ rfl
      have c2 := hc 1 _ rfl
      have c3 := hc 2 _ rfl
      rw [Nat.add_zero] at c1
      have hok := HO.out x (List.mem_of_getElem? hx)
      have HX := Lib.hid hx
      have C := Lib.hid (fun (W : World) (g : Gr w W) => met_closure W x hok B (g.cell HBB.out.1) (Nat.lt_of_lt_of_le HBB.out.2 g.size))
      obtain ⟨x1, x2, x3⟩ := x
      dsimp only at *
      clear hx hc hok
      obtain ⟨b1, hb1⟩ : ∃ b1, metB (x1, x2, x3) = b1 := ⟨_, rfl⟩
      rw [hb1] at C
      have HB1 := Lib.hid hb1
      clear hb1
      cases b1 with
      | false =>
        go_wp2_with (go_at_fn 141; refine (C.out _ HG.out).mono ?_; rintro e w1 ⟨rfl, g1⟩)
        go_ret
        exact ⟨.inl ⟨k, rfl, List.all_eq_false.2 ⟨_, List.mem_of_getElem? HX.out, by rw [HB1.out]; decide⟩⟩, HG.out.trans g1⟩
      | true =>
        have HP2 : Hid (∀ (j : Nat) (x : Met), j < k + 1 → l[j]? = some x → metB x = true) := fun j x hj hx => by
          by_cases h : j = k
          · subst h
            rw [HX.out] at hx
            cases hx
            exact HB1.out
          · exact HP.out j x (by omega) hx
        go_wp2_with (go_at_fn 141; refine (C.out _ HG.out).mono ?_; rintro e w1 ⟨rfl, g1⟩)
        go_roundg (l.length - (k + 1))
        case measure => omega
        case rel => exact ⟨k + 1, hlt, Nat.le_refl _, by go_num, HP2, HG.out.trans g1⟩
    · obtain rfl : k = l.length := by omega
      have HA : Hid (l.all metB = true) := List.all_eq_true.2 fun x hx => by
        obtain ⟨j, hj⟩ := List.getElem?_of_mem hx
        exact HP.out j x (List.getElem?_eq_some_iff.1 hj).1 hj
      go_wp2
      go_ret
      exact ⟨.inr ⟨rfl, HA.out⟩, HG.out⟩

theorem met_contains (w : World) (q : Option Addr) (c : Nat) (l : List Met) (h : RowR 3 encM w q l) (hl : l.length ≤ 9223372036854775807) (hf : l.all ftM = true) (B : Nat) (hB : w.cell? ⟨B, 0, none⟩ = some (.func (.func 124) #[] #[])) (hlt : B < w.heap.size) :
    Calls Tryz.prog 140 #[.slice q l.length c, .func (.func 141) #[] #[.pointer (some ⟨B, 0, none⟩)]] w fun e w' => e = .returned (.bool (!l.all metB)) ∧ Gr w w' := by
  have C := Lib.hid (met_index w q c l h hl hf B hB hlt)
  clear h hB hlt
  go_enter Tryz.func140, Tryz.ntmps140
  go_wp2_with fail
  refine C.out.mono ?_
  rintro e w1 ⟨⟨i, rfl, h⟩ | ⟨rfl, h⟩, g1⟩
  · have H := Lib.hid h
    have t : (0 : Int) ≤ (i : Int) := by omega
    have G := Lib.hid g1
    clear h g1
    go_wp2
    go_ret
    exact ⟨by rw [H.out]; rfl, G.out⟩
  · have H := Lib.hid h
    have G := Lib.hid g1
    clear h g1
    go_wp2
    go_ret
    exact ⟨by rw [H.out]; rfl, G.out⟩

set_option maxHeartbeats 2000000 in
theorem met_every (w : World) (q : Option Addr) (c : Nat) (l : List Met) (a z : Int) (h : RowR 3 encM w q l) (hl : l.length ≤ 9223372036854775807) (hf : l.all ftM = true) :
    Calls Tryz.prog 123 #[.slice q l.length c, .int .i64 a, .int .i64 z, .func (.func 124) #[] #[]] w fun e w' => e = .returned (.bool (withinB l.length a z && l.all metB)) ∧ Gr w w' := by
  obtain ⟨wb, hwb⟩ : ∃ wb, wb = w.alloc (.cells #[.func (.func 124) #[] #[]] 194) := ⟨_, rfl⟩
  have G0 : Gr w wb := hwb ▸ (Gr.refl w).alloc _
  have C0 := Lib.hid (fun W => within_any W l.length a z)
  have C1 := Lib.hid (met_contains wb q c l (h.gr G0) hl hf w.heap.size (by rw [hwb]; simp) (by rw [hwb]; simp))
  have HW := Lib.hid (And.intro hwb G0)
  clear h hwb G0
  generalize withinB l.length a z = b0 at C0 ⊢
  generalize l.all metB = b1 at C1 ⊢
  go_enter Tryz.func123, Tryz.ntmps123
  go_wp2_with fail
  rw [← HW.out.1]
  refine (C0.out _).mono ?_
  rintro e w1 ⟨rfl, rfl⟩
  cases b0 with
  | false =>
    go_wp2
    go_ret
    exact ⟨rfl, HW.out.2⟩
  | true =>
    go_wp2_with fail
    refine C1.out.mono ?_
    rintro e w1 ⟨rfl, g1⟩
    have G1 := Lib.hid (HW.out.2.trans g1)
    clear g1
    cases b1 <;>
    · go_wp2
      go_ret
      exact ⟨rfl, G1.out⟩

set_option maxHeartbeats 2000000 in
theorem pol_closure (w : World) (x : Pol) (B : Nat) (hB : w.cell? ⟨B, 0, none⟩ = some (.func (.func 143) #[] #[])) (hlt : B < w.heap.size) :
    Calls Tryz.prog 154 #[.agg #[.bool x.1, .int .i64 x.2.1, .int .i64 x.2.2], .pointer (some ⟨B, 0, none⟩)] w fun e w' => e = .returned (.bool (!polB x)) ∧ Gr w w' := by
  have C := Lib.hid (fun (W : World) => policy_b W x)
  have eg : ∀ args w, (callFunc 143 args).run Tryz.prog w = .ok (.enter 143 args) w := enters_of Tryz.func143 (by kernel_rfl) rfl
  obtain ⟨x1, x2, x3⟩ := x
  dsimp only at *
  have G := Lib.hid ((Gr.refl w).alloc (.cells #[.bool x1, .int .i64 x2, .int .i64 x3] 135))
  have d : (w.alloc (.cells #[.bool x1, .int .i64 x2, .int .i64 x3] 135)).cell? ⟨B, 0, none⟩ = some (.func (.func 143) #[] #[]) := ((Gr.refl w).alloc _).cell hB
  have hne : B ≠ w.heap.size := by omega
  generalize polB (x1, x2, x3) = b at C ⊢
  go_enter Tryz.func154, Tryz.ntmps154
  go_wp2_with (go_at_fn 143; refine (C.out _).mono ?_; rintro e w1 ⟨rfl, g1⟩)
  go_ret
  exact ⟨rfl, G.out.trans g1⟩

set_option maxHeartbeats 2000000 in
theorem pol_index (w : World) (q : Option Addr) (c : Nat) (l : List Pol) (h : RowR 3 encP w q l) (hl : l.length ≤ 9223372036854775807) (B : Nat) (hB : w.cell? ⟨B, 0, none⟩ = some (.func (.func 143) #[] #[])) (hlt : B < w.heap.size) :
    Calls Tryz.prog 162 #[.slice q l.length c, .func (.func 154) #[] #[.pointer (some ⟨B, 0, none⟩)]] w fun e w' => ((∃ i : Nat, e = .returned (.int .i64 (i : Int)) ∧ l.all polB = false) ∨ (e = .returned (.int .i64 (-1)) ∧ l.all polB = true)) ∧ Gr w w' := by
  have HR := Lib.hid h
  have eg : ∀ args w, (callFunc 154 args).run Tryz.prog w = .ok (.enter 154 args) w := enters_of Tryz.func154 (by kernel_rfl) rfl
  have HBB := Lib.hid (And.intro hB hlt)
  clear h hB hlt
  go_enter Tryz.func162, Tryz.ntmps162
  go_wp2_with fail
  go_loopg [8] l.length (fun g vi wr => ∃ (k : Nat), k ≤ l.length ∧ l.length - k ≤ g ∧ vi = .int .i64 (k : Int) ∧ Hid (∀ (j : Nat) (x : Pol), j < k → l[j]? = some x → polB x = true) ∧ Hid (Gr w wr))
  case atStart => exact ⟨0, Nat.zero_le _, by omega, rfl, fun j x h => absurd h (Nat.not_lt_zero _), Gr.refl _⟩
  case round =>
    obtain ⟨k, hk, hg, rfl, HP, HG⟩ := hrel
    by_cases hlt : k < l.length
    · obtain ⟨x, hx⟩ : ∃ x, l[k]? = some x := ⟨l[k], List.getElem?_eq_getElem hlt⟩
      obtain ⟨b, off, rfl, hb, hc⟩ := (HR.out.gr HG.out) k x hx
      have c1 := hc 0 _ rfl
      have c2 := hc 1 _ rfl
      have c3 := hc 2 _ rfl
      rw [Nat.add_zero] at c1
      have HX := Lib.hid hx
      have C := Lib.hid (fun (W : World) (g : Gr w W) => pol_closure W x B (g.cell HBB.out.1) (Nat.lt_of_lt_of_le HBB.out.2 g.size))
      obtain ⟨x1, x2, x3⟩ := x
      dsimp only at *
      clear hx hc
      obtain ⟨b1, hb1⟩ : ∃ b1, polB (x1, x2, x3) = b1 := ⟨_, rfl⟩
      rw [hb1] at C
      have HB1 := Lib.hid hb1
      clear hb1
      cases b1 with
      | false =>
        go_wp2_with (go_at_fn 154; refine (C.out _ HG.out).mono ?_; rintro e w1 ⟨rfl, g1⟩)
        go_ret
        exact ⟨.inl ⟨k, rfl, List.all_eq_false.2 ⟨_, List.mem_of_getElem? HX.out, by rw [HB1.out]; decide⟩⟩, HG.out.trans g1⟩
      | true =>
        have HP2 : Hid (∀ (j : Nat) (x : Pol), j < k + 1 → l[j]? = some x → polB x = true) := fun j x hj hx => by
          by_cases h : j = k
          · subst h
            rw [HX.out] at hx
            cases hx
            exact HB1.out
          · exact HP.out j x (by omega) hx
        go_wp2_with (go_at_fn 154; refine (C.out _ HG.out).mono ?_; rintro e w1 ⟨rfl, g1⟩)
        go_roundg (l.length - (k + 1))
        case measure => omega
        case rel => exact ⟨k + 1, hlt, Nat.le_refl _, by go_num, HP2, HG.out.trans g1⟩
    · obtain rfl : k = l.length := by omega
      have HA : Hid (l.all polB = true) := List.all_eq_true.2 fun x hx => by
        obtain ⟨j, hj⟩ := List.getElem?_of_mem hx
        exact HP.out j x (List.getElem?_eq_some_iff.1 hj).1 hj
      go_wp2
      go_ret
      exact ⟨.inr ⟨rfl, HA.out⟩, HG.out⟩

theorem pol_contains (w : World) (q : Option Addr) (c : Nat) (l : List Pol) (h : RowR 3 encP w q l) (hl : l.length ≤ 9223372036854775807) (B : Nat) (hB : w.cell? ⟨B, 0, none⟩ = some (.func (.func 143) #[] #[])) (hlt : B < w.heap.size) :
    Calls Tryz.prog 153 #[.slice q l.length c, .func (.func 154) #[] #[.pointer (some ⟨B, 0, none⟩)]] w fun e w' => e = .returned (.bool (!l.all polB)) ∧ Gr w w' := by
  have C := Lib.hid (pol_index w q c l h hl B hB hlt)
  clear h hB hlt
  go_enter Tryz.func153, Tryz.ntmps153
  go_wp2_with fail
  refine C.out.mono ?_
  rintro e w1 ⟨⟨i, rfl, h⟩ | ⟨rfl, h⟩, g1⟩
  · have H := Lib.hid h
    have t : (0 : Int) ≤ (i : Int) := by omega
    have G := Lib.hid g1
    clear h g1
    go_wp2
    go_ret
    exact ⟨by rw [H.out]; rfl, G.out⟩
  · have H := Lib.hid h
    have G := Lib.hid g1
    clear h g1
    go_wp2
    go_ret
    exact ⟨by rw [H.out]; rfl, G.out⟩

set_option maxHeartbeats 2000000 in
theorem pol_every (w : World) (q : Option Addr) (c : Nat) (l : List Pol) (a z : Int) (h : RowR 3 encP w q l) (hl : l.length ≤ 9223372036854775807) :
    Calls Tryz.prog 142 #[.slice q l.length c, .int .i64 a, .int .i64 z, .func (.func 143) #[] #[]] w fun e w' => e = .returned (.bool (withinB l.length a z && l.all polB)) ∧ Gr w w' := by
  obtain ⟨wb, hwb⟩ : ∃ wb, wb = w.alloc (.cells #[.func (.func 143) #[] #[]] 209) := ⟨_, rfl⟩
  have G0 : Gr w wb := hwb ▸ (Gr.refl w).alloc _
  have C0 := Lib.hid (fun W => within_any W l.length a z)
  have C1 := Lib.hid (pol_contains wb q c l (h.gr G0) hl w.heap.size (by rw [hwb]; simp) (by rw [hwb]; simp))
  have HW := Lib.hid (And.intro hwb G0)
  clear h hwb G0
  generalize withinB l.length a z = b0 at C0 ⊢
  generalize l.all polB = b1 at C1 ⊢
  go_enter Tryz.func142, Tryz.ntmps142
  go_wp2_with fail
  rw [← HW.out.1]
  refine (C0.out _).mono ?_
  rintro e w1 ⟨rfl, rfl⟩
  cases b0 with
  | false =>
    go_wp2
    go_ret
    exact ⟨rfl, HW.out.2⟩
  | true =>
    go_wp2_with fail
    refine C1.out.mono ?_
    rintro e w1 ⟨rfl, g1⟩
    have G1 := Lib.hid (HW.out.2.trans g1)
    clear g1
    cases b1 <;>
    · go_wp2
      go_ret
      exact ⟨rfl, G1.out⟩
end Go.Proofs.YtbkoepghmcdnhaaGreatDoor
