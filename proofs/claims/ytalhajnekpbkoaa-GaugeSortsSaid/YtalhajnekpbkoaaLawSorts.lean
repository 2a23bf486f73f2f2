/- Proved here: the law GaugeSorts of layer 4 holds for every row of samples: those that have a quantity are told, each as often as it is there, rising, -0 ahead of 0. No conditions. -/
import Derived.Test.YtalhajnekpbkoaaGLawBase
import Derived.Test.YtalhajnekpbkoaaGaugeT
import Derived.ChangeSlices
import Derived.Maps.OwnOps
import Derived.Maps.Views
namespace Go.Proofs.Ytalhajnekpbkoaa.gaugeSorts
open Go.ChangeShapes Go.WideShapes Go.ChangeAt Go.RowKit Go.Maps
set_option linter.unusedVariables false

theorem law : Keyed Try.prog 22 := int_keyed Try.underlying22
theorem zeroE (w : World) : (zeroValue 3).run Try.prog w = .ok (.int .i64 0) w := by kernel_rfl
theorem lit_inj {a b : Int} (h : (DataW.lit (.int .i64 a) : DataW Unit) = .lit (.int .i64 b)) : b = a := by cases h; rfl
theorem u64_wf {x : Nat} (h : x < 18446744073709551616) : (Lit.int .u64 (x : Int)).wf = true := by
  have h1 : IntKind.u64.min = 0 := by decide
  have h2 : IntKind.u64.max = 18446744073709551615 := by decide
  simp [Lit.wf, h1, h2]
  omega

theorem isKey_u64 {x : Int} : WideAt.IsKeyLit (.int .u64 x) := by simp [WideAt.IsKeyLit]
/-- The block 'B' is a map that counts: at each key what 'f' says. -/
def Counts (wr : World) (B n : Nat) (f : Nat → Int) : Prop :=
  ∃ D : DataW Unit, wr.ownsMap Try.prog 22 (plainElem Try.prog 3) B n D ∧ IsMap D ∧ ∀ x : Nat, D.atKey (.int .u64 (x : Int)) (.lit (.int .i64 0)) = .lit (.int .i64 (f x))
theorem counts_put {w1 : World} {B n : Nat} {f g : Nat → Int} {D : DataW Unit} {x : Nat} {v : Int} (hD : IsMap D) (hf : ∀ x : Nat, D.atKey (.int .u64 (x : Int)) (.lit (.int .i64 0)) = .lit (.int .i64 (f x)))
    (hw : w1.ownsMap Try.prog 22 (plainElem Try.prog 3) B n (D.put (.int .u64 (x : Int)) (.lit (.int .i64 v)))) (hg : ∀ y, g y = if y = x then v else f y) : Counts w1 B n g := by
  refine ⟨_, hw, hD.put _ _, fun y => ?_⟩
  rw [hg y]
  by_cases h : y = x
  · subst h
    rw [if_pos rfl]
    exact atKey_put_same hD isKey_u64 _ _
  · rw [if_neg h, ← hf y]
    exact atKey_put_other (by intro e; injection e with _ e; exact h (by omega)) _ _
theorem Counts.below {w w' : World} {B n : Nat} {f : Nat → Int} (h : Counts w B n f) (hb : Below w.heap.size w w') : Counts w' B n f := by
  obtain ⟨D, h1, h2, h3⟩ := h
  refine ⟨D, ?_, h2, h3⟩
  exact h1.kept (row := none) ⟨hb.os, hb.tape, hb.output, hb.size, fun i hi _ => hb.block i hi⟩ (by simp)

/-- A row of the call's own, as samples. -/
theorem samp_own {w : World} {base : Nat} {v : Value} {l : List Nat} (h : w.ownsRow base 22 1 v l.length (u64s l)) (hl : ∀ x ∈ l, x < 18446744073709551616) :
    ∃ q c, v = .slice q l.length c ∧ Samp w q l := by
  rcases h.2 with ⟨rfl, h0⟩ | ⟨g, cap, cur, rfl, hb, hg, hc, hc2, hsz, htake⟩
  · obtain rfl : l = [] := List.eq_nil_of_length_eq_zero h0
    exact ⟨none, 0, rfl, fun j x hj => by simp at hj⟩
  · refine ⟨some ⟨g, 0, none⟩, cap, rfl, fun j x hj => ?_⟩
    have hj2 : j < l.length := (List.getElem?_eq_some_iff.1 hj).1
    refine ⟨hl x (List.mem_of_getElem? hj), _, rfl, (Array.getElem?_eq_some_iff.1 hg).1, ?_⟩
    rw [add_plain, Nat.zero_add, h.cellAt j (by omega)]
    simp [u64s, hj]
theorem samp_cells {w : World} {a : Option Addr} {l : List Nat} {ad : Addr} (h : Samp w a l) (ha : a = some ad) : ∀ j u, (u64s l)[j]? = some u → w.cell? (ad.add j) = some u := by
  intro j u hj
  unfold u64s at hj
  rw [List.getElem?_map, Option.map_eq_some_iff] at hj
  obtain ⟨x, hx, rfl⟩ := hj
  obtain ⟨_, ad', e, _, hc⟩ := h j x hx
  rw [ha] at e
  injection e with e
  rw [e]
  exact hc
theorem u64s_one (l : List Nat) : ∀ u ∈ u64s l, u.oneCell' = true := by
  intro u hu
  simp only [u64s, List.mem_map] at hu
  obtain ⟨x, _, rfl⟩ := hu
  rfl

theorem long (a : Option Addr) (len cap : Nat) (w : World) (hl : 50 < len) (hm : len ≤ 9223372036854775807) :
    Calls Try.prog 6 #[.slice a len cap] w fun e w' => e = .returned (.bool true) ∧ Below w.heap.size w w' := by
  have t1 : (50 : Int) < (len : Int) := by omega
  go_enter Try.func6, Try.ntmps6
  go_wp2_with fail
  refine (lives_any _).mono ?_
  rintro e w1 ⟨rfl, k1, rfl⟩
  go_wp2_with fail
  refine (lives_any _).mono ?_
  rintro e w1 ⟨rfl, k2, rfl⟩
  go_wp2
  go_ret
  exact ⟨rfl, below_draw _ _ _⟩

theorem count_more (g : List Nat) (x y : Nat) : (((g ++ [x]).count y : Nat) : Int) = if y = x then ((g.count x : Nat) : Int) + 1 else ((g.count y : Nat) : Int) := by
  rw [List.count_append]
  by_cases h : y = x
  · subst h
    rw [if_pos rfl, List.count_singleton_self]
    rfl
  · rw [if_neg h, List.count_eq_zero_of_not_mem (l := [x]) (by simpa using h), Nat.add_zero]
theorem ret_bool {p q : Bool} (h : p = q) : Ending.returned (.bool p) = .returned (.bool q) := by rw [h]

set_option maxHeartbeats 2000000 in
set_option maxRecDepth 100000 in
theorem short (ad : Addr) (c : Nat) (l : List Nat) (w : World) (hl : l.length ≤ 50) (h : Samp w (some ad) l) :
    Calls Try.prog 6 #[.slice (some ad) l.length c] w fun e w' => e = .returned (.bool true) ∧ Below w.heap.size w w' := by
  have hmm := @run_makeMap Try.prog
  have HS := Lib.hid h
  have t1 : ¬ ((50 : Int) < (l.length : Int)) := by omega
  obtain ⟨i0, hi, hz0, hz1, hz2⟩ := info_parts info_u64
  have HI := Lib.hid (And.intro hi (And.intro hz0 (And.intro hz1 hz2)))
  have H64 : Hid (∀ x ∈ l, x < 18446744073709551616) := by
    intro x hx
    obtain ⟨j, hj⟩ := List.getElem?_of_mem hx
    exact (h j x hj).1
  clear h hi hz0 hz1 hz2
  go_enter Try.func6, Try.ntmps6
  go_wp2_with fail
  refine (lives_any _).mono ?_
  rintro e w1 ⟨rfl, k1, rfl⟩
  have h0 : Below w.heap.size w ((w.drewN k1).alloc (.cells #[] 22)) := (below_draw _ _ _).alloc (Nat.le_refl _) _
  have HC0 := Lib.hid (samp_cells (HS.out.below h0) rfl)
  have HO0 : Hid (((w.drewN k1).alloc (.cells #[] 22)).ownsRow w.heap.size 22 1 (.slice (some ⟨w.heap.size, 0, none⟩) 0 0) 0 []) := World.ownsRow_made (w.drewN k1) #[] 0 (Nat.le_refl _) (by unfold maxLen; omega) rfl
  have HB0 := Lib.hid h0
  clear h0
  go_wp2_with (at_builtin; refine wpList_append_own_at _ rfl _ _ 39 rfl w.heap.size 22 i0 (.int .u64 0) 1 8 Try.underlying39 HI.out.1 HI.out.2.1 HI.out.2.2.1 HI.out.2.2.2 rfl (by decide) (.slice (some ⟨w.heap.size, 0, none⟩) 0 0) 0 [] rfl HO0.out ad l.length c (u64s l) rfl (by rw [u64s_len, Nat.mul_one]) HC0.out (u64s_one l) (by unfold maxLen; omega) (by omega) (by simp) ?_; intro v3 w3 hO hgr hnil hloc)
  rw [Nat.zero_add, List.nil_append] at hO
  have hb3 : Below w.heap.size w w3 := HB0.out.grown hgr (by simp) (fun k hk => (HO0.out.lt k hk).1)
  obtain ⟨q3, c3, rfl, hS3⟩ := samp_own hO H64.out
  have HB3 := Lib.hid hb3
  have HS3 := Lib.hid hS3
  have HS2 := Lib.hid (HS.out.below hb3)
  have C := Lib.hid (sort_any w3 q3 c3 l hl hS3)
  clear hO hgr hnil hloc hb3 hS3 HC0 HO0 HB0
  go_wp2_with fail
  refine C.out.mono ?_
  rintro e w2 ⟨q2, c2, s, rfl, hS2, hperm, hpw, hb2⟩
  have HG2 := Lib.hid hS2
  have HPERM := Lib.hid hperm
  have HPW := Lib.hid hpw
  have z3 := HB3.out.size
  have HB2 := Lib.hid (HB3.out.trans (hb2.mono z3))
  have HO2 := Lib.hid (HS3.out.below hb2)
  have HL2 := Lib.hid (HS2.out.below hb2)
  have z2 := hb2.size
  have hslen : s.length = cnt l := hperm.length_eq
  have hcl := cnt_le l
  have HM0 : Hid (Counts (w2.alloc (.map #[] 0)) w2.heap.size 0 (fun _ => 0)) := ⟨.map [], World.ownsMap_made _ _ _ _, isMap_empty, fun x => rfl⟩
  have hbm : Below w2.heap.size w2 (w2.alloc (.map #[] 0)) := (Below.refl _ _).alloc (Nat.le_refl _) _
  have hs50 : s.length ≤ 50 := by omega
  have HSL := Lib.hid hslen
  clear hS2 hperm hpw hb2 C hslen hcl
  go_wp2_with fail
  go_loopw [6, 29] (fun n i wr => ∃ k N : Nat, k ≤ l.length ∧ n = .int .i64 (N : Int) ∧ i = .int .i64 (k : Int) ∧ Hid (N = cnt (l.take k)) ∧ Hid (Counts wr w2.heap.size k (fun y => (((goods (l.take k)).count y : Nat) : Int))) ∧ Below w2.heap.size w2 wr) (fun _ i _ => l.length - (intOf i).toNat)
  case atStart => exact ⟨0, 0, Nat.zero_le _, rfl, rfl, rfl, HM0.out, hbm⟩
  case round =>
    obtain ⟨k, N, hk, rfl, rfl, hN, hcount, hbel⟩ := hrel
    have HBEL := Lib.hid hbel
    have bN : N ≤ 50 := by
      rw [hN.out]
      exact Nat.le_trans (cnt_le _) (by rw [List.length_take]; omega)
    by_cases hlt : k < l.length
    · obtain ⟨x, hx⟩ : ∃ x, l[k]? = some x := ⟨l[k], List.getElem?_eq_getElem hlt⟩
      obtain ⟨hx64, ad0, e0, had, hcell⟩ := HL2.out k x hx
      injection e0 with e0
      subst e0
      obtain ⟨_, ad3, rfl, had3, hcell3⟩ := HO2.out k x hx
      have cL : wr.cell? (ad.add k) = some (.int .u64 (x : Int)) := (hbel.cell (by rw [add_block]; exact had)).trans hcell
      have cO : wr.cell? (ad3.add k) = some (.int .u64 (x : Int)) := (hbel.cell (by rw [add_block]; exact had3)).trans hcell3
      have M := Lib.hid (fun W : World => lread_any x W hx64)
      have HX := Lib.hid hx
      have hkey : keyOf Try.prog 22 (.int .u64 (x : Int)) = some (.int .u64 (x : Int)) := keyOf_int_mk Try.underlying22 (u64_wf hx64)
      have HKEY := Lib.hid hkey
      obtain ⟨m, hm⟩ : ∃ m, m = rdV x := ⟨_, rfl⟩
      by_cases hg : rdE x = 0
      · rw [hg, ← hm] at M
        have HG := Lib.hid hg
        obtain ⟨N0, hN0⟩ : ∃ N0, N0 = (goods (l.take k)).count x := ⟨_, rfl⟩
        have bN0 : N0 ≤ 50 := by
          rw [hN0]
          refine Nat.le_trans List.count_le_length ?_
          rw [goods_len]
          exact Nat.le_trans (cnt_le _) (by rw [List.length_take]; omega)
        have HN0 := Lib.hid hN0
        clear hcell hcell3 hx had had3 hx64 hm hg hbel hkey hN0
        go_wp2_with fail
        refine (M.out _).mono ?_
        rintro e w4 ⟨rfl, hb4⟩
        obtain ⟨D, hown, hD, hat0⟩ := hcount.out.below hb4
        have hA := hat0 x
        have hA' : D.atKey (.int .u64 (x : Int)) (.lit (.int .i64 0)) = .lit (.int .i64 (N0 : Int)) := by rw [hA, HN0.out]
        have HD := Lib.hid (And.intro hD hat0)
        have HA := Lib.hid hA'
        have z4 := Nat.le_trans HBEL.out.size hb4.size
        have HB4 := Lib.hid (HBEL.out.trans (hb4.mono HBEL.out.size))
        clear hD hat0 hA hA' hb4
        go_wp2_with (first
          | (at_lookup; refine wpList_lookup_own_int _ rfl _ _ 41 rfl 22 3 .i64 law Try.underlying41 Try.underlying3 (zeroE _) w2.heap.size k D rfl hown _ _ rfl HKEY.out ?_; intro cc hat hwc; obtain rfl := lit_inj (HA.out.symm.trans hat); clear hat hwc)
          | (at_mapUpdate; refine wpList_mapUpdate_own _ rfl _ _ _ 41 rfl 22 3 law Try.underlying41 _ w2.heap.size k D rfl hown (by unfold maxLen; omega) _ _ _ rfl rfl HKEY.out _ [] (plainElem_int Try.underlying3 (WalkArith.wf_i64 (by omega))) ?_; intro w5 hown1 hgrow1))
        refine ⟨⟨k + 1, N + 1, hlt, by go_num, by go_num, ?_, ?_, ?_⟩, by simp [intOf]; omega⟩
        · show _ = _
          rw [cnt_more HX.out HG.out, ← hN.out]
        · show Counts w5 w2.heap.size (k + 1) _
          refine counts_put HD.out.1 HD.out.2 hown1 (fun y => ?_)
          rw [goods_more HX.out HG.out, count_more, ← HN0.out]
        · exact HB4.out.grown hgrow1 z4 (fun j hj => by cases hj; exact Nat.le_refl _)
      · obtain ⟨q, hq⟩ : ∃ q, q = rdE x := ⟨_, rfl⟩
        rw [← hq, ← hm] at M
        have hq0 : ((q : Int) == 0) = false := by rw [hq]; simpa using hg
        have HG := Lib.hid hg
        clear hcell hcell3 hx had had3 hx64 hm hg hbel hkey hq
        go_wp2_with fail
        refine (M.out _).mono ?_
        rintro e w4 ⟨rfl, hb4⟩
        have hc2 := Lib.hid (hcount.out.below hb4)
        have HB4 := Lib.hid (HBEL.out.trans (hb4.mono HBEL.out.size))
        clear hb4
        go_wp2_with fail
        refine ⟨⟨k + 1, N, hlt, rfl, by go_num, ?_, ?_, HB4.out⟩, by simp [intOf]; omega⟩
        · show _ = _
          rw [cnt_same HX.out HG.out, ← hN.out]
        · show Counts w4 w2.heap.size (k + 1) _
          obtain ⟨D, h1, h2, h3⟩ := hc2.out
          refine ⟨D, h1.mono (Nat.le_succ k), h2, fun y => ?_⟩
          rw [goods_same HX.out HG.out]
          exact h3 y
    · obtain rfl : k = l.length := by omega
      have eN := Lib.hid (show N = cnt l by rw [hN.out, List.take_length])
      have hcl2 : Counts wr w2.heap.size (l.length + 0) (fun y => (((goods l).count y : Nat) : Int) - (((s.take 0).count y : Nat) : Int)) := by
        have := hcount.out
        rw [List.take_length] at this
        obtain ⟨D, h1, h2, h3⟩ := this
        exact ⟨D, h1, h2, fun y => by rw [h3 y]; simp⟩
      have HC2 := Lib.hid hcl2
      clear hcl2 hcount hN hbel
      go_wp2_with fail
      go_loopw [56] (fun i wq => ∃ k : Nat, k ≤ s.length ∧ i = .int .i64 (k : Int) ∧ Hid (Counts wq w2.heap.size (l.length + k) (fun y => (((goods l).count y : Nat) : Int) - (((s.take k).count y : Nat) : Int))) ∧ Below w2.heap.size w2 wq) (fun i _ => s.length - (intOf i).toNat)
      case atStart => exact ⟨0, Nat.zero_le _, rfl, HC2.out, HBEL.out⟩
      case round =>
        obtain ⟨k, hk, rfl, hcount, hbel⟩ := hrel
        have HBQ := Lib.hid hbel
        by_cases hlt : k < s.length
        · obtain ⟨x, hx⟩ : ∃ x, s[k]? = some x := ⟨s[k], List.getElem?_eq_getElem hlt⟩
          obtain ⟨hx64, ad2, rfl, had2, hcell⟩ := HG2.out k x hx
          have cS : wr.cell? (ad2.add k) = some (.int .u64 (x : Int)) := (hbel.cell (by rw [add_block]; exact had2)).trans hcell
          have HKEY := Lib.hid (keyOf_int_mk Try.underlying22 (u64_wf hx64))
          have HX := Lib.hid hx
          have hcnt : (s.take k).count x + 1 ≤ (goods l).count x := by
            rw [← HPERM.out.count_eq x]
            have h1 : (s.take (k + 1)).count x ≤ s.count x := List.Sublist.count_le x (List.take_sublist _ _)
            rw [take_more hx, List.count_append, List.count_singleton_self] at h1
            exact h1
          have hmax : (goods l).count x ≤ 50 := by
            refine Nat.le_trans List.count_le_length ?_
            rw [goods_len]
            exact Nat.le_trans (cnt_le _) hl
          obtain ⟨Y, hY⟩ : ∃ Y : Nat, (((goods l).count x : Nat) : Int) - (((s.take k).count x : Nat) : Int) = (Y : Int) + 1 := ⟨(goods l).count x - (s.take k).count x - 1, by omega⟩
          have bY : Y ≤ 50 := by omega
          have HY := Lib.hid hY
          obtain ⟨D, hown, hD, hat0⟩ := hcount.out
          have hA := hat0 x
          have hA' : D.atKey (.int .u64 (x : Int)) (.lit (.int .i64 0)) = .lit (.int .i64 ((Y : Int) + 1)) := hA.trans (congrArg (fun z => DataW.lit (.int .i64 z)) HY.out)
          have HD := Lib.hid (And.intro hD hat0)
          have HA := Lib.hid hA'
          have z4 := HBQ.out.size
          obtain ⟨kx, hkx0⟩ : ∃ kx, kx = (x + 9223372036854775808) % 18446744073709551616 := ⟨_, rfl⟩
          have e1 : IntKind.u64.wrap ((x : Int) + 9223372036854775808) = (kx : Int) := by rw [IntKind.wrap_u64]; omega
          clear hcell hx had2 hcnt hmax hY hD hat0 hA hA' hbel
          rcases Nat.eq_zero_or_pos k with rfl | hk0
          · have cS0 : wr.cell? ad2 = some (.int .u64 (x : Int)) := by
              have h0 : ad2.add 0 = ad2 := by unfold Addr.add; rw [if_pos rfl]
              rw [h0] at cS
              exact cS
            clear cS
            go_wp2_with (first
            | (at_lookup; refine wpList_lookup_own_int _ rfl _ _ 41 rfl 22 3 .i64 law Try.underlying41 Try.underlying3 (zeroE _) w2.heap.size (l.length + 0) D rfl hown _ _ rfl HKEY.out ?_; intro cc hat hwc; obtain rfl := lit_inj (HA.out.symm.trans hat); clear hat hwc)
            | (at_lookup; refine wpList_lookup_own_int _ rfl _ _ 41 rfl 22 3 .i64 law Try.underlying41 Try.underlying3 (zeroE _) w2.heap.size (l.length + 0 + 1) _ rfl hown1 _ _ rfl HKEY.out ?_; intro cc hat hwc; obtain rfl := lit_inj ((atKey_put_same HD.out.1 isKey_u64 _ _).symm.trans hat); clear hat hwc)
            | (at_mapUpdate; refine wpList_mapUpdate_own _ rfl _ _ _ 41 rfl 22 3 law Try.underlying41 _ w2.heap.size (l.length + 0) D rfl hown (by unfold maxLen; omega) _ _ _ rfl rfl HKEY.out _ [] (plainElem_int Try.underlying3 (WalkArith.wf_i64 (by omega))) ?_; intro w5 hown1 hgrow1))
            refine ⟨⟨0 + 1, hlt, by go_num, ?_, ?_⟩, by simp [intOf]; omega⟩
            · show Counts w5 w2.heap.size (l.length + (0 + 1)) _
              refine counts_put HD.out.1 HD.out.2 hown1 (fun y => ?_)
              rw [take_more HX.out, count_more]
              by_cases hy : y = x
              · subst hy
                rw [if_pos rfl, if_pos rfl]
                have := HY.out
                omega
              · rw [if_neg hy, if_neg hy]
            · exact HBQ.out.grown hgrow1 z4 (fun j hj => by cases hj; exact Nat.le_refl _)
          · obtain ⟨j, hjk⟩ : ∃ j, k = j + 1 := ⟨k - 1, by omega⟩
            have ej : (k : Int) - 1 = (j : Int) := by omega
            have hj : j < s.length := by omega
            obtain ⟨p, hp⟩ : ∃ p, s[j]? = some p := ⟨s[j], List.getElem?_eq_getElem hj⟩
            obtain ⟨hp64, ad2', e2, hadp, hcellp⟩ := HG2.out j p hp
            injection e2 with e2
            subst e2
            have hord : keyOrd p ≤ keyOrd x := by
              have hpw := HPW.out
              rw [List.pairwise_iff_getElem] at hpw
              have := hpw j k hj hlt (by omega)
              have e3 : s[j] = p := by
                have := List.getElem?_eq_getElem hj
                rw [hp] at this
                injection this with this
                exact this.symm
              have e4 : s[k] = x := by
                have := List.getElem?_eq_getElem hlt
                rw [HX.out] at this
                injection this with this
                exact this.symm
              rwa [e3, e4] at this
            have hkp : Known p := by
              have : p ∈ goods l := HPERM.out.mem_iff.1 (List.mem_of_getElem? hp)
              unfold goods at this
              rw [List.mem_filter] at this
              exact known_of hp64 (by simpa using this.2)
            have hkx : Known x := by
              have : x ∈ goods l := HPERM.out.mem_iff.1 (List.mem_of_getElem? HX.out)
              unfold goods at this
              rw [List.mem_filter] at this
              exact known_of hx64 (by simpa using this.2)
            obtain ⟨kp, hkp2⟩ : ∃ kp, kp = (p + 9223372036854775808) % 18446744073709551616 := ⟨_, rfl⟩
            have e2 : IntKind.u64.wrap ((p : Int) + 9223372036854775808) = (kp : Int) := by rw [IntKind.wrap_u64]; omega
            have hle : kp ≤ kx := by
              rw [hkp2, hkx0]
              unfold keyOrd at hord
              unfold Known at hkp hkx
              split at hord <;> split at hord <;> omega
            have hpar : ((x : Int) == 9223372036854775808) = false ∨ (((x : Int) == 9223372036854775808) = true ∧ ((p : Int) != 9223372036854775808) = false) := by
              by_cases hx2 : x = 9223372036854775808
              · right
                have hp2 : p = 9223372036854775808 := by
                  unfold keyOrd at hord
                  rw [if_pos hx2] at hord
                  split at hord <;> omega
                rw [hx2, hp2]
                exact ⟨rfl, rfl⟩
              · left
                simp
                omega
            have HADP := Lib.hid hadp
            have HCP := Lib.hid hcellp
            have HCP2 : Hid (∀ w5 : World, wr.grownBy w5 (some w2.heap.size) → w5.cell? (ad2.add j) = some (.int .u64 (p : Int))) := by
              intro w5 hgrow1
              exact ((HBQ.out.grown hgrow1 z4 (fun j hj => by cases hj; exact Nat.le_refl _)).cell (by rw [add_block]; exact HADP.out)).trans HCP.out
            clear hp hp64 hadp hcellp hord hkp hkx hkp2 hj hx64 hkx0 hjk
            rcases hpar with f1 | ⟨f1, f2⟩
            all_goals
            go_wp2_with (first
            | (at_lookup; refine wpList_lookup_own_int _ rfl _ _ 41 rfl 22 3 .i64 law Try.underlying41 Try.underlying3 (zeroE _) w2.heap.size (l.length + k) D rfl hown _ _ rfl HKEY.out ?_; intro cc hat hwc; obtain rfl := lit_inj (HA.out.symm.trans hat); clear hat hwc)
            | (at_lookup; refine wpList_lookup_own_int _ rfl _ _ 41 rfl 22 3 .i64 law Try.underlying41 Try.underlying3 (zeroE _) w2.heap.size (l.length + k + 1) _ rfl hown1 _ _ rfl HKEY.out ?_; intro cc hat hwc; obtain rfl := lit_inj ((atKey_put_same HD.out.1 isKey_u64 _ _).symm.trans hat); clear hat hwc)
            | (at_mapUpdate; refine wpList_mapUpdate_own _ rfl _ _ _ 41 rfl 22 3 law Try.underlying41 _ w2.heap.size (l.length + k) D rfl hown (by unfold maxLen; omega) _ _ _ rfl rfl HKEY.out _ [] (plainElem_int Try.underlying3 (WalkArith.wf_i64 (by omega))) ?_; intro w5 hown1 hgrow1; have cP := HCP2.out _ hgrow1))
            refine ⟨⟨k + 1, hlt, by go_num, ?_, ?_⟩, by simp [intOf]; omega⟩
            · show Counts w5 w2.heap.size (l.length + (k + 1)) _
              refine counts_put HD.out.1 HD.out.2 hown1 (fun y => ?_)
              rw [take_more HX.out, count_more]
              by_cases hy : y = x
              · subst hy
                rw [if_pos rfl, if_pos rfl]
                have := HY.out
                omega
              · rw [if_neg hy, if_neg hy]
            · exact HBQ.out.grown hgrow1 z4 (fun j hj => by cases hj; exact Nat.le_refl _)

        · obtain rfl : k = s.length := by omega
          have hB := Lib.hid (HB2.out.trans (hbel.mono (Nat.le_trans z3 z2)))
          have hN2 : (s.length : Int) = (N : Int) := by have := HSL.out; have := eN.out; omega
          go_wp2
          go_ret
          refine ⟨ret_bool ?_, hB.out⟩
          simp
          try omega

theorem empty (w : World) :
    Calls Try.prog 6 #[.slice none 0 0] w fun e w' => e = .returned (.bool true) ∧ Below w.heap.size w w' := by
  have hmm := @run_makeMap Try.prog
  obtain ⟨i0, hi, hz0, hz1, hz2⟩ := info_parts info_u64
  have HI := Lib.hid (And.intro hi (And.intro hz0 (And.intro hz1 hz2)))
  clear hi hz0 hz1 hz2
  go_enter Try.func6, Try.ntmps6
  go_wp2_with fail
  refine (lives_any _).mono ?_
  rintro e w1 ⟨rfl, k1, rfl⟩
  have h0 : Below w.heap.size w ((w.drewN k1).alloc (.cells #[] 22)) := (below_draw _ _ _).alloc (Nat.le_refl _) _
  have HO0 : Hid (((w.drewN k1).alloc (.cells #[] 22)).ownsRow w.heap.size 22 1 (.slice (some ⟨w.heap.size, 0, none⟩) 0 0) 0 []) := World.ownsRow_made (w.drewN k1) #[] 0 (Nat.le_refl _) (by unfold maxLen; omega) rfl
  have HB0 := Lib.hid h0
  clear h0
  go_wp2_with (at_builtin; refine wpList_append_own_none rfl _ _ 39 rfl w.heap.size 22 i0 1 Try.underlying39 HI.out.1 (.slice (some ⟨w.heap.size, 0, none⟩) 0 0) 0 [] rfl HO0.out rfl ?_)
  refine (sort_any _ (some ⟨w.heap.size, 0, none⟩) 0 [] (by decide) (fun j x hj => by simp at hj)).mono ?_
  rintro e w2 ⟨q2, c2, s, rfl, hS2, hperm, hpw, hb2⟩
  have hs : s = [] := by
    have := hperm.length_eq
    exact List.eq_nil_of_length_eq_zero this
  subst hs
  have HB2 := Lib.hid (HB0.out.trans (hb2.mono HB0.out.size))
  have hbm : Below w.heap.size w (w2.alloc (.map #[] 0)) := HB2.out.alloc HB2.out.size _
  clear hS2 hperm hpw hb2
  go_wp2_with fail
  refine wp_loop_rounds 1 ?_
  rw [rounds_succ]
  go_wp2_with fail
  refine wp_loop_rounds 1 ?_
  rw [rounds_succ]
  go_wp2_with fail
  go_ret
  exact ⟨rfl, hbm⟩

theorem nats_of (zs : List Int) (h : ∀ z ∈ zs, (Lit.int .u64 z).wf = true) : ∃ l : List Nat, l.map (fun (x : Nat) => (x : Int)) = zs ∧ ∀ x ∈ l, x < 18446744073709551616 := by
  induction zs with
  | nil => exact ⟨[], rfl, fun x hx => by cases hx⟩
  | cons z zs ih =>
    obtain ⟨l, h1, h2⟩ := ih (fun y hy => h y (List.mem_cons_of_mem _ hy))
    obtain ⟨n, rfl, hn⟩ := nat_of_wf (h z List.mem_cons_self)
    refine ⟨n :: l, by rw [List.map_cons, h1], fun x hx => ?_⟩
    rcases List.mem_cons.1 hx with rfl | hx
    · exact hn
    · exact h2 x hx

theorem walk (a : Option Addr) (c : Nat) (l : List Nat) (w : World) (hm : l.length ≤ 9223372036854775807) (h : Samp w a l) (hn : a = none → c = 0 ∧ l = []) :
    Calls Try.prog 6 #[.slice a l.length c] w fun e w' => e = .returned (.bool true) ∧ Below w.heap.size w w' := by
  by_cases hl : l.length ≤ 50
  · rcases a with _ | ad
    · obtain ⟨rfl, rfl⟩ := hn rfl
      exact empty w
    · exact short ad c l w hl h
  · exact long a l.length c w (by omega) hm

theorem c_u64 : Try.prog.cellsOf 22 = 1 := by kernel_rfl
/-! ### THE ROW's STEP -/
set_option maxRecDepth 100000 in
theorem lifted (os : Os) (started : os.Started) (H : Type) (enc : TypeId × Value → H) :
    ReturnsInHanded {} Try.checked os 6 .any (Rows.gaugeSortsSpec.pre6 enc Try.prog Try.f6 Rows.gaugeSortsRow.domain false) (Rows.gaugeSortsSpec.post enc Try.prog Try.f6 false true false false) := by
  refine returnsInHanded_of_change (C := Try.checked) own started (by kernel_rfl) Try.func6
    (ChangeSpec.witness6 (enc := enc) (C := Try.checked) false ⟨#[], #[.slice none 0 0], []⟩ 8 (by kernel_rfl) (by kernel_rfl) (by kernel_rfl) (by kernel_rfl)) ?_
  intro W base args ds gs before hval0 hW hcnd _
  have hval : ∀ (j : Nat) t v, Try.f6.params[j]? = some t → args[j]? = some v → Value.okWide Try.prog W .any base t v := hval0
  have hW' := hW
  obtain ⟨p, q, hA0, hV, rfl, hfz, hnd⟩ := hW
  have hA : DataW.TrodAll enc Try.prog W 0 (fun _ => true) true Try.f6.params.toList args.toList ds p := hA0
  rw [Try.params6] at hA hval
  obtain ⟨v0, d0, rfl, rfl, h0⟩ := trodAll_one hA
  obtain ⟨rfl, rfl⟩ := trodVars_none hV
  obtain ⟨a0, len, cap, rfl⟩ := okWide_slice Try.underlying39 (hval 0 39 v0 rfl rfl)
  obtain ⟨fuel, hf⟩ := h0
  clear hA0 hval0
  simp only [List.append_nil] at hW'
  rcases open_ints Try.underlying39 Try.underlying22 c_u64 hf with ⟨hcs, hx⟩ | ⟨a, len', cap', zs, hcs, _, hl, hm, hz, hx, hcell, hwz⟩
  · simp [Value.cells] at hcs
    obtain ⟨rfl, rfl, rfl⟩ := hcs
    simp only [Prod.mk.injEq] at hx
    obtain ⟨rfl, rfl⟩ := hx
    refine (walk none 0 [] W (by decide) (fun j x hj => by simp at hj) (fun _ => ⟨rfl, rfl⟩)).mono fun e W' ⟨he, hg⟩ => ?_
    subst he
    exact ⟨_, rfl, post_below hW' hg (fun _ _ _ => trodAll_mk1 (shut_bool Try.underlying4 _)) (fun sp _ => trodAll_mk1 (shut_slice_nil Try.underlying39)) (fun _ => rfl) (ok_one (by kernel_rfl) rfl (okWide_bool_mk Try.underlying4 _))⟩
  · simp [Value.cells] at hcs
    obtain ⟨rfl, rfl, rfl⟩ := hcs
    simp only [Prod.mk.injEq] at hx
    obtain ⟨rfl, rfl⟩ := hx
    simp only [if_true] at hz
    have hlen : (zs.take len).length = len := by rw [List.length_take]; omega
    obtain ⟨l, hl1, hl2⟩ := nats_of (zs.take len) (fun z hz => hwz z (List.mem_of_mem_take hz))
    have hll : l.length = len := by rw [← hl1, List.length_map] at hlen; exact hlen
    have hs : Samp W (some a) l := fun j x hj => by
      have hj2 : j < len := by rw [← hll]; exact (List.getElem?_eq_some_iff.1 hj).1
      have hc := hcell j (by omega)
      have hz : zs.getD j 0 = (x : Int) := by
        have h3 : (zs.take len)[j]? = some (x : Int) := by rw [← hl1, List.getElem?_map, hj]; rfl
        rw [List.getElem?_take_of_lt hj2] at h3
        rw [List.getD_eq_getElem?_getD, h3]
        rfl
      rw [hz] at hc
      refine ⟨hl2 x (List.mem_of_getElem? hj), a, rfl, ?_, hc⟩
      rcases Nat.lt_or_ge (a.add j).block W.heap.size with h' | h'
      · rwa [add_block] at h'
      · simp [World.cell?, Array.getElem?_eq_none h'] at hc
    have fin : Calls Try.prog 6 #[.slice (some a) len cap] W fun e W' => e = .returned (.bool true) ∧ Below W.heap.size W W' := by
      have := walk (some a) cap l W (by rw [hll]; unfold maxLen at hm; omega) hs (fun e => by cases e)
      rwa [hll] at this
    refine fin.mono fun e W' ⟨he, hg⟩ => ?_
    subst he
    have hcell' : ∀ i, i < zs.length → W'.cell? (a.add i) = some (.int .u64 (zs.getD i 0)) := fun i hi => by
      have h := hcell i hi
      rw [← h]
      refine hg.cell ?_
      rcases Nat.lt_or_ge (a.add i).block W.heap.size with h' | h'
      · exact h'
      · simp [World.cell?, Array.getElem?_eq_none h'] at h
    have again : ∀ sp : Nat → Bool, (∀ p ∈ MemPlace.row a zs.length, sp p.block = true) → DataW.TrodAll enc Try.prog W' 0 sp true [39] [.slice (some a) len cap] [.slice (lits .u64 (zs.take len)) (lits .u64 (zs.drop len))] (MemPlace.row a zs.length) := by
      intro sp hsp
      by_cases hz0 : zs.length = 0
      · have hc0 : cap = 0 := by omega
        have hl0 : len = 0 := by omega
        subst hc0; subst hl0
        have t0 := shut_ints (enc := enc) (w := W') (base := 0) (spare := sp) (held := true) (a := a) (len := 0) (cap := 0) (zs := zs) 0 Try.underlying39 Try.underlying22 c_u64 (Nat.zero_le _) (Nat.le_refl _) hm (by simp [hz0]) hcell' hwz
        exact trodAll_mk1 ⟨2, by simpa [Value.cells] using t0⟩
      · have hspb : sp a.block = true := by
          have := hsp (.cell a.block a.off) (MemPlace.mem_row.2 ⟨0, by omega, by simp⟩)
          exact this
        have t0 := shut_ints (enc := enc) (w := W') (base := 0) (spare := sp) (held := true) (a := a) (len := len) (cap := cap) (zs := zs) 0 Try.underlying39 Try.underlying22 c_u64 (Nat.zero_le _) hl hm (by simp [hspb, hz]) hcell' hwz
        exact trodAll_mk1 ⟨2, by simpa [Value.cells] using t0⟩
    refine ⟨_, rfl, post_below hW' hg (fun _ _ _ => trodAll_mk1 (shut_bool Try.underlying4 _)) (fun sp hsp => again sp (fun p hp => hsp p (by simpa using hp))) (fun _ => rfl) (ok_one (by kernel_rfl) rfl (okWide_bool_mk Try.underlying4 _))⟩

theorem over : Rows.gaugeSortsRow.holds Try.pinned (OpenSpec.ofChange Rows.gaugeSortsSpec) :=
  OpenClaim.holds_of_wide 6 Try.f6 rfl rfl rfl rfl rfl rfl rfl ⟨rfl, rfl, rfl, rfl, rfl⟩ rfl rfl rfl rfl rfl (by kernel_rfl) Try.func6 (by kernel_rfl)
    (of_decide_eq_true (by kernel_rfl)) (by unfold Func.isWrapper; first | (rw [if_pos (by decide +kernel)]; kernel_rfl) | (rw [if_neg (by decide +kernel)]; exact ⟨rfl, rfl⟩))
    (fun os started H enc _ => lifted os started H enc)

/-- The statement. -/
theorem proved : Rows.GaugeSortsSaid :=
  over
#print axioms proved
end Go.Proofs.Ytalhajnekpbkoaa.gaugeSorts
