/- Layer 20: Split of any row of uses. -/
import Derived.Test.YtajkhbdniadkkaaPpK
import Derived.Test.YtajkhbdniadkkaaObSet
import Derived.Deep.AppendLies
namespace Go.Proofs.Ytajkhbdniadkkaa.Pp
open Go.RowKit Go.Shelf Go.Lib Go.Sort Go.Deep
open Go.Joins (cell_of_block unfrozen_of_block block_setCell)
open Go.Proofs.Ytajkhbdniadkkaa.Ow Go.Proofs.Ytajkhbdniadkkaa.Ld
set_option linter.unusedVariables false
set_option linter.unusedSimpArgs false
set_option maxRecDepth 20000

theorem Three.below {N : Nat} {w w' : World} {a b c : Value} {x y z : List Ut} (h : Three N w a b c x y z) (bl : Below w.heap.size w w') : Three N w' a b c x y z :=
  ⟨h.h1.below bl, h.h2.below bl, h.h3.below bl, h.d12, h.d13, h.d23⟩
theorem Three.push1 {N : Nat} {w w' : World} {a b c a' : Value} {x y z x' : List Ut} (h : Three N w a b c x y z) (o : OwnT N w' a' x') (g : w.grownBy w' a.ownBlock) (e : a'.ownBlock = a.ownBlock ∨ a'.ownBlock = some w.heap.size) : Three N w' a' b c x' y z := by
  refine ⟨o, own_beside h.h2 g fun k hk hb => h.d12 k hk hb, own_beside h.h3 g fun k hk hb => h.d13 k hk hb, fun k h1 h2 => ?_, fun k h1 h2 => ?_, h.d23⟩
  · rcases e with e | e
    · rw [e] at h1; exact h.d12 k h1 h2
    · rw [e] at h1; cases h1; exact Nat.lt_irrefl _ (h.h2.lt _ h2).2
  · rcases e with e | e
    · rw [e] at h1; exact h.d13 k h1 h2
    · rw [e] at h1; cases h1; exact Nat.lt_irrefl _ (h.h3.lt _ h2).2
theorem Three.push2 {N : Nat} {w w' : World} {a b c a' : Value} {x y z x' : List Ut} (h : Three N w a b c x y z) (o : OwnT N w' a' x') (g : w.grownBy w' b.ownBlock) (e : a'.ownBlock = b.ownBlock ∨ a'.ownBlock = some w.heap.size) : Three N w' a a' c x x' z := by
  refine ⟨own_beside h.h1 g fun k hk hb => h.d12 k hb hk, o, own_beside h.h3 g fun k hk hb => h.d23 k hk hb, fun k h1 h2 => ?_, h.d13, fun k h1 h2 => ?_⟩
  · rcases e with e | e
    · rw [e] at h2; exact h.d12 k h1 h2
    · rw [e] at h2; cases h2; exact Nat.lt_irrefl _ (h.h1.lt _ h1).2
  · rcases e with e | e
    · rw [e] at h1; exact h.d23 k h1 h2
    · rw [e] at h1; cases h1; exact Nat.lt_irrefl _ (h.h3.lt _ h2).2
theorem Three.push3 {N : Nat} {w w' : World} {a b c a' : Value} {x y z x' : List Ut} (h : Three N w a b c x y z) (o : OwnT N w' a' x') (g : w.grownBy w' c.ownBlock) (e : a'.ownBlock = c.ownBlock ∨ a'.ownBlock = some w.heap.size) : Three N w' a b a' x y x' := by
  refine ⟨own_beside h.h1 g fun k hk hb => h.d13 k hb hk, own_beside h.h2 g fun k hk hb => h.d23 k hb hk, o, h.d12, fun k h1 h2 => ?_, fun k h1 h2 => ?_⟩
  · rcases e with e | e
    · rw [e] at h2; exact h.d13 k h1 h2
    · rw [e] at h2; cases h2; exact Nat.lt_irrefl _ (h.h1.lt _ h1).2
  · rcases e with e | e
    · rw [e] at h2; exact h.d23 k h1 h2
    · rw [e] at h2; cases h2; exact Nat.lt_irrefl _ (h.h2.lt _ h1).2

set_option maxHeartbeats 8000000 in
theorem pp_split (w : World) (q : Option Addr) (c : Nat) (l : List Ut) (hr : RowR 5 encT w q l) (hlen : l.length ≤ 1000000) :
    Calls Try.prog 33 #[.slice q l.length c] w fun e w' => (∃ va vb vc, e = .returned (.tuple #[va, vb, vc]) ∧ Hid (Three w.heap.size w' va vb vc (l.filter isHas) (l.filter isMis) (l.filter isUn))) ∧ Below w.heap.size w w' := by
  have mixed : Try.prog.follows .mixedOrders = true := by kernel_rfl
  obtain ⟨inf, i1, i2, i3, i4⟩ := info_UT
  have HI := Lib.hid (And.intro i1 (And.intro i2 (And.intro i3 i4)))
  obtain ⟨n, hn⟩ : ∃ n, n = l.length := ⟨_, rfl⟩
  rw [← hn] at hlen
  rw [← hn]
  have HH := Lib.hid (And.intro hr hn)
  clear hr hn i1 i2 i3 i4
  go_enter Try.func33, Try.ntmps33
  go_wp2_with fail
  go_loopg [2, 3, 4, 9] n (fun g1 va vb vc vi wr => ∃ j : Nat, vi = .int .i64 (j : Int) ∧ j ≤ n ∧ n - j ≤ g1 ∧ Hid (Three w.heap.size wr va vb vc ((l.take j).filter isHas) ((l.take j).filter isMis) ((l.take j).filter isUn)) ∧ Hid (Below w.heap.size w wr))
  case atStart => exact ⟨0, rfl, Nat.zero_le _, by omega, ⟨OwnT.nil _ _, OwnT.nil _ _, OwnT.nil _ _, fun g h => (by cases h), fun g h => (by cases h), fun g h => (by cases h)⟩, Below.refl _ _⟩
  case round =>
    obtain ⟨j, rfl, h1, h2, HP, HB⟩ := hrel
    by_cases hlt : j < n
    · obtain ⟨hr, hn⟩ := HH.out
      obtain ⟨x, hx⟩ : ∃ x, l[j]? = some x := ⟨l[j]'(by omega), List.getElem?_eq_getElem (by omega)⟩
      obtain ⟨b, off, rfl, hra⟩ := rangeT hr hx HB.out
      obtain ⟨LD, TH, w3, O, HW3, eb, bl⟩ := use_new hra
      have IN : Hid ((Try.prog.info? UT).map (·.size) = some (utA x).size) := by show _ = _; kernel_rfl
      have ON := Lib.hid (utA_all x)
      have XL : Hid ((utA x).toList = encT x) := rfl
      obtain ⟨rd, hrd⟩ : ∃ r, r = x.rd := ⟨_, rfl⟩
      obtain ⟨hs, hhs⟩ : ∃ r, r = x.hs := ⟨_, rfl⟩
      have d1 : w3.cell? ⟨O, 1, none⟩ = some (.bool rd) := by rw [hrd]; exact (cell_of_block eb 1).trans rfl
      have d2 : w3.cell? ⟨O, 2, none⟩ = some (.bool hs) := by rw [hhs]; exact (cell_of_block eb 2).trans rfl
      have LD3 := Lib.hid (load_ut (Ld.rangeAt_block eb) rfl)
      have TA := Lib.hid (fil_take isHas l hx)
      have TB := Lib.hid (fil_take isMis l hx)
      have TC := Lib.hid (fil_take isUn l hx)
      have EA : isHas x = (rd && hs) := by rw [hrd, hhs]; rfl
      have EB : isMis x = (rd && !hs) := by rw [hrd, hhs]; rfl
      have EC : isUn x = !rd := by rw [hrd]; rfl
      rw [EA] at TA
      rw [EB] at TB
      rw [EC] at TC
      have T3 := Lib.hid (HP.out.below bl)
      have B3 := Lib.hid (HB.out.trans (bl.mono HB.out.size))
      have LEN : (l.take j).length = j := by rw [List.length_take]; omega
      have LA : ((l.take j).filter isHas).length ≤ j := Nat.le_trans (List.length_filter_le _ _) (by omega)
      have LB : ((l.take j).filter isMis).length ≤ j := Nat.le_trans (List.length_filter_le _ _) (by omega)
      have LC : ((l.take j).filter isUn).length ≤ j := Nat.le_trans (List.length_filter_le _ _) (by omega)
      obtain ⟨X, hX⟩ : ∃ X, X = utA x := ⟨_, rfl⟩
      rw [← hX] at LD TH HW3 IN ON LD3 XL
      have XS : Hid (X.size = 5) := by show _ = _; rw [hX]; rfl
      have XO : Hid (∀ v ∈ X.toList, v.oneCell' = true) := by rw [hX]; exact utA_one x
      obtain ⟨w6, hw6⟩ : ∃ w6, w6 = w3.alloc (.cells X UT) := ⟨_, rfl⟩
      obtain ⟨M, hM⟩ : ∃ M, M = w3.heap.size := ⟨_, rfl⟩
      have NEW : Hid (∀ (t : Nat) v, X.toList[t]? = some v → w6.cell? ((⟨M, 0, none⟩ : Addr).add t) = some v) := by
        have := World.news_of_block (w := w6) (B := M) (cs := X) (t := UT) (fr := (0, 0)) (by rw [hw6, hM]; exact heap_alloc_new w3 _)
        exact this
      have b36 : Below w3.heap.size w3 w6 := by rw [hw6]; exact ((Gr.refl w3).alloc _).below
      have T6 := Lib.hid (T3.out.below b36)
      have B6 := Lib.hid (B3.out.trans (b36.mono B3.out.size))
      have BS : Hid (w.heap.size ≤ w6.heap.size) := B6.out.size
      have HW6 : Hid (w3.alloc (.cells X UT) = w6 ∧ w3.heap.size = M) := ⟨hw6.symm, hM.symm⟩
      have hby : ∀ m, m ≤ j → (m + 1) * inf.bytes ≤ 140737488355328 := fun m hm => Nat.le_trans (Nat.mul_le_mul (show m + 1 ≤ 1000001 by omega) HI.out.2.2.2) (by decide)
      have HBY := Lib.hid hby
      clear hr hn hx hra eb bl hX hrd hhs EA EB EC hw6 hM b36 hby LEN HP T3 B3
      go_upto_region 5 with (first | (refine wpList_load_by (by kernel_rfl) UT _ rfl (.pointer (some ⟨b, off + j * 5, none⟩)) (.agg X) (by rfl) LD.out ?_) | (refine wpList_store_mid rfl _ _ _ rfl wr.heap.size 0 X (by rfl) (by rfl) TH.out IN.out ON.out ?_; rw [HW3.out.1, HW3.out.2]))
      clear TH IN ON HW3 LD
      cases rd with
      | false =>
        go_wp2_with (first | (refine wpList_load_by (by kernel_rfl) UT _ rfl (.pointer (some ⟨O, 0, none⟩)) (.agg X) (by rfl) LD3.out ?_) | (refine Ld.wpList_build (by kernel_rfl) SlT UT _ rfl (.agg zerU) 5 X (by rfl) XS.out (by decide) (by decide) Try.underlying38 (by kernel_rfl) ?_; rw [HW6.out.1, HW6.out.2]) | (at_builtin; refine wpList_append_own_at w6 rfl _ _ SlT rfl w.heap.size UT inf (.agg zerU) 5 inf.bytes Try.underlying38 HI.out.1 HI.out.2.1 HI.out.2.2.1 rfl rfl (by decide) u4 ((l.take j).filter isUn).length (flat encT ((l.take j).filter isUn)) (by rfl) T6.out.h3 ⟨M, 0, none⟩ 1 1 X.toList (by rfl) (by rw [Array.length_toList, XS.out]) NEW.out XO.out (by unfold maxLen; omega) (HBY.out _ LC) BS.out ?_; intro v7 w7 ho7 hg7 hn7 ha7))
        have HO7 : Hid (OwnT w.heap.size w7 v7 ((l.take j).filter isUn ++ [x])) := by
          show w7.ownsRow _ _ _ _ _ _
          rw [flat_appT, List.length_append]
          have e : flat encT [x] = X.toList := by rw [XL.out]; simp [flat]
          rw [e]
          exact ho7
        have FIN : Hid (Three w.heap.size w7 u2 u3 v7 ((l.take (j + 1)).filter isHas) ((l.take (j + 1)).filter isMis) ((l.take (j + 1)).filter isUn)) := by
          show Three _ _ _ _ _ _ _ _
          rw [TA.out, TB.out, TC.out]
          simp only [Bool.and_true, Bool.true_and, Bool.and_false, Bool.false_and, Bool.not_true, Bool.not_false, if_true, if_false, List.append_nil, Bool.false_eq_true]
          exact T6.out.push3 HO7.out hg7 ha7
        have K7 : Hid (Below w.heap.size w w7) := B6.out.grown hg7 BS.out (fun k e => (T6.out.h3.lt k e).1)
        clear ho7 hg7 hn7 ha7 HO7 T6 TA TB TC B6 NEW XO XS XL LA LB LC
        go_wp2_with fail
        go_roundg (n - (j + 1))
        case measure => omega
        case rel => exact ⟨j + 1, by push_cast; rfl, by omega, by omega, FIN.out, K7.out⟩
      | true =>
        cases hs with
        | true =>
          go_wp2_with (first | (refine wpList_load_by (by kernel_rfl) UT _ rfl (.pointer (some ⟨O, 0, none⟩)) (.agg X) (by rfl) LD3.out ?_) | (refine Ld.wpList_build (by kernel_rfl) SlT UT _ rfl (.agg zerU) 5 X (by rfl) XS.out (by decide) (by decide) Try.underlying38 (by kernel_rfl) ?_; rw [HW6.out.1, HW6.out.2]) | (at_builtin; refine wpList_append_own_at w6 rfl _ _ SlT rfl w.heap.size UT inf (.agg zerU) 5 inf.bytes Try.underlying38 HI.out.1 HI.out.2.1 HI.out.2.2.1 rfl rfl (by decide) u2 ((l.take j).filter isHas).length (flat encT ((l.take j).filter isHas)) (by rfl) T6.out.h1 ⟨M, 0, none⟩ 1 1 X.toList (by rfl) (by rw [Array.length_toList, XS.out]) NEW.out XO.out (by unfold maxLen; omega) (HBY.out _ LA) BS.out ?_; intro v7 w7 ho7 hg7 hn7 ha7))
          have HO7 : Hid (OwnT w.heap.size w7 v7 ((l.take j).filter isHas ++ [x])) := by
            show w7.ownsRow _ _ _ _ _ _
            rw [flat_appT, List.length_append]
            have e : flat encT [x] = X.toList := by rw [XL.out]; simp [flat]
            rw [e]
            exact ho7
          have FIN : Hid (Three w.heap.size w7 v7 u3 u4 ((l.take (j + 1)).filter isHas) ((l.take (j + 1)).filter isMis) ((l.take (j + 1)).filter isUn)) := by
            show Three _ _ _ _ _ _ _ _
            rw [TA.out, TB.out, TC.out]
            simp only [Bool.and_true, Bool.true_and, Bool.and_false, Bool.false_and, Bool.not_true, Bool.not_false, if_true, if_false, List.append_nil, Bool.false_eq_true]
            exact T6.out.push1 HO7.out hg7 ha7
          have K7 : Hid (Below w.heap.size w w7) := B6.out.grown hg7 BS.out (fun k e => (T6.out.h1.lt k e).1)
          clear ho7 hg7 hn7 ha7 HO7 T6 TA TB TC B6 NEW XO XS XL LA LB LC
          go_wp2_with fail
          go_roundg (n - (j + 1))
          case measure => omega
          case rel => exact ⟨j + 1, by push_cast; rfl, by omega, by omega, FIN.out, K7.out⟩
        | false =>
          go_wp2_with (first | (refine wpList_load_by (by kernel_rfl) UT _ rfl (.pointer (some ⟨O, 0, none⟩)) (.agg X) (by rfl) LD3.out ?_) | (refine Ld.wpList_build (by kernel_rfl) SlT UT _ rfl (.agg zerU) 5 X (by rfl) XS.out (by decide) (by decide) Try.underlying38 (by kernel_rfl) ?_; rw [HW6.out.1, HW6.out.2]) | (at_builtin; refine wpList_append_own_at w6 rfl _ _ SlT rfl w.heap.size UT inf (.agg zerU) 5 inf.bytes Try.underlying38 HI.out.1 HI.out.2.1 HI.out.2.2.1 rfl rfl (by decide) u3 ((l.take j).filter isMis).length (flat encT ((l.take j).filter isMis)) (by rfl) T6.out.h2 ⟨M, 0, none⟩ 1 1 X.toList (by rfl) (by rw [Array.length_toList, XS.out]) NEW.out XO.out (by unfold maxLen; omega) (HBY.out _ LB) BS.out ?_; intro v7 w7 ho7 hg7 hn7 ha7))
          have HO7 : Hid (OwnT w.heap.size w7 v7 ((l.take j).filter isMis ++ [x])) := by
            show w7.ownsRow _ _ _ _ _ _
            rw [flat_appT, List.length_append]
            have e : flat encT [x] = X.toList := by rw [XL.out]; simp [flat]
            rw [e]
            exact ho7
          have FIN : Hid (Three w.heap.size w7 u2 v7 u4 ((l.take (j + 1)).filter isHas) ((l.take (j + 1)).filter isMis) ((l.take (j + 1)).filter isUn)) := by
            show Three _ _ _ _ _ _ _ _
            rw [TA.out, TB.out, TC.out]
            simp only [Bool.and_true, Bool.true_and, Bool.and_false, Bool.false_and, Bool.not_true, Bool.not_false, if_true, if_false, List.append_nil, Bool.false_eq_true]
            exact T6.out.push2 HO7.out hg7 ha7
          have K7 : Hid (Below w.heap.size w w7) := B6.out.grown hg7 BS.out (fun k e => (T6.out.h2.lt k e).1)
          clear ho7 hg7 hn7 ha7 HO7 T6 TA TB TC B6 NEW XO XS XL LA LB LC
          go_wp2_with fail
          go_roundg (n - (j + 1))
          case measure => omega
          case rel => exact ⟨j + 1, by push_cast; rfl, by omega, by omega, FIN.out, K7.out⟩
    · obtain rfl : j = n := by omega
      have FIN : Hid ((∃ va vb vc, Ending.returned (.tuple #[u2, u3, u4]) = .returned (.tuple #[va, vb, vc]) ∧ Hid (Three w.heap.size wr va vb vc (l.filter isHas) (l.filter isMis) (l.filter isUn))) ∧ Below w.heap.size w wr) := by
        have e : l.take j = l := List.take_of_length_le (by have := HH.out.2; omega)
        have h := HP.out
        rw [e] at h
        exact ⟨⟨u2, u3, u4, rfl, h⟩, HB.out⟩
      clear HP HB HH
      go_wp2
      go_ret3
      exact FIN.out
end Go.Proofs.Ytajkhbdniadkkaa.Pp
