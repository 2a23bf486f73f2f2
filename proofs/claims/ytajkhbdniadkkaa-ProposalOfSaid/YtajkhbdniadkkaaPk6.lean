/- Layer 20: Split of any row of uses. -/
import Derived.Test.YtajkhbdniadkkaaPk5
import Derived.Deep.AppendLies
import Derived.Test.YtajkhbdniadkkaaHeldE
import Derived.Great.BuildSlice
namespace Go.Proofs.Ytajkhbdniadkkaa.Pp
open Go.RowKit Go.Shelf Go.Lib Go.Sort Go.Deep
open Go.Joins (cell_of_block unfrozen_of_block block_setCell)
open Go.Proofs.Ytajkhbdniadkkaa.Ow Go.Proofs.Ytajkhbdniadkkaa.Ld
set_option linter.unusedVariables false
set_option linter.unusedSimpArgs false
set_option maxRecDepth 20000

theorem Three.below {N : Nat} {w w' : World} {a b c : Value} {x y z : List Ut} (h : Three N w a b c x y z) (bl : Below w.heap.size w w') : Three N w' a b c x y z :=
  ⟨h.h1.below bl, h.h2.below bl, h.h3.below bl, h.d12, h.d13, h.d23⟩
theorem Three.push1 {N : Nat} {w w' : World} {a b c a' : Value} {x y z x' : List Ut} (h : Three N w a b c x y z) (o : OwnT N w' a' x') (g : w.grownBy w' a.ownBlock) (e : a'.ownBlock = a.ownBlock ∨ a'.ownBlock = some w.heap.size) : Three N w' a' b c x' y z := by
  refine ⟨o, own_beside h.h2 g fun k hk hb => h.d12 k hk hb, own_beside h.h3 g fun k hk hb => h.d13 k hk hb, fun k h1 h2 => ?_, fun k h1 h2 => ?_, h.d23⟩
  · rcases e with e | e
    · rw [e] at h1; exact h.d12 k h1 h2
    · rw [e] at h1; cases h1; exact Nat.lt_irrefl _ (h.h2.lt _ h2).2
  · rcases e with e | e
    · rw [e] at h1; exact h.d13 k h1 h2
    · rw [e] at h1; cases h1; exact Nat.lt_irrefl _ (h.h3.lt _ h2).2
theorem Three.push2 {N : Nat} {w w' : World} {a b c a' : Value} {x y z x' : List Ut} (h : Three N w a b c x y z) (o : OwnT N w' a' x') (g : w.grownBy w' b.ownBlock) (e : a'.ownBlock = b.ownBlock ∨ a'.ownBlock = some w.heap.size) : Three N w' a a' c x x' z := by
  refine ⟨own_beside h.h1 g fun k hk hb => h.d12 k hb hk, o, own_beside h.h3 g fun k hk hb => h.d23 k hk hb, fun k h1 h2 => ?_, h.d13, fun k h1 h2 => ?_⟩
  · rcases e with e | e
    · rw [e] at h2; exact h.d12 k h1 h2
    · rw [e] at h2; cases h2; exact Nat.lt_irrefl _ (h.h1.lt _ h1).2
  · rcases e with e | e
    · rw [e] at h1; exact h.d23 k h1 h2
    · rw [e] at h1; cases h1; exact Nat.lt_irrefl _ (h.h3.lt _ h2).2
theorem Three.push3 {N : Nat} {w w' : World} {a b c a' : Value} {x y z x' : List Ut} (h : Three N w a b c x y z) (o : OwnT N w' a' x') (g : w.grownBy w' c.ownBlock) (e : a'.ownBlock = c.ownBlock ∨ a'.ownBlock = some w.heap.size) : Three N w' a b a' x y x' := by
  refine ⟨own_beside h.h1 g fun k hk hb => h.d13 k hb hk, own_beside h.h2 g fun k hk hb => h.d23 k hb hk, o, h.d12, fun k h1 h2 => ?_, fun k h1 h2 => ?_⟩
  · rcases e with e | e
    · rw [e] at h2; exact h.d13 k h1 h2
    · rw [e] at h2; cases h2; exact Nat.lt_irrefl _ (h.h1.lt _ h1).2
  · rcases e with e | e
    · rw [e] at h2; exact h.d23 k h1 h2
    · rw [e] at h2; cases h2; exact Nat.lt_irrefl _ (h.h2.lt _ h1).2

set_option maxHeartbeats 8000000 in
theorem pp_split (w : World) (q : Option Addr) (c : Nat) (l : List Ut) (hr : RowR 5 encT w q l) (hlen : l.length ≤ 1000000) :
    Calls Try.prog 33 #[.slice q l.length c] w fun e w' => (∃ va vb vc, e = .returned (.tuple #[va, vb, vc]) ∧ Hid (Three w.heap.size w' va vb vc (l.filter isHas) (l.filter isMis) (l.filter isUn))) ∧ Below w.heap.size w w' := by
  have mixed : Try.prog.follows .mixedOrders = true := by kernel_rfl
  obtain ⟨inf, i1, i2, i3, i4⟩ := info_UT
  have HI := Lib.hid (And.intro i1 (And.intro i2 (And.intro i3 i4)))
  obtain ⟨n, hn⟩ : ∃ n, n = l.length := ⟨_, rfl⟩
  rw [← hn] at hlen
  rw [← hn]
  have HH := Lib.hid (And.intro hr hn)
  clear hr hn i1 i2 i3 i4
  go_enter Try.func33, Try.ntmps33
  go_wp2_with fail
  go_loopg [2, 3, 4, 9] n (fun g1 va vb vc vi wr => ∃ j : Nat, vi = .int .i64 (j : Int) ∧ j ≤ n ∧ n - j ≤ g1 ∧ Hid (Three w.heap.size wr va vb vc ((l.take j).filter isHas) ((l.take j).filter isMis) ((l.take j).filter isUn)) ∧ Hid (Below w.heap.size w wr))
  case atStart => exact ⟨0, rfl, Nat.zero_le _, by omega, ⟨OwnT.nil _ _, OwnT.nil _ _, OwnT.nil _ _, fun g h => (by cases h), fun g h => (by cases h), fun g h => (by cases h)⟩, Below.refl _ _⟩
  case round =>
    obtain ⟨j, rfl, h1, h2, HP, HB⟩ := hrel
    by_cases hlt : j < n
    · obtain ⟨hr, hn⟩ := HH.out
      obtain ⟨x, hx⟩ : ∃ x, l[j]? = some x := ⟨l[j]'(by omega), List.getElem?_eq_getElem (by omega)⟩
      obtain ⟨b, off, rfl, hra⟩ := rangeT hr hx HB.out
      obtain ⟨LD, TH, w3, O, HW3, eb, bl⟩ := use_new hra
      have IN : Hid ((Try.prog.info? UT).map (·.size) = some (utA x).size) := by show _ = _; kernel_rfl
      have ON := Lib.hid (utA_all x)
      have XL : Hid ((utA x).toList = encT x) := rfl
      obtain ⟨rd, hrd⟩ : ∃ r, r = x.rd := ⟨_, rfl⟩
      obtain ⟨hs, hhs⟩ : ∃ r, r = x.hs := ⟨_, rfl⟩
      have d1 : w3.cell? ⟨O, 1, none⟩ = some (.bool rd) := by rw [hrd]; exact (cell_of_block eb 1).trans rfl
      have d2 : w3.cell? ⟨O, 2, none⟩ = some (.bool hs) := by rw [hhs]; exact (cell_of_block eb 2).trans rfl
      have LD3 := Lib.hid (load_ut (Ld.rangeAt_block eb) rfl)
      have TA := Lib.hid (fil_take isHas l hx)
      have TB := Lib.hid (fil_take isMis l hx)
      have TC := Lib.hid (fil_take isUn l hx)
      have EA : isHas x = (rd && hs) := by rw [hrd, hhs]; rfl
      have EB : isMis x = (rd && !hs) := by rw [hrd, hhs]; rfl
      have EC : isUn x = !rd := by rw [hrd]; rfl
      rw [EA] at TA
      rw [EB] at TB
      rw [EC] at TC
      have T3 := Lib.hid (HP.out.below bl)
      have B3 := Lib.hid (HB.out.trans (bl.mono HB.out.size))
      have LEN : (l.take j).length = j := by rw [List.length_take]; omega
      have LA : ((l.take j).filter isHas).length ≤ j := Nat.le_trans (List.length_filter_le _ _) (by omega)
      have LB : ((l.take j).filter isMis).length ≤ j := Nat.le_trans (List.length_filter_le _ _) (by omega)
      have LC : ((l.take j).filter isUn).length ≤ j := Nat.le_trans (List.length_filter_le _ _) (by omega)
      obtain ⟨X, hX⟩ : ∃ X, X = utA x := ⟨_, rfl⟩
      rw [← hX] at LD TH HW3 IN ON LD3 XL
      have XS : Hid (X.size = 5) := by show _ = _; rw [hX]; rfl
      have XO : Hid (∀ v ∈ X.toList, v.oneCell' = true) := by rw [hX]; exact utA_one x
      obtain ⟨w6, hw6⟩ : ∃ w6, w6 = w3.alloc (.cells X UT) := ⟨_, rfl⟩
      obtain ⟨M, hM⟩ : ∃ M, M = w3.heap.size := ⟨_, rfl⟩
      have NEW : Hid (∀ (t : Nat) v, X.toList[t]? = some v → w6.cell? ((⟨M, 0, none⟩ : Addr).add t) = some v) := by
        have := World.news_of_block (w := w6) (B := M) (cs := X) (t := UT) (fr := (0, 0)) (by rw [hw6, hM]; exact heap_alloc_new w3 _)
        exact this
      have b36 : Below w3.heap.size w3 w6 := by rw [hw6]; exact ((Gr.refl w3).alloc _).below
      have T6 := Lib.hid (T3.out.below b36)
      have B6 := Lib.hid (B3.out.trans (b36.mono B3.out.size))
      have BS : Hid (w.heap.size ≤ w6.heap.size) := B6.out.size
      have HW6 : Hid (w3.alloc (.cells X UT) = w6 ∧ w3.heap.size = M) := ⟨hw6.symm, hM.symm⟩
      have hby : ∀ m, m ≤ j → (m + 1) * inf.bytes ≤ 140737488355328 := fun m hm => Nat.le_trans (Nat.mul_le_mul (show m + 1 ≤ 1000001 by omega) HI.out.2.2.2) (by decide)
      have HBY := Lib.hid hby
      clear hr hn hx hra eb bl hX hrd hhs EA EB EC hw6 hM b36 hby LEN HP T3 B3
      go_upto_region 5 with (first | (refine wpList_load_by (by kernel_rfl) UT _ rfl (.pointer (some ⟨b, off + j * 5, none⟩)) (.agg X) (by rfl) LD.out ?_) | (refine wpList_store_mid rfl _ _ _ rfl wr.heap.size 0 X (by rfl) (by rfl) TH.out IN.out ON.out ?_; rw [HW3.out.1, HW3.out.2]))
      clear TH IN ON HW3 LD
      cases rd with
      | false =>
        go_wp2_with (first | (refine wpList_load_by (by kernel_rfl) UT _ rfl (.pointer (some ⟨O, 0, none⟩)) (.agg X) (by rfl) LD3.out ?_) | (refine Ld.wpList_build (by kernel_rfl) SlT UT _ rfl (.agg zerU) 5 X (by rfl) XS.out (by decide) (by decide) Try.underlying38 (by kernel_rfl) ?_; rw [HW6.out.1, HW6.out.2]) | (at_builtin; refine wpList_append_own_at w6 rfl _ _ SlT rfl w.heap.size UT inf (.agg zerU) 5 inf.bytes Try.underlying38 HI.out.1 HI.out.2.1 HI.out.2.2.1 rfl rfl (by decide) u4 ((l.take j).filter isUn).length (flat encT ((l.take j).filter isUn)) (by rfl) T6.out.h3 ⟨M, 0, none⟩ 1 1 X.toList (by rfl) (by rw [Array.length_toList, XS.out]) NEW.out XO.out (by unfold maxLen; omega) (HBY.out _ LC) BS.out ?_; intro v7 w7 ho7 hg7 hn7 ha7))
        have HO7 : Hid (OwnT w.heap.size w7 v7 ((l.take j).filter isUn ++ [x])) := by
          show w7.ownsRow _ _ _ _ _ _
          rw [flat_appT, List.length_append]
          have e : flat encT [x] = X.toList := by rw [XL.out]; simp [flat]
          rw [e]
          exact ho7
        have FIN : Hid (Three w.heap.size w7 u2 u3 v7 ((l.take (j + 1)).filter isHas) ((l.take (j + 1)).filter isMis) ((l.take (j + 1)).filter isUn)) := by
          show Three _ _ _ _ _ _ _ _
          rw [TA.out, TB.out, TC.out]
          simp only [Bool.and_true, Bool.true_and, Bool.and_false, Bool.false_and, Bool.not_true, Bool.not_false, if_true, if_false, List.append_nil, Bool.false_eq_true]
          exact T6.out.push3 HO7.out hg7 ha7
        have K7 : Hid (Below w.heap.size w w7) := B6.out.grown hg7 BS.out (fun k e => (T6.out.h3.lt k e).1)
        clear ho7 hg7 hn7 ha7 HO7 T6 TA TB TC B6 NEW XO XS XL LA LB LC
        go_wp2_with fail
        go_roundg (n - (j + 1))
        case measure => omega
        case rel => exact ⟨j + 1, by push_cast; rfl, by omega, by omega, FIN.out, K7.out⟩
      | true =>
        cases hs with
        | true =>
          go_wp2_with (first | (refine wpList_load_by (by kernel_rfl) UT _ rfl (.pointer (some ⟨O, 0, none⟩)) (.agg X) (by rfl) LD3.out ?_) | (refine Ld.wpList_build (by kernel_rfl) SlT UT _ rfl (.agg zerU) 5 X (by rfl) XS.out (by decide) (by decide) Try.underlying38 (by kernel_rfl) ?_; rw [HW6.out.1, HW6.out.2]) | (at_builtin; refine wpList_append_own_at w6 rfl _ _ SlT rfl w.heap.size UT inf (.agg zerU) 5 inf.bytes Try.underlying38 HI.out.1 HI.out.2.1 HI.out.2.2.1 rfl rfl (by decide) u2 ((l.take j).filter isHas).length (flat encT ((l.take j).filter isHas)) (by rfl) T6.out.h1 ⟨M, 0, none⟩ 1 1 X.toList (by rfl) (by rw [Array.length_toList, XS.out]) NEW.out XO.out (by unfold maxLen; omega) (HBY.out _ LA) BS.out ?_; intro v7 w7 ho7 hg7 hn7 ha7))
          have HO7 : Hid (OwnT w.heap.size w7 v7 ((l.take j).filter isHas ++ [x])) := by
            show w7.ownsRow _ _ _ _ _ _
            rw [flat_appT, List.length_append]
            have e : flat encT [x] = X.toList := by rw [XL.out]; simp [flat]
            rw [e]
            exact ho7
          have FIN : Hid (Three w.heap.size w7 v7 u3 u4 ((l.take (j + 1)).filter isHas) ((l.take (j + 1)).filter isMis) ((l.take (j + 1)).filter isUn)) := by
            show Three _ _ _ _ _ _ _ _
            rw [TA.out, TB.out, TC.out]
            simp only [Bool.and_true, Bool.true_and, Bool.and_false, Bool.false_and, Bool.not_true, Bool.not_false, if_true, if_false, List.append_nil, Bool.false_eq_true]
            exact T6.out.push1 HO7.out hg7 ha7
          have K7 : Hid (Below w.heap.size w w7) := B6.out.grown hg7 BS.out (fun k e => (T6.out.h1.lt k e).1)
          clear ho7 hg7 hn7 ha7 HO7 T6 TA TB TC B6 NEW XO XS XL LA LB LC
          go_wp2_with fail
          go_roundg (n - (j + 1))
          case measure => omega
          case rel => exact ⟨j + 1, by push_cast; rfl, by omega, by omega, FIN.out, K7.out⟩
        | false =>
          go_wp2_with (first | (refine wpList_load_by (by kernel_rfl) UT _ rfl (.pointer (some ⟨O, 0, none⟩)) (.agg X) (by rfl) LD3.out ?_) | (refine Ld.wpList_build (by kernel_rfl) SlT UT _ rfl (.agg zerU) 5 X (by rfl) XS.out (by decide) (by decide) Try.underlying38 (by kernel_rfl) ?_; rw [HW6.out.1, HW6.out.2]) | (at_builtin; refine wpList_append_own_at w6 rfl _ _ SlT rfl w.heap.size UT inf (.agg zerU) 5 inf.bytes Try.underlying38 HI.out.1 HI.out.2.1 HI.out.2.2.1 rfl rfl (by decide) u3 ((l.take j).filter isMis).length (flat encT ((l.take j).filter isMis)) (by rfl) T6.out.h2 ⟨M, 0, none⟩ 1 1 X.toList (by rfl) (by rw [Array.length_toList, XS.out]) NEW.out XO.out (by unfold maxLen; omega) (HBY.out _ LB) BS.out ?_; intro v7 w7 ho7 hg7 hn7 ha7))
          have HO7 : Hid (OwnT w.heap.size w7 v7 ((l.take j).filter isMis ++ [x])) := by
            show w7.ownsRow _ _ _ _ _ _
            rw [flat_appT, List.length_append]
            have e : flat encT [x] = X.toList := by rw [XL.out]; simp [flat]
            rw [e]
            exact ho7
          have FIN : Hid (Three w.heap.size w7 u2 v7 u4 ((l.take (j + 1)).filter isHas) ((l.take (j + 1)).filter isMis) ((l.take (j + 1)).filter isUn)) := by
            show Three _ _ _ _ _ _ _ _
            rw [TA.out, TB.out, TC.out]
            simp only [Bool.and_true, Bool.true_and, Bool.and_false, Bool.false_and, Bool.not_true, Bool.not_false, if_true, if_false, List.append_nil, Bool.false_eq_true]
            exact T6.out.push2 HO7.out hg7 ha7
          have K7 : Hid (Below w.heap.size w w7) := B6.out.grown hg7 BS.out (fun k e => (T6.out.h2.lt k e).1)
          clear ho7 hg7 hn7 ha7 HO7 T6 TA TB TC B6 NEW XO XS XL LA LB LC
          go_wp2_with fail
          go_roundg (n - (j + 1))
          case measure => omega
          case rel => exact ⟨j + 1, by push_cast; rfl, by omega, by omega, FIN.out, K7.out⟩
    · obtain rfl : j = n := by omega
      have FIN : Hid ((∃ va vb vc, Ending.returned (.tuple #[u2, u3, u4]) = .returned (.tuple #[va, vb, vc]) ∧ Hid (Three w.heap.size wr va vb vc (l.filter isHas) (l.filter isMis) (l.filter isUn))) ∧ Below w.heap.size w wr) := by
        have e : l.take j = l := List.take_of_length_le (by have := HH.out.2; omega)
        have h := HP.out
        rw [e] at h
        exact ⟨⟨u2, u3, u4, rfl, h⟩, HB.out⟩
      clear HP HB HH
      go_wp2
      go_ret3
      exact FIN.out
end Go.Proofs.Ytajkhbdniadkkaa.Pp
/- A step of a region that reads up to one write: what alone comes up. -/
namespace Go.Proofs.Ytajkhbdniadkkaa
open Go.RowKit Go.Shelf Go.Lib Go.Sort
set_option linter.unusedVariables false
set_option linter.unusedSimpArgs false
section
variable {P : Program} {ops : Array Oper} {Q : Exit → Act → World → Prop} {md : Region.Mode} {S : World → Prop} {f : Nat}
theorem wpAnyE_one {i fuel : Nat} {listed : Array Bool} {a : Act} {w : World} {o : Oper} (ho : ops[i]? = some o) (hif : (!(i == f)) = true) (hr : Region.ready md ops listed = [i])
    (h : ∀ K' : Act → World → Prop, Shut (∀ a w, S w → (S w → wpAnyE P md ops Q S f fuel (listed.setIfInBounds i true) a w) → K' a w) → if Region.wanted o (yielded ops a.tmps) = true then Oper.wp P o a w K' Q else K' (a.put o.dst undef) w) :
    wpAnyE P md ops Q S f (fuel + 1) listed a w := fun hc => by
  simp only [Bool.not_eq_true', beq_eq_false_iff_ne] at hif
  refine ⟨fun e => (by rw [hr] at e; cases e), fun j hj => ?_⟩
  have hc' := hc.set hj
  rw [hr, List.mem_singleton] at hj
  subst hj
  exact wpOp_step ho (fun K' hK => h K' (fun a w hS hW => hK a w ⟨fun _ => ⟨hS, hW hS hc'⟩, fun e => absurd e hif⟩))
end
end Go.Proofs.Ytajkhbdniadkkaa
/- Layer 20: a load with the pods of which nobody knows what they use. -/
namespace Go.Proofs.Ytajkhbdniadkkaa.Pp
open Go.RowKit Go.Shelf Go.Lib Go.Sort Go.Deep
open Go.Joins (cell_of_block unfrozen_of_block block_setCell)
open Go.Proofs.Ytajkhbdniadkkaa.Ow Go.Proofs.Ytajkhbdniadkkaa.Ld
set_option linter.unusedVariables false
set_option linter.unusedSimpArgs false
set_option maxRecDepth 20000

/-- Three boxes: a load's, a metric's, the answer's. -/
theorem box3 (w : World) (D M : Array Value) : ∃ w1, Hid (((w.alloc (.cells D LT)).alloc (.cells M MT)).alloc (.cells zerL LT) = w1) ∧ Below w.heap.size w w1 ∧ w1.heap[w.heap.size]? = some (.cells D LT (0, 0)) ∧ w1.heap[w.heap.size + 1]? = some (.cells M MT (0, 0)) ∧ w1.heap[w.heap.size + 2]? = some (.cells zerL LT (0, 0)) := by
  obtain ⟨wa, hwa⟩ : ∃ x, x = w.alloc (.cells D LT) := ⟨_, rfl⟩
  obtain ⟨wb, hwb⟩ : ∃ x, x = wa.alloc (.cells M MT) := ⟨_, rfl⟩
  obtain ⟨wc, hwc⟩ : ∃ x, x = wb.alloc (.cells zerL LT) := ⟨_, rfl⟩
  have z1 : wa.heap.size = w.heap.size + 1 := by rw [hwa]; simp
  have z2 : wb.heap.size = w.heap.size + 2 := by rw [hwb]; simp; omega
  have Ba : Below w.heap.size w wc := by rw [hwc, hwb, hwa]; exact ((((Gr.refl w).alloc _).alloc _).alloc _).below
  have x0 : wa.heap[w.heap.size]? = some (.cells D LT (0, 0)) := by rw [hwa]; exact heap_alloc_new w _
  have x1 : wb.heap[w.heap.size]? = some (.cells D LT (0, 0)) := by rw [hwb]; exact (Below.heap_alloc wa _ _ (by omega)).trans x0
  have x2 : wb.heap[w.heap.size + 1]? = some (.cells M MT (0, 0)) := by rw [hwb, ← z1]; exact heap_alloc_new wa _
  refine ⟨wc, ?_, Ba, ?_, ?_, ?_⟩
  · show _ = _; rw [hwc, hwb, hwa]
  · rw [hwc]; exact (Below.heap_alloc wb _ _ (by omega)).trans x1
  · rw [hwc]; exact (Below.heap_alloc wb _ _ (by omega)).trans x2
  · rw [hwc, ← z2]; exact heap_alloc_new wb _
theorem ld_range {w : World} {B : Nat} {D : Array Value} {T : TypeId} (h : w.heap[B]? = some (.cells D T (0, 0))) : w.rangeAt B 0 D.toList := Ld.rangeAt_block h

set_option maxHeartbeats 8000000 in
theorem guessed_even (w : World) (u n : Nat) (M : Array Value) (V1 V2 : Value) :
    Calls Try.prog 35 #[.agg (loadC (u : Int) (u : Int) (n : Int)), .agg M, V1, V2] w fun e w' => e = .returned (.tuple #[.agg (loadC (u : Int) (u : Int) (n : Int)), .int .i64 0]) ∧ Below w.heap.size w w' := by
  obtain ⟨D, hD⟩ : ∃ D, D = loadC (u : Int) (u : Int) (n : Int) := ⟨_, rfl⟩
  rw [← hD]
  obtain ⟨w1, HW, Ba, y0, _, y2⟩ := box3 w D M
  obtain ⟨B, hB⟩ : ∃ B, B = w.heap.size := ⟨_, rfl⟩
  rw [← hB] at y0 y2
  have HB : Hid (w.heap.size = B) := hB.symm
  have c0 : w1.cell? ⟨B, 0, none⟩ = some (.int .i64 (u : Int)) := (cell_of_block y0 0).trans (by rw [hD]; rfl)
  have c1 : w1.cell? ⟨B, 1, none⟩ = some (.int .i64 (u : Int)) := (cell_of_block y0 1).trans (by rw [hD]; rfl)
  have sD : D.size = 3 := by rw [hD]; rfl
  have oD : Hid (D.all (·.oneCell') = true) := by rw [hD]; exact loadC_all _ _ _
  have LL := Lib.hid (load_ld y0 sD)
  obtain ⟨th, blk, blw⟩ := put_ld (D := D) y2 rfl sD Ba (by omega)
  have TH := Lib.hid th
  have RES := Lib.hid (And.intro blk blw)
  have IN : Hid ((Try.prog.info? LT).map (·.size) = some D.size) := by show _ = _; rw [sD]; exact info_LT
  clear Ba y0 y2 hB hD th blk blw sD
  go_enter Try.func35, Try.ntmps35
  go_upto_region 1 with fail
  rw [HW.out, HB.out]
  go_wp2_with (first | (refine wpList_load_by (by kernel_rfl) LT _ rfl (.pointer (some ⟨B, 0, none⟩)) (.agg D) (by rfl) LL.out ?_) | (refine wpList_store_mid rfl _ _ _ rfl (B + 2) 0 D (by rfl) (by rfl) TH.out IN.out oD.out ?_))
  refine bodyPost_ret (res_two rfl _ _ (B + 2) LT D (0, 0) _ (by rfl) RES.out.1 Try.underlying74 rfl IN.out) rfl ?_
  exact ⟨rfl, RES.out.2⟩

set_option maxHeartbeats 8000000 in
theorem guessed_less (w : World) (u g n : Nat) (hu : u ≤ 9007199254740992) (hg : g ≤ 9007199254740992) (hn : n ≤ 1000000000) (hlt : u < g) (k : Int) (s : ByteArray) (t : Nat) (ht : t ≤ 9007199254740992) (q : Option Addr) (c : Nat) (l : List Ut) (hr : RowR 5 encT w q l) (hlen : l.length ≤ 1000000) (hok : ∀ x ∈ l, okU x = true) (V2 : Value) :
    Calls Try.prog 35 #[.agg (loadC (u : Int) (g : Int) (n : Int)), .agg (metC k s (t : Int)), .slice q l.length c, V2] w fun e w' => (∃ D, e = .returned (.tuple #[.agg D, .int .i64 (capE (g + sumG k t l))]) ∧ LdTold D (capE (g + sumG k t l)) (u + sumG k t l) (g + sumG k t l) (n + l.length)) ∧ Below w.heap.size w w' := by
  have CW0 := fun (W : World) (b : Below w.heap.size w W) => pp_with W u g n hu hg hn k s t ht q c l (hr.below b) hlen hok true
  simp only [if_true] at CW0
  obtain ⟨ge, hge⟩ : ∃ x, x = capE (g + sumG k t l) := ⟨_, rfl⟩
  obtain ⟨us, hus⟩ : ∃ x, x = u + sumG k t l := ⟨_, rfl⟩
  obtain ⟨gs, hgs⟩ : ∃ x, x = g + sumG k t l := ⟨_, rfl⟩
  rw [← hgs] at hge
  rw [← hus, ← hgs, ← hge]
  rw [← hus, ← hgs, ← hge] at CW0
  obtain ⟨D, hD⟩ : ∃ D, D = loadC (u : Int) (g : Int) (n : Int) := ⟨_, rfl⟩
  obtain ⟨M, hM⟩ : ∃ M, M = metC k s (t : Int) := ⟨_, rfl⟩
  have sM : M.size = 3 := by rw [hM]; rfl
  obtain ⟨nm, hnm⟩ : ∃ x, x = n + l.length := ⟨_, rfl⟩
  rw [← hnm] at CW0
  rw [← hnm]
  obtain ⟨m, hm⟩ : ∃ x, x = l.length := ⟨_, rfl⟩
  rw [← hD, ← hM, ← hm] at CW0
  rw [← hD, ← hM, ← hm]
  obtain ⟨w1, HW, Ba, y0, y1, y2⟩ := box3 w D M
  obtain ⟨B, hB⟩ : ∃ B, B = w.heap.size := ⟨_, rfl⟩
  rw [← hB] at y0 y1 y2
  have HB : Hid (w.heap.size = B) := hB.symm
  have c0 : w1.cell? ⟨B, 0, none⟩ = some (.int .i64 (u : Int)) := (cell_of_block y0 0).trans (by rw [hD]; rfl)
  have c1 : w1.cell? ⟨B, 1, none⟩ = some (.int .i64 (g : Int)) := (cell_of_block y0 1).trans (by rw [hD]; rfl)
  have sD : D.size = 3 := by rw [hD]; rfl
  have LL := Lib.hid (load_ld y0 sD)
  have LM := Lib.hid (load_met y1 sM)
  have CW := Lib.hid (CW0 w1 Ba)
  have HH := Lib.hid (And.intro Ba y2)
  have t1 : ¬ g < u := by omega
  have t2 : u < g := hlt
  clear Ba y0 y1 y2 hB hD hM sD sM hge hus hgs hnm hm hr hok CW0
  go_enter Try.func35, Try.ntmps35
  go_upto_region 1 with fail
  rw [HW.out, HB.out]
  go_wp2_with (first | (refine wpList_load_by (by kernel_rfl) LT _ rfl (.pointer (some ⟨B, 0, none⟩)) (.agg D) (by rfl) LL.out ?_) | (refine wpList_load_by (by kernel_rfl) MT _ rfl (.pointer (some ⟨B + 1, 0, none⟩)) (.agg M) (by rfl) LM.out ?_))
  refine CW.out.mono ?_
  rintro e w2 ⟨⟨D2, rfl, sD2, oD2, eD2⟩, b2⟩
  obtain ⟨Ba, y2⟩ := HH.out
  obtain ⟨th, blk, blw⟩ := put_ld (D := D2) ((b2.block (B + 2) (Array.getElem?_eq_some_iff.1 y2).1).trans y2) rfl sD2 (Ba.trans (b2.mono Ba.size)) (by have := HB.out; omega)
  have TH := Lib.hid th
  have RES := Lib.hid (And.intro blk blw)
  have IN : Hid ((Try.prog.info? LT).map (·.size) = some D2.size) := by show _ = _; rw [sD2]; exact info_LT
  have OD := Lib.hid oD2
  have TOLD : Hid (LdTold D2 ge us gs nm) := ⟨sD2, oD2, eD2⟩
  clear Ba y2 th blk blw sD2 oD2 eD2 b2 HH CW LL LM
  go_wp2_with (refine wpList_store_mid rfl _ _ _ rfl (B + 2) 0 D2 (by rfl) (by rfl) TH.out IN.out OD.out ?_)
  refine bodyPost_ret (res_two rfl _ _ (B + 2) LT D2 (0, 0) _ (by rfl) RES.out.1 Try.underlying74 rfl IN.out) rfl ?_
  exact ⟨⟨D2, rfl, TOLD.out⟩, RES.out.2⟩

set_option maxHeartbeats 8000000 in
theorem guessed_more (w : World) (u g n : Nat) (hu : u ≤ 9007199254740992) (hg : g ≤ 9007199254740992) (hn : n ≤ 1000000000) (hlt : g < u) (k : Int) (s : ByteArray) (t : Nat) (ht : t ≤ 9007199254740992)
    (q : Option Addr) (c : Nat) (l : List Ut) (hr : RowR 5 encT w q l) (hq : q = none → c = 0 ∧ l = []) (q2 : Option Addr) (c2 : Nat) (l2 : List Ut) (hr2 : RowR 5 encT w q2 l2) (hq2 : q2 = none → c2 = 0 ∧ l2 = []) (hlen : l.length + l2.length ≤ 1000000) (hok : ∀ x ∈ l ++ l2, okU x = true) :
    Calls Try.prog 35 #[.agg (loadC (u : Int) (g : Int) (n : Int)), .agg (metC k s (t : Int)), .slice q l.length c, .slice q2 l2.length c2] w fun e w' => (∃ D, e = .returned (.tuple #[.agg D, .int .i64 (capE (g + sumG k t (l ++ l2)))]) ∧ LdTold D (capE (g + sumG k t (l ++ l2))) u (g + sumG k t (l ++ l2)) (n + (l ++ l2).length)) ∧ Below w.heap.size w w' := by
  have mixed : Try.prog.follows .mixedOrders = true := by kernel_rfl
  have CW0 := fun (W : World) (Q : Option Addr) (C : Nat) (r : RowR 5 encT W Q (l ++ l2)) => pp_with W u g n hu hg hn k s t ht Q C (l ++ l2) r (by rw [List.length_append]; omega) hok false
  simp only [Bool.false_eq_true, if_false] at CW0
  have CC0 := fun (W : World) (B o : Nat) (h : TRows W B o [(q, c, l), (q2, c2, l2)]) => concat_uts W B o [(q, c, l), (q2, c2, l2)] h (by simp [catT]; omega) (by simp)
  have ec : catT [(q, c, l), (q2, c2, l2)] = l ++ l2 := by simp [catT]
  rw [ec] at CC0
  obtain ⟨L, hL⟩ : ∃ L, L = l ++ l2 := ⟨_, rfl⟩
  rw [← hL] at CW0 CC0
  rw [← hL]
  obtain ⟨ge, hge⟩ : ∃ x, x = capE (g + sumG k t L) := ⟨_, rfl⟩
  obtain ⟨gs, hgs⟩ : ∃ x, x = g + sumG k t L := ⟨_, rfl⟩
  rw [← hgs] at hge
  rw [← hgs, ← hge]
  rw [← hgs, ← hge] at CW0
  obtain ⟨D, hD⟩ : ∃ D, D = loadC (u : Int) (g : Int) (n : Int) := ⟨_, rfl⟩
  obtain ⟨M, hM⟩ : ∃ M, M = metC k s (t : Int) := ⟨_, rfl⟩
  have sM : M.size = 3 := by rw [hM]; rfl
  obtain ⟨nm, hnm⟩ : ∃ x, x = n + L.length := ⟨_, rfl⟩
  rw [← hnm] at CW0
  rw [← hnm]
  obtain ⟨m, hm⟩ : ∃ x, x = l.length := ⟨_, rfl⟩
  obtain ⟨m2, hm2⟩ : ∃ x, x = l2.length := ⟨_, rfl⟩
  rw [← hD, ← hM] at CW0
  rw [← hD, ← hM, ← hm, ← hm2]
  obtain ⟨w1, HW, Ba, y0, y1, y2⟩ := box3 w D M
  obtain ⟨B, hB⟩ : ∃ B, B = w.heap.size := ⟨_, rfl⟩
  rw [← hB] at y0 y1 y2
  have HB : Hid (w.heap.size = B) := hB.symm
  have c0 : w1.cell? ⟨B, 0, none⟩ = some (.int .i64 (u : Int)) := (cell_of_block y0 0).trans (by rw [hD]; rfl)
  have c1 : w1.cell? ⟨B, 1, none⟩ = some (.int .i64 (g : Int)) := (cell_of_block y0 1).trans (by rw [hD]; rfl)
  have sD : D.size = 3 := by rw [hD]; rfl
  have t1 : g < u := hlt
  have iD : (Try.prog.info? LT).map (·.size) = some D.toList.length := by rw [Array.length_toList, sD]; exact info_LT
  have iM : (Try.prog.info? MT).map (·.size) = some M.toList.length := by rw [Array.length_toList, sM]; kernel_rfl
  have SK : Hid (∀ ws : World, Below w1.heap.size w1 ws → ws.heap[B]? = some (.cells D LT (0, 0)) ∧ ws.heap[B + 1]? = some (.cells M MT (0, 0))) := fun ws bb => ⟨(bb.block B (Array.getElem?_eq_some_iff.1 y0).1).trans y0, (bb.block (B + 1) (Array.getElem?_eq_some_iff.1 y1).1).trans y1⟩
  have KD : Hid (∀ ws : World, (ws.heap[B]? = some (.cells D LT (0, 0)) ∧ ws.heap[B + 1]? = some (.cells M MT (0, 0))) → ws.rangeAt B 0 D.toList) := fun ws h => ld_range h.1
  have KM : Hid (∀ ws : World, (ws.heap[B]? = some (.cells D LT (0, 0)) ∧ ws.heap[B + 1]? = some (.cells M MT (0, 0))) → ws.rangeAt (B + 1) 0 M.toList) := fun ws h => ld_range h.2
  have HH := Lib.hid (And.intro Ba (And.intro y2 (And.intro hr (And.intro hr2 (And.intro hq (And.intro hq2 (And.intro hm hm2)))))))
  have CC := Lib.hid CC0
  have CW := Lib.hid CW0
  clear Ba y0 y1 y2 hB hD hM sD sM hge hgs hnm hm hm2 hr hr2 hq hq2 hok CW0 CC0 hL ec
  go_enter Try.func35, Try.ntmps35
  go_upto_region 1 with fail
  rw [HW.out, HB.out]
  go_upto_region 2 with fail
  refine wp_region_E (f := 9) (S := fun ws => ws.heap[B]? = some (.cells D LT (0, 0)) ∧ ws.heap[B + 1]? = some (.cells M MT (0, 0))) mixed (SK.out _ ((Below.refl _ w1).drew)) (fun hS => ?_)
  refine wpAnyE_takeD (i := 0) (d := 16) (v := .agg D.toList.toArray) _ rfl rfl (by kernel_rfl) (by kernel_rfl) (by kernel_rfl) (by kernel_rfl) (fun _ _ _ h => h) (yieldsIf_load_mid (by kernel_rfl) _ _ rfl B 0 (by kernel_rfl) D.toList _ (fun ws hSw => KD.out ws hSw) Try.underlying74 rfl iD) hS ?_
  simp only [Act.put, List.setIfInBounds_toArray, List.set_cons_zero, List.set_cons_succ]
  refine wpAnyE_takeD (i := 1) (d := 17) (v := .agg M.toList.toArray) _ rfl rfl (by kernel_rfl) (by kernel_rfl) (by kernel_rfl) (by kernel_rfl) (fun _ _ _ h => h) (yieldsIf_load_mid (by kernel_rfl) _ _ rfl (B+1) 0 (by kernel_rfl) M.toList _ (fun ws hSw => KM.out ws hSw) Try.underlying24 rfl iM) hS ?_
  simp only [Act.put, List.setIfInBounds_toArray, List.set_cons_zero, List.set_cons_succ]
  refine wpAnyE_takeP (i := 2) (d := 18) (v := .slice q m c) _ rfl rfl (by kernel_rfl) (by kernel_rfl) (by kernel_rfl) (by kernel_rfl) (fun _ _ _ h => h) (Or.inl ⟨by kernel_rfl, fun ws => by first | (go_simp; done) | (go_simp; with_reducible rfl) | (go_simp; rfl)⟩) hS ?_
  simp only [Act.put, List.setIfInBounds_toArray, List.set_cons_zero, List.set_cons_succ]
  refine wpAnyE_takeP (i := 3) (d := 19) (v := .slice q2 m2 c2) _ rfl rfl (by kernel_rfl) (by kernel_rfl) (by kernel_rfl) (by kernel_rfl) (fun _ _ _ h => h) (Or.inl ⟨by kernel_rfl, fun ws => by first | (go_simp; done) | (go_simp; with_reducible rfl) | (go_simp; rfl)⟩) hS ?_
  simp only [Act.put, List.setIfInBounds_toArray, List.set_cons_zero, List.set_cons_succ]
  refine wpAnyE_one (i := 4) rfl (by kernel_rfl) (by kernel_rfl) (fun K hK => ?_)
  go_simp
  obtain ⟨wd, hwd⟩ : ∃ x, x = (w1.alloc (.cells #[.slice q m c, .slice q2 m2 c2] SlT)).drew := ⟨_, rfl⟩
  rw [← hwd]
  have bd : Below w1.heap.size w1 wd := by rw [hwd]; exact (((Gr.refl w1).alloc _).below).drew
  have kd : wd.heap[w1.heap.size]? = some (.cells #[.slice q m c, .slice q2 m2 c2] SlT (0, 0)) := by rw [hwd]; exact heap_alloc_new w1 _
  obtain ⟨O, hO⟩ : ∃ x, x = w1.heap.size := ⟨_, rfl⟩
  rw [← hO] at kd
  rw [← hO]
  have TR : Hid (TRows wd O 0 [(q, c, l), (q2, c2, l2)]) := by
    obtain ⟨Ba, y2, hr, hr2, hq, hq2, hm, hm2⟩ := HH.out
    have b0 : Below w.heap.size w wd := Ba.trans (bd.mono Ba.size)
    refine ⟨(Array.getElem?_eq_some_iff.1 kd).1, fun j r hj => ?_⟩
    match j, hj with
    | 0, hj =>
      cases hj
      exact ⟨by rw [cell_of_block kd, ← hm]; rfl, hr.below b0, hq⟩
    | 1, hj =>
      cases hj
      exact ⟨by rw [cell_of_block kd, ← hm2]; rfl, hr2.below b0, hq2⟩
  clear hwd hO kd
  refine hK _ _ (SK.out _ bd) (fun hS => ?_)
  have BD := Lib.hid bd
  clear bd
  try simp only [Act.put, List.setIfInBounds_toArray, List.set_cons_zero, List.set_cons_succ]
  refine wpAnyE_one (i := 5) rfl (by kernel_rfl) (by kernel_rfl) (fun K hK => ?_)
  go_simp
  refine (CC.out wd O 0 TR.out).mono ?_
  rintro e we ⟨v, rfl, ow, be⟩
  have b1e : Below w1.heap.size w1 we := BD.out.trans (be.mono BD.out.size)
  obtain ⟨q4, c4, rfl, r4, _⟩ := ow.row
  refine hK _ _ (SK.out _ b1e) (fun hS => ?_)
  try simp only [Act.put, List.setIfInBounds_toArray, List.set_cons_zero, List.set_cons_succ]
  have CX := Lib.hid (CW.out we q4 c4 r4)
  obtain ⟨m4, hm4⟩ : ∃ x, x = L.length := ⟨_, rfl⟩
  rw [← hm4] at CX
  rw [← hm4]
  have BE := Lib.hid b1e
  clear hm4 b1e be ow r4
  refine wpAnyE_one (i := 6) rfl (by kernel_rfl) (by kernel_rfl) (fun K hK => ?_)
  go_simp
  refine CX.out.mono ?_
  rintro e w2 ⟨⟨D2, rfl, sD2, oD2, eD2⟩, b2⟩
  have b12 : Below w1.heap.size w1 w2 := BE.out.trans (b2.mono BE.out.size)
  refine hK _ _ (SK.out _ b12) (fun hS => ?_)
  try simp only [Act.put, List.setIfInBounds_toArray, List.set_cons_zero, List.set_cons_succ]
  refine wpAnyE_takeP (i := 7) (d := 23) (v := .agg D2) _ rfl rfl (by kernel_rfl) (by kernel_rfl) (by kernel_rfl) (by kernel_rfl) (fun _ _ _ h => h) (Or.inl ⟨by kernel_rfl, fun ws => by first | (go_simp; done) | (go_simp; with_reducible rfl) | (go_simp; rfl)⟩) hS ?_
  simp only [Act.put, List.setIfInBounds_toArray, List.set_cons_zero, List.set_cons_succ]
  refine wpAnyE_takeP (i := 8) (d := 24) (v := .int .i64 ge) _ rfl rfl (by kernel_rfl) (by kernel_rfl) (by kernel_rfl) (by kernel_rfl) (fun _ _ _ h => h) (Or.inl ⟨by kernel_rfl, fun ws => by first | (go_simp; done) | (go_simp; with_reducible rfl) | (go_simp; rfl)⟩) hS ?_
  simp only [Act.put, List.setIfInBounds_toArray, List.set_cons_zero, List.set_cons_succ]
  obtain ⟨Ba, y2, _⟩ := HH.out
  obtain ⟨th, blk, blw⟩ := put_ld (D := D2) ((b12.block (B + 2) (Array.getElem?_eq_some_iff.1 y2).1).trans y2) rfl sD2 (Ba.trans (b12.mono Ba.size)) (by have := HB.out; omega)
  have TH := Lib.hid th
  have RES := Lib.hid (And.intro blk blw)
  have IN : Hid ((Try.prog.info? LT).map (·.size) = some D2.size) := by show _ = _; rw [sD2]; exact info_LT
  have OD := Lib.hid oD2
  have TOLD : Hid (LdTold D2 ge u gs nm) := ⟨sD2, oD2, eD2⟩
  clear Ba y2 th blk blw sD2 oD2 eD2 b2 HH CW CC TR CX b12 hS BE BD
  refine wpAnyE_write rfl (by kernel_rfl) (fun K hK => ?_)
  refine Ld.step_store (by rfl) _ _ _ rfl (B + 2) 0 D2 (by rfl) (by rfl) TH.out IN.out OD.out ?_
  refine hK _ _ ?_
  try simp only [Act.put, List.setIfInBounds_toArray, List.set_cons_zero, List.set_cons_succ]
  refine wpAny_one (i := 10) rfl (by kernel_rfl) (fun K hK => ?_)
  go_simp
  refine hK _ _ ?_
  try simp only [Act.put, List.setIfInBounds_toArray, List.set_cons_zero, List.set_cons_succ]
  refine wpAny_end (by kernel_rfl) ?_
  clear hK K TH OD
  go_wp2
  refine bodyPost_ret (res_two rfl _ _ (B + 2) LT D2 (0, 0) _ (by rfl) RES.out.1 Try.underlying74 rfl IN.out) rfl ?_
  exact ⟨⟨D2, rfl, TOLD.out⟩, RES.out.2⟩
end Go.Proofs.Ytajkhbdniadkkaa.Pp
/- Layer 20: Row of any row of uses. -/
namespace Go.Proofs.Ytajkhbdniadkkaa.Pp
open Go.RowKit Go.Shelf Go.Lib Go.Sort Go.Deep
open Go.Joins (cell_of_block unfrozen_of_block block_setCell)
open Go.Proofs.Ytajkhbdniadkkaa.Ow Go.Proofs.Ytajkhbdniadkkaa.Ld
set_option linter.unusedVariables false
set_option linter.unusedSimpArgs false
set_option maxRecDepth 20000

/-! ### What Row answers -/
def hasL (l : List Ut) : List Ut := l.filter isHas
def misL (l : List Ut) : List Ut := l.filter isMis
def unL (l : List Ut) : List Ut := l.filter isUn
/-- Of whom nobody knows what they use: those that are added; their goals. -/
def addL (k : Int) (t : Nat) (l : List Ut) : List Ut :=
  if sumG k t (hasL l) < sumU (hasL l) then misL l ++ unL l else if sumU (hasL l) < sumG k t (hasL l) then misL l else []
def addS (k : Int) (t : Nat) (l : List Ut) : Nat := sumG k t (addL k t l)
def use2 (k : Int) (t : Nat) (l : List Ut) : Nat := if sumU (hasL l) < sumG k t (hasL l) then sumU (hasL l) + addS k t l else sumU (hasL l)
def goal2 (k : Int) (t : Nat) (l : List Ut) : Nat := sumG k t (hasL l) + addS k t l
def num2 (k : Int) (t : Nat) (l : List Ut) : Nat := (hasL l).length + (addL k t l).length
def moreB (k : Int) (t : Nat) (l : List Ut) : Bool := decide (sumG k t (hasL l) < sumU (hasL l))
def rowE (k : Int) (t : Nat) (l : List Ut) : Int :=
  if (hasL l).length = 0 then 7 else if 9007199254740992 < sumU (hasL l) ∨ 9007199254740992 < sumG k t (hasL l) then 3 else if sumG k t (hasL l) = 0 then 5 else capE (goal2 k t l)
def rowN (k : Int) (t : Nat) (l : List Ut) (r x : Nat) : Nat :=
  if nearB (use2 k t l) (goal2 k t l) x = true then r else if moreB k t l ≠ decide (goal2 k t l < use2 k t l) then r
  else if moreB k t l = true then max (needN (num2 k t l) (use2 k t l) (goal2 k t l)) r else min (needN (num2 k t l) (use2 k t l) (goal2 k t l)) r
def rowV (k : Int) (t : Nat) (l : List Ut) (r x : Nat) : Int := if rowE k t l = 0 then (rowN k t l r x : Int) else 0

theorem fil_sub (f : Ut → Bool) {l : List Ut} (h : ∀ x ∈ l, okU x = true) : ∀ x ∈ l.filter f, okU x = true := fun x hx => h x (List.mem_filter.1 hx).1
theorem three_len : ∀ l : List Ut, (hasL l).length + ((misL l).length + (unL l).length) = l.length
  | [] => rfl
  | x :: l => by
    have ih := three_len l
    unfold hasL misL unL at ih ⊢
    rcases x with ⟨p, rd, hs, a, u⟩
    cases rd <;> cases hs <;> simp [List.filter_cons, isHas, isMis, isUn] <;> omega

theorem pp_guessed (w : World) (u g n : Nat) (hu : u ≤ 9007199254740992) (hg : g ≤ 9007199254740992) (hn : n ≤ 1000000000) (k : Int) (s : ByteArray) (t : Nat) (ht : t ≤ 9007199254740992)
    (q : Option Addr) (c : Nat) (l : List Ut) (hr : RowR 5 encT w q l) (hq : q = none → c = 0 ∧ l = []) (q2 : Option Addr) (c2 : Nat) (l2 : List Ut) (hr2 : RowR 5 encT w q2 l2) (hq2 : q2 = none → c2 = 0 ∧ l2 = []) (hlen : l.length + l2.length ≤ 1000000) (hok : ∀ x ∈ l ++ l2, okU x = true)
    (A : List Ut) (hA : A = if g < u then l ++ l2 else if u < g then l else []) :
    Calls Try.prog 35 #[.agg (loadC (u : Int) (g : Int) (n : Int)), .agg (metC k s (t : Int)), .slice q l.length c, .slice q2 l2.length c2] w fun e w' => (∃ D, e = .returned (.tuple #[.agg D, .int .i64 (capE (g + sumG k t A))]) ∧ LdTold D (capE (g + sumG k t A)) (if u < g then u + sumG k t A else u) (g + sumG k t A) (n + A.length)) ∧ Below w.heap.size w w' := by
  rcases Nat.lt_trichotomy u g with h | h | h
  · rw [if_neg (by omega), if_pos h] at hA
    subst hA
    rw [if_pos h]
    exact guessed_less w u g n hu hg hn h k s t ht q c A hr (by omega) (fun x hx => hok x (List.mem_append_left _ hx)) _
  · subst h
    rw [if_neg (by omega), if_neg (by omega)] at hA
    subst hA
    rw [if_neg (by omega)]
    have e : sumG k t [] = 0 := rfl
    rw [e, Nat.add_zero, (capV_in hu).2]
    refine (guessed_even w u n _ _ _).mono ?_
    rintro e w' ⟨rfl, b⟩
    exact ⟨⟨_, rfl, rfl, loadC_all _ _ _, fun _ => rfl⟩, b⟩
  · rw [if_pos h] at hA
    subst hA
    rw [if_neg (by omega)]
    exact guessed_more w u g n hu hg hn h k s t ht q c l hr hq q2 c2 l2 hr2 hq2 hlen hok

set_option maxHeartbeats 8000000 in
theorem row_bad (w : World) (k : Int) (s : ByteArray) (t r x : Int) (q : Option Addr) (c : Nat) (l : List Ut) (hr : RowR 5 encT w q l) (hlen : l.length ≤ 1000000) (h : rightB t r x = false ∨ l.all okU = false) :
    Calls Try.prog 14 #[.agg (metC k s t), .slice q l.length c, .int .i64 r, .int .i64 x] w fun e w' => e = .returned (.tuple #[.int .i64 0, .int .i64 1]) ∧ Below w.heap.size w w' := by
  obtain ⟨M, hM⟩ : ∃ M, M = metC k s t := ⟨_, rfl⟩
  have sM : M.size = 3 := by rw [hM]; rfl
  rw [← hM]
  obtain ⟨B, hB⟩ : ∃ B, B = w.heap.size := ⟨_, rfl⟩
  obtain ⟨w1, hw1⟩ : ∃ x, x = w.alloc (.cells M MT) := ⟨_, rfl⟩
  have Ba : Below w.heap.size w w1 := by rw [hw1]; exact ((Gr.refl w).alloc _).below
  have y0 : w1.heap[B]? = some (.cells M MT (0, 0)) := by rw [hw1, hB]; exact heap_alloc_new w _
  have HW : Hid (w.alloc (.cells M MT) = w1 ∧ w.heap.size = B) := ⟨hw1.symm, hB.symm⟩
  have LM := Lib.hid (load_met y0 sM)
  have CR := Lib.hid (pp_right w1 k s t r x)
  rw [← hM] at CR
  have CO : Hid (∀ W, Below w.heap.size w W → Calls Try.prog 31 #[.slice q l.length c, .func (.func 32) #[] #[]] W fun e w' => e = .returned (.bool (!l.all okU)) ∧ Gr W w') := fun W b => off_contains W q c l (hr.below b) (by omega)
  obtain ⟨n, hn⟩ : ∃ n, n = l.length := ⟨_, rfl⟩
  rw [← hn] at CO
  rw [← hn]
  have HBa := Lib.hid Ba
  generalize rightB t r x = rb at CR h
  generalize l.all okU = ob at CO h
  clear hr hlen hM sM hB hw1 y0 hn Ba
  cases rb with
  | false =>
    go_enter Try.func14, Try.ntmps14
    go_upto_region 1 with fail
    rw [HW.out.1, HW.out.2]
    go_wp2_with (refine wpList_load_by (by kernel_rfl) MT _ rfl (.pointer (some ⟨B, 0, none⟩)) (.agg M) (by rfl) LM.out ?_)
    refine CR.out.mono ?_
    rintro e w2 ⟨rfl, b2⟩
    have FIN := Lib.hid (HBa.out.trans (b2.mono HBa.out.size))
    clear b2 CO CR LM HBa
    go_wp2
    go_ret2
    exact ⟨rfl, FIN.out⟩
  | true =>
    obtain rfl : ob = false := by simpa using h
    go_enter Try.func14, Try.ntmps14
    go_upto_region 1 with fail
    rw [HW.out.1, HW.out.2]
    go_wp2_with (refine wpList_load_by (by kernel_rfl) MT _ rfl (.pointer (some ⟨B, 0, none⟩)) (.agg M) (by rfl) LM.out ?_)
    refine CR.out.mono ?_
    rintro e w2 ⟨rfl, b2⟩
    have B2 := Lib.hid (HBa.out.trans (b2.mono HBa.out.size))
    have C2 := Lib.hid (CO.out w2 B2.out)
    clear b2 CO CR LM HBa
    go_wp2_with fail
    refine C2.out.mono ?_
    rintro e w3 ⟨rfl, b3⟩
    have FIN := Lib.hid (B2.out.trans (b3.below.mono B2.out.size))
    clear b3 C2 B2
    go_wp2
    go_ret2
    exact ⟨rfl, FIN.out⟩

set_option maxHeartbeats 16000000 in
theorem row_ok (w : World) (k : Int) (s : ByteArray) (t r x : Nat) (ht0 : 0 < t) (ht : t ≤ 9007199254740992) (hr1 : r ≤ 1000000) (hx : x ≤ 1000) (q : Option Addr) (c : Nat) (l : List Ut) (hr : RowR 5 encT w q l) (hlen : l.length ≤ 1000000) (hok : l.all okU = true) :
    Calls Try.prog 14 #[.agg (metC k s (t : Int)), .slice q l.length c, .int .i64 (r : Int), .int .i64 (x : Int)] w fun e w' => e = .returned (.tuple #[.int .i64 (rowV k t l r x), .int .i64 (rowE k t l)]) ∧ Below w.heap.size w w' := by
  have oks : ∀ x ∈ l, okU x = true := List.all_eq_true.1 hok
  have tl := three_len l
  obtain ⟨H, hH⟩ : ∃ H, H = hasL l := ⟨_, rfl⟩
  obtain ⟨Mi, hMi⟩ : ∃ H, H = misL l := ⟨_, rfl⟩
  obtain ⟨Un, hUn⟩ : ∃ H, H = unL l := ⟨_, rfl⟩
  obtain ⟨A, hA⟩ : ∃ A, A = addL k t l := ⟨_, rfl⟩
  have oH : ∀ x ∈ H, okU x = true := by rw [hH]; exact fil_sub _ oks
  have oMU : ∀ x ∈ Mi ++ Un, okU x = true := by
    rw [hMi, hUn]
    intro x hx
    rcases List.mem_append.1 hx with h | h
    · exact fil_sub _ oks x h
    · exact fil_sub _ oks x h
  obtain ⟨U, hU⟩ : ∃ U, U = sumU H := ⟨_, rfl⟩
  obtain ⟨G, hG⟩ : ∃ U, U = sumG k t H := ⟨_, rfl⟩
  have eA : A = if G < U then Mi ++ Un else if U < G then Mi else [] := by rw [hA, hG, hU, hMi, hUn, hH]; rfl
  obtain ⟨U2, hU2⟩ : ∃ U, U = use2 k t l := ⟨_, rfl⟩
  obtain ⟨G2, hG2⟩ : ∃ U, U = goal2 k t l := ⟨_, rfl⟩
  obtain ⟨N2, hN2⟩ : ∃ U, U = num2 k t l := ⟨_, rfl⟩
  have eU2 : U2 = if U < G then U + sumG k t A else U := by rw [hU2, hU, hG, hH, hA]; rfl
  have eG2 : G2 = G + sumG k t A := by rw [hG2, hG, hH, hA]; rfl
  have eN2 : N2 = H.length + A.length := by rw [hN2, hH, hA]; rfl
  rw [← hH, ← hMi, ← hUn] at tl
  have lA : A.length ≤ Mi.length + Un.length := by
    rw [eA]
    split
    · rw [List.length_append]; exact Nat.le_refl _
    · split
      · omega
      · exact Nat.zero_le _
  obtain ⟨ge, hge⟩ : ∃ x, x = capE G2 := ⟨_, rfl⟩
  have ER : Hid (rowE k t l = if H.length = 0 then 7 else if 9007199254740992 < U ∨ 9007199254740992 < G then 3 else if G = 0 then 5 else ge) := by
    show _ = _
    rw [hge, hG2, hU, hG, hH]
    rfl
  obtain ⟨nb, hnb⟩ : ∃ b, b = nearB U2 G2 x := ⟨_, rfl⟩
  obtain ⟨nd, hnd⟩ : ∃ b, b = needN N2 U2 G2 := ⟨_, rfl⟩
  have EV : Hid (rowV k t l r x = if rowE k t l = 0 then ((if nb = true then r else if decide (G < U) ≠ decide (G2 < U2) then r else if decide (G < U) = true then max nd r else min nd r : Nat) : Int) else 0) := by
    show _ = _
    rw [hnb, hnd, hU2, hG2, hN2, hU, hG, hH]
    rfl
  generalize rowV k t l r x = RV at EV ⊢
  generalize rowE k t l = RE at EV ER ⊢
  obtain ⟨M, hM⟩ : ∃ M, M = metC k s (t : Int) := ⟨_, rfl⟩
  have sM : M.size = 3 := by rw [hM]; rfl
  have CR : Hid (∀ W, Calls Try.prog 18 #[.agg M, .int .i64 (r : Int), .int .i64 (x : Int)] W fun e w' => e = .returned (.bool true) ∧ Below W.heap.size W w') := fun W => by
    have := pp_right W k s (t : Int) (r : Int) (x : Int)
    rw [rightB_iff.2 ⟨⟨by omega, by omega⟩, ⟨by omega, by omega⟩, by omega, by omega⟩, ← hM] at this
    exact this
  obtain ⟨n, hn⟩ : ∃ n, n = l.length := ⟨_, rfl⟩
  have CO : Hid (∀ W, Below w.heap.size w W → Calls Try.prog 31 #[.slice q n c, .func (.func 32) #[] #[]] W fun e w' => e = .returned (.bool false) ∧ Gr W w') := fun W b => by
    have := off_contains W q c l (hr.below b) (by omega)
    rw [hok, ← hn] at this
    exact this
  have CS : Hid (∀ W, Below w.heap.size w W → Calls Try.prog 33 #[.slice q n c] W fun e w' => (∃ va vb vc, e = .returned (.tuple #[va, vb, vc]) ∧ Hid (Three W.heap.size w' va vb vc H Mi Un)) ∧ Below W.heap.size W w') := fun W b => by
    have := pp_split W q c l (hr.below b) hlen
    rw [← hn] at this
    rw [hH, hMi, hUn]
    exact this
  obtain ⟨nH, hnH⟩ : ∃ n, n = H.length := ⟨_, rfl⟩
  obtain ⟨nM, hnM⟩ : ∃ n, n = Mi.length := ⟨_, rfl⟩
  obtain ⟨nU, hnU⟩ : ∃ n, n = Un.length := ⟨_, rfl⟩
  obtain ⟨D0, hD0⟩ : ∃ D, D = measC k t H := ⟨_, rfl⟩
  obtain ⟨me, hme⟩ : ∃ D, D = measE k t H := ⟨_, rfl⟩
  have CM : Hid (∀ W q1 c1, RowR 5 encT W q1 H → Calls Try.prog 34 #[.agg M, .slice q1 nH c1] W fun e w' => e = .returned (.tuple #[.agg D0, .int .i64 me]) ∧ Below W.heap.size W w') := fun W q1 c1 h => by
    have := pp_measured W k s t ht q1 c1 H h (by omega) oH
    rw [← hM, ← hnH, ← hD0, ← hme] at this
    exact this
  have sD0 : D0.size = 3 := by rw [hD0]; unfold measC; split <;> rfl
  have oD0 : D0.all (·.oneCell') = true := by rw [hD0]; unfold measC; split <;> exact loadC_all _ _ _
  have MB : Hid ((9007199254740992 < U ∨ 9007199254740992 < G) → me = 3) := fun h => by
    rw [hme]
    unfold measE
    rw [← hU, ← hG]
    rcases Nat.lt_or_ge 9007199254740992 U with h' | h'
    · exact if_pos h'
    · rw [if_neg (by omega)]; exact (capV_over (by omega)).2
  have MG : Hid (¬ (9007199254740992 < U ∨ 9007199254740992 < G) → me = 0 ∧ D0 = loadC (U : Int) (G : Int) (nH : Int)) := fun h => by
    have h1 : ¬ 9007199254740992 < U := fun e => h (.inl e)
    have h2 : G ≤ 9007199254740992 := by omega
    rw [hme, hD0]
    unfold measE measC
    rw [← hU, ← hG, if_neg h1, if_neg h1, (capV_in h2).1, (capV_in h2).2, hnH]
    exact ⟨rfl, rfl⟩
  have CGd : Hid (¬ (9007199254740992 < U ∨ 9007199254740992 < G) → ∀ W q2 c2 q3 c3, RowR 5 encT W q2 Mi → (q2 = none → c2 = 0 ∧ Mi = []) → RowR 5 encT W q3 Un → (q3 = none → c3 = 0 ∧ Un = []) → Calls Try.prog 35 #[.agg D0, .agg M, .slice q2 nM c2, .slice q3 nU c3] W fun e w' => (∃ D, e = .returned (.tuple #[.agg D, .int .i64 ge]) ∧ LdTold D ge U2 G2 N2) ∧ Below W.heap.size W w') := fun h W q2 c2 q3 c3 r2 z2 r3 z3 => by
    have h1 : ¬ 9007199254740992 < U := fun e => h (.inl e)
    have h2 : G ≤ 9007199254740992 := by omega
    have := pp_guessed W U G nH (by omega) h2 (by omega) k s t ht q2 c2 Mi r2 z2 q3 c3 Un r3 z3 (by omega) oMU A eA
    rw [← eU2, ← eG2, ← hge, hnH, ← eN2, ← hnH, ← hM, ← (MG.out h).2, ← hnM, ← hnU] at this
    exact this
  have UB : Hid (¬ (9007199254740992 < U ∨ 9007199254740992 < G) → ge = 0 → G ≠ 0 → U2 ≤ 9007199254740992 ∧ G2 ≤ 9007199254740992 ∧ 0 < G2) := fun h e h0 => by
    have h1 : ¬ 9007199254740992 < U := fun e => h (.inl e)
    have g2 : G2 ≤ 9007199254740992 := by
      rcases Nat.lt_or_ge 9007199254740992 G2 with h' | h'
      · rw [hge, (capV_over h').2] at e; exact absurd e (by decide)
      · exact h'
    refine ⟨?_, g2, by omega⟩
    rw [eU2]
    split <;> omega
  have CN : Hid (¬ (9007199254740992 < U ∨ 9007199254740992 < G) → ge = 0 → G ≠ 0 → ∀ W, Calls Try.prog 20 #[.int .i64 (U2 : Int), .int .i64 (G2 : Int), .int .i64 (x : Int)] W fun e w' => e = .returned (.bool nb) ∧ Below W.heap.size W w') := fun h e h0 W => by
    obtain ⟨b1, b2, _⟩ := UB.out h e h0
    rw [hnb]
    exact pp_near U2 G2 x W b1 b2 hx
  have CD : Hid (¬ (9007199254740992 < U ∨ 9007199254740992 < G) → ge = 0 → G ≠ 0 → ∀ W, Calls Try.prog 36 #[.agg (loadC (U2 : Int) (G2 : Int) (N2 : Int))] W fun e w' => e = .returned (.int .i64 (nd : Int)) ∧ Below W.heap.size W w') := fun h e h0 W => by
    obtain ⟨b1, b2, b3⟩ := UB.out h e h0
    rw [hnd]
    exact pp_need W N2 U2 G2 (by omega) b1 b2 b3
  obtain ⟨B, hB⟩ : ∃ B, B = w.heap.size := ⟨_, rfl⟩
  obtain ⟨w1, hw1⟩ : ∃ x, x = w.alloc (.cells M MT) := ⟨_, rfl⟩
  have Ba : Below w.heap.size w w1 := by rw [hw1]; exact ((Gr.refl w).alloc _).below
  have y0 : w1.heap[B]? = some (.cells M MT (0, 0)) := by rw [hw1, hB]; exact heap_alloc_new w _
  have HW : Hid (w.alloc (.cells M MT) = w1 ∧ w.heap.size = B) := ⟨hw1.symm, hB.symm⟩
  have LMa : Hid (∀ W, Below w1.heap.size w1 W → (Instr.loadAt MT (.pointer (some ⟨B, 0, none⟩))).run Try.prog W = .ok (.agg M) W) := fun W b => load_met ((b.block B (Array.getElem?_eq_some_iff.1 y0).1).trans y0) sM
  have HBa := Lib.hid Ba
  have HD0 := Lib.hid (And.intro sD0 oD0)
  have HNH : Hid (nH = H.length) := hnH
  have ER2 : Hid (RE = if nH = 0 then 7 else if 9007199254740992 < U ∨ 9007199254740992 < G then 3 else if G = 0 then 5 else ge) := by rw [hnH]; exact ER.out
  have HZ : Hid (nH = H.length ∧ nM = Mi.length ∧ nU = Un.length) := ⟨hnH, hnM, hnU⟩
  rw [← hM, ← hn]
  clear hU2 hG2 hN2 hU hG hH hMi hUn hA eA eU2 eG2 eN2 tl lA hge hnb hnd hM sM hn hnH hnM hnU hD0 hme sD0 oD0 oH oMU oks hok hr hB hw1 Ba y0 ER ht ht0 hx UB
  go_enter Try.func14, Try.ntmps14
  go_upto_region 1 with fail
  rw [HW.out.1, HW.out.2]
  have LM := Lib.hid (LMa.out w1 (Below.refl _ _))
  go_wp2_with (refine wpList_load_by (by kernel_rfl) MT _ rfl (.pointer (some ⟨B, 0, none⟩)) (.agg M) (by rfl) LM.out ?_)
  refine (CR.out _).mono ?_
  rintro e w2 ⟨rfl, b2⟩
  have B2 := Lib.hid (HBa.out.trans (b2.mono HBa.out.size))
  have C2 := Lib.hid (CO.out w2 B2.out)
  have E2 := Lib.hid b2
  clear b2 CO CR LM
  go_wp2_with fail
  refine C2.out.mono ?_
  rintro e w3 ⟨rfl, b3⟩
  have B3 := Lib.hid (B2.out.trans (b3.below.mono B2.out.size))
  have E3 := Lib.hid (E2.out.trans (b3.below.mono E2.out.size))
  have C3 := Lib.hid (CS.out w3 B3.out)
  clear b3 C2 B2 E2 CS
  go_wp2_with fail
  refine C3.out.mono ?_
  rintro e w4 ⟨⟨va, vb, vc, rfl, T4⟩, b4⟩
  have B4 := Lib.hid (B3.out.trans (b4.mono B3.out.size))
  have E4 := Lib.hid (E3.out.trans (b4.mono E3.out.size))
  obtain ⟨q1, c1, rfl, r1, _⟩ := T4.out.h1.row
  obtain ⟨q2, c2, rfl, r2, z2⟩ := T4.out.h2.row
  obtain ⟨q3, c3, rfl, r3, z3⟩ := T4.out.h3.row
  obtain ⟨zH, zM, zU⟩ := HZ.out
  rw [← zH, ← zM, ← zU]
  have LM := Lib.hid (LMa.out w4 E4.out)
  have C4 := Lib.hid (CM.out w4 q1 c1 r1)
  have ROWS := Lib.hid (And.intro r2 (And.intro z2 (And.intro r3 z3)))
  clear b4 C3 B3 E3 T4 r1 r2 z2 r3 z3 zH zM zU CM
  by_cases h0 : nH = 0
  · have ERR : Hid (RE = 7) := by show _ = _; rw [ER2.out, if_pos h0]
    have EVV : Hid (RV = 0) := by show _ = _; rw [EV.out, ERR.out]; rfl
    subst h0
    clear EV ER2 C4 LM CGd CN CD MB MG ROWS
    go_wp2
    go_ret2
    exact ⟨by rw [ERR.out, EVV.out]; rfl, B4.out⟩
  · have t0 : (nH == 0) = false := by simpa using h0
    have t0' : ((nH : Int) == 0) = false := by simpa using h0
    go_wp2_with (refine wpList_load_by (by kernel_rfl) MT _ rfl (.pointer (some ⟨B, 0, none⟩)) (.agg M) (by rfl) LM.out ?_)
    refine C4.out.mono ?_
    rintro e w5 ⟨rfl, b5⟩
    have B5 := Lib.hid (B4.out.trans (b5.mono B4.out.size))
    have E5 := Lib.hid (E4.out.trans (b5.mono E4.out.size))
    obtain ⟨th, eb, bl⟩ := cell_new w5 LT zerL D0 (by rw [HD0.out.1]; rfl)
    have TH := Lib.hid th
    have IN : Hid ((Try.prog.info? LT).map (·.size) = some D0.size) := by show _ = _; rw [HD0.out.1]; exact info_LT
    obtain ⟨w6, hw6⟩ : ∃ W', W' = (w5.alloc (.cells zerL LT)).setCells w5.heap.size 0 D0.toList := ⟨_, rfl⟩
    obtain ⟨O, hO⟩ : ∃ A, A = w5.heap.size := ⟨_, rfl⟩
    have HW6 : Hid ((w5.alloc (.cells zerL LT)).setCells w5.heap.size 0 D0.toList = w6 ∧ w5.heap.size = O) := ⟨hw6.symm, hO.symm⟩
    rw [← hw6] at eb bl
    rw [← hO] at eb
    have B6 := Lib.hid (B5.out.trans (bl.mono B5.out.size))
    have E6 := Lib.hid (E5.out.trans (bl.mono E5.out.size))
    have EB := Lib.hid eb
    have WO : Hid (w.heap.size ≤ O) := by have := B5.out.size; rw [hO]; exact this
    have R6 : Hid (Below w4.heap.size w4 w6) := b5.trans (bl.mono b5.size)
    clear th bl hw6 hO b5 C4 LM B4 E4 B5 E5 eb
    go_upto_region 7 with (refine wpList_store_mid rfl _ _ _ rfl w5.heap.size 0 D0 (by rfl) (by rfl) TH.out IN.out HD0.out.2 ?_; rw [HW6.out.1, HW6.out.2])
    clear TH IN HW6
    by_cases hbig : 9007199254740992 < U ∨ 9007199254740992 < G
    · have ERR : Hid (RE = 3) := by show _ = _; rw [ER2.out, if_neg h0, if_pos hbig]
      have EVV : Hid (RV = 0) := by show _ = _; rw [EV.out, ERR.out]; rfl
      have hme := MB.out hbig
      subst hme
      clear EV ER2 CGd CN CD MB MG ROWS hbig EB E6
      go_wp2
      go_ret2
      exact ⟨by rw [ERR.out, EVV.out]; rfl, B6.out⟩
    · obtain ⟨hme, hD0⟩ := MG.out hbig
      have CGd' := Lib.hid (CGd.out hbig)
      have CN' := Lib.hid (CN.out hbig)
      have CD' := Lib.hid (CD.out hbig)
      have eb := EB.out
      have k1 : w6.cell? ⟨O, 1, none⟩ = some (.int .i64 (G : Int)) := (cell_of_block eb 1).trans (by rw [hD0]; rfl)
      have k0 : w6.cell? ⟨O, 0, none⟩ = some (.int .i64 (U : Int)) := (cell_of_block eb 0).trans (by rw [hD0]; rfl)
      have ER3 : Hid (RE = if G = 0 then 5 else ge) := by show _ = _; rw [ER2.out, if_neg h0, if_neg hbig]
      subst hme
      clear ER2 CGd CN CD MB MG eb hbig hD0
      by_cases hG : G = 0
      · have ERR : Hid (RE = 5) := by show _ = _; rw [ER3.out, if_pos hG]
        have EVV : Hid (RV = 0) := by show _ = _; rw [EV.out, ERR.out]; rfl
        subst hG
        clear EV ER3 CGd' CN' CD' ROWS EB E6
        go_wp2
        go_ret2
        exact ⟨by rw [ERR.out, EVV.out]; rfl, B6.out⟩
      · have tG : (G == 0) = false := by simpa using hG
        have tG' : ((G : Int) == 0) = false := by simpa using hG
        have ERR : Hid (RE = ge) := by show _ = _; rw [ER3.out, if_neg hG]
        have HG := Lib.hid hG
        have LD6 := Lib.hid (load_ld EB.out HD0.out.1)
        have LM6 := Lib.hid (LMa.out w6 E6.out)
        obtain ⟨r2, z2, r3, z3⟩ := ROWS.out
        have C6 := Lib.hid (CGd'.out w6 q2 c2 q3 c3 (r2.below R6.out) z2 (r3.below R6.out) z3)
        clear r2 z2 r3 z3 ROWS ER3 CGd' hG
        go_wp2_with (first | (refine wpList_load_by (by kernel_rfl) MT _ rfl (.pointer (some ⟨B, 0, none⟩)) (.agg M) (by rfl) LM6.out ?_) | (refine wpList_load_by (by kernel_rfl) LT _ rfl (.pointer (some ⟨O, 0, none⟩)) (.agg D0) (by rfl) LD6.out ?_))
        refine C6.out.mono ?_
        rintro e w7 ⟨⟨D2, rfl, sD2, oD2, eD2⟩, b7⟩
        have b67 : Below w.heap.size w w7 := B6.out.trans (b7.mono B6.out.size)
        have eb7 : w7.heap[O]? = some (.cells D0 LT (0, 0)) := (b7.block O (Array.getElem?_eq_some_iff.1 EB.out).1).trans EB.out
        obtain ⟨th, blk, blw⟩ := put_ld (D := D2) eb7 HD0.out.1 sD2 b67 WO.out
        have TH := Lib.hid th
        have IN : Hid ((Try.prog.info? LT).map (·.size) = some D2.size) := by show _ = _; rw [sD2]; exact info_LT
        have OD := Lib.hid oD2
        obtain ⟨w8, hw8⟩ : ∃ x, x = w7.setCells O 0 D2.toList := ⟨_, rfl⟩
        have HW8 : Hid (w7.setCells O 0 D2.toList = w8) := hw8.symm
        rw [← hw8] at blk blw
        have B8 := Lib.hid (And.intro blk blw)
        have TOLD : Hid (LdTold D2 ge U2 G2 N2) := ⟨sD2, oD2, eD2⟩
        clear b67 eb7 th blk blw sD2 oD2 eD2 hw8 b7 LD6 LM6 C6 EB E6 B6 R6 k0 k1
        go_upto_region 13 with (refine wpList_store_mid rfl _ _ _ rfl O 0 D2 (by rfl) (by rfl) TH.out IN.out OD.out ?_; rw [HW8.out])
        clear TH IN OD HW8
        by_cases he : ge = 0
        · have EVV : Hid (RV = ((if nb = true then r else if decide (G < U) ≠ decide (G2 < U2) then r else if decide (G < U) = true then max nd r else min nd r : Nat) : Int)) := by
            show _ = _
            rw [EV.out, ERR.out, if_pos he]
          have ERZ : Hid (RE = 0) := ERR.out.trans he
          have CN8 := Lib.hid (CN'.out he HG.out)
          have CD8 := Lib.hid (CD'.out he HG.out)
          have eD := TOLD.out.2.2 he
          have blk := B8.out.1
          rw [eD] at blk
          have k0 : w8.cell? ⟨O, 0, none⟩ = some (.int .i64 (U2 : Int)) := cell_of_block blk 0
          have k1 : w8.cell? ⟨O, 1, none⟩ = some (.int .i64 (G2 : Int)) := cell_of_block blk 1
          have BLK := Lib.hid blk
          subst he
          clear EV ERR CN' CD' eD TOLD blk
          go_wp2_with fail
          refine (CN8.out _).mono ?_
          rintro e w9 ⟨rfl, b9⟩
          have blk9 : w9.heap[O]? = some (.cells (loadC (U2 : Int) (G2 : Int) (N2 : Int)) LT (0, 0)) := (b9.block O (Array.getElem?_eq_some_iff.1 BLK.out).1).trans BLK.out
          have B9 := Lib.hid (B8.out.2.trans (b9.mono B8.out.2.size))
          have LD9 := Lib.hid (load_ld blk9 rfl)
          have C9 := Lib.hid (CD8.out w9)
          have m0 : w9.cell? ⟨O, 0, none⟩ = some (.int .i64 (U2 : Int)) := cell_of_block blk9 0
          have m1 : w9.cell? ⟨O, 1, none⟩ = some (.int .i64 (G2 : Int)) := cell_of_block blk9 1
          clear b9 blk9 BLK B8 CN8 CD8 k0 k1
          cases nb with
          | true =>
            clear C9 LD9
            go_wp2
            go_ret2
            exact ⟨by rw [EVV.out, ERZ.out]; rfl, B9.out⟩
          | false =>
            by_cases hmo : G < U <;> by_cases hm2 : G2 < U2
            · have EV5 : Hid (RV = ((max nd r : Nat) : Int)) := by show _ = _; rw [EVV.out, decide_eq_true hmo, decide_eq_true hm2]; rfl
              have emx : max (nd : Int) (r : Int) = ((max nd r : Nat) : Int) := by omega
              clear EVV
              go_wp2_with (refine wpList_load_by (by kernel_rfl) LT _ rfl (.pointer (some ⟨O, 0, none⟩)) (.agg (loadC (U2 : Int) (G2 : Int) (N2 : Int))) (by rfl) LD9.out ?_)
              refine C9.out.mono ?_
              rintro e w10 ⟨rfl, b10⟩
              have B10 := Lib.hid (B9.out.trans (b10.mono B9.out.size))
              clear b10 C9 LD9 m0 m1 B9
              go_wp2
              go_ret2
              exact ⟨by rw [EV5.out, ERZ.out]; first | rfl | (rw [← emx]; rfl), B10.out⟩
            · have EV5 : Hid (RV = (r : Int)) := by show _ = _; rw [EVV.out, decide_eq_true hmo, decide_eq_false hm2]; rfl
              clear EVV C9 LD9
              go_wp2
              go_ret2
              exact ⟨by rw [EV5.out, ERZ.out]; rfl, B9.out⟩
            · have EV5 : Hid (RV = (r : Int)) := by show _ = _; rw [EVV.out, decide_eq_false hmo, decide_eq_true hm2]; rfl
              clear EVV C9 LD9
              go_wp2
              go_ret2
              exact ⟨by rw [EV5.out, ERZ.out]; rfl, B9.out⟩
            · have EV5 : Hid (RV = ((min nd r : Nat) : Int)) := by show _ = _; rw [EVV.out, decide_eq_false hmo, decide_eq_false hm2]; rfl
              have emn : min (nd : Int) (r : Int) = ((min nd r : Nat) : Int) := by omega
              clear EVV
              go_wp2_with (refine wpList_load_by (by kernel_rfl) LT _ rfl (.pointer (some ⟨O, 0, none⟩)) (.agg (loadC (U2 : Int) (G2 : Int) (N2 : Int))) (by rfl) LD9.out ?_)
              refine C9.out.mono ?_
              rintro e w10 ⟨rfl, b10⟩
              have B10 := Lib.hid (B9.out.trans (b10.mono B9.out.size))
              clear b10 C9 LD9 m0 m1 B9
              go_wp2
              go_ret2
              exact ⟨by rw [EV5.out, ERZ.out]; first | rfl | (rw [← emn]; rfl), B10.out⟩
        · have EVV : Hid (RV = 0) := by show _ = _; rw [EV.out, ERR.out, if_neg he]
          have te : (ge == 0) = false := by simpa using he
          have te2 : (ge != 0) = true := by simpa using he
          clear EV CN' CD' TOLD he
          go_wp2
          go_ret2
          exact ⟨by rw [EVV.out, ERR.out]; rfl, B8.out.2⟩
end Go.Proofs.Ytajkhbdniadkkaa.Pp
/- Layer 20: the law's example. -/
namespace Go.Proofs.Ytajkhbdniadkkaa.Pp
open Go.RowKit Go.Shelf Go.Lib Go.Sort Go.Deep
open Go.Joins (cell_of_block unfrozen_of_block block_setCell)
open Go.Proofs.Ytajkhbdniadkkaa.Ow Go.Proofs.Ytajkhbdniadkkaa.Ld
set_option linter.unusedVariables false
set_option linter.unusedSimpArgs false
set_option maxRecDepth 20000

/-- A slice literal of two whole structs, at the list of a plain region's operations. -/
theorem list_build2 {P : Program} {ops : Array Oper} {rest : List Oper} {o : Oper} {a : Act} {w : World} {Q : Exit → Act → World → Prop} (hw : Region.wanted o (yielded ops a.tmps) = true) (t e : TypeId) (x y : Operand) (ho : o.op = .buildSlice t 2 #[(0, x), (1, y)]) (z : Value) (s : Nat) (X Y : Array Value) (hx : a.eval x = .agg X) (hy : a.eval y = .agg Y) (hX : X.size = s) (hY : Y.size = s) (h0 : 0 < s) (h1 : s ≤ 1000000)
    (hu : P.underlying t = some (.slice e)) (hinfo : (P.info? e).map (fun i => (i.zero, i.size)) = some (some z, s)) (k : wpList P ops Q rest (a.put o.dst (.slice (some ⟨w.heap.size, 0, none⟩) 2 2)) (w.alloc (.cells (X ++ Y) e))) : wpList P ops Q (o :: rest) a w := by
  refine wpList_step fun K hK => ?_
  rw [if_pos hw]
  cases hie : P.info? e with
  | none => rw [hie] at hinfo; cases hinfo
  | some i =>
    rw [hie] at hinfo
    simp only [Option.map_some, Option.some.injEq, Prod.mk.injEq] at hinfo
    obtain ⟨hz, hs⟩ := hinfo
    refine wp_buildSlice t e 2 _ ho (X ++ Y) i z hu hie hz (by rw [hs]; omega) (by rw [hs]; omega) ?_ (hK _ _ k)
    have hc : (Value.agg X).cells = X := rfl
    have hc2 : (Value.agg Y).cells = Y := rfl
    have := Great.fill_whole h0 [Value.agg X, Value.agg Y] ((Array.range (2 * i.size)).map (z.cells[· % z.cells.size]!)) (fun v hv => by
      simp only [List.mem_cons, List.not_mem_nil, or_false] at hv
      rcases hv with rfl | rfl
      · rw [hc]; exact hX
      · rw [hc2]; exact hY) (by simp [hs])
    rw [hs] at this ⊢
    have e : (X.toList ++ Y.toList).toArray = X ++ Y := by
      apply Array.toList_inj.1
      simp
    simp [hx, hy, hc, hc2] at this ⊢
    rw [this, e]
/-- A row of two uses in a block of its own. -/
theorem row_two {w : World} {M : Nat} {x y : Ut} (h : w.heap[M]? = some (.cells (utA x ++ utA y) UT (0, 0))) : RowR 5 encT w (some ⟨M, 0, none⟩) [x, y] := by
  intro j z hj
  refine ⟨M, 0, rfl, (Array.getElem?_eq_some_iff.1 h).1, fun t v hv => ?_⟩
  have sx : (utA x).size = 5 := rfl
  have ht : t < 5 := by rw [← encT_len z]; exact (List.getElem?_eq_some_iff.1 hv).1
  rw [cell_of_block h]
  match j, hj with
  | 0, hj =>
    cases hj
    rw [show 0 + 0 * 5 + t = t by omega, Array.getElem?_append_left (by omega), ← Array.getElem?_toList]
    exact hv
  | 1, hj =>
    cases hj
    rw [Array.getElem?_append_right (by omega), sx, show 0 + 1 * 5 + t - 5 = t by omega, ← Array.getElem?_toList]
    exact hv
  | n + 2, hj => simp at hj
def exU : Ut := ⟨{ data := #[] }, true, true, 1000, 900⟩
theorem ex_row : rowV 0 500 [exU, exU] 2 100 = 4 ∧ rowE 0 500 [exU, exU] = 0 := ⟨by kernel_rfl, by kernel_rfl⟩
theorem info_UT2 : (Try.prog.info? UT).map (fun i => (i.zero, i.size)) = some (some (.agg zerU), 5) := by
  obtain ⟨i, h, h1, h2, _⟩ := info_UT
  rw [h, Option.map_some, h1, h2]
set_option maxHeartbeats 4000000 in
theorem plives (w : World) : Calls Try.prog 7 #[] w fun e w' => e = .returned (.bool true) ∧ Below w.heap.size w w' := by
  obtain ⟨X, hX⟩ : ∃ X, X = utA exU := ⟨_, rfl⟩
  obtain ⟨th, eb, bl⟩ := cell_new w UT zerU X (by rw [hX]; rfl)
  have TH := Lib.hid th
  have IN : Hid ((Try.prog.info? UT).map (·.size) = some X.size) := by show _ = _; rw [hX]; kernel_rfl
  have ON : Hid (X.all (·.oneCell') = true) := by rw [hX]; exact utA_all _
  obtain ⟨w1, hw1⟩ : ∃ W', W' = (w.alloc (.cells zerU UT)).setCells w.heap.size 0 X.toList := ⟨_, rfl⟩
  obtain ⟨O, hO⟩ : ∃ A, A = w.heap.size := ⟨_, rfl⟩
  have HW1 : Hid ((w.alloc (.cells zerU UT)).setCells w.heap.size 0 X.toList = w1 ∧ w.heap.size = O) := ⟨hw1.symm, hO.symm⟩
  rw [← hw1] at eb bl
  rw [← hO] at eb
  have XS : Hid (X.size = 5) := by show _ = _; rw [hX]; rfl
  have LD1 := Lib.hid (load_ut (Ld.rangeAt_block eb) XS.out)
  have XE : Hid (#[.string { data := #[] }, .bool true, .bool true, .int .i64 1000, .int .i64 900] = X) := hX.symm
  obtain ⟨w2, hw2⟩ : ∃ x, x = w1.alloc (.cells (X ++ X) UT) := ⟨_, rfl⟩
  obtain ⟨M, hM⟩ : ∃ M, M = w1.heap.size := ⟨_, rfl⟩
  have HW2 : Hid (w1.alloc (.cells (X ++ X) UT) = w2 ∧ w1.heap.size = M) := ⟨hw2.symm, hM.symm⟩
  have k2 : w2.heap[M]? = some (.cells (X ++ X) UT (0, 0)) := by rw [hw2, hM]; exact heap_alloc_new w1 _
  have b12 : Below w1.heap.size w1 w2 := by rw [hw2]; exact ((Gr.refl w1).alloc _).below
  have B2 := Lib.hid (bl.trans (b12.mono bl.size))
  rw [hX] at k2
  have CR := row_ok w2 0 { data := #[99, 112, 117] } 500 2 100 (by omega) (by omega) (by omega) (by omega) (some ⟨M, 0, none⟩) 2 [exU, exU] (row_two k2) (by simp) (by kernel_rfl)
  rw [ex_row.1, ex_row.2] at CR
  have CR2 : Hid (Calls Try.prog 14 #[.agg #[.int .i64 0, .string { data := #[99, 112, 117] }, .int .i64 500], .slice (some ⟨M, 0, none⟩) 2 2, .int .i64 2, .int .i64 100] w2 fun e w' => e = .returned (.tuple #[.int .i64 4, .int .i64 0]) ∧ Below w2.heap.size w2 w') := CR
  clear th eb bl hX hw1 hO hw2 hM k2 b12 CR
  go_enter Try.func7, Try.ntmps7
  go_upto_region 2 with (rw [XE.out]; refine wpList_store_mid rfl _ _ _ rfl w.heap.size 0 X (by rfl) (by rfl) TH.out IN.out ON.out ?_; rw [HW1.out.1, HW1.out.2])
  clear TH IN ON HW1
  go_wp2_with (first | (refine wpList_load_by (by kernel_rfl) UT _ rfl (.pointer (some ⟨O, 0, none⟩)) (.agg X) (by rfl) LD1.out ?_) | (refine list_build2 (by kernel_rfl) SlT UT _ _ rfl (.agg zerU) 5 X X (by rfl) (by rfl) XS.out XS.out (by decide) (by decide) Try.underlying38 info_UT2 ?_; rw [HW2.out.1, HW2.out.2]))
  refine CR2.out.mono ?_
  rintro e w3 ⟨rfl, b3⟩
  have FIN := Lib.hid (B2.out.trans (b3.mono B2.out.size))
  clear b3 CR2 LD1 B2
  go_wp2
  go_ret
  exact ⟨rfl, FIN.out⟩
end Go.Proofs.Ytajkhbdniadkkaa.Pp
/- Layer 20: Row of any row, told at once; more use of one pod proposes no fewer. -/
namespace Go.Proofs.Ytajkhbdniadkkaa.Pp
open Go.RowKit Go.Shelf Go.Lib Go.Sort Go.Deep
open Go.Joins (cell_of_block unfrozen_of_block block_setCell)
open Go.Proofs.Ytajkhbdniadkkaa.Ow Go.Proofs.Ytajkhbdniadkkaa.Ld
set_option linter.unusedVariables false
set_option linter.unusedSimpArgs false
set_option maxRecDepth 20000

/-- What Row answers. -/
def rowA (k t : Int) (l : List Ut) (r x : Int) : Int × Int :=
  if rightB t r x = true ∧ l.all okU = true then (rowV k t.toNat l r.toNat x.toNat, rowE k t.toNat l) else (0, 1)
theorem pp_row (w : World) (k : Int) (s : ByteArray) (t r x : Int) (q : Option Addr) (c : Nat) (l : List Ut) (hr : RowR 5 encT w q l) (hlen : l.length ≤ 1000000) :
    Calls Try.prog 14 #[.agg (metC k s t), .slice q l.length c, .int .i64 r, .int .i64 x] w fun e w' => e = .returned (.tuple #[.int .i64 (rowA k t l r x).1, .int .i64 (rowA k t l r x).2]) ∧ Below w.heap.size w w' := by
  unfold rowA
  by_cases h : rightB t r x = true ∧ l.all okU = true
  · rw [if_pos h]
    obtain ⟨⟨r0, r1⟩, ⟨x0, x1⟩, t0, t1⟩ := rightB_iff.1 h.1
    obtain ⟨t', rfl⟩ : ∃ n : Nat, t = (n : Int) := ⟨t.toNat, by omega⟩
    obtain ⟨r', rfl⟩ : ∃ n : Nat, r = (n : Int) := ⟨r.toNat, by omega⟩
    obtain ⟨x', rfl⟩ : ∃ n : Nat, x = (n : Int) := ⟨x.toNat, by omega⟩
    exact row_ok w k s t' r' x' (by omega) (by omega) (by omega) (by omega) q c l hr hlen h.2
  · rw [if_neg h]
    refine row_bad w k s t r x q c l hr hlen ?_
    cases e : rightB t r x with
    | false => exact .inl rfl
    | true =>
      cases e2 : l.all okU with
      | false => exact .inr rfl
      | true => exact absurd ⟨e, e2⟩ h

/-! ### What it answers, by its numbers alone -/
def addN (U G SM SU : Nat) : Nat := if G < U then SM + SU else if U < G then SM else 0
def useN (U G SM SU : Nat) : Nat := if U < G then U + addN U G SM SU else U
def EE (nH U G SM SU : Nat) : Int := if nH = 0 then 7 else if 9007199254740992 < U ∨ 9007199254740992 < G then 3 else if G = 0 then 5 else capE (G + addN U G SM SU)
def NN (nH nM nU U G SM SU r x : Nat) : Nat :=
  if nearB (useN U G SM SU) (G + addN U G SM SU) x = true then r else if decide (G < U) ≠ decide (G + addN U G SM SU < useN U G SM SU) then r
  else if decide (G < U) = true then max (needN (nH + addN U G nM nU) (useN U G SM SU) (G + addN U G SM SU)) r else min (needN (nH + addN U G nM nU) (useN U G SM SU) (G + addN U G SM SU)) r
theorem sumG_app (k : Int) (t : Nat) (a b : List Ut) : sumG k t (a ++ b) = sumG k t a + sumG k t b := by
  unfold sumG
  rw [List.map_append, List.sum_append]
theorem addS_eq (k : Int) (t : Nat) (l : List Ut) : addS k t l = addN (sumU (hasL l)) (sumG k t (hasL l)) (sumG k t (misL l)) (sumG k t (unL l)) := by
  unfold addS addL addN
  split
  · rw [sumG_app]
  · split <;> rfl
theorem addL_len (k : Int) (t : Nat) (l : List Ut) : (addL k t l).length = addN (sumU (hasL l)) (sumG k t (hasL l)) (misL l).length (unL l).length := by
  unfold addL addN
  split
  · rw [List.length_append]
  · split <;> rfl
theorem rowE_eq (k : Int) (t : Nat) (l : List Ut) : rowE k t l = EE (hasL l).length (sumU (hasL l)) (sumG k t (hasL l)) (sumG k t (misL l)) (sumG k t (unL l)) := by
  unfold rowE goal2 EE
  rw [addS_eq]
theorem rowN_eq (k : Int) (t : Nat) (l : List Ut) (r x : Nat) : rowN k t l r x = NN (hasL l).length (misL l).length (unL l).length (sumU (hasL l)) (sumG k t (hasL l)) (sumG k t (misL l)) (sumG k t (unL l)) r x := by
  unfold rowN use2 goal2 num2 moreB NN useN
  rw [addS_eq, addL_len]

/-! ### one pod uses more -/
def moreU (x : Ut) (m : Nat) : Ut := ⟨x.pod, x.rd, x.hs, x.ask, x.use + (m : Int)⟩
theorem fil_set (f : Ut → Bool) (k : Int) (t m : Nat) (x : Ut) (hf : f (moreU x m) = f x) (h0 : 0 ≤ x.use) : ∀ (l : List Ut) (p : Nat), l[p]? = some x →
    sumG k t ((l.set p (moreU x m)).filter f) = sumG k t (l.filter f) ∧ ((l.set p (moreU x m)).filter f).length = (l.filter f).length ∧ sumU ((l.set p (moreU x m)).filter f) = sumU (l.filter f) + (if f x = true then m else 0)
  | [], p, h => by simp at h
  | y :: l, 0, h => by
    simp at h
    subst h
    rw [List.set_cons_zero]
    by_cases g : f y = true
    · rw [List.filter_cons_of_pos (by rw [hf]; exact g), List.filter_cons_of_pos g, if_pos g]
      refine ⟨rfl, rfl, ?_⟩
      unfold sumU
      rw [List.map_cons, List.map_cons, List.sum_cons, List.sum_cons]
      show (y.use + (m : Int)).toNat + _ = _
      omega
    · rw [List.filter_cons_of_neg (by rw [hf]; exact g), List.filter_cons_of_neg g, if_neg g]
      exact ⟨rfl, rfl, rfl⟩
  | y :: l, p + 1, h => by
    obtain ⟨a, b, c⟩ := fil_set f k t m x hf h0 l p (by simpa using h)
    rw [List.set_cons_succ]
    by_cases g : f y = true
    · rw [List.filter_cons_of_pos g, List.filter_cons_of_pos g]
      unfold sumG sumU at *
      simp only [List.map_cons, List.sum_cons, List.length_cons]
      exact ⟨by rw [a], by rw [b], by rw [c]; omega⟩
    · rw [List.filter_cons_of_neg g, List.filter_cons_of_neg g]
      exact ⟨a, b, c⟩
theorem up_mono {n u v g : Nat} (h : u ≤ v) : upDiv n u g ≤ upDiv n v g := by
  unfold upDiv
  have h1 : n * u ≤ n * v := Nat.mul_le_mul_left _ h
  generalize n * u = a at h1 ⊢
  generalize n * v = b at h1 ⊢
  have h2 : a / g ≤ b / g := Nat.div_le_div_right h1
  rcases Nat.lt_or_ge (a / g) (b / g) with h3 | h3
  · split <;> split <;> omega
  · have e : a / g = b / g := by omega
    have ea := Nat.div_add_mod a g
    have eb := Nat.div_add_mod b g
    rw [e] at ea
    generalize g * (b / g) = z at ea eb
    split <;> split <;> omega
theorem need_mono {n u v g : Nat} (h : u ≤ v) : needN n u g ≤ needN n v g := by
  have := up_mono (n := n) (g := g) h
  unfold needN
  omega
theorem near_up {u v g x : Nat} (h : u ≤ v) (hg : g < u) (h1 : nearB u g x = false) : nearB v g x = false := by
  unfold nearB apart at *
  generalize g * x = y at *
  rw [Bool.and_eq_false_iff] at *
  rcases h1 with h1 | h1
  · exact .inl h1
  · right
    have := of_decide_eq_false h1
    exact decide_eq_false (by omega)
theorem near_down {u v g x : Nat} (h : u ≤ v) (hg : v < g) (h1 : nearB u g x = true) : nearB v g x = true := by
  unfold nearB apart at *
  generalize g * x = y at *
  rw [Bool.and_eq_true] at *
  refine ⟨h1.1, ?_⟩
  have := of_decide_eq_true h1.2
  exact decide_eq_true (by omega)
theorem near_same {g x : Nat} (h : 0 < g) : nearB g g x = true := by
  unfold nearB apart
  rw [decide_eq_true h, decide_eq_true (by omega)]
  rfl
theorem NN_ge {nH nM nU U G SM SU r x : Nat} (h : G < U) : r ≤ NN nH nM nU U G SM SU r x := by
  unfold NN
  rw [decide_eq_true h]
  split
  · exact Nat.le_refl _
  · split
    · exact Nat.le_refl _
    · rw [if_pos rfl]; omega
theorem NN_le {nH nM nU U G SM SU r x : Nat} (h : ¬ G < U) : NN nH nM nU U G SM SU r x ≤ r := by
  unfold NN
  rw [decide_eq_false h]
  split
  · exact Nat.le_refl _
  · split
    · exact Nat.le_refl _
    · rw [if_neg (by decide)]; omega
theorem NN_mono {nH nM nU U V G SM SU r x : Nat} (h : U ≤ V) (hG : 0 < G) : NN nH nM nU U G SM SU r x ≤ NN nH nM nU V G SM SU r x := by
  by_cases h1 : G < U
  · have h2 : G < V := by omega
    refine Nat.le_trans ?_ (Nat.le_of_eq rfl)
    have ge := NN_ge (nH := nH) (nM := nM) (nU := nU) (SM := SM) (SU := SU) (r := r) (x := x) h2
    have a1 : addN U G SM SU = SM + SU := if_pos h1
    have a2 : addN V G SM SU = SM + SU := if_pos h2
    have a3 : addN U G nM nU = nM + nU := if_pos h1
    have a4 : addN V G nM nU = nM + nU := if_pos h2
    have u1 : useN U G SM SU = U := if_neg (by omega)
    have u2 : useN V G SM SU = V := if_neg (by omega)
    by_cases hn : nearB U (G + (SM + SU)) x = true
    · have : NN nH nM nU U G SM SU r x = r := by unfold NN; rw [a1, u1, if_pos hn]
      rw [this]; exact ge
    · by_cases hl : G + (SM + SU) < U
      · have n2 : ¬ nearB V (G + (SM + SU)) x = true := by
          rw [near_up h hl (Bool.eq_false_iff.2 hn)]; decide
        have e1 : NN nH nM nU U G SM SU r x = max (needN (nH + (nM + nU)) U (G + (SM + SU))) r := by
          unfold NN
          rw [a1, u1, a3, if_neg hn, decide_eq_true h1, decide_eq_true hl, if_neg (by simp), if_pos rfl]
        have e2 : NN nH nM nU V G SM SU r x = max (needN (nH + (nM + nU)) V (G + (SM + SU))) r := by
          unfold NN
          rw [a2, u2, a4, if_neg n2, decide_eq_true h2, decide_eq_true (show G + (SM + SU) < V by omega), if_neg (by simp), if_pos rfl]
        rw [e1, e2]
        have := need_mono (n := nH + (nM + nU)) (g := G + (SM + SU)) h
        omega
      · have : NN nH nM nU U G SM SU r x = r := by
          unfold NN
          rw [a1, u1, if_neg hn, decide_eq_true h1, decide_eq_false hl, if_pos (by simp)]
        rw [this]; exact ge
  · have le := NN_le (nH := nH) (nM := nM) (nU := nU) (SM := SM) (SU := SU) (r := r) (x := x) h1
    by_cases h2 : G < V
    · exact Nat.le_trans le (NN_ge h2)
    · by_cases h3 : V = G
      · subst h3
        have a2 : addN V V SM SU = 0 := by unfold addN; rw [if_neg (by omega), if_neg (by omega)]
        have u2 : useN V V SM SU = V := if_neg (by omega)
        have : NN nH nM nU V V SM SU r x = r := by unfold NN; rw [a2, u2, Nat.add_zero, if_pos (near_same hG)]
        rw [this]; exact le
      · have l1 : U < G := by omega
        have l2 : V < G := by omega
        have a1 : addN U G SM SU = SM := by unfold addN; rw [if_neg h1, if_pos l1]
        have a2 : addN V G SM SU = SM := by unfold addN; rw [if_neg h2, if_pos l2]
        have a3 : addN U G nM nU = nM := by unfold addN; rw [if_neg h1, if_pos l1]
        have a4 : addN V G nM nU = nM := by unfold addN; rw [if_neg h2, if_pos l2]
        have u1 : useN U G SM SU = U + SM := by unfold useN; rw [if_pos l1, a1]
        have u2 : useN V G SM SU = V + SM := by unfold useN; rw [if_pos l2, a2]
        by_cases hv : nearB (V + SM) (G + SM) x = true
        · have : NN nH nM nU V G SM SU r x = r := by unfold NN; rw [a2, u2, if_pos hv]
          rw [this]; exact le
        · have hu : ¬ nearB (U + SM) (G + SM) x = true := fun e => hv (near_down (by omega) (by omega) e)
          have e1 : NN nH nM nU U G SM SU r x = min (needN (nH + nM) (U + SM) (G + SM)) r := by
            unfold NN
            rw [a1, u1, a3, if_neg hu, decide_eq_false h1, decide_eq_false (show ¬ G + SM < U + SM by omega), if_neg (by simp), if_neg (by decide)]
          have e2 : NN nH nM nU V G SM SU r x = min (needN (nH + nM) (V + SM) (G + SM)) r := by
            unfold NN
            rw [a2, u2, a4, if_neg hv, decide_eq_false h2, decide_eq_false (show ¬ G + SM < V + SM by omega), if_neg (by simp), if_neg (by decide)]
          rw [e1, e2]
          have := need_mono (n := nH + nM) (g := G + SM) (show U + SM ≤ V + SM by omega)
          omega
/-- More use of one pod proposes no fewer. -/
theorem grows (k t : Int) (l : List Ut) (r x : Int) (p m : Nat) (y : Ut) (hy : l[p]? = some y) (h0 : 0 ≤ y.use) (e1 : (rowA k t l r x).2 = 0) (e2 : (rowA k t (l.set p (moreU y m)) r x).2 = 0) :
    (rowA k t l r x).1 ≤ (rowA k t (l.set p (moreU y m)) r x).1 := by
  unfold rowA at *
  by_cases h1 : rightB t r x = true ∧ l.all okU = true
  · rw [if_pos h1] at e1 ⊢
    by_cases h2 : rightB t r x = true ∧ (l.set p (moreU y m)).all okU = true
    · rw [if_pos h2] at e2 ⊢
      show rowV _ _ _ _ _ ≤ rowV _ _ _ _ _
      have e1 : rowE k t.toNat l = 0 := e1
      have e2 : rowE k t.toNat (l.set p (moreU y m)) = 0 := e2
      unfold rowV
      rw [if_pos e1, if_pos e2]
      obtain ⟨g1, l1, s1⟩ := fil_set isHas k t.toNat m y rfl h0 l p hy
      obtain ⟨g2, l2, _⟩ := fil_set isMis k t.toNat m y rfl h0 l p hy
      obtain ⟨g3, l3, _⟩ := fil_set isUn k t.toNat m y rfl h0 l p hy
      rw [rowN_eq, rowN_eq]
      rw [rowE_eq] at e1
      have hG : 0 < sumG k t.toNat (hasL l) := by
        rcases Nat.eq_zero_or_pos (sumG k t.toNat (hasL l)) with h | h
        · rw [h] at e1
          unfold EE at e1
          split at e1
          · exact absurd e1 (by decide)
          · split at e1
            · exact absurd e1 (by decide)
            · rw [if_pos rfl] at e1
              exact absurd e1 (by decide)
        · exact h
      unfold hasL misL unL at *
      rw [g1, g2, g3, l1, l2, l3, s1]
      exact Int.ofNat_le.2 (NN_mono (Nat.le_add_right _ _) hG)
    · rw [if_neg h2] at e2
      exact absurd e2 (by decide)
  · rw [if_neg h1] at e1
    exact absurd e1 (by decide)
end Go.Proofs.Ytajkhbdniadkkaa.Pp
