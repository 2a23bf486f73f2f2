/- Proved here: the law OctetObjects of layer 6 holds for every input: any object is written as the document says, or refused; and read again, with shapes of other kinds empty. No conditions. -/
import Derived.Test.YtlajiochpdlhaaaOLawBase
import Derived.Test.YtlajiochpdlhaaaOctLd
import Derived.Test.YtlajiochpdlhaaaOctH
import Derived.Test.YtlajiochpdlhaaaOctE
import Derived.Test.YtlajiochpdlhaaaOctF
import Derived.Test.YtlajiochpdlhaaaOctPw
import Derived.Test.YtlajiochpdlhaaaOctOp
import Derived.ChangeMaps5
import Derived.Deep.DeepCutAuto
import Derived.BigQuiet
namespace Go.Proofs.Ytlajiochpdlhaaa.octetObjects
open Go.ChangeShapes Go.WideShapes Go.ChangeAt Go.RowKit Go.ChangeMaps Go.Lib Go.Shelf Go.Sort Go.Deep
open Go.Joins (cell_of_block unfrozen_of_block block_setCell)
set_option linter.unusedVariables false
set_option linter.unusedSimpArgs false
set_option maxRecDepth 20000

/-- The object in its variable, and what was there before the call. -/
structure Inv (W : World) (cs : Array Value) (w : World) : Prop where
  blk : w.heap[W.heap.size]? = some (.cells cs 66 (0, 0))
  below : Below W.heap.size W w
theorem Inv.lt {W w : World} {cs : Array Value} (h : Inv W cs w) : W.heap.size < w.heap.size := (Array.getElem?_eq_some_iff.1 h.blk).1
theorem Inv.step {W w w' : World} {cs : Array Value} (h : Inv W cs w) (b : Below w.heap.size w w') : Inv W cs w' :=
  ⟨(b.block _ h.lt).trans h.blk, h.below.trans (b.mono (Nat.le_of_lt h.lt))⟩
theorem Inv.gr {W w w' : World} {cs : Array Value} (h : Inv W cs w) (g : Gr w w') : Inv W cs w' := h.step g.below
theorem Inv.mv {W w w' : World} {cs : Array Value} {A : Nat} (h : Inv W cs w) (m : Mv A A A w w') (hA : W.heap.size < A) (hy : ∀ b, yb w A = some b → W.heap.size < b) : Inv W cs w' := by
  have hl := h.lt
  refine ⟨(m.blk _ hl (by omega) (by omega) (by omega) (fun e => Nat.lt_irrefl _ (hy _ e))).trans h.blk, h.below.trans (m.below (by omega) (by omega) (by omega) (by omega) (fun b e => Nat.le_of_lt (hy b e)))⟩
theorem own_row {w : World} {N n c : Nat} {q : Option Addr} {xs : List Value} (h : w.ownsRow N 5 1 (.slice q n c) n xs) (hn : 0 < n) : ∃ g, q = some ⟨g, 0, none⟩ ∧ N ≤ g ∧ g < w.heap.size := by
  obtain ⟨g, cap, e, _⟩ := h.form hn
  injection e with e1 _ _
  have := h.lt g (by rw [e1]; rfl)
  exact ⟨g, e1, this⟩
theorem row_tail {w : World} {g o : Nat} {x : UInt8} {l : List UInt8} (h : RowR 1 encU w (some ⟨g, o, none⟩) (x :: l)) : RowR 1 encU w (some ⟨g, o + 1, none⟩) l := by
  intro j y hj
  obtain ⟨b, off, e, hb, hc⟩ := h (j + 1) y (by simpa using hj)
  injection e with e
  injection e with e1 e2 e3
  subst e1 e2
  exact ⟨g, o + 1, rfl, hb, fun t v hv => by have := hc t v hv; rwa [show o + (j + 1) * 1 + t = o + 1 + j * 1 + t by omega] at this⟩

theorem obj_size {x : Ob} (hk : 0 ≤ x.kind ∧ x.kind ≤ 4) (hok : okO x = true) : (objB x).length ≤ 20000000 := by
  obtain ⟨bs2, o2, hT, hb⟩ := objT_write hk []
  have h := objLen (bs := []) hk
  rw [hT] at h
  have e := hb hok
  rw [e] at h
  simpa [St.len] using h
theorem read_back {ro : Option Addr} {x : Ob} (hk : 0 ≤ x.kind ∧ x.kind ≤ 4) (hok : okO x = true) (hr : ranO x) :
    (objT (.rd ro (some (objB x))) zerO).1 = .rd ro (some []) ∧ (objT (.rd ro (some (objB x))) zerO).2.kind = x.kind ∧ objB (objT (.rd ro (some (objB x))) zerO).2 = objB x ∧ okO (objT (.rd ro (some (objB x))) zerO).2 = true ∧ OthZ (objT (.rd ro (some (objB x))) zerO).2 := by
  have h := objT_read (ro := ro) (x := x) (y := zerO) (r := []) hk hok hr
  rw [List.append_nil] at h
  have h1 : (objT (.rd ro (some (objB x))) zerO).1 = .rd ro (some []) := by rw [h]
  obtain ⟨t1, t2, t3, t4⟩ := objT_turn (st := .rd ro (some (objB x))) ⟨_, rfl⟩ h1
  have t5 := rd_inj t1
  simp only [Option.some.injEq, List.append_nil] at t5
  refine ⟨h1, ?_, t5.symm, t2, t4⟩
  rw [h]
  dsimp only
  split
  · rfl
  · split
    · rfl
    · split
      · rfl
      · split <;> rfl

set_option maxHeartbeats 8000000 in
theorem walk_at (W : World) (cs : Array Value) (ob : Ob) (hv : ObjV W cs ob) (hr : ranO ob) (hn : lenO ob) :
    Calls Try.prog 4 #[.agg cs] W fun e w' => e = .returned (.bool true) ∧ Below W.heap.size W w' := by
  have mixed : Try.prog.follows .mixedOrders = true := by kernel_rfl
  have V := Lib.hid lives_any
  have HV := Lib.hid hv
  have HR := Lib.hid hr
  have HN := Lib.hid hn
  obtain ⟨wb, hwb⟩ : ∃ wb, wb = W.alloc (.cells cs 66) := ⟨_, rfl⟩
  have I0 : Hid (Inv W cs wb) := ⟨hwb ▸ heap_alloc_new W _, hwb ▸ (Below.refl _ W).alloc (Nat.le_refl _) _⟩
  have HW := Lib.hid hwb
  clear hv hr hn hwb
  go_enter Try.func4, Try.ntmps4
  go_upto_region 1 with fail
  rw [← HW.out]
  clear HW
  go_wp2_with fail
  refine (V.out _).mono ?_
  rintro e w1 ⟨rfl, b1, _⟩
  have I1 := Lib.hid (I0.out.step b1)
  have L1 := Lib.hid (load_ob I1.out.blk HV.out.1)
  clear b1
  go_wp2_with (refine wpList_load_by (by kernel_rfl) 66 _ rfl (.pointer (some ⟨W.heap.size, 0, none⟩)) (.agg cs) (by kernel_rfl) L1.out ?_)
  refine (few_any w1 cs ob (HV.out.below I1.out.below)).mono ?_
  rintro e w2 ⟨fw, rfl, g2⟩
  have I2 := Lib.hid (I1.out.gr g2)
  clear g2 L1
  cases fw with
  | false =>
    go_wp2_with fail
    refine (V.out _).mono ?_
    rintro e w3 ⟨rfl, b3, _⟩
    have I3 := Lib.hid (I2.out.step b3)
    clear b3
    go_wp2
    go_ret
    exact ⟨rfl, I3.out.below⟩
  | true =>
    obtain ⟨A, hA⟩ : ∃ A, A = w2.heap.size := ⟨_, rfl⟩
    obtain ⟨wa, hwa⟩ : ∃ wa, wa = w2.alloc (.cells #[.slice none 0 0] 27) := ⟨_, rfl⟩
    have hw : WrM wa A A [] := by rw [hwa, hA]; exact wr_new w2
    have G : Gr w2 wa := hwa ▸ (Gr.refl w2).alloc _
    have hBA : W.heap.size < A := by rw [hA]; exact I2.out.lt
    have HBA := Lib.hid hBA
    have IA := Lib.hid (I2.out.gr G)
    have PC := Lib.hid (put_ok wa A A [] 7 1 (by unfold IsSz; omega) (by decide) hw (by rw [hA]; exact G.size) (by decide))
    have HWA := Lib.hid (And.intro hwa (And.intro hA hw))
    clear hw G hwa hBA
    go_wp2_with fail
    rw [← HWA.out.1, ← hA]
    refine PC.out.mono ?_
    rintro e w3 ⟨rfl, k1, k2⟩
    have hyl : ∀ (w : World) (bs : List UInt8), WrM w A A bs → ∀ b, yb w A = some b → W.heap.size < b := fun w bs h b e => Nat.lt_of_lt_of_le HBA.out (h.yb_lo b e).1
    have HYL := Lib.hid hyl
    have I3 := Lib.hid (IA.out.mv k2 HBA.out (hyl _ _ HWA.out.2.2))
    have k1 : WrM w3 A A [7] := k1
    have K1 := Lib.hid k1
    have hsz3 : A ≤ w3.heap.size := Nat.le_of_lt k1.lt
    have HS3 := Lib.hid hsz3
    have L3 := Lib.hid (load_ob I3.out.blk HV.out.1)
    have V3 := Lib.hid (HV.out.below I3.out.below)
    clear k1 k2 PC hyl hsz3
    clear hA
    by_cases hk : 0 ≤ ob.kind ∧ ob.kind ≤ 4
    case neg =>
      have WC := Lib.hid (wobj_kind w3 A cs ob V3.out (by omega))
      go_wp2_with (refine wpList_load_by (by kernel_rfl) 66 _ rfl (.pointer (some ⟨W.heap.size, 0, none⟩)) (.agg cs) (by kernel_rfl) L3.out ?_)
      refine WC.out.mono ?_
      rintro e w4 ⟨rfl, g4⟩
      have I4 := Lib.hid (I3.out.gr g4)
      have BC := Lib.hid (bytes_ok w4 A A [7] (K1.out.gr g4) (by decide))
      clear g4 WC
      go_wp2_with fail
      refine BC.out.mono ?_
      rintro e w5 ⟨v, rfl, k5, b5⟩
      have I5 := Lib.hid (I4.out.step b5)
      obtain ⟨q, c, rfl, _, _, _, _⟩ := own_lies k5
      have d0 : w5.cell? ⟨W.heap.size, 0, none⟩ = some (.int .i64 ob.kind) := (cell_of_block I5.out.blk 0).trans HV.out.2.1.1
      clear k5 b5 BC
      have hkk : ob.kind < 0 ∨ 5 ≤ ob.kind := by omega
      clear hk
      generalize ob.kind = kk at d0 hkk
      rcases hkk with hkk | hkk
      all_goals
        go_wp2
        go_ret
        exact ⟨rfl, I5.out.below⟩
    case pos =>
      have HK := Lib.hid hk
      have WC := Lib.hid (wobj_any w3 A A [7] cs ob K1.out HS3.out (by decide) V3.out HN.out hk)
      have hk0 : decide (ob.kind < 0) = false := decide_eq_false (by omega)
      have hk5 : decide (5 ≤ ob.kind) = false := decide_eq_false (by omega)
      have hk1 : ¬ (ob.kind < 0) := by omega
      have hk2 : ¬ (5 ≤ ob.kind) := by omega
      clear hk
      go_wp2_with (refine wpList_load_by (by kernel_rfl) 66 _ rfl (.pointer (some ⟨W.heap.size, 0, none⟩)) (.agg cs) (by kernel_rfl) L3.out ?_)
      refine WC.out.mono ?_
      rintro e w4 ⟨m4, h4⟩
      have I4 := Lib.hid (I3.out.mv m4 HBA.out (HYL.out _ _ K1.out))
      clear m4 WC
      rcases h4 with ⟨hok, rfl, k4⟩ | ⟨hok, rfl, k4⟩
      · have BC := Lib.hid (bytes_ok w4 A A [7] k4 (by decide))
        have HOK := Lib.hid hok
        clear k4 hok
        go_wp2_with fail
        refine BC.out.mono ?_
        rintro e w5 ⟨v, rfl, k5, b5⟩
        have I5 := Lib.hid (I4.out.step b5)
        obtain ⟨q, c, rfl, _, _, _, _⟩ := own_lies k5
        have d0 : w5.cell? ⟨W.heap.size, 0, none⟩ = some (.int .i64 ob.kind) := (cell_of_block I5.out.blk 0).trans HV.out.2.1.1
        have L5 := Lib.hid (load_ob I5.out.blk HV.out.1)
        have SC := Lib.hid (rshort_any w5 cs ob (HV.out.below I5.out.below) HN.out HK.out)
        rw [HOK.out] at SC
        clear k5 b5 BC
        generalize ob.kind = kk at d0 hk0 hk5 hk1 hk2
        go_wp2_with (refine wpList_load_by (by kernel_rfl) 66 _ rfl (.pointer (some ⟨W.heap.size, 0, none⟩)) (.agg cs) (by kernel_rfl) L5.out ?_)
        refine SC.out.mono ?_
        rintro e w6 ⟨rfl, g6⟩
        have I6 := Lib.hid (I5.out.gr g6)
        clear g6 SC d0 L5
        go_wp2
        go_ret
        exact ⟨rfl, I6.out.below⟩
      · obtain ⟨xs, hxs⟩ : ∃ xs, xs = [7] ++ objB ob := ⟨_, rfl⟩
        rw [← hxs] at k4
        have hsz : (objB ob).length ≤ 20000000 := obj_size HK.out hok
        have BC := Lib.hid (bytes_ok w4 A A xs k4 (by rw [hxs]; simp; omega))
        have HOK := Lib.hid hok
        clear k4 hok
        go_wp2_with fail
        refine BC.out.mono ?_
        rintro e w5 ⟨v, rfl, k5, b5⟩
        have I5 := Lib.hid (I4.out.step b5)
        obtain ⟨q, c, rfl, _, hlc, hcm, hrow, hpp, _⟩ := own_lies k5
        obtain ⟨nb, hnb⟩ : ∃ nb, nb = (objB ob).length := ⟨_, rfl⟩
        have hxl : xs.length = nb + 1 := by rw [hxs, hnb]; rfl
        rw [hxl] at k5 hlc ⊢
        obtain ⟨g, rfl, _, hg⟩ := own_row k5 (by omega)
        rw [hxs] at hrow
        have hrow2 := row_tail (x := 7) (l := objB ob) hrow
        obtain ⟨c, rfl⟩ : ∃ c', c = c' + 1 := ⟨c - 1, by omega⟩
        have HT5 := Lib.hid hrow2
        rw [← hnb] at hsz
        have hlc' : nb ≤ c := by omega
        have hnn : 0 < nb := by rw [hnb]; simp [objB, hdB, le]
        have hcz : ¬ (c = 0) := by omega
        have hs1 : (1 : Int) ≤ (nb : Int) + 1 := by omega
        have hcm' : c ≤ 9223372036854775806 := by omega
        have HNB := Lib.hid hnb
        clear k5 b5 BC hrow hrow2 hpp hxs hxl hlc hcm hnb
        have d0 : w5.cell? ⟨W.heap.size, 0, none⟩ = some (.int .i64 ob.kind) := (cell_of_block I5.out.blk 0).trans HV.out.2.1.1
        have L5 := Lib.hid (load_ob I5.out.blk HV.out.1)
        have SC := Lib.hid (rshort_any w5 cs ob (HV.out.below I5.out.below) HN.out HK.out)
        rw [HOK.out] at SC
        generalize ob.kind = kk at d0 hk0 hk5 hk1 hk2
        go_wp2_with (refine wpList_load_by (by kernel_rfl) 66 _ rfl (.pointer (some ⟨W.heap.size, 0, none⟩)) (.agg cs) (by kernel_rfl) L5.out ?_)
        refine SC.out.mono ?_
        rintro e w6 ⟨rfl, g6⟩
        have I6 := Lib.hid (I5.out.gr g6)
        have HT6 := Lib.hid (HT5.out.gr g6)
        clear g6 SC d0 L5
        go_wp2_with fail
        -- the comparison
        obtain ⟨tx, htx⟩ : ∃ t, t = mk (objB ob) := ⟨_, rfl⟩
        have KO := Lib.hid (fun (n : Nat) (os : Array Obj) => robj_any (grow (w6.drewN n) os) cs ob (HV.out.below (I6.out.gr (Gr.put w6 n os)).below) HK.out HOK.out)
        rw [← htx] at KO
        have LL : Hid (∀ n os, (Instr.loadAt 66 (.pointer (some ⟨W.heap.size, 0, none⟩))).run Try.prog (grow (w6.drewN n) os) = .ok (.agg cs) (grow (w6.drewN n) os)) := fun n os => load_ob (I6.out.gr (Gr.put w6 n os)).blk HV.out.1
        have CV : ∀ n os, (convert 25 9 (.slice (some ⟨g, 1, none⟩) nb c)).run Try.prog (grow (w6.drewN n) os) = .ok (.string tx) (grow (w6.drewN n) os) := fun n os => by
          rw [htx, HNB.out]
          exact run_str _ _ _ _ (HT6.out.gr (Gr.put w6 n os))
        have HTX := Lib.hid (And.intro htx HNB.out)
        clear htx
        refine wp_region_quiet_grown (by assumption) (by kernel_rfl) ?_
        repeat (first | (refine wpQuiet_load (by kernel_rfl) 66 _ rfl (.pointer (some ⟨W.heap.size, 0, none⟩)) (.agg cs) (by kernel_rfl) (fun w' h => by obtain ⟨g, rfl⟩ := h; exact LL.out _ _) ?_; simp only [Act.put, List.setIfInBounds_toArray, List.set_cons_zero, List.set_cons_succ]) | (quiet_step (first | (go_at_call 25; refine gr_of (KO.out _ _)))))
        refine wpQuiet_nil ?_
        intro _ hw'
        obtain ⟨⟨nq, osq⟩, hw''⟩ := hw'
        subst hw''
        have I7 : Hid (Inv W cs (grow (w6.drewN nq) osq)) := I6.out.gr (Gr.put _ _ _)
        have HT7 : Hid (RowR 1 encU (grow (w6.drewN nq) osq) (some ⟨g, 1, none⟩) (objB ob)) := HT6.out.gr (Gr.put _ _ _)
        clear CV LL KO
        generalize grow (w6.drewN nq) osq = w7 at *
        have RC : Hid (Calls Try.prog 15 #[.slice (some ⟨g, 1, none⟩) nb c] w7 fun e w' => ∃ A, e = .returned (ptr A) ∧ w7.heap.size ≤ A ∧ RdM w' w7.heap.size A (some ⟨A, 0, none⟩) (some (objB ob)) ∧ (∀ b, yb w' A = some b → w7.heap.size ≤ b ∧ b < w'.heap.size) ∧ Below w7.heap.size w7 w') := by
          have h := read_any w7 (some ⟨g, 1, none⟩) c (objB ob) HT7.out (fun h => by cases h) (by have := HTX.out.2; omega)
          rw [← HTX.out.2] at h
          exact h
        go_wp2_with fail
        refine RC.out.mono ?_
        rintro e w8 ⟨A2, rfl, a1, a2, a3, a4⟩
        have R8 : Hid (RS W w8 w7.heap.size A2 (some (objB ob))) := RS.ofRead I7.out.below a1 a2 a3 a4
        have I8 := Lib.hid (I7.out.step a4)
        clear a1 a2 a3 a4 RC
        go_wp2_with fail
        refine (robj_read w8 w7.heap.size A2 (some (objB ob)) R8.out.1 R8.out.2.2.2.1 R8.out.2.2.2.2.1).mono ?_
        rintro e w9 ⟨ds, rfl, hv9, ⟨s', hs', hrd⟩, m9⟩
        obtain ⟨x1, x2, x3, x4, x5⟩ := read_back (ro := some ⟨A2, 0, none⟩) HK.out HOK.out HR.out
        have e9 : resO (objT (.rd (some ⟨A2, 0, none⟩) (some (objB ob))) zerO) = (objT (.rd (some ⟨A2, 0, none⟩) (some (objB ob))) zerO).2 := by unfold resO; rw [x1]; rfl
        rw [e9] at hv9
        rw [x1] at hs'
        obtain rfl := rd_inj hs'
        have I9 := Lib.hid (I8.out.mv m9 (Nat.lt_of_lt_of_le I7.out.lt R8.out.2.1) (fun b hb => Nat.lt_of_lt_of_le I7.out.lt (R8.out.2.2.2.2.1 b hb).1))
        have R9 := Lib.hid (R8.out.step hrd m9)
        generalize (objT (.rd (some ⟨A2, 0, none⟩) (some (objB ob))) zerO).2 = y at *
        obtain ⟨lb, lg⟩ := laid_ob w9 hv9.1
        have THERE := Lib.hid (zer_there w9 hv9.1)
        have ONE := Lib.hid (objV_one hv9)
        have INFO : Hid ((Try.prog.info? 66).map (·.size) = some ds.size) := by show _ = _; rw [hv9.1]; exact info_ob47
        have VX := Lib.hid (hv9.below lg.below)
        have IX := Lib.hid (I9.out.gr lg)
        have RX := Lib.hid (R9.out.gr lg)
        have LB := Lib.hid lb
        have HY := Lib.hid (And.intro x2 (And.intro x3 (And.intro x4 x5)))
        clear hv9 hrd m9 lb lg hs' x1 x2 x3 x4 x5 e9 R8 I8
        go_wp2_with (refine wpList_store_mid rfl _ _ _ rfl w9.heap.size 0 ds (by rfl) (by rfl) THERE.out INFO.out ONE.out ?_)
        clear THERE ONE INFO I9 R9
        generalize (w9.alloc (.cells zerC 66)).setCells w9.heap.size 0 ds.toList = wx at *
        have EC : Hid (Calls Try.prog 20 #[ptr A2] wx fun e w' => e = .returned (.bool true) ∧ wx = w') := end_any wx w7.heap.size A2 _ (some []) RX.out.1
        refine EC.out.mono ?_
        rintro e w10 ⟨rfl, rfl⟩
        have LX1 := Lib.hid (load_ob LB.out VX.out.1)
        have LX2 := Lib.hid (load_ob IX.out.blk HV.out.1)
        have SM := Lib.hid (rsame_any wx ds cs y ob VX.out (HV.out.below IX.out.below) (by have h1 := HK.out; have h2 := HY.out.1; rw [h2]; exact h1) HY.out.1.symm HY.out.2.2.1 HOK.out HY.out.2.1)
        go_wp2_with (first | (refine wpList_load_by (by kernel_rfl) 66 _ rfl (.pointer (some ⟨w9.heap.size, 0, none⟩)) (.agg ds) (by rfl) LX1.out ?_) | (refine wpList_load_by (by kernel_rfl) 66 _ rfl (.pointer (some ⟨W.heap.size, 0, none⟩)) (.agg cs) (by rfl) LX2.out ?_))
        refine SM.out.mono ?_
        rintro e w11 ⟨rfl, g11⟩
        have L11 := Lib.hid (load_ob ((g11.heap (Array.getElem?_eq_some_iff.1 LB.out).1).trans LB.out) VX.out.1)
        have I11 := Lib.hid (IX.out.gr g11)
        have a1 : ObjV w11 ds y := VX.out.below g11.below
        have a2 : 0 ≤ y.kind ∧ y.kind ≤ 4 := by have h1 := HK.out; have h2 := HY.out.1; rw [h2]; exact h1
        have EM := Lib.hid (rempty_any w11 ds y a1 a2 HY.out.2.2.1 HY.out.2.2.2)
        clear a1 a2
        clear g11 SM LX1 LX2
        go_wp2_with (refine wpList_load_by (by kernel_rfl) 66 _ rfl (.pointer (some ⟨w9.heap.size, 0, none⟩)) (.agg ds) (by rfl) L11.out ?_)
        refine EM.out.mono ?_
        rintro e w12 ⟨rfl, g12⟩
        have I12 := Lib.hid (I11.out.gr g12)
        clear g12 EM L11
        go_wp2
        go_ret
        exact ⟨rfl, I12.out.below⟩

theorem walk {H : Type} {enc : TypeId × Value → H} {base : Nat} (W : World) (v0 : Value) (d0 : DataW H) (p0 : List MemPlace) (o0 : Value.okWide Try.prog W .any base 66 v0) (h0 : DataW.Trod enc Try.prog W 0 (fun _ => true) true 66 v0 d0 p0) :
    Calls Try.prog 4 #[v0] W fun e W' => e = .returned (.bool true) ∧ Below W.heap.size W W' := by
  obtain ⟨cs, o, rfl, hv, hr, hn⟩ := open_ob o0 h0
  exact walk_at W cs o hv hr hn

/-! ### THE ROW's STEP -/
set_option maxRecDepth 100000 in
theorem lifted (os : Os) (started : os.Started) (H : Type) (enc : TypeId × Value → H) :
    ReturnsInHanded {} Try.checked os 4 .any (Rows.octetObjectsSpec.pre6 enc Try.prog Try.f4 Rows.octetObjectsRow.domain false) (Rows.octetObjectsSpec.post enc Try.prog Try.f4 false true false false) := by
  refine returnsInHanded_of_change (C := Try.checked) own started (by kernel_rfl) Try.func4
    (ChangeSpec.witness6 (enc := enc) (C := Try.checked) false ⟨#[], #[.agg zerC], []⟩ 8 (by kernel_rfl) (by kernel_rfl) (by kernel_rfl) (by kernel_rfl)) ?_
  intro W base args ds gs before hval0 hW hcnd _
  have hval : ∀ (j : Nat) t v, Try.f4.params[j]? = some t → args[j]? = some v → Value.okWide Try.prog W .any base t v := hval0
  have hW' := hW
  obtain ⟨p, q, hA0, hV, rfl, hfz, hnd⟩ := hW
  have hA : DataW.TrodAll enc Try.prog W 0 (fun _ => true) true Try.f4.params.toList args.toList ds p := hA0
  have hlt : ∀ x ∈ p, x.block < W.heap.size := fun x hx => hW'.lt x (List.mem_append_left _ hx)
  rw [Try.params4] at hA hval
  have hread : ∀ t ∈ [66], Try.prog.readableRec t = true ∧ t < Try.prog.types.size := by
    intro t ht
    simp only [List.mem_cons, List.not_mem_nil, or_false] at ht
    rcases ht with rfl <;> exact ⟨by kernel_rfl, of_decide_eq_true (by kernel_rfl)⟩
  have again : ∀ (W' : World), Below W.heap.size W W' → ∀ sp : Nat → Bool, (∀ x ∈ p, sp x.block = true) → DataW.TrodAll enc Try.prog W' 0 sp true [66] args.toList ds p :=
    fun W' hb sp hsp => all_again (by kernel_rfl) hb [66] args.toList ds p hread hA hlt hsp
  obtain ⟨v0, d0, rfl, rfl, h0⟩ := trodAll_one hA
  obtain ⟨rfl, rfl⟩ := trodVars_none hV
  clear hA0 hval0
  simp only [List.append_nil] at hW'
  refine (walk W v0 d0 _ (hval 0 66 v0 rfl rfl) h0).mono fun e W' ⟨he, hg⟩ => ?_
  subst he
  exact ⟨_, rfl, post_below hW' hg (fun _ _ _ => trodAll_mk1 (shut_bool Try.underlying4 _)) (fun sp hsp => again W' hg sp hsp) (fun _ => rfl) (ok_one (by kernel_rfl) rfl (okWide_bool_mk Try.underlying4 _))⟩

theorem over : Rows.octetObjectsRow.holds Try.pinned (OpenSpec.ofChange Rows.octetObjectsSpec) :=
  OpenClaim.holds_of_wide 4 Try.f4 rfl rfl rfl rfl rfl rfl rfl ⟨rfl, rfl, rfl, rfl, rfl⟩ rfl rfl rfl rfl rfl (by kernel_rfl) Try.func4 (by kernel_rfl)
    (of_decide_eq_true (by kernel_rfl)) (by unfold Func.isWrapper; first | (rw [if_pos (by decide +kernel)]; kernel_rfl) | (rw [if_neg (by decide +kernel)]; exact ⟨rfl, rfl⟩))
    (fun os started H enc _ => lifted os started H enc)

/-- The statement. -/
theorem proved : Rows.OctetObjectsSaid :=
  over
#print axioms proved
end Go.Proofs.Ytlajiochpdlhaaa.octetObjects

