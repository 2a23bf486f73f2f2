/- Proved here: the law OctetReads of layer 6 holds for every input: of any bytes the object that is read is written as these, up to what is left; or there is none. No conditions. -/
import Derived.Test.YtlajiochpdlhaaaOLawBase
import Derived.Test.YtlajiochpdlhaaaOctLd
import Derived.Test.YtlajiochpdlhaaaOctH
import Derived.Test.YtlajiochpdlhaaaOctE
import Derived.ChangeMaps5
import Derived.Deep.DeepCutAuto
import Derived.Deep.CutRange
import Derived.BigQuiet
namespace Go.Proofs.Ytlajiochpdlhaaa.octetReads
open Go.ChangeShapes Go.WideShapes Go.ChangeAt Go.RowKit Go.ChangeMaps Go.Lib Go.Shelf Go.Sort Go.Deep
open Go.Joins (cell_of_block unfrozen_of_block block_setCell)
set_option linter.unusedVariables false
set_option linter.unusedSimpArgs false
set_option maxRecDepth 20000

theorem open_bytes {H : Type} {enc : TypeId × Value → H} {W : World} {base : Nat} {v : Value} {d : DataW H} {p : List MemPlace} (o : Value.okWide Try.prog W .any base 25 v)
    (h : DataW.Trod enc Try.prog W 0 (fun _ => true) true 25 v d p) : ∃ q c l, v = .slice q l.length c ∧ RowR 1 encU W q l ∧ (q = none → c = 0 ∧ l = []) ∧ l.length ≤ maxLen ∧ l.length ≤ c := by
  have h' := h
  obtain ⟨q, c, l, e, h1, h2, h3⟩ := open_u8s o h
  refine ⟨q, c, l, e, h1, h2, h3, ?_⟩
  subst e
  obtain ⟨fuel, hf⟩ := h'
  rcases open_ints Try.underlying25 Try.underlying5 c_u8 hf with ⟨hcs, hx⟩ | ⟨a, len', cap', zs, hcs, _, hl, hm, hz, hx, hcell, hwz⟩
  · simp [Value.cells] at hcs
    first | omega | (obtain ⟨_, e, _⟩ := hcs; subst e; exact Nat.zero_le _) | simp_all
  · simp [Value.cells] at hcs
    omega

theorem own_row {w : World} {N n c : Nat} {q : Option Addr} {xs : List Value} (h : w.ownsRow N 5 1 (.slice q n c) n xs) (hn : 0 < n) : ∃ g, q = some ⟨g, 0, none⟩ ∧ N ≤ g ∧ g < w.heap.size := by
  obtain ⟨g, cap, e, _⟩ := h.form hn
  injection e with e1 _ _
  have := h.lt g (by rw [e1]; rfl)
  exact ⟨g, e1, this⟩

set_option maxHeartbeats 8000000 in
theorem walk_at (W : World) (q : Option Addr) (c : Nat) (l : List UInt8) (h : RowR 1 encU W q l) (hq : q = none → c = 0 ∧ l = []) (hm : l.length ≤ 9223372036854775807) (hlc : l.length ≤ c)
    (EM : ∀ (w : World) (cs : Array Value) (ob : Ob), ObjV w cs ob → (0 ≤ ob.kind ∧ ob.kind ≤ 4) → okO ob = true → OthZ ob → Calls Try.prog 28 #[.agg cs] w fun e w' => e = .returned (.bool true) ∧ Gr w w') :
    Calls Try.prog 5 #[.slice q l.length c] W fun e w' => e = .returned (.bool true) ∧ Below W.heap.size W w' := by
  have mixed : Try.prog.follows .mixedOrders = true := by kernel_rfl
  have V := Lib.hid lives_any
  have HR := Lib.hid h
  have HQ := Lib.hid hq
  have HLC := Lib.hid hlc
  clear h hq hlc
  by_cases hbig : 2000 < l.length
  · go_enter Try.func5, Try.ntmps5
    go_wp2_with fail
    refine (V.out _).mono ?_
    rintro e w1 ⟨rfl, b1, _⟩
    have B1 := Lib.hid b1
    clear b1
    go_wp2_with fail
    refine (V.out _).mono ?_
    rintro e w2 ⟨rfl, b2, _⟩
    have B2 := Lib.hid (B1.out.trans (b2.mono B1.out.size))
    clear b2
    go_wp2
    go_ret
    exact ⟨rfl, B2.out⟩
  have hsm : l.length ≤ 2000 := by omega
  clear hbig
  obtain ⟨ib, hi, hz0, hz1, hz2⟩ := info_u8
  have HI := Lib.hid (And.intro hi (And.intro hz0 (And.intro hz1 hz2)))
  clear hi hz0 hz1 hz2
  go_enter Try.func5, Try.ntmps5
  go_wp2_with fail
  refine (V.out _).mono ?_
  rintro e w1 ⟨rfl, b1, _⟩
  have B1 := Lib.hid b1
  have HRR := Lib.hid (HR.out.below b1)
  clear b1
  go_upto_region 3 with fail
  go_cut [3] from 16 to 18 (fun v wx => ∃ q' c', v = .slice q' l.length c' ∧ Hid (wx.ownsRow W.heap.size 5 1 v l.length (cellsU l)) ∧ Hid (Below W.heap.size W wx))
  case first =>
    have HO : Hid ((w1.alloc (.cells #[] 5)).ownsRow W.heap.size 5 1 (.slice (some ⟨w1.heap.size, 0, none⟩) 0 0) 0 []) := World.ownsRow_made w1 #[] 0 B1.out.size (by unfold maxLen; omega) rfl
    have HB : Hid (Below W.heap.size W (w1.alloc (.cells #[] 5))) := B1.out.alloc B1.out.size _
    have HS : Hid (W.heap.size ≤ w1.heap.size) := B1.out.size
    cases q with
    | none =>
      obtain ⟨rfl, rfl⟩ := HQ.out rfl
      go_wp2_with (at_builtin; refine wpList_append_own_none rfl _ _ _ rfl W.heap.size 5 ib 1 Try.underlying25 HI.out.1 (.slice (some ⟨w1.heap.size, 0, none⟩) 0 0) 0 [] (by rfl) HO.out (by rfl) ?_)
      go_meet
      case rel => exact ⟨_, _, rfl, HO.out, HB.out⟩
    | some ad =>
      have hnews : Hid (∀ j u, (cellsU l)[j]? = some u → (w1.alloc (.cells #[] 5)).cell? (ad.add j) = some u) := by
        intro j u hu
        simp only [cellsU, List.getElem?_map, Option.map_eq_some_iff] at hu
        obtain ⟨x, hx, rfl⟩ := hu
        obtain ⟨b, off, e, hb, hc⟩ := HRR.out.u8 j x hx
        injection e with e
        subst e
        have ea : (⟨b, off, none⟩ : Addr).add j = ⟨b, off + j, none⟩ := by unfold Addr.add; split <;> simp_all
        rw [ea]
        exact ((Gr.refl w1).alloc _).cell hc
      go_wp2_with (at_builtin; go_loud (refine wpList_append_own_at _ rfl _ _ _ rfl W.heap.size 5 ib (.int .u8 0) 1 1 Try.underlying25 HI.out.1 HI.out.2.1 HI.out.2.2.1 HI.out.2.2.2 rfl (by omega) (.slice (some ⟨w1.heap.size, 0, none⟩) 0 0) 0 [] rfl HO.out ad l.length c (cellsU l) (by rfl) (by rw [cellsU_len, Nat.mul_one]) hnews.out (cellsU_one l) (by unfold maxLen; omega) (by omega) (by have := HS.out; simp; omega) ?_; intro v' w2 hown1 hgrow1 hnil1 hat1))
      go_meet
      case rel =>
        have hown2 : w2.ownsRow W.heap.size 5 1 v' l.length (cellsU l) := by simpa using hown1
        obtain ⟨q', c', e1, _⟩ := own_lies hown2
        exact ⟨q', c', e1, hown2, ⟨hgrow1.os.trans HB.out.os, hgrow1.tape.trans HB.out.tape, hgrow1.output.trans HB.out.output, Nat.le_trans HB.out.size hgrow1.size, fun k hk => (hgrow1.block k (Nat.lt_of_lt_of_le hk HB.out.size) (by have := HS.out; simp [Value.ownBlock]; omega)).trans (HB.out.block k hk)⟩⟩
  obtain ⟨q1, c1, rfl, OWN, BW⟩ := hcut
  obtain ⟨q1', c1', e1, _, _, _, hr1, _, hq1⟩ := own_lies OWN.out
  injection e1 with e1 e2 e3
  subst e1 e3
  have HR1 := Lib.hid hr1
  have HQ1 := Lib.hid hq1
  clear hr1 hq1 e2
  go_wp2_with fail
  refine (read_any wc q1 c1 l HR1.out HQ1.out (by omega)).mono ?_
  rintro e w3 ⟨A, rfl, a1, a2, a3, a4⟩
  have RSH : Hid (RS W w3 wc.heap.size A (some l)) := RS.ofRead BW.out a1 a2 a3 a4
  have OWN3 : Hid (w3.ownsRow W.heap.size 5 1 (.slice q1 l.length c1) l.length (cellsU l)) := own_below OWN.out a4
  have HLT : Hid (∀ g, q1 = some ⟨g, 0, none⟩ → W.heap.size ≤ g ∧ g < wc.heap.size) := fun g e => OWN.out.lt g (by rw [e]; rfl)
  clear a1 a2 a3 a4 OWN HR1 HQ1
  go_wp2_with fail
  go_loopg [23] l.length (fun g vi wr => ∃ (k : Nat) (xs : List Value), k ≤ l.length ∧ l.length - k ≤ g ∧ vi = .int .i64 (k : Int) ∧ Hid (wr.ownsRow W.heap.size 5 1 (.slice q1 l.length c1) l.length xs) ∧ Hid (∀ j, j < l.length → ∃ z, xs[j]? = some (.int .u8 z)) ∧ Hid (RS W wr wc.heap.size A (some l)))
  case atStart => exact ⟨0, cellsU l, Nat.zero_le _, by omega, rfl, OWN3.out, fun j hj => ⟨((l[j]'hj).toNat : Int), by simp only [cellsU, List.getElem?_map, List.getElem?_eq_getElem hj, Option.map_some]⟩, RSH.out⟩
  case round =>
    obtain ⟨k, xs, hk, hg, rfl, HO, HX, HS⟩ := hrel
    by_cases hlt : k < l.length
    · obtain ⟨g, rfl, g1, g2⟩ := own_row HO.out (by omega)
      obtain ⟨z, hz⟩ := HX.out k hlt
      have hcell : wr.cell? ⟨g, k, none⟩ = some (.int .u8 z) := (HO.out.cellAt k (by omega)).trans hz
      have hfr : wr.frozen? ⟨g, k, none⟩ = false := HO.out.frozenAt k
      have hgw := HLT.out g rfl
      have FIN : Hid (∀ y : Int, (wr.setCell ⟨g, k, none⟩ (.int .u8 y)).ownsRow W.heap.size 5 1 (.slice (some ⟨g, 0, none⟩) l.length c1) l.length (xs.set k (.int .u8 y)) ∧ (∀ j, j < l.length → ∃ z, (xs.set k (.int .u8 y))[j]? = some (.int .u8 z)) ∧ RS W (wr.setCell ⟨g, k, none⟩ (.int .u8 y)) wc.heap.size A (some l)) := fun y => ⟨(HO.out.stored k _).1, fun j hj => by
        by_cases hjk : j = k
        · subst hjk
          have : j < xs.length := (List.getElem?_eq_some_iff.1 hz).1
          exact ⟨y, by simp [this]⟩
        · obtain ⟨z', hz'⟩ := HX.out j hj
          exact ⟨z', by rw [List.getElem?_set_ne (fun e => hjk e.symm)]; exact hz'⟩, HS.out.cellLow g k _ hgw.1 hgw.2⟩
      clear hgw HO HX hz g1 g2
      go_wp2
      go_roundg (l.length - (k + 1))
      case measure => omega
      case rel => exact ⟨k + 1, _, hlt, Nat.le_refl _, by go_num, (FIN.out _).1, (FIN.out _).2.1, (FIN.out _).2.2⟩
    · obtain rfl : k = l.length := by omega
      clear HO HX hk hg OWN3 RSH HLT
      go_wp2_with fail
      refine (robj_read wr wc.heap.size A (some l) HS.out.1 HS.out.2.2.2.1 HS.out.2.2.2.2.1).mono ?_
      rintro e w5 ⟨cs, rfl, hv, ⟨s', hs', hrd⟩, m⟩
      have R5 := Lib.hid (HS.out.step hrd m)
      have R50 := R5.out
      obtain ⟨lb, lg⟩ := laid_ob w5 hv.1
      have THERE := Lib.hid (zer_there w5 hv.1)
      have ONE := Lib.hid (objV_one hv)
      have INFO : Hid ((Try.prog.info? 66).map (·.size) = some cs.size) := by show _ = _; rw [hv.1]; exact info_ob47
      have V6 := Lib.hid (hv.below lg.below)
      have R6 := Lib.hid (R5.out.gr lg)
      have LB := Lib.hid lb
      have HT := Lib.hid hs'
      clear hv hrd m R50 lb lg hs' HS
      go_wp2_with (refine wpList_store_mid rfl _ _ _ rfl w5.heap.size 0 cs (by rfl) (by rfl) THERE.out INFO.out ONE.out ?_)
      clear THERE ONE INFO R5
      generalize (w5.alloc (.cells zerC 66)).setCells w5.heap.size 0 cs.toList = w6 at *
      refine (bad_any w6 wc.heap.size A _ s' R6.out.1).mono ?_
      rintro e w7 ⟨rfl, rfl⟩
      have L6 := Lib.hid (load_ob LB.out V6.out.1)
      cases s' with
      | none =>
        have e0 : resO (objT (.rd (some ⟨A, 0, none⟩) (some l)) zerO) = zerO := by unfold resO; rw [HT.out]; rfl
        rw [e0] at V6
        have d0 : w6.cell? ⟨w5.heap.size, 0, none⟩ = some (.int .i64 0) := (cell_of_block LB.out 0).trans V6.out.2.1.1
        have d1 : w6.cell? ⟨w5.heap.size, 1, none⟩ = some (.string ⟨#[]⟩) := (cell_of_block LB.out 1).trans V6.out.2.1.2.1
        have d2 : w6.cell? ⟨w5.heap.size, 2, none⟩ = some (.int .u64 0) := (cell_of_block LB.out 2).trans V6.out.2.1.2.2.1
        have EC := Lib.hid (EM w6 cs zerO V6.out ⟨by decide, by decide⟩ (by rfl) ⟨fun _ => rfl, fun _ => rfl, fun _ => rfl, fun _ => rfl, fun _ => rfl⟩)
        go_wp2_with (refine wpList_load_by (by kernel_rfl) 66 _ rfl (.pointer (some ⟨w5.heap.size, 0, none⟩)) (.agg cs) (by kernel_rfl) L6.out ?_)
        refine EC.out.mono ?_
        rintro e w8 ⟨rfl, g8⟩
        have R8 := Lib.hid (R6.out.gr g8)
        clear g8 EC L6 LB V6 d0 d1 d2
        go_wp2_with fail
        refine (left_any w8 wc.heap.size A _ none R8.out.1).mono ?_
        rintro e w9 ⟨rfl, rfl⟩
        go_wp2_with fail
        refine (get_ok w8 wc.heap.size A _ none 1 R8.out.1 (by unfold IsSz; omega)).mono ?_
        rintro e w9 ⟨rfl, k1, k2⟩
        have R9 := Lib.hid (R8.out.step k1 k2)
        clear k1 k2
        go_wp2_with fail
        refine (end_any w9 wc.heap.size A _ none R9.out.1).mono ?_
        rintro e w10 ⟨rfl, rfl⟩
        go_wp2
        go_ret
        exact ⟨rfl, R9.out.2.2.2.2.2⟩
      | some m =>
        obtain ⟨t1, t2, t3, t4⟩ := objT_turn (st := .rd (some ⟨A, 0, none⟩) (some l)) ⟨_, rfl⟩ HT.out
        have e0 : resO (objT (.rd (some ⟨A, 0, none⟩) (some l)) zerO) = (objT (.rd (some ⟨A, 0, none⟩) (some l)) zerO).2 := by unfold resO; rw [HT.out]; rfl
        rw [e0] at V6
        generalize (objT (.rd (some ⟨A, 0, none⟩) (some l)) zerO).2 = ob at *
        have t5 := rd_inj t1
        simp only [Option.some.injEq] at t5
        have hlen : l.length = (objB ob).length + m.length := by rw [t5, List.length_append]
        have hnn : 0 < (objB ob).length := by simp [objB, hdB, le]
        obtain ⟨b, off, rfl, _⟩ : ∃ b off, q = some ⟨b, off, none⟩ ∧ True := by
          obtain ⟨x, hx⟩ : ∃ x, l[0]? = some x := ⟨l[0]'(by omega), List.getElem?_eq_getElem (by omega)⟩
          obtain ⟨b, off, e, _⟩ := HR.out 0 x hx
          exact ⟨b, off, e, trivial⟩
        have hpre : Hid (RowR 1 encU W (some ⟨b, off, none⟩) (objB ob)) := fun j x hx => HR.out j x (by rw [t5]; rw [List.getElem?_append_left (List.getElem?_eq_some_iff.1 hx).1]; exact hx)
        have hls := rows_short t3 t2 t4
        have hlenO : lenO ob := by obtain ⟨a0, a1, a2, a3, a4, a5, a6, a7, a8, a9, a10, a11, a12, a13⟩ := hls; exact ⟨by omega, by omega, by omega, by omega, by omega, by omega, by omega, by omega, by omega, by omega, by omega, by omega, by omega, by omega⟩
        have BW6 : Hid (Below W.heap.size W w6) := R6.out.2.2.2.2.2
        have KS := Lib.hid (fun (n : Nat) (os : Array Obj) => rshort_any (grow (w6.drewN n) os) cs ob (V6.out.below (Gr.put w6 n os).below) hlenO t3)
        have KE := Lib.hid (fun (n : Nat) (os : Array Obj) => EM (grow (w6.drewN n) os) cs ob (V6.out.below (Gr.put w6 n os).below) t3 t2 t4)
        have KO := Lib.hid (fun (n : Nat) (os : Array Obj) => robj_any (grow (w6.drewN n) os) cs ob (V6.out.below (Gr.put w6 n os).below) t3 t2)
        have LL : Hid (∀ n os, (Instr.loadAt 66 (.pointer (some ⟨w5.heap.size, 0, none⟩))).run Try.prog (grow (w6.drewN n) os) = .ok (.agg cs) (grow (w6.drewN n) os)) := fun n os => load_ob (((Gr.put w6 n os).heap (Array.getElem?_eq_some_iff.1 LB.out).1).trans LB.out) V6.out.1
        obtain ⟨tx, htx⟩ : ∃ t, t = mk (objB ob) := ⟨_, rfl⟩
        rw [t2] at KS
        rw [← htx] at KO
        have CV : ∀ n os, (convert 25 9 (.slice (some ⟨b, off, none⟩) (objB ob).length c)).run Try.prog (grow (w6.drewN n) os) = .ok (.string tx) (grow (w6.drewN n) os) := fun n os => by
          rw [htx]
          exact run_str _ _ _ _ (hpre.out.below (BW6.out.trans ((Gr.put w6 n os).below.mono BW6.out.size)))
        obtain ⟨nb, hnb⟩ : ∃ nb, nb = (objB ob).length := ⟨_, rfl⟩
        obtain ⟨mm, hmm⟩ : ∃ mm, mm = m.length := ⟨_, rfl⟩
        rw [← hnb] at CV hlen hnn
        rw [← hmm] at hlen
        obtain ⟨ll, hll⟩ : ∃ ll, ll = l.length := ⟨_, rfl⟩
        have hlc := HLC.out
        rw [← hll] at hlen hlc hm hsm ⊢
        have LC : Hid (Calls Try.prog 21 #[ptr A] w6 fun e w' => e = .returned (.int .i64 (mm : Int)) ∧ w6 = w') := by
          have := left_any w6 wc.heap.size A _ (some m) R6.out.1
          rw [show leftS (some m) = mm from hmm.symm] at this
          exact this
        have FIN : Hid (∀ n os, Below W.heap.size W (grow (w6.drewN n) os)) := fun n os => BW6.out.trans ((Gr.put w6 n os).below.mono BW6.out.size)
        clear t1 t2 t3 t4 t5 e0 hpre hls hlenO htx hnb hmm hll V6 LB BW6 R6 HT HR HQ HLC HRR L6 EM B1 BW
        subst hlen
        go_wp2_with fail
        refine LC.out.mono ?_
        rintro e w8 ⟨rfl, rfl⟩
        go_wp2_with fail
        have hg1 : decide ((0 : Int) ≤ (nb : Int)) = true := decide_eq_true (by omega)
        have hg2 : (0 : Int) ≤ (nb : Int) := by omega
        have hg3 : (nb : Int) ≤ (c : Int) := by omega
        have hg4 : ((nb : Int)).toNat = nb := by omega
        refine wp_region_quiet_grown (by assumption) (by kernel_rfl) ?_
        repeat (first | (refine wpQuiet_load (by kernel_rfl) 66 _ rfl (.pointer (some ⟨w5.heap.size, 0, none⟩)) (.agg cs) (by kernel_rfl) (fun w' h => by obtain ⟨g, rfl⟩ := h; exact LL.out _ _) ?_; simp only [Act.put, List.setIfInBounds_toArray, List.set_cons_zero, List.set_cons_succ]) | (quiet_step (first | (go_at_call 24; refine gr_of (KS.out _ _)) | (go_at_call 28; refine gr_of (KE.out _ _)) | (go_at_call 25; refine gr_of (KO.out _ _)))))
        refine wpQuiet_nil ?_
        intro _ hw'
        obtain ⟨⟨nq, osq⟩, hw''⟩ := hw'
        subst hw''
        go_wp2
        go_ret
        exact ⟨rfl, FIN.out _ _⟩

theorem walk {H : Type} {enc : TypeId × Value → H} {base : Nat} (W : World) (v0 : Value) (d0 : DataW H) (p0 : List MemPlace) (o0 : Value.okWide Try.prog W .any base 25 v0) (h0 : DataW.Trod enc Try.prog W 0 (fun _ => true) true 25 v0 d0 p0) :
    Calls Try.prog 5 #[v0] W fun e W' => e = .returned (.bool true) ∧ Below W.heap.size W W' := by
  obtain ⟨q, c, l, rfl, hl, hq, hm, hlc⟩ := open_bytes o0 h0
  unfold maxLen at hm
  exact walk_at W q c l hl hq (by omega) hlc rempty_any

/-! ### THE ROW's STEP -/
set_option maxRecDepth 100000 in
theorem lifted (os : Os) (started : os.Started) (H : Type) (enc : TypeId × Value → H) :
    ReturnsInHanded {} Try.checked os 5 .any (Rows.octetReadsSpec.pre6 enc Try.prog Try.f5 Rows.octetReadsRow.domain false) (Rows.octetReadsSpec.post enc Try.prog Try.f5 false true false false) := by
  refine returnsInHanded_of_change (C := Try.checked) own started (by kernel_rfl) Try.func5
    (ChangeSpec.witness6 (enc := enc) (C := Try.checked) false ⟨#[], #[.slice none 0 0], []⟩ 8 (by kernel_rfl) (by kernel_rfl) (by kernel_rfl) (by kernel_rfl)) ?_
  intro W base args ds gs before hval0 hW hcnd _
  have hval : ∀ (j : Nat) t v, Try.f5.params[j]? = some t → args[j]? = some v → Value.okWide Try.prog W .any base t v := hval0
  have hW' := hW
  obtain ⟨p, q, hA0, hV, rfl, hfz, hnd⟩ := hW
  have hA : DataW.TrodAll enc Try.prog W 0 (fun _ => true) true Try.f5.params.toList args.toList ds p := hA0
  have hlt : ∀ x ∈ p, x.block < W.heap.size := fun x hx => hW'.lt x (List.mem_append_left _ hx)
  rw [Try.params5] at hA hval
  have hread : ∀ t ∈ [25], Try.prog.readableRec t = true ∧ t < Try.prog.types.size := by
    intro t ht
    simp only [List.mem_cons, List.not_mem_nil, or_false] at ht
    rcases ht with rfl <;> exact ⟨by kernel_rfl, of_decide_eq_true (by kernel_rfl)⟩
  have again : ∀ (W' : World), Below W.heap.size W W' → ∀ sp : Nat → Bool, (∀ x ∈ p, sp x.block = true) → DataW.TrodAll enc Try.prog W' 0 sp true [25] args.toList ds p :=
    fun W' hb sp hsp => all_again (by kernel_rfl) hb [25] args.toList ds p hread hA hlt hsp
  obtain ⟨v0, d0, rfl, rfl, h0⟩ := trodAll_one hA
  obtain ⟨rfl, rfl⟩ := trodVars_none hV
  clear hA0 hval0
  simp only [List.append_nil] at hW'
  refine (walk W v0 d0 _ (hval 0 25 v0 rfl rfl) h0).mono fun e W' ⟨he, hg⟩ => ?_
  subst he
  exact ⟨_, rfl, post_below hW' hg (fun _ _ _ => trodAll_mk1 (shut_bool Try.underlying4 _)) (fun sp hsp => again W' hg sp hsp) (fun _ => rfl) (ok_one (by kernel_rfl) rfl (okWide_bool_mk Try.underlying4 _))⟩

theorem over : Rows.octetReadsRow.holds Try.pinned (OpenSpec.ofChange Rows.octetReadsSpec) :=
  OpenClaim.holds_of_wide 5 Try.f5 rfl rfl rfl rfl rfl rfl rfl ⟨rfl, rfl, rfl, rfl, rfl⟩ rfl rfl rfl rfl rfl (by kernel_rfl) Try.func5 (by kernel_rfl)
    (of_decide_eq_true (by kernel_rfl)) (by unfold Func.isWrapper; first | (rw [if_pos (by decide +kernel)]; kernel_rfl) | (rw [if_neg (by decide +kernel)]; exact ⟨rfl, rfl⟩))
    (fun os started H enc _ => lifted os started H enc)

/-- The statement. -/
theorem proved : Rows.OctetReadsSaid :=
  over
#print axioms proved
end Go.Proofs.Ytlajiochpdlhaaa.octetReads

