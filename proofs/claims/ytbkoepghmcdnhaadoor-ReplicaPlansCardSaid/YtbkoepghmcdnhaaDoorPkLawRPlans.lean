/- Proved here: the law ReplicaPlans of layer 16 holds for every input, wherever the library's tables are as the program's text lays them: of a workload that may be, and a row of at most 60 pods that may be, of unlike names, replica.Plan's names are those of the document; of another object there are none; and the chapter's example. No conditions but those. -/
import Derived.Test.YtbkoepghmcdnhaaDoorPk1
import Derived.Test.YtbkoepghmcdnhaaDoorCards
import Derived.Test.YtbkoepghmcdnhaaDoorTie
import Derived.Test.YtbkoepghmcdnhaaDoorRpL
import Derived.Test.YtbkoepghmcdnhaaDoorPk6
import Derived.Test.YtbkoepghmcdnhaaDoorPk7
import Derived.Test.YtbkoepghmcdnhaaDoorPk8
import Derived.Maps.OwnSet
import Derived.SevenTiedAt
import Derived.BigQuiet
namespace Go.Proofs.YtbkoepghmcdnhaaDoor.replicaPlans
open Go.ChangeShapes Go.WideShapes Go.ChangeAt Go.RowKit Go.Lib Go.Shelf Go.Sort Go.Deep Go.Maps
open Go.WideMaps (keyOf_string_mk)
open Go.Joins (cell_of_block unfrozen_of_block block_setCell)
open Go.Proofs.YtbkoepghmcdnhaaDoor.Ow Go.Proofs.YtbkoepghmcdnhaaDoor.Vi Go.Proofs.YtbkoepghmcdnhaaDoor.Rp
set_option linter.unusedVariables false
set_option linter.unusedSimpArgs false
set_option maxRecDepth 20000

/-! ### a map that says of texts whether they were seen -/
abbrev OTp : TypeId := 44
def rdB (v : Value) : Option (DataW Value × List MemPlace) := some (.held v, [])
theorem zeroB (w : World) : (zeroValue 4).run Tryd.prog w = .ok (.bool false) w := by kernel_rfl
def SeenS (w : World) (B n : Nat) (T : List Nmb) : Prop :=
  ∃ D : DataW Value, w.ownsMap Tryd.prog StT rdB B n D ∧ IsMap D ∧ ∀ y : Nmb, D.atKey (.string y) (.held (.bool false)) = .held (.bool (decide (y ∈ T)))
theorem SeenS.below {w w' : World} {B n : Nat} {T : List Nmb} (h : SeenS w B n T) (hb : Below w.heap.size w w') : SeenS w' B n T := by
  obtain ⟨D, h1, h2, h3⟩ := h
  refine ⟨D, ?_, h2, h3⟩
  exact h1.kept (row := none) ⟨hb.os, hb.tape, hb.output, hb.size, fun i hi _ => hb.block i hi⟩ (by simp)
theorem SeenS.put {w1 : World} {B n : Nat} {T : List Nmb} {D : DataW Value} {x : Nmb} (hD : IsMap D) (hf : ∀ y : Nmb, D.atKey (.string y) (.held (.bool false)) = .held (.bool (decide (y ∈ T))))
    (hw : w1.ownsMap Tryd.prog StT rdB B n (D.put (.string x) (.held (.bool true)))) : SeenS w1 B n (T ++ [x]) := by
  refine ⟨_, hw, hD.put _ _, fun y => ?_⟩
  by_cases h : y = x
  · subst h
    rw [atKey_put_same hD isKeyT]
    simp
  · rw [show (DataW.put D (.string x) (.held (.bool true))).atKey (.string y) (.held (.bool false)) = D.atKey (.string y) (.held (.bool false)) from atKey_put_other (by intro e; injection e with e; exact h e) _ _, hf y]
    congr 3
    simp [h]
/-- 'm[k]' of a map of bools. -/
theorem wpList_seen {w : World} {ops : Array Oper} {rest : List Oper} {o : Oper} {a : Act} {Q : Exit → Act → World → Prop} (hg : Region.wanted o (yielded ops a.tmps) = true) (m x : Operand) (t : TypeId) (hop : o.op = Op.lookup t m x false)
    (ht : Tryd.prog.underlying t = some (.map StT 4)) (B n : Nat) (T : List Nmb) (nm : ByteArray) (b : Bool) (hm : a.eval m = .map (some B)) (hs : SeenS w B n T) (hx : a.eval x = .string nm) (hn : nm.size ≤ maxLen) (hb : b = decide (nm.data.toList ∈ T))
    (hK : wpList Tryd.prog ops Q rest (a.put o.dst (.bool b)) w) : wpList Tryd.prog ops Q (o :: rest) a w := by
  obtain ⟨D, h1, h2, h3⟩ := hs
  obtain ⟨v, ps, hrun, hv⟩ := h1.lookup lawT ht (zeroB w) (zd := .held (.bool false)) (zp := []) rfl (keyOf_string_mk Tryd.underlying9 hn)
  rw [h3 nm.data.toList, ← hb] at hv
  have hv2 : v = .bool b := by
    unfold rdB at hv
    simp only [Option.some.injEq, Prod.mk.injEq, DataW.held.injEq] at hv
    exact hv.1
  subst hv2
  refine wpList_step fun K' hK' => ?_
  rw [if_pos hg]
  unfold Oper.wp
  simp [execOp, hop, hm, hx, hrun, Result.andThen]
  exact hK' _ _ hK
theorem rgt_facts {o : Ob} (h : rgtE o = 0) : nameB o.name = true ∧ (0 ≤ o.kind ∧ o.kind ≤ 4) ∧ lawS o = true := by
  unfold rgtE at h
  by_cases h1 : o.kind < 0 ∨ 4 < o.kind
  · rw [if_pos h1] at h; omega
  · rw [if_neg h1] at h
    cases h2 : nameB o.name with
    | false => rw [h2, if_pos rfl] at h; omega
    | true =>
      rw [h2, if_neg (by decide)] at h
      cases h3 : (empE o && lawS o) with
      | false => rw [h3, if_pos rfl] at h; omega
      | true =>
        rw [Bool.and_eq_true] at h3
        exact ⟨rfl, by omega, h3.2⟩
theorem name_facts {s : ByteArray} (h : nameB s = true) : s.size ≤ 32 ∧ s.data.toList ≠ [] := by
  unfold nameB at h
  rw [Bool.and_eq_true, Bool.and_eq_true, decide_eq_true_eq, decide_eq_true_eq] at h
  refine ⟨h.1.2, fun e => ?_⟩
  have h0 : s.data.size = 0 := by rw [← Array.length_toList, e]; rfl
  have h2 : s.size = s.data.size := rfl
  have h3 := h.1.1
  omega

set_option maxHeartbeats 16000000 in
theorem walk_at (w : World) (X : Array Value) (o : Ob) (q : Option Addr) (c : Nat) (l : List Obv) (hv : ObjV w X o) (F : FitsO o) (hr : RowR 47 encOb w q l) (hok : ∀ x ∈ l, okOb w x) (hlen : l.length ≤ 140737488351232) (hT : Tab w) :
    Calls Tryd.prog 3 #[.agg X, .slice q l.length c] w fun e W' => e = .returned (.bool true) ∧ Below w.heap.size w W' := by
  obtain ⟨B, hB⟩ : ∃ B, B = w.heap.size := ⟨_, rfl⟩
  obtain ⟨w1, hw1⟩ : ∃ W, W = w.alloc (.cells X OTp) := ⟨_, rfl⟩
  have G1 : Gr w w1 := hw1 ▸ (Gr.refl w).alloc _
  have b1 : w1.heap[B]? = some (.cells X OTp (0, 0)) := by rw [hw1, hB]; exact heap_alloc_new w _
  have HBl : Hid (B < w1.heap.size) := (Array.getElem?_eq_some_iff.1 b1).1
  have HW : Hid (w.alloc (.cells X OTp) = w1 ∧ w.heap.size = B) := ⟨hw1.symm, hB.symm⟩
  have HGW := Lib.hid G1.below
  have T1 : Hid (Tab w1) := var_belowT hT G1.below
  have zz : Hid (w.heap.size ≤ w1.heap.size) := G1.below.size
  have HX : Hid (ObjV w1 X o ∧ FitsO o ∧ w1.heap[B]? = some (.cells X OTp (0, 0))) := ⟨hv.below G1.below, F, b1⟩
  obtain ⟨n, hn⟩ : ∃ n, n = l.length := ⟨_, rfl⟩
  rw [← hn] at hlen ⊢
  have HH := Lib.hid (And.intro (hr.below G1.below) (And.intro (fun x hx => ⟨(hok x hx).1.below G1.below, (hok x hx).2⟩ : ∀ x ∈ l, ObjV w1 x.1.1 x.2 ∧ NilO x.1.1 ∧ FitsO x.2 ∧ I64 x.2.kind ∧ FitO x.2) hn))
  have C1 := Lib.hid (rlives w1 T1.out)
  have mixed : Tryd.prog.follows .mixedOrders = true := by kernel_rfl
  clear hv F hr hok hT hB hw1 G1 b1 hn
  go_enter Tryd.func3, Tryd.ntmps3
  go_upto_region 1 with fail
  rw [HW.out.1, HW.out.2]
  go_wp2_with fail
  refine C1.out.mono ?_
  rintro e w2 ⟨rfl, b2⟩
  have B2 := Lib.hid b2
  have C2 := Lib.hid (fun ws (h : Below w2.heap.size w2 ws) => rlives ws (var_belowT (var_belowT T1.out b2) h))
  have FINL : Hid (∀ ws (h : Below w2.heap.size w2 ws) w', Below ws.heap.size ws w' → Below w.heap.size w w') := fun ws h w' h' => HGW.out.trans ((b2.trans ((h.trans (h'.mono h.size)).mono b2.size)).mono zz.out)
  clear b2 C1
  by_cases h60 : 60 < n
  · have t1 : decide ((n : Int) > 60) = true := decide_eq_true (by omega)
    go_wp2_with fail
    refine (C2.out w2 (Below.refl _ _)).mono ?_
    rintro e w3 ⟨rfl, b3⟩
    have FIN := Lib.hid (FINL.out w2 (Below.refl _ _) w3 b3)
    clear b3 C2 FINL B2 HH HX
    go_wp2
    go_ret
    exact ⟨rfl, FIN.out⟩
  have t1 : decide ((n : Int) > 60) = false := decide_eq_false (by omega)
  have hn60 : n ≤ 60 := by omega
  clear h60 hlen
  have LB : Hid (∀ ws, Below w2.heap.size w2 ws → (Instr.loadAt OTp (.pointer (some ⟨B, 0, none⟩))).run Tryd.prog ws = .ok (.agg X) ws) := fun ws h => load_ob ((h.block B (Nat.lt_of_lt_of_le HBl.out B2.out.size)).trans ((B2.out.block B HBl.out).trans HX.out.2.2)) HX.out.1.1
  have CF := Lib.hid (few_any w2 X o (HX.out.1.below B2.out) HX.out.2.1)
  obtain ⟨fb, hfb⟩ : ∃ f, f = fewB o := ⟨_, rfl⟩
  rw [← hfb] at CF
  have LB2 := Lib.hid (LB.out w2 (Below.refl _ _))
  clear hfb
  go_wp2_with (refine wpList_load_by (by kernel_rfl) OTp _ rfl (.pointer (some ⟨B, 0, none⟩)) (.agg X) (by kernel_rfl) LB2.out ?_)
  refine CF.out.mono ?_
  rintro e w3 ⟨rfl, g3⟩
  have B3 := Lib.hid g3.below
  clear g3 CF LB2
  cases fb with
  | false =>
    go_wp2_with fail
    refine (C2.out w3 B3.out).mono ?_
    rintro e w4 ⟨rfl, b4⟩
    have FIN := Lib.hid (FINL.out w3 B3.out w4 b4)
    clear b4 C2 FINL B2 HH HX B3
    go_wp2
    go_ret
    exact ⟨rfl, FIN.out⟩
  | true =>
  have LB3 := Lib.hid (LB.out w3 B3.out)
  have CR := Lib.hid (lawO_any w3 X o (HX.out.1.below (B2.out.trans (B3.out.mono B2.out.size))) HX.out.2.1)
  obtain ⟨re, hre⟩ : ∃ r, r = rgtE o := ⟨_, rfl⟩
  rw [← hre] at CR
  have HRE : Hid (re = rgtE o) := hre
  clear hre
  go_wp2_with (refine wpList_load_by (by kernel_rfl) OTp _ rfl (.pointer (some ⟨B, 0, none⟩)) (.agg X) (by kernel_rfl) LB3.out ?_)
  refine CR.out.mono ?_
  rintro e w4 ⟨rfl, g4⟩
  have B4 : Hid (Below w2.heap.size w2 w4) := B3.out.trans (g4.below.mono B3.out.size)
  clear g4 CR LB3
  by_cases hr0 : re = 0
  case neg =>
    have t2 : (re != 0) = true := by rw [bne_iff_ne]; exact hr0
    clear hr0
    go_wp2_with fail
    refine (C2.out w4 B4.out).mono ?_
    rintro e w5 ⟨rfl, b5⟩
    have FIN := Lib.hid (FINL.out w4 B4.out w5 b5)
    clear b5 C2 FINL B2 HH HX B3 B4
    go_wp2
    go_ret
    exact ⟨rfl, FIN.out⟩
  subst hr0
  have HR0 : Hid (rgtE o = 0) := HRE.out.symm
  clear HRE C2
  obtain ⟨MB, hMB⟩ : ∃ M, M = w4.heap.size := ⟨_, rfl⟩
  obtain ⟨w5, hw5⟩ : ∃ W, W = w4.alloc (.map #[] 0) := ⟨_, rfl⟩
  have b45 : Below w4.heap.size w4 w5 := by rw [hw5]; exact ((Gr.refl w4).alloc _).below
  have S0 : Hid (SeenS w5 MB 0 []) := by
    rw [hw5, hMB]
    exact ⟨.map [], World.ownsMap_made _ _ _ _, isMap_empty, fun y => rfl⟩
  have HW5 : Hid (w4.alloc (.map #[] 0) = w5 ∧ w4.heap.size = MB) := ⟨hw5.symm, hMB.symm⟩
  have H45 := Lib.hid b45
  have B4' := Lib.hid B4.out
  have L4 : Hid (Below w1.heap.size w1 w4) := B2.out.trans (B4.out.mono B2.out.size)
  have hmm := @run_makeMap Tryd.prog
  have RET : Hid (∀ ws, Below w4.heap.size w4 ws → Below w.heap.size w ws) := fun ws h => HGW.out.trans ((L4.out.trans (h.mono L4.out.size)).mono zz.out)
  have HMB : Hid (w4.heap.size ≤ MB) := by rw [hMB]; exact Nat.le_refl _
  clear hMB hw5 b45 B3 B4 FINL
  go_wp2_with fail
  rw [HW5.out.1, HW5.out.2]
  go_loopg [33] n (fun g vi wr => ∃ j : Nat, vi = .int .i64 (j : Int) ∧ j ≤ n ∧ n - j ≤ g ∧ Hid (SeenS wr MB j ((l.take j).map (·.2.name.data.toList)) ∧ (∀ x ∈ l.take j, rgtE x.2 = 0 ∧ x.2.kind = 1) ∧ ((l.take j).map (·.2.name.data.toList)).Pairwise (· ≠ ·)) ∧ Hid (Below w4.heap.size w4 wr))
  case atStart => exact ⟨0, rfl, Nat.zero_le _, by omega, ⟨S0.out, by simp, by simp⟩, H45.out⟩
  case round =>
    obtain ⟨j, rfl, h1, h2, HP, HB⟩ := hrel
    by_cases hlt : j < n
    · obtain ⟨hr, hok, hn⟩ := HH.out
      obtain ⟨x, hx⟩ : ∃ x, l[j]? = some x := ⟨l[j]'(by omega), List.getElem?_eq_getElem (by omega)⟩
      obtain ⟨b, off, rfl, _, _⟩ := hr j x hx
      obtain ⟨hbl, hra⟩ := rangeAt_obs hr hx
      have lowr : Below w1.heap.size w1 wr := L4.out.trans (HB.out.mono L4.out.size)
      have LD := Lib.hid (Ow.load_at (x := x) (rangeAt_below hra lowr hbl))
      obtain ⟨okv, okn, okf, oki, okh⟩ := hok x (List.mem_of_getElem? hx)
      obtain ⟨X', hX⟩ : ∃ X, X = x.1.1 := ⟨_, rfl⟩
      obtain ⟨y, hy⟩ : ∃ y, y = x.2 := ⟨_, rfl⟩
      rw [← hX] at LD okv
      rw [← hy] at okv okf
      have ON := Lib.hid (objV_one okv)
      obtain ⟨th, inn, el⟩ := el_new wr X' okv.1
      have TH := Lib.hid th
      have IN := Lib.hid inn
      obtain ⟨w6, hw6⟩ : ∃ W', W' = (wr.alloc (.cells zerC OTp)).setCells wr.heap.size 0 X'.toList := ⟨_, rfl⟩
      obtain ⟨O, hO⟩ : ∃ A, A = wr.heap.size := ⟨_, rfl⟩
      have HW3 : Hid ((wr.alloc (.cells zerC OTp)).setCells wr.heap.size 0 X'.toList = w6 ∧ wr.heap.size = O) := ⟨hw6.symm, hO.symm⟩
      have el2 : ElAt w6 wr O X' := by rw [hw6, hO]; exact el
      have lo6 : Below w4.heap.size w4 w6 := HB.out.trans (el2.low.mono HB.out.size)
      have hOl : O < w6.heap.size := (Array.getElem?_eq_some_iff.1 el2.blk).1
      have BLK : Hid (∀ ws, Below w6.heap.size w6 ws → ws.heap[O]? = some (.cells X' OTp (0, 0))) := fun ws h => (h.block O hOl).trans el2.blk
      have OKV : Hid (∀ ws, Below w6.heap.size w6 ws → ObjV ws X' y) := fun ws h => okv.below (L4.out.trans ((lo6.trans (h.mono lo6.size)).mono L4.out.size))
      have LL : Hid (∀ ws, Below w6.heap.size w6 ws → (Instr.loadAt OTp (.pointer (some ⟨O, 0, none⟩))).run Tryd.prog ws = .ok (.agg X') ws) := fun ws h => load_ob (BLK.out ws h) okv.1
      have CF := Lib.hid (few_any w6 X' y (OKV.out w6 (Below.refl _ _)) okf)
      obtain ⟨fb, hfb⟩ : ∃ f, f = fewB y := ⟨_, rfl⟩
      rw [← hfb] at CF
      have HY := Lib.hid (And.intro hx (And.intro hy okf))
      have LO6 := Lib.hid lo6
      have SN6 : Hid (SeenS w6 MB j ((l.take j).map (·.2.name.data.toList))) := HP.out.1.below el2.low
      have RT6 : Hid (∀ ws, Below w6.heap.size w6 ws → Below w.heap.size w ws) := fun ws h => RET.out ws (lo6.trans (h.mono lo6.size))
      have LL6 := Lib.hid (LL.out w6 (Below.refl _ _))
      clear hr hok hn hx hbl hra lowr okv okn okf oki okh hX th inn el hw6 hO el2 lo6 hOl hfb hy HB
      go_upto_region 7 with (first | (refine wpList_load_by (by kernel_rfl) OTp _ rfl (.pointer (some ⟨b, off + j * 47, none⟩)) (.agg X') (by first | rfl | (simp; done)) LD.out ?_) | (refine wpList_store_mid rfl _ _ _ rfl wr.heap.size 0 X' (by rfl) (by rfl) TH.out IN.out ON.out ?_; rw [HW3.out.1, HW3.out.2]))
      clear TH IN ON HW3 LD
      go_wp2_with (refine wpList_load_by (by kernel_rfl) OTp _ rfl (.pointer (some ⟨O, 0, none⟩)) (.agg X') (by kernel_rfl) LL6.out ?_)
      refine CF.out.mono ?_
      rintro e w7 ⟨rfl, g7⟩
      have B7 := Lib.hid g7.below
      clear g7 CF LL6
      cases fb with
      | false =>
        have FIN := Lib.hid (RT6.out w7 B7.out)
        clear RT6 RET HP HH HX OKV LL BLK HY SN6 LO6 B7
        go_wp2
        go_ret
        exact ⟨rfl, FIN.out⟩
      | true =>
        obtain ⟨kd, hkd⟩ : ∃ k, k = y.kind := ⟨_, rfl⟩
        have d0 : w7.cell? ⟨O, 0, none⟩ = some (.int .i64 kd) := by rw [hkd]; exact (cell_of_block (BLK.out w7 B7.out) 0).trans (OKV.out w7 B7.out).2.1.1
        have HKD := Lib.hid hkd
        clear hkd
        by_cases hk1 : kd = 1
        case neg =>
          have t3 : (kd != 1) = true := by rw [bne_iff_ne]; exact hk1
          have FIN := Lib.hid (RT6.out w7 B7.out)
          clear RT6 RET HP HH HX OKV LL BLK HY SN6 LO6 B7 hk1
          go_wp2
          go_ret
          exact ⟨rfl, FIN.out⟩
        subst hk1
        have LL7 := Lib.hid (LL.out w7 B7.out)
        have CR := Lib.hid (lawO_any w7 X' y (OKV.out w7 B7.out) HY.out.2.2)
        obtain ⟨re, hre⟩ : ∃ r, r = rgtE y := ⟨_, rfl⟩
        rw [← hre] at CR
        have HRE : Hid (re = rgtE y) := hre
        clear hre
        go_wp2_with (refine wpList_load_by (by kernel_rfl) OTp _ rfl (.pointer (some ⟨O, 0, none⟩)) (.agg X') (by kernel_rfl) LL7.out ?_)
        refine CR.out.mono ?_
        rintro e w8 ⟨rfl, g8⟩
        have B8 : Hid (Below w6.heap.size w6 w8) := B7.out.trans (g8.below.mono B7.out.size)
        clear g8 CR LL7 d0
        by_cases hr0 : re = 0
        case neg =>
          have t3 : (re != 0) = true := by rw [bne_iff_ne]; exact hr0
          have FIN := Lib.hid (RT6.out w8 B8.out)
          clear RT6 RET HP HH HX OKV LL BLK HY SN6 LO6 B7 B8 hr0
          go_wp2
          go_ret
          exact ⟨rfl, FIN.out⟩
        subst hr0
        obtain ⟨nm, hnm⟩ : ∃ a, a = y.name := ⟨_, rfl⟩
        have d1 : w8.cell? ⟨O, 1, none⟩ = some (.string nm) := by rw [hnm]; exact (cell_of_block (BLK.out w8 B8.out) 1).trans (OKV.out w8 B8.out).2.1.2.1
        obtain ⟨sb, hsb⟩ : ∃ sb, sb = decide (nm.data.toList ∈ (l.take j).map (·.2.name.data.toList)) := ⟨_, rfl⟩
        have SN8 := Lib.hid (SN6.out.below B8.out)
        have NSZ : Hid (nm.size ≤ maxLen) := by
          have h := (name_facts (rgt_facts HRE.out.symm).1).1
          show _ ≤ _
          rw [hnm]
          unfold maxLen
          omega
        have HNM := Lib.hid hnm
        have HSB := Lib.hid hsb
        clear hnm hsb
        cases sb with
        | true =>
          have FIN := Lib.hid (RT6.out w8 B8.out)
          clear RT6 RET HP HH HX OKV LL BLK HY SN6 LO6 B7 B8
          go_wp2_with (at_lookup; refine wpList_seen (by kernel_rfl) _ _ 50 rfl Tryd.underlying50 MB j ((l.take j).map (·.2.name.data.toList)) nm true rfl SN8.out rfl NSZ.out HSB.out ?_)
          go_ret
          exact ⟨rfl, FIN.out⟩
        | false =>
          obtain ⟨D, hown, hD, hf⟩ := SN8.out
          have HD := Lib.hid (And.intro hD hf)
          have HKY : Hid (keyOf Tryd.prog StT (.string nm) = some (.string nm.data.toList)) := keyOf_string_mk Tryd.underlying9 NSZ.out
          have FIN : Hid (∀ w9, w9.ownsMap Tryd.prog StT rdB MB (j + 1) (D.put (.string nm.data.toList) (.held (.bool true))) → w8.grownBy w9 (some MB) → (SeenS w9 MB (j + 1) ((l.take (j + 1)).map (·.2.name.data.toList)) ∧ (∀ x ∈ l.take (j + 1), rgtE x.2 = 0 ∧ x.2.kind = 1) ∧ ((l.take (j + 1)).map (·.2.name.data.toList)).Pairwise (· ≠ ·)) ∧ Below w4.heap.size w4 w9) := fun w9 h9 g9 => by
            obtain ⟨hx, hy, _⟩ := HY.out
            have et : l.take (j + 1) = l.take j ++ [x] := by rw [List.take_add_one, hx]; rfl
            have en : x.2.name.data.toList = nm.data.toList := by rw [HNM.out, hy]
            have hnot : nm.data.toList ∉ (l.take j).map (·.2.name.data.toList) := of_decide_eq_false HSB.out.symm
            refine ⟨⟨?_, ?_, ?_⟩, ?_⟩
            · rw [et, List.map_append]
              show SeenS _ _ _ (_ ++ [x.2.name.data.toList])
              rw [en]
              exact SeenS.put HD.out.1 HD.out.2 h9
            · intro z hz
              rw [et, List.mem_append, List.mem_singleton] at hz
              rcases hz with hz | rfl
              · exact HP.out.2.1 z hz
              · rw [← hy]; exact ⟨HRE.out.symm, HKD.out.symm⟩
            · rw [et, List.map_append, List.pairwise_append]
              refine ⟨HP.out.2.2, List.pairwise_singleton _ _, fun a ha b hb => ?_⟩
              simp at hb
              subst hb
              rw [en]
              rintro rfl
              exact hnot ha
            · have l8 := LO6.out.trans (B8.out.mono LO6.out.size)
              exact l8.grown g9 l8.size (fun k e => by have := HMB.out; have := Option.some.inj e; omega)
          clear hD hf
          go_wp2_with (first
            | (at_lookup; refine wpList_seen (by kernel_rfl) _ _ 50 rfl Tryd.underlying50 MB j ((l.take j).map (·.2.name.data.toList)) nm false rfl SN8.out rfl NSZ.out HSB.out ?_)
            | (at_mapUpdate; refine wpList_mapUpdate_own _ rfl _ _ _ 50 rfl StT 4 lawT Tryd.underlying50 rdB MB j D rfl hown (by unfold maxLen; omega) _ _ _ rfl rfl HKY.out (.held (.bool true)) [] rfl ?_; intro w9 hown1 hgrow1))
          obtain ⟨F1, F2⟩ := FIN.out w9 hown1 hgrow1
          have F1 := Lib.hid F1
          have F2 := Lib.hid F2
          clear hown1 hgrow1 FIN HD HKY RT6 OKV LL BLK HY SN6 SN8 LO6 B7 B8 d1 hown HP NSZ HNM HSB HRE HKD
          go_roundg (n - (j + 1))
          case measure => omega
          case rel => exact ⟨j + 1, by push_cast; rfl, by omega, by omega, F1, F2⟩
    · obtain rfl : j = n := by omega
      have et : l.take j = l := List.take_of_length_le (by have := HH.out.2.2; omega)
      obtain ⟨hsn, hall, hpw⟩ := HP.out
      rw [et] at hall hpw
      have LBR := Lib.hid (LB.out wr (B4'.out.trans (HB.out.mono B4'.out.size)))
      have LW : Hid (Below w1.heap.size w1 wr) := L4.out.trans (HB.out.mono L4.out.size)
      have TR : Hid (Tab wr) := var_belowT T1.out LW.out
      have OX : Hid (ObjV wr X o) := HX.out.1.below LW.out
      have RR : Hid (RowR 47 encOb wr q l) := HH.out.1.below LW.out
      have OK : Hid (∀ x ∈ l, ObjV wr x.1.1 x.2 ∧ NilO x.1.1 ∧ FitO x.2 ∧ x.2.name.size ≤ maxLen) := fun x hx => by
        obtain ⟨h1, h2, h3, h4, h5⟩ := HH.out.2.1 x hx
        refine ⟨h1.below LW.out, h2, h5, ?_⟩
        have := (name_facts (rgt_facts (hall x hx).1).1).1
        unfold maxLen
        omega
      have FN : Hid (Fine (l.map (·.2))) := by
        refine ⟨fun x hx => ?_, fun x hx => ?_, fun x hx => ?_, fun x hx => ?_, ?_⟩
        · obtain ⟨y, hy, rfl⟩ := List.mem_map.1 hx
          unfold isPod
          exact decide_eq_true (hall y hy).2
        · obtain ⟨y, hy, rfl⟩ := List.mem_map.1 hx
          have h := (rgt_facts (hall y hy).1).2.2
          unfold lawS at h
          rw [(hall y hy).2, if_neg (by decide), if_pos rfl] at h
          unfold l_p at h
          simp only [Bool.and_eq_true, decide_eq_true_eq] at h
          exact ⟨h.1.1.1.1.1.2, h.1.1.1.1.2⟩
        · obtain ⟨y, hy, rfl⟩ := List.mem_map.1 hx
          exact (name_facts (rgt_facts (hall y hy).1).1).2
        · obtain ⟨y, hy, rfl⟩ := List.mem_map.1 hx
          have := (name_facts (rgt_facts (hall y hy).1).1).1
          unfold maxLen
          omega
        · unfold UnlikeN
          rw [List.pairwise_map] at hpw ⊢
          exact hpw.imp (fun h e => h (by rw [e]))
      have HJ : Hid (j = l.length) := HH.out.2.2
      have RT := Lib.hid (RET.out wr HB.out)
      clear et hsn hall hpw HP HB
      obtain ⟨kd, hkd⟩ : ∃ k, k = o.kind := ⟨_, rfl⟩
      by_cases hk0 : kd = 0
      case neg =>
        have CP := Lib.hid (plan_other wr X o (.slice q j c) OX.out (by rw [← hkd]; exact hk0))
        have HKD := Lib.hid hkd
        clear hkd
        go_wp2_with (refine wpList_load_by (by kernel_rfl) OTp _ rfl (.pointer (some ⟨B, 0, none⟩)) (.agg X) (by kernel_rfl) LBR.out ?_)
        refine CP.out.mono ?_
        rintro e w6 ⟨rfl, b6⟩
        have hBr : B < wr.heap.size := Nat.lt_of_lt_of_le HBl.out LW.out.size
        have d0 : w6.cell? ⟨B, 0, none⟩ = some (.int .i64 kd) := by
          rw [HKD.out]
          refine (b6.cell (p := ⟨B, 0, none⟩) hBr).trans ?_
          refine (LW.out.cell (p := ⟨B, 0, none⟩) HBl.out).trans ?_
          exact (cell_of_block HX.out.2.2 0).trans HX.out.1.2.1.1
        have t4 : (kd != 0) = true := by rw [bne_iff_ne]; exact hk0
        have FIN : Hid (Below w.heap.size w w6) := RT.out.trans (b6.mono RT.out.size)
        clear b6 CP HKD hBr hk0 LBR LW TR OX RR OK FN RT RET
        go_wp2
        go_ret
        exact ⟨by first | rfl | (simp; done), FIN.out⟩
      case pos =>
        subst hk0
        have HKD := Lib.hid hkd
        obtain ⟨N, hN, hN1⟩ : ∃ N : Nat, o.w.rep = (N : Int) ∧ N ≤ 1000000 := by
          have h := (rgt_facts HR0.out).2.2
          unfold lawS at h
          rw [← hkd, if_pos rfl] at h
          unfold l_w at h
          simp only [Bool.and_eq_true, decide_eq_true_eq] at h
          exact ⟨o.w.rep.toNat, by omega, by omega⟩
        have hsz : o.name.size ≤ maxLen := by
          have := (name_facts (rgt_facts HR0.out).1).1
          unfold maxLen
          omega
        have CP := Lib.hid (plan_any wr X o N q j c l OX.out hkd.symm hN (by omega) hsz HJ.out RR.out OK.out (by omega) TR.out)
        have HN := Lib.hid (And.intro hN (And.intro hN1 hsz))
        clear hkd hN hN1 hsz
        go_wp2_with (refine wpList_load_by (by kernel_rfl) OTp _ rfl (.pointer (some ⟨B, 0, none⟩)) (.agg X) (by kernel_rfl) LBR.out ?_)
        refine CP.out.mono ?_
        rintro e w6 ⟨⟨v8, v9, rfl, hpl⟩, b6⟩
        obtain ⟨p, t, st, sm, hpm, o8, o9⟩ := hpl.out
        have hBr : B < wr.heap.size := Nat.lt_of_lt_of_le HBl.out LW.out.size
        have d0 : w6.cell? ⟨B, 0, none⟩ = some (.int .i64 0) := by
          refine (b6.cell (p := ⟨B, 0, none⟩) hBr).trans ?_
          refine (LW.out.cell (p := ⟨B, 0, none⟩) HBl.out).trans ?_
          rw [HKD.out]
          exact (cell_of_block HX.out.2.2 0).trans HX.out.1.2.1.1
        obtain ⟨so, hso⟩ : ∃ so, so = t.map (·.1.2) := ⟨_, rfl⟩
        have hperm : ((l.map (·.2)).filter (isLive o.name)).Perm so := by
          rw [← hpm, hso]
          exact sm.1.map _
        have hstr : so.Pairwise ltO := by
          rw [hso]
          refine sorted_strict st ?_
          rw [← hso]
          exact unlike_perm (unlike_filter FN.out.un _) hperm
        have LB6 : Hid ((Instr.loadAt OTp (.pointer (some ⟨B, 0, none⟩))).run Tryd.prog w6 = .ok (.agg X) w6) := load_ob ((b6.block B hBr).trans ((LW.out.block B HBl.out).trans HX.out.2.2)) HX.out.1.1
        have CL' : Hid (so.length ≤ 60) := by
          have h1 := hperm.length_eq
          have h2 := List.length_filter_le (isLive o.name) (l.map (·.2))
          rw [List.length_map] at h2
          have := HJ.out
          show _ ≤ _
          omega
        have CL := Lib.hid (lplan_any w6 X o N q j c l so (OX.out.below b6) HN.out.1 (by have := HN.out.2.1; omega) HN.out.2.2 HJ.out (RR.out.below b6) (fun x hx => (OK.out x hx).1.below b6) FN.out hn60 (var_belowT TR.out b6) hstr hperm)
        have H6 := Lib.hid (And.intro o8 (And.intro o9 (And.intro b6 hso)))
        clear hpl st sm hpm o8 o9 b6 hso hperm hstr hBr CP LBR
        go_wp2_with (refine wpList_load_by (by kernel_rfl) OTp _ rfl (.pointer (some ⟨B, 0, none⟩)) (.agg X) (by kernel_rfl) LB6.out ?_)
        refine CL.out.mono ?_
        rintro e w7 ⟨⟨v10, v11, rfl, hpl⟩, b7⟩
        obtain ⟨o10, o11⟩ := hpl.out
        obtain ⟨o8, o9, b6, hso⟩ := H6.out
        have o8 := o8.below b7
        have o9 := o9.below b7
        have hsl : so.length = t.length := by rw [hso, List.length_map]
        have e9 : (so.take (min (so.length - N) 16)).map (·.name) = (t.take (min (t.length - N) 16)).map (·.1.2.name) := by rw [hsl, hso, ← List.map_take, List.map_map]; rfl
        rw [hsl] at o10
        rw [e9] at o11
        obtain ⟨A, hA⟩ : ∃ A, A = frees o.name (takenOf o.name (l.map (·.2))) (min (N - t.length) 16) := ⟨_, rfl⟩
        obtain ⟨R, hR⟩ : ∃ R, R = sortS (((l.map (·.2)).filter (isFailed o.name)).map (·.name)) ++ (t.take (min (t.length - N) 16)).map (·.1.2.name) := ⟨_, rfl⟩
        rw [← hA] at o8 o10
        rw [← hR] at o9 o11
        have hAl : A.length ≤ 1000000 := by
          rw [hA]
          unfold frees
          split
          · rw [List.length_map, List.length_take]; omega
          · simp
        have hRl : R.length ≤ 1000000 := by
          have h1 : t.length ≤ 60 := by
            have := H6.out.2.2.2
            have h2 := congrArg List.length this
            rw [List.length_map] at h2
            have h3 := CL'.out
            omega
          rw [hR, List.length_append, sortS_len, List.length_map, List.length_map, List.length_take]
          have h4 := List.length_filter_le (isFailed o.name) (l.map (·.2))
          rw [List.length_map] at h4
          have := HJ.out
          omega
        obtain ⟨q8, c8, rfl, _, s8⟩ := o8.slc
        obtain ⟨q9, c9, rfl, _, s9⟩ := o9.slc
        obtain ⟨q10, c10, rfl, _, s10⟩ := o10.slc
        obtain ⟨q11, c11, rfl, _, s11⟩ := o11.slc
        have BF : Hid (∀ ws, Below w7.heap.size w7 ws → Below w.heap.size w ws) := fun ws h => RT.out.trans ((b6.trans ((b7.trans (h.mono b7.size)).mono b6.size)).mono RT.out.size)
        have CS := Lib.hid (names_same w7 q8 q10 A.length A.length c8 c10 A A true rfl rfl (by simp) s8 s10 hAl hAl)
        have CT := Lib.hid (fun ws (h : Below w7.heap.size w7 ws) => names_same ws q9 q11 R.length R.length c9 c11 R R true rfl rfl (by simp) (s9.below h) (s11.below h) hRl hRl)
        obtain ⟨na, hna⟩ : ∃ n, n = A.length := ⟨_, rfl⟩
        obtain ⟨nr, hnr⟩ : ∃ n, n = R.length := ⟨_, rfl⟩
        rw [← hna, ← hnr]
        rw [← hna] at CS
        rw [← hnr] at CT
        clear hpl o8 o9 o10 o11 b6 hso hsl e9 hA hR hAl hRl s8 s9 s10 s11 hna hnr b7 H6 CL LB6 d0
        go_wp2_with fail
        refine CS.out.mono ?_
        rintro e w8 ⟨rfl, b8⟩
        have B8 := Lib.hid b8
        clear b8 CS
        go_wp2_with fail
        refine (CT.out w8 B8.out).mono ?_
        rintro e w9 ⟨rfl, b9⟩
        have FIN := Lib.hid (BF.out w9 (B8.out.trans (b9.mono B8.out.size)))
        clear b9 CT BF B8 LW TR OX RR OK FN RT RET
        go_wp2
        go_ret
        exact ⟨rfl, FIN.out⟩

theorem walk {H : Type} {enc : TypeId × Value → H} {base : Nat} (W : World) (hL : Tab W) (v0 : Value) (d0 : DataW H) (p0 : List MemPlace) (o0 : Value.okWide Tryd.prog W .any base 44 v0) (h0 : DataW.Trod enc Tryd.prog W 0 (fun _ => true) true 44 v0 d0 p0)
    (v1 : Value) (d1 : DataW H) (p1 : List MemPlace) (o1 : Value.okWide Tryd.prog W .any base 45 v1) (h1 : DataW.Trod enc Tryd.prog W 0 (fun _ => true) true 45 v1 d1 p1) (wt0 : Wt 44 d0) (wt1 : Wt 45 d1) :
    Calls Tryd.prog 3 #[v0, v1] W fun e W' => e = .returned (.bool true) ∧ Below W.heap.size W W' := by
  obtain ⟨cs, o, rfl, hv, F⟩ := open_ob o0 h0 wt0
  obtain ⟨q, c, l, rfl, hr, hok, hlen⟩ := open_objs o1 h1 wt1
  exact walk_at W cs o q c l hv F hr hok hlen hL

/-! ### THE ROW's STEP -/
set_option maxRecDepth 100000 in
theorem lifted (os : Os) (started : os.Started) (H : Type) (enc : TypeId × Value → H) :
    ReturnsInHanded {} Tryd.checked os 3 .any (fun w args => (Rows.replicaPlansSpec.pre enc Tryd.prog Tryd.f3 [] false w args ∧ laidMetH Tryd.prog lst w) ∧ sizedMet enc Tryd.prog Tryd.f3 (OpenSpec.ofChange Rows.replicaPlansSpec) false w args) (Rows.replicaPlansSpec.post enc Tryd.prog Tryd.f3 false true false false) := by
  refine returnsInHanded_of_change_and (C := Tryd.checked) (X := fun w _ => laidMetH Tryd.prog lst w) (fun _ _ _ hh h => h.of_heap hh) own started (by kernel_rfl) Tryd.func3
    (ChangeSpec.witness_shaped (enc := enc) (C := Tryd.checked) (os := os) (X := fun w _ => laidMetH Tryd.prog lst w) false (World.doorLaid Tryd.prog 2000 os) #[.agg zerC, .slice none 0 0] 8 rfl (World.shaped_of_RefB (by kernel_rfl) (by kernel_rfl)) (by kernel_rfl) (by kernel_rfl) (by kernel_rfl) (door_met os _)) ?_
  intro W base args ds gs before hval0 hW hcnd hsz0 hL _
  have hval : ∀ (j : Nat) t v, Tryd.f3.params[j]? = some t → args[j]? = some v → Value.okWide Tryd.prog W .any base t v := hval0
  have hW' := hW
  obtain ⟨p, q, hA0, hV, rfl, hfz, hnd⟩ := hW
  have hA : DataW.TrodAll enc Tryd.prog W 0 (fun _ => true) true Tryd.f3.params.toList args.toList ds p := hA0
  have hlt : ∀ x ∈ p, x.block < W.heap.size := fun x hx => hW'.lt x (List.mem_append_left _ hx)
  rw [Tryd.params3] at hA hval
  have hread : ∀ t ∈ [44, 45], Tryd.prog.readableRec t = true ∧ t < Tryd.prog.types.size := by
    intro t ht
    simp only [List.mem_cons, List.not_mem_nil, or_false] at ht
    rcases ht with rfl | rfl <;> exact ⟨by kernel_rfl, of_decide_eq_true (by kernel_rfl)⟩
  have again : ∀ (W' : World), Below W.heap.size W W' → ∀ sp : Nat → Bool, (∀ x ∈ p, sp x.block = true) → DataW.TrodAll enc Tryd.prog W' 0 sp true [44, 45] args.toList ds p :=
    fun W' hb sp hsp => all_again (by kernel_rfl) hb [44, 45] args.toList ds p hread hA hlt hsp
  obtain ⟨v0, v1, d0, d1, p0, p1, rfl, rfl, rfl, h0, h1⟩ := trodAll_two hA
  obtain ⟨rfl, rfl⟩ := trodVars_none hV
  have wt0 : Wt 44 d0 := fun n hn => by
    have := List.all_eq_true.1 hsz0 n (DataW.weights_mem_each (j := 0) (t := 44) (d := d0) (by kernel_rfl) rfl n hn)
    simpa using this
  have wt1 : Wt 45 d1 := fun n hn => by
    have := List.all_eq_true.1 hsz0 n (DataW.weights_mem_each (j := 1) (t := 45) (d := d1) (by kernel_rfl) rfl n hn)
    simpa using this
  clear hA0 hval0
  simp only [List.append_nil] at hW' again
  refine (walk W (of_laid hL) v0 d0 p0 (hval 0 44 v0 rfl rfl) h0 v1 d1 p1 (hval 1 45 v1 rfl rfl) h1 wt0 wt1).mono fun e W' ⟨he, hg⟩ => ?_
  subst he
  exact ⟨_, rfl, post_below hW' hg (fun _ _ _ => trodAll_mk1 (shut_bool Tryd.underlying4 _)) (fun sp hsp => again W' hg sp hsp) (fun _ => rfl) (ok_one (by kernel_rfl) rfl (okWide_bool_mk Tryd.underlying4 _))⟩

theorem over : Rows.ReplicaPlansSaid :=
  OpenClaim.holds_of_wide 3 Tryd.f3 rfl rfl rfl rfl rfl rfl rfl ⟨rfl, rfl, rfl, rfl, rfl⟩ rfl rfl rfl rfl rfl (by kernel_rfl) Tryd.func3 (by kernel_rfl)
    (of_decide_eq_true (by kernel_rfl)) (by unfold Func.isWrapper; first | (rw [if_pos (by decide +kernel)]; kernel_rfl) | (rw [if_neg (by decide +kernel)]; exact ⟨rfl, rfl⟩))
    (fun os started H enc _ => lifted os started H enc)

/-- The statement: the row, with what it lists tied to the program's text. -/
theorem proved : Rows.ReplicaPlansCardSaid :=
  Claim7.holds_tied_plain_at .later [] _ true _ false
    over (fun _ h => by cases h) (by kernel_rfl) (fun _ h => by cases h) replicaPlans_row_tie rfl ⟨rfl, rfl⟩ (by kernel_rfl) rfl
    (fun f fn hf hfn => by
      obtain rfl : f = 3 := Option.some.inj ((show Tryd.prog.funcNamed Rows.replicaPlansRow.func = some 3 by kernel_rfl).symm.trans hf) |>.symm
      obtain rfl : fn = Tryd.f3 := (Option.some.inj (Tryd.func3.symm.trans hfn)).symm
      exact ⟨by kernel_rfl, fun j t ht => by
        rw [Tryd.params3] at ht
        have hm : t ∈ [44, 45] := by simpa using Array.mem_of_getElem? ht
        have hall : ([44, 45].all fun u => !Tryd.prog.wantsStandIn u) = true := by kernel_rfl
        exact (show Tryd.prog.wantsStandIn t = false by simpa using List.all_eq_true.1 hall t hm)⟩)
    (by kernel_rfl)
#print axioms proved
end Go.Proofs.YtbkoepghmcdnhaaDoor.replicaPlans
