/- Layer 16 (replica): an owner's names of the least numbers that no pod of a row has (replica.free). -/
import Derived.Test.YtbkoepghmcdnhaaGreatDoorPk1
import Derived.Test.YtbkoepghmcdnhaaGreatDoorViB
import Derived.Maps.OwnOps
import Derived.Maps.OwnSet
import Derived.Maps.Views
import Derived.StringKeys
import Derived.Test.YtbkoepghmcdnhaaGreatDoorVaF
import Derived.Test.YtbkoepghmcdnhaaGreatDoorObX
import Derived.Deep.Light
import Derived.Test.YtbkoepghmcdnhaaGreatDoorVaG
import Derived.Test.YtbkoepghmcdnhaaGreatDoorObE
import Derived.BigRegion
import Derived.Deep.DeepCutAuto
import Derived.Deep.CutRange
import Derived.IntWalk
import Derived.Test.YtbkoepghmcdnhaaGreatDoorVaU
import Derived.Test.YtbkoepghmcdnhaaGreatDoorVaDp
import Derived.Test.YtbkoepghmcdnhaaGreatDoorLoads
import Derived.Laws.Tables
import Derived.BigQuiet
import Derived.Deep.QuietTactic
import Derived.Laws.StructEq
import Derived.Below
import Derived.Carry
import Derived.ChangeSame
namespace Go.Proofs.YtbkoepghmcdnhaaGreatDoor.Rp
open Go.RowKit Go.Shelf Go.Lib Go.Sort Go.Deep Go.Maps
open Go.WideMaps (keyOf_string_mk)
open Go.Joins (cell_of_block unfrozen_of_block block_setCell)
open Go.Proofs.YtbkoepghmcdnhaaGreatDoor.Ow Go.Proofs.YtbkoepghmcdnhaaGreatDoor.Vi
set_option linter.unusedVariables false
set_option linter.unusedSimpArgs false
set_option maxRecDepth 20000

theorem var_belowT {w w' : World} {n : String} {cs : Array Value} (h : w.var? Tryz.prog n = some cs) (hb : Below w.heap.size w w') : w'.var? Tryz.prog n = some cs := by
  unfold World.var? at h ⊢
  cases hg : Tryz.prog.globalNamed n with
  | none => simp [hg] at h
  | some g =>
    simp only [hg, Option.bind_some] at h ⊢
    have hlt : g < w.heap.size := by
      rcases Nat.lt_or_ge g w.heap.size with h' | h'
      · exact h'
      · simp [Array.getElem?_eq_none h'] at h
    rw [hb.block g hlt]
    exact h
theorem Tab.below {w w' : World} (h : Tab w) (hb : Below w.heap.size w w') : Tab w' := var_belowT h hb

/-- Does a pod hold its number, so far as this owner's go? (All but the owner's failed ones.) -/
def takes (s : ByteArray) (o : Ob) : Bool := isPod o && !(isFailed s o)
def fr (s : ByteArray) (T : List Nmb) (n : Nat) : Bool := decide ((pname s n).data.toList ∉ T)
/-- The least names that are free, so many at most. -/
def frees (s : ByteArray) (T : List Nmb) (k : Nat) : List ByteArray := if okNm s = true then (((List.range 10000).filter (fr s T)).take k).map (pname s) else []

/-! ### a map that counts texts -/
theorem lawT : Keyed Tryz.prog StT := string_keyed Tryz.underlying9
theorem zeroI (w : World) : (zeroValue 3).run Tryz.prog w = .ok (.int .i64 0) w := by kernel_rfl
theorem litT_inj {a b : Int} (h : (DataW.lit (.int .i64 a) : DataW Unit) = .lit (.int .i64 b)) : b = a := by cases h; rfl
theorem isKeyT {x : Nmb} : WideAt.IsKeyLit (.string x) := by simp [WideAt.IsKeyLit]
def CntS (w : World) (B n : Nat) (T : List Nmb) : Prop :=
  ∃ D : DataW Unit, w.ownsMap Tryz.prog StT (plainElem Tryz.prog 3) B n D ∧ IsMap D ∧ ∀ y : Nmb, D.atKey (.string y) (.lit (.int .i64 0)) = .lit (.int .i64 ((T.count y : Nat) : Int))
theorem CntS.below {w w' : World} {B n : Nat} {T : List Nmb} (h : CntS w B n T) (hb : Below w.heap.size w w') : CntS w' B n T := by
  obtain ⟨D, h1, h2, h3⟩ := h
  refine ⟨D, ?_, h2, h3⟩
  exact h1.kept (row := none) ⟨hb.os, hb.tape, hb.output, hb.size, fun i hi _ => hb.block i hi⟩ (by simp)
theorem CntS.mono {w : World} {B n n' : Nat} {T : List Nmb} (h : CntS w B n T) (hn : n ≤ n') : CntS w B n' T := by
  obtain ⟨D, h1, h2, h3⟩ := h
  exact ⟨D, h1.mono hn, h2, h3⟩
theorem CntS.put {w1 : World} {B n : Nat} {T : List Nmb} {D : DataW Unit} {x : Nmb} {v : Int} (hD : IsMap D) (hf : ∀ y : Nmb, D.atKey (.string y) (.lit (.int .i64 0)) = .lit (.int .i64 ((T.count y : Nat) : Int)))
    (hw : w1.ownsMap Tryz.prog StT (plainElem Tryz.prog 3) B n (D.put (.string x) (.lit (.int .i64 v)))) (hv : v = ((T.count x : Nat) : Int) + 1) : CntS w1 B n (T ++ [x]) := by
  refine ⟨_, hw, hD.put _ _, fun y => ?_⟩
  rw [List.count_append]
  by_cases h : y = x
  · subst h
    rw [List.count_singleton_self, atKey_put_same hD isKeyT, hv]
    push_cast
    rfl
  · rw [List.count_eq_zero_of_not_mem (l := [x]) (by simpa using h), Nat.add_zero, ← hf y]
    exact atKey_put_other (by intro e; injection e with e; exact h e) _ _

def takenOf (s : ByteArray) (l : List Ob) : List Nmb := (l.filter (takes s)).map (·.name.data.toList)
theorem taken_add {s : ByteArray} {l : List Obv} {j : Nat} {x : Obv} (hx : l[j]? = some x) : takenOf s ((l.take (j + 1)).map (·.2)) = takenOf s ((l.take j).map (·.2)) ++ (if takes s x.2 = true then [x.2.name.data.toList] else []) := by
  unfold takenOf
  rw [List.take_add_one, hx, List.map_append, List.filter_append, List.map_append]
  congr 1
  by_cases h : takes s x.2 = true
  · rw [if_pos h]; simp [h]
  · rw [if_neg h]; simp [h]
theorem frees_zero {s : ByteArray} {T : List Nmb} : frees s T 0 = [] := by
  unfold frees
  split
  · simp
  · rfl
theorem frees_at {s : ByteArray} {T : List Nmb} {n k : Nat} (hs : okNm s = true) (hn : n ≤ 10000) (hc : ((List.range n).filter (fr s T)).length ≤ k) (h : n = 10000 ∨ ((List.range n).filter (fr s T)).length = k) : frees s T k = ((List.range n).filter (fr s T)).map (pname s) := by
  unfold frees
  rw [if_pos hs, filter_cut hn hc h]

set_option maxHeartbeats 8000000 in
theorem free_any (w : World) (s : ByteArray) (q : Option Addr) (n c : Nat) (l : List Obv) (k : Int) (hn : n = l.length) (hr : RowR 47 encOb w q l) (hok : ∀ x ∈ l, ObjV w x.1.1 x.2 ∧ x.2.name.size ≤ maxLen) (hlen : n < 1000000) (hs : s.size ≤ maxLen) (hT : Tab w) (hk : k ≤ 16) :
    Calls Tryz.prog 28 #[.string s, .slice q n c, .int .i64 k] w fun e w' => (∃ v, e = .returned v ∧ Hid (OwnS w.heap.size w' v (frees s (takenOf s (l.map (·.2))) k.toNat))) ∧ Below w.heap.size w w' := by
  by_cases hk1 : k < 1
  · have t1 : decide (k < 1) = true := decide_eq_true hk1
    have e0 : k.toNat = 0 := by omega
    have F : Hid (frees s (takenOf s (l.map (·.2))) k.toNat = []) := by show _ = _; rw [e0]; exact frees_zero
    clear hn hr hok hT e0 hk1
    go_enter Tryz.func28, Tryz.ntmps28
    go_wp2
    go_ret
    exact ⟨⟨_, rfl, by rw [F.out]; exact OwnS.nil _ _⟩, Below.refl _ _⟩
  obtain ⟨m, hm⟩ : ∃ m : Nat, k = (m : Int) := ⟨k.toNat, by omega⟩
  subst hm
  have t1 : decide ((m : Int) < 1) = false := decide_eq_false hk1
  have hm16 : m ≤ 16 := by omega
  have hm1 : Hid (1 ≤ m) := by show _ ≤ _; omega
  have HT := Lib.hid hT
  obtain ⟨B, hB⟩ : ∃ B, B = w.heap.size := ⟨_, rfl⟩
  obtain ⟨w1, hw1⟩ : ∃ W, W = w.alloc (.map #[] 0) := ⟨_, rfl⟩
  have bw1 : Below w.heap.size w w1 := by rw [hw1]; exact ((Gr.refl w).alloc _).below
  have C0 : Hid (CntS w1 B 0 []) := by
    rw [hw1, hB]
    exact ⟨.map [], World.ownsMap_made _ _ _ _, isMap_empty, fun y => rfl⟩
  have hBw : Hid (B = w.heap.size) := hB
  have HW1 : Hid (w.alloc (.map #[] 0) = w1 ∧ w.heap.size = B) := ⟨hw1.symm, hB.symm⟩
  have BW1 := Lib.hid bw1
  have HH := Lib.hid (And.intro hr (And.intro hok (And.intro hn hs)))
  have hmm := @run_makeMap Tryz.prog
  clear hr hok hn hs hT hk hk1 hB hw1 bw1
  go_enter Tryz.func28, Tryz.ntmps28
  go_wp2_with fail
  rw [HW1.out.1, HW1.out.2]
  go_loopg [19] n (fun g1 vi wr => ∃ j : Nat, vi = .int .i64 (j : Int) ∧ j ≤ n ∧ n - j ≤ g1 ∧ Hid (CntS wr B j (takenOf s ((l.take j).map (·.2)))) ∧ Hid (Below w.heap.size w wr))
  case atStart => exact ⟨0, rfl, Nat.zero_le _, by omega, C0.out, BW1.out⟩
  case round =>
    obtain ⟨j, rfl, h1, h2, HC, HB⟩ := hrel
    by_cases hlt : j < n
    · obtain ⟨hr, hok, hn, hs⟩ := HH.out
      obtain ⟨x, hx⟩ : ∃ x, l[j]? = some x := ⟨l[j]'(by omega), List.getElem?_eq_getElem (by omega)⟩
      obtain ⟨b, off, rfl, _, _⟩ := hr j x hx
      obtain ⟨hbl, hra⟩ := rangeAt_obs hr hx
      have LD := Lib.hid (Ow.load_at (x := x) (rangeAt_below hra HB.out hbl))
      obtain ⟨okv, okn⟩ := hok x (List.mem_of_getElem? hx)
      obtain ⟨X, hX⟩ : ∃ X, X = x.1.1 := ⟨_, rfl⟩
      obtain ⟨o, ho⟩ : ∃ o, o = x.2 := ⟨_, rfl⟩
      rw [← hX] at LD okv
      rw [← ho] at okv okn
      have ON := Lib.hid (objV_one okv)
      obtain ⟨th, inn, el⟩ := el_new wr X okv.1
      have TH := Lib.hid th
      have IN := Lib.hid inn
      obtain ⟨w3, hw3⟩ : ∃ W', W' = (wr.alloc (.cells zerC OT)).setCells wr.heap.size 0 X.toList := ⟨_, rfl⟩
      obtain ⟨O, hO⟩ : ∃ A, A = wr.heap.size := ⟨_, rfl⟩
      have HW3 : Hid ((wr.alloc (.cells zerC OT)).setCells wr.heap.size 0 X.toList = w3 ∧ wr.heap.size = O) := ⟨hw3.symm, hO.symm⟩
      rw [← hw3, ← hO] at el
      obtain ⟨kd, hkd⟩ : ∃ a, a = o.kind := ⟨_, rfl⟩
      obtain ⟨nm, hnm⟩ : ∃ a, a = o.name := ⟨_, rfl⟩
      obtain ⟨ow, how⟩ : ∃ a, a = o.p.own := ⟨_, rfl⟩
      obtain ⟨ph, hph⟩ : ∃ a, a = o.p.ph := ⟨_, rfl⟩
      have d0 : w3.cell? ⟨O, 0, none⟩ = some (.int .i64 kd) := by rw [hkd]; exact (cell_of_block el.blk 0).trans okv.2.1.1
      have d1 : w3.cell? ⟨O, 1, none⟩ = some (.string nm) := by rw [hnm]; exact (cell_of_block el.blk 1).trans okv.2.1.2.1
      have d10 : w3.cell? ⟨O, 10, none⟩ = some (.string ow) := by rw [how]; exact (cell_of_block el.blk 10).trans okv.2.2.2.1.1
      have d12 : w3.cell? ⟨O, 12, none⟩ = some (.int .i64 ph) := by rw [hph]; exact (cell_of_block el.blk 12).trans okv.2.2.2.1.2.2.1
      have B3 : Hid (Below w.heap.size w w3) := HB.out.trans (el.low.mono HB.out.size)
      have HC3 : Hid (CntS w3 B j (takenOf s ((l.take j).map (·.2)))) := HC.out.below el.low
      have TK : Hid (takenOf s ((l.take (j + 1)).map (·.2)) = takenOf s ((l.take j).map (·.2)) ++ (if takes s o = true then [nm.data.toList] else [])) := by
        show _ = _
        rw [taken_add hx, ho, hnm, ho]
      have TKS : Hid (takes s o = (decide (kd = 1) && !((decide (kd = 1) && (ow.toList == s.toList)) && decide (ph = 3)))) := by
        show _ = _
        unfold takes isFailed isOf isPod
        rw [hkd, how, hph]
      have HKY : Hid (keyOf Tryz.prog StT (.string nm) = some (.string nm.data.toList)) := keyOf_string_mk Tryz.underlying9 (by rw [hnm]; exact okn)
      clear hr hok hn hs hx hbl hra okv okn hX ho th inn el hw3 hO HC HB hkd hnm how hph
      go_upto_region 7 with (first | (refine wpList_load_by (by kernel_rfl) OT _ rfl (.pointer (some ⟨b, off + j * 47, none⟩)) (.agg X) (by first | rfl | (simp; done)) LD.out ?_) | (refine wpList_store_mid rfl _ _ _ rfl wr.heap.size 0 X (by rfl) (by rfl) TH.out IN.out ON.out ?_; rw [HW3.out.1, HW3.out.2]))
      clear TH IN ON HW3 LD
      cases htk : takes s o with
      | false =>
        have HC4 : Hid (CntS w3 B (j + 1) (takenOf s ((l.take (j + 1)).map (·.2)))) := by
          have := TK.out
          rw [htk, if_neg (by decide), List.append_nil] at this
          rw [this]
          exact HC3.out.mono (Nat.le_succ _)
        have cases3 : kd ≠ 1 ∨ (kd = 1 ∧ ow = s ∧ ph = 3) := by
          have := TKS.out
          rw [htk] at this
          by_cases a : kd = 1
          · refine .inr ⟨a, ?_⟩
            rw [decide_eq_true a, Bool.true_and, Bool.true_and, byte_beq] at this
            have e := Eq.symm this
            rw [Bool.not_eq_false', Bool.and_eq_true, decide_eq_true_eq, decide_eq_true_eq] at e
            exact e
          · exact .inl a
        clear HC3 TK TKS htk d1 HKY
        rcases cases3 with hk1 | ⟨rfl, rfl, rfl⟩
        · have t2 : (kd == 1) = false := by rw [beq_eq_false_iff_ne]; exact hk1
          clear hk1
          go_wp2
          go_roundg (n - (j + 1))
          case measure => omega
          case rel => exact ⟨j + 1, by push_cast; rfl, by omega, by omega, HC4, B3⟩
        · have t3 : (!ow.toList == ow.toList) = false := by simp
          go_wp2
          go_roundg (n - (j + 1))
          case measure => omega
          case rel => exact ⟨j + 1, by push_cast; rfl, by omega, by omega, HC4, B3⟩
      | true =>
        have TK2 : Hid (takenOf s ((l.take (j + 1)).map (·.2)) = takenOf s ((l.take j).map (·.2)) ++ [nm.data.toList]) := by
          have := TK.out
          rw [htk, if_pos rfl] at this
          exact this
        have cases3 : kd = 1 ∧ (ow ≠ s ∨ (ow = s ∧ ph ≠ 3)) := by
          have := TKS.out
          rw [htk] at this
          by_cases a : kd = 1
          · refine ⟨a, ?_⟩
            rw [decide_eq_true a, Bool.true_and, Bool.true_and, byte_beq] at this
            by_cases b : ow = s
            · refine .inr ⟨b, fun e => ?_⟩
              rw [decide_eq_true b, decide_eq_true e] at this
              cases this
            · exact .inl b
          · rw [decide_eq_false a] at this
            cases this
        obtain ⟨rfl, hc3⟩ := cases3
        obtain ⟨D, hown, hD, hf⟩ := HC3.out
        have HD := Lib.hid hD
        have HF := Lib.hid hf
        obtain ⟨cn, hcn⟩ : ∃ a : Nat, a = (takenOf s ((l.take j).map (·.2))).count nm.data.toList := ⟨_, rfl⟩
        have hcle : cn ≤ j := by
          rw [hcn]
          refine Nat.le_trans List.count_le_length ?_
          unfold takenOf
          rw [List.length_map]
          refine Nat.le_trans (List.length_filter_le _ _) ?_
          rw [List.length_map, List.length_take]
          omega
        have HA : Hid (D.atKey (.string nm.data.toList) (.lit (.int .i64 0)) = .lit (.int .i64 (cn : Int))) := by
          show _ = _
          rw [hcn]
          exact hf _
        have HCN := Lib.hid hcn
        have t9 : IntKind.i64.wrap ((cn : Int) + 1) = (cn : Int) + 1 := by rw [IntKind.wrap_i64]; omega
        have FIN : ∀ w5, w5.ownsMap Tryz.prog StT (plainElem Tryz.prog 3) B (j + 1) (D.put (.string nm.data.toList) (.lit (.int .i64 ((cn : Int) + 1)))) → w3.grownBy w5 (some B) → Hid (CntS w5 B (j + 1) (takenOf s ((l.take (j + 1)).map (·.2)))) ∧ Hid (Below w.heap.size w w5) := fun w5 h5 g5 => by
          refine ⟨?_, B3.out.grown g5 B3.out.size (fun k e => by have := hBw.out; have e := Option.some.inj e; omega)⟩
          show CntS _ _ _ _
          rw [TK2.out]
          exact CntS.put HD.out HF.out h5 (by rw [HCN.out])
        have HFIN := Lib.hid FIN
        have key : (ow != s) = true ∨ ((!ow.toList == s.toList) = false ∧ (ph != 3) = true) ∨ (!ow.toList == s.toList) = true := by
          rcases hc3 with h | ⟨h, h'⟩
          · exact .inr (.inr (by rw [byte_beq, decide_eq_false h]; rfl))
          · exact .inr (.inl ⟨by rw [h]; simp, by rw [bne_iff_ne]; exact h'⟩)
        have key2 : ((!ow.toList == s.toList) = false ∧ (ph != 3) = true) ∨ (!ow.toList == s.toList) = true := by
          rcases hc3 with h | ⟨h, h'⟩
          · exact .inr (by rw [byte_beq, decide_eq_false h]; rfl)
          · exact .inl ⟨by rw [h]; simp, by rw [bne_iff_ne]; exact h'⟩
        clear HC3 TK TKS htk hD hf hcn FIN hc3 key
        rcases key2 with ⟨t3, t4⟩ | t3
        all_goals
          go_wp2_with (first
            | (at_lookup; refine wpList_lookup_own_int _ rfl _ _ 117 rfl StT 3 .i64 lawT Tryz.underlying117 Tryz.underlying3 (zeroI _) B j D rfl hown _ _ rfl HKY.out ?_; intro cc hat hwc; obtain rfl := litT_inj (HA.out.symm.trans hat); clear hat hwc)
            | (at_mapUpdate; refine wpList_mapUpdate_own _ rfl _ _ _ 117 rfl StT 3 lawT Tryz.underlying117 _ B j D rfl hown (by unfold maxLen; omega) _ _ _ rfl rfl HKY.out _ [] (plainElem_int Tryz.underlying3 (WalkArith.wf_i64 (by omega))) ?_; intro w5 hown1 hgrow1; obtain ⟨F1, F2⟩ := HFIN.out w5 hown1 hgrow1; clear hown1 hgrow1))
          go_roundg (n - (j + 1))
          case measure => omega
          case rel => exact ⟨j + 1, by push_cast; rfl, by omega, by omega, F1, F2⟩
    · obtain rfl : j = n := by omega
      have HTK : Hid (takenOf s ((l.take j).map (·.2)) = takenOf s (l.map (·.2))) := by
        show _ = _
        rw [List.take_of_length_le (by have := HH.out.2.2.1; omega)]
      have HC2 := Lib.hid (HTK.out ▸ HC.out)
      clear HTK HC
      go_wp2_with fail
      obtain ⟨T, hTT⟩ : ∃ T, T = takenOf s (l.map (·.2)) := ⟨_, rfl⟩
      have FR : ∀ i, fr s (takenOf s (l.map (·.2))) i = fr s T i := fun i => by rw [hTT]
      rw [← hTT] at HC2
      have HTE := Lib.hid hTT
      obtain ⟨wp, rfl⟩ : ∃ W, W = wr := ⟨wr, rfl⟩
      have hsz := HB.out.size
      have HB1 := Lib.hid HB.out
      clear hTT FR HB
      go_loopg [10, 11, 12, 13] 10001 (fun g1 v10 v11 _ _ wr => ∃ i r : Nat, v11 = .int .i64 (i : Int) ∧ i ≤ 10000 ∧ 10001 - i ≤ g1 ∧ r ≤ m ∧ Hid (((List.range i).filter (fr s T)).length = r ∧ (okNm s = true ∨ i = 0)) ∧ (∃ q5 c5, v10 = .slice q5 r c5) ∧ Hid (OwnS wp.heap.size wr v10 (((List.range i).filter (fr s T)).map (pname s))) ∧ Hid (Below wp.heap.size wp wr))
      case atStart => exact ⟨0, 0, rfl, by omega, by omega, Nat.zero_le _, ⟨rfl, .inr rfl⟩, ⟨none, 0, rfl⟩, OwnS.nil _ _, Below.refl _ _⟩
      case round =>
        obtain ⟨i, r, rfl, hi, hg1, hrm, HR, ⟨q5, c5, rfl⟩, HO, HBQ⟩ := hrel
        by_cases hlt2 : r < m
        · by_cases hfar : i = 10000
          · subst hfar
            have CN := Lib.hid (pod_far wr s 10000 (by omega))
            have RES : Hid (r = ((List.range 10000).filter (fr s T)).length ∧ okNm s = true) := by
              obtain ⟨a, b⟩ := HR.out
              exact ⟨a.symm, b.resolve_right (by omega)⟩
            clear HR
            go_wp2_with fail
            refine CN.out.mono ?_
            rintro e w2 ⟨rfl, b2⟩
            have FIN : Hid (OwnS w.heap.size w2 (.slice q5 r c5) (frees s (takenOf s (l.map (·.2))) m)) ∧ Hid (Below w.heap.size w w2) := by
              refine ⟨?_, HB1.out.trans ((HBQ.out.trans (b2.mono HBQ.out.size)).mono HB1.out.size)⟩
              show OwnS _ _ _ _
              rw [← HTE.out, frees_at RES.out.2 (Nat.le_refl _) (by rw [← RES.out.1]; exact hrm) (.inl rfl)]
              exact (HO.out.below b2).mono hsz
            obtain ⟨F1, F2⟩ := FIN
            clear CN RES b2 HO HBQ HB1 HC2 HTE
            go_wp2
            go_ret
            exact ⟨⟨_, rfl, by rw [Int.toNat_natCast]; exact F1.out⟩, F2.out⟩
          · have hi2 : i < 10000 := by omega
            have TB : Tab wr := (HT.out.below (HB1.out.trans (HBQ.out.mono HB1.out.size)))
            have CN := Lib.hid (nth_name wr s i hi2 (by have := HH.out.2.2.2; unfold maxLen at this; omega) TB)
            cases hok : okNm s with
            | false =>
              have e0 : i = 0 := HR.out.2.resolve_left (by rw [hok]; decide)
              subst e0
              have e1 : r = 0 := HR.out.1.symm
              subst e1
              have PV : Hid (podV s 0 = .tuple #[.string ⟨#[]⟩, .int .i64 6]) := by show _ = _; unfold podV; rw [hok]; rfl
              have FE : Hid (frees s (takenOf s (l.map (·.2))) m = []) := by show _ = _; unfold frees; rw [hok]; rfl
              rw [PV.out] at CN
              clear HR hok TB
              go_wp2_with fail
              refine CN.out.mono ?_
              rintro e w2 ⟨rfl, b2⟩
              have F1 : Hid (OwnS w.heap.size w2 (.slice q5 0 c5) (frees s (takenOf s (l.map (·.2))) m)) := by
                show OwnS _ _ _ _
                rw [FE.out]
                exact (HO.out.below b2).mono hsz
              have F2 : Hid (Below w.heap.size w w2) := HB1.out.trans ((HBQ.out.trans (b2.mono HBQ.out.size)).mono HB1.out.size)
              clear CN PV FE b2 HO HBQ HB1 HC2 HTE
              go_wp2
              go_ret
              exact ⟨⟨_, rfl, by rw [Int.toNat_natCast]; exact F1.out⟩, F2.out⟩
            | true =>
              have PV : Hid (podV s i = .tuple #[.string (pname s i), .int .i64 0]) := by show _ = _; unfold podV; rw [hok]; rfl
              rw [PV.out] at CN
              have HOK := Lib.hid hok
              obtain ⟨nm, hnm⟩ : ∃ t, t = pname s i := ⟨_, rfl⟩
              rw [← hnm] at CN
              have HKY : Hid (keyOf Tryz.prog StT (.string nm) = some (.string nm.data.toList)) := keyOf_string_mk Tryz.underlying9 (by rw [hnm, pname_size]; unfold okNm at hok; rw [Bool.and_eq_true, decide_eq_true_eq] at hok; unfold maxLen; omega)
              have NXT := filter_next (p := fr s T) (k := i)
              have HFRI : Hid (fr s T i = decide (nm.data.toList ∉ T)) := by show _ = _; unfold fr; rw [hnm]
              have HNM := Lib.hid hnm
              have HNXT := Lib.hid NXT
              clear PV TB hok hnm NXT
              go_wp2_with fail
              refine CN.out.mono ?_
              rintro e w2 ⟨rfl, b2⟩
              have HC3 := Lib.hid ((HC2.out.below HBQ.out).below b2)
              have HB2 := Lib.hid (HBQ.out.trans (b2.mono HBQ.out.size))
              have HO2 := Lib.hid (HO.out.below b2)
              clear b2 HO HBQ CN
              obtain ⟨D, hown, hD, hf⟩ := HC3.out
              obtain ⟨cn, hcn⟩ : ∃ a : Nat, a = T.count nm.data.toList := ⟨_, rfl⟩
              have HA : Hid (D.atKey (.string nm.data.toList) (.lit (.int .i64 0)) = .lit (.int .i64 (cn : Int))) := by
                show _ = _
                rw [hcn]
                exact hf _
              have HCN := Lib.hid hcn
              have BS : Hid (wp.heap.size ≤ w2.heap.size) := HB2.out.size
              clear hD hf hcn HC3
              by_cases hz : cn = 0
              · have t2 : ((cn : Int) == 0) = true := by rw [hz]; rfl
                have HL : Hid ((List.range (i + 1)).filter (fr s T) = (List.range i).filter (fr s T) ++ [i]) := by
                  show _ = _
                  rw [HNXT.out, HFRI.out, decide_eq_true (by rw [hz] at HCN; exact List.count_eq_zero.1 HCN.out.symm), if_pos rfl]
                obtain ⟨w4, hw4⟩ : ∃ w4, w4 = w2.alloc (.cells #[.string nm] StT) := ⟨_, rfl⟩
                obtain ⟨M, hM⟩ : ∃ M, M = w2.heap.size := ⟨_, rfl⟩
                have HW4 : Hid (w2.alloc (.cells #[.string nm] StT) = w4 ∧ w2.heap.size = M) := ⟨hw4.symm, hM.symm⟩
                have b4 : Below w2.heap.size w2 w4 := by rw [hw4]; exact ((Gr.refl w2).alloc _).below
                have NEW : Hid (SRow w4 (some ⟨M, 0, none⟩) [nm]) := by rw [hw4, hM]; exact one_new w2 nm
                have OW : Hid (OwnS wp.heap.size w4 (.slice q5 r c5) (((List.range i).filter (fr s T)).map (pname s))) := HO2.out.below b4
                have BS4 : Hid (wp.heap.size ≤ w4.heap.size) := by have := BS.out; have := b4.size; show _ ≤ _; omega
                have HB4 := Lib.hid (HB2.out.trans (b4.mono HB2.out.size))
                have LE : Hid ((((List.range i).filter (fr s T)).map (pname s)).length + [nm].length ≤ 1000000) := by
                  show _ ≤ _
                  rw [List.length_map, HR.out.1, List.length_singleton]
                  omega
                clear hw4 hM b4 HNXT HFRI hz
                go_wp2_with (first
                  | (at_lookup; refine wpList_lookup_own_int _ rfl _ _ 117 rfl StT 3 .i64 lawT Tryz.underlying117 Tryz.underlying3 (zeroI _) B j D rfl hown _ _ rfl HKY.out ?_; intro cc hat hwc; obtain rfl := litT_inj (HA.out.symm.trans hat); clear hat hwc)
                  | (at_builtin; rw [HW4.out.1, HW4.out.2]; refine wpList_append_strs rfl _ _ rfl wp.heap.size (.slice q5 r c5) (((List.range i).filter (fr s T)).map (pname s)) rfl OW.out (some ⟨M, 0, none⟩) 1 1 [nm] (by rfl) rfl NEW.out (fun e => by cases e) LE.out BS4.out ?_; intro v7 w7 ho7 hg7 ha7))
                have FIN : Hid (OwnS wp.heap.size w7 v7 (((List.range (i + 1)).filter (fr s T)).map (pname s))) ∧ Hid (Below wp.heap.size wp w7) ∧ (∃ q c, v7 = .slice q (r + 1) c) := by
                  have e : ((List.range (i + 1)).filter (fr s T)).map (pname s) = ((List.range i).filter (fr s T)).map (pname s) ++ [nm] := by rw [HL.out, List.map_append, HNM.out]; rfl
                  refine ⟨by rw [e]; exact ho7, HB4.out.grown hg7 HB4.out.size (fun k e => (OW.out.lt k e).1), ?_⟩
                  obtain ⟨q, c, e, _⟩ := ho7.slc
                  refine ⟨q, c, ?_⟩
                  rw [e, List.length_append, List.length_map, HR.out.1]
                  rfl
                obtain ⟨F1, F2, q7, c7, rfl⟩ := FIN
                have F3 : Hid (((List.range (i + 1)).filter (fr s T)).length = r + 1 ∧ (okNm s = true ∨ i + 1 = 0)) := by
                  refine ⟨?_, .inl HOK.out⟩
                  rw [HL.out, List.length_append, HR.out.1]
                  rfl
                clear ho7 hg7 ha7 HB4 LE OW NEW HW4 HL HR HCN HA HKY HNM HOK HO2 HB2 hown BS BS4
                go_wp2_with fail
                go_roundg (10001 - (i + 1))
                case measure => omega
                case rel => exact ⟨i + 1, r + 1, by push_cast; rfl, by omega, by omega, by omega, F3, ⟨q7, c7, rfl⟩, F1, F2⟩
              · have t2 : ((cn : Int) == 0) = false := by rw [beq_eq_false_iff_ne]; omega
                have HL : Hid ((List.range (i + 1)).filter (fr s T) = (List.range i).filter (fr s T)) := by
                  show _ = _
                  rw [HNXT.out, HFRI.out, decide_eq_false (fun e => hz (by rw [HCN.out]; exact List.count_eq_zero.2 e)), if_neg (by decide), List.append_nil]
                have F1 : Hid (OwnS wp.heap.size w2 (.slice q5 r c5) (((List.range (i + 1)).filter (fr s T)).map (pname s))) := by show OwnS _ _ _ _; rw [HL.out]; exact HO2.out
                have F3 : Hid (((List.range (i + 1)).filter (fr s T)).length = r ∧ (okNm s = true ∨ i + 1 = 0)) := ⟨by rw [HL.out]; exact HR.out.1, .inl HOK.out⟩
                clear HL HR HCN HNM HOK HO2 HNXT HFRI hz BS
                go_wp2_with (at_lookup; refine wpList_lookup_own_int _ rfl _ _ 117 rfl StT 3 .i64 lawT Tryz.underlying117 Tryz.underlying3 (zeroI _) B j D rfl hown _ _ rfl HKY.out ?_; intro cc hat hwc; obtain rfl := litT_inj (HA.out.symm.trans hat); clear hat hwc)
                go_roundg (10001 - (i + 1))
                case measure => omega
                case rel => exact ⟨i + 1, r, by push_cast; rfl, by omega, by omega, by omega, F3, ⟨q5, c5, rfl⟩, F1, HB2⟩
        · obtain rfl : r = m := by omega
          have F1 : Hid (OwnS w.heap.size wr (.slice q5 r c5) (frees s (takenOf s (l.map (·.2))) r)) := by
            show OwnS _ _ _ _
            obtain ⟨a, b⟩ := HR.out
            rcases b with b | rfl
            · rw [← HTE.out, frees_at b hi (by omega) (.inr a)]
              exact HO.out.mono hsz
            · have h1 : r = 0 := a.symm
              have h2 := hm1.out
              omega
          have F2 : Hid (Below w.heap.size w wr) := HB1.out.trans (HBQ.out.mono HB1.out.size)
          clear HR HO HBQ HB1 HC2 HTE
          go_wp2
          go_ret
          exact ⟨⟨_, rfl, by rw [Int.toNat_natCast]; exact F1.out⟩, F2.out⟩
end Go.Proofs.YtbkoepghmcdnhaaGreatDoor.Rp
/- Layer 16 (replica): rows of objects of the law's own, of the very cells that came in; what the law's plan finds. -/
namespace Go.Proofs.YtbkoepghmcdnhaaGreatDoor.Rp
open Go.RowKit Go.Shelf Go.Lib Go.Sort Go.Deep
open Go.Joins (cell_of_block unfrozen_of_block block_setCell)
open Go.Proofs.YtbkoepghmcdnhaaGreatDoor.Ow Go.Proofs.YtbkoepghmcdnhaaGreatDoor.Vi
set_option linter.unusedVariables false
set_option linter.unusedSimpArgs false
set_option maxRecDepth 20000

def OwnO (N : Nat) (w : World) (v : Value) (l : List Obv) : Prop := w.ownsRow N OT 47 v l.length (flat encOb l)
theorem OwnO.nil (N : Nat) (w : World) : OwnO N w (.slice none 0 0) [] := ⟨rfl, .inl ⟨rfl, rfl⟩⟩
theorem OwnO.lt {N : Nat} {w : World} {v : Value} {l : List Obv} (h : OwnO N w v l) : ∀ k, v.ownBlock = some k → N ≤ k ∧ k < w.heap.size := fun k hk => own_lt h hk
theorem OwnO.grown {N : Nat} {w w' : World} {v : Value} {l : List Obv} {row : Option Nat} (h : OwnO N w v l) (g : w.grownBy w' row) (hne : ∀ k, row = some k → v.ownBlock ≠ some k) : OwnO N w' v l := by
  refine World.ownsRow.kept h g ?_
  cases hv : v.ownBlock with
  | none => exact .inl rfl
  | some b => exact .inr (fun e => hne b e.symm hv)
theorem OwnO.below {N : Nat} {w w' : World} {v : Value} {l : List Obv} (h : OwnO N w v l) (b : Below w.heap.size w w') : OwnO N w' v l := own_below h b
theorem OwnO.slc {N : Nat} {w : World} {v : Value} {l : List Obv} (h : OwnO N w v l) : ∃ q c, v = .slice q l.length c ∧ RowR 47 encOb w q l := by
  obtain ⟨h0, h⟩ := h
  rcases h with ⟨rfl, h1⟩ | ⟨g, c, cur, rfl, hb, hg, hc, hm, hsz, htk⟩
  · obtain rfl := List.eq_nil_of_length_eq_zero h1
    exact ⟨none, 0, rfl, RowR.nil _ _ _ _⟩
  · refine ⟨some ⟨g, 0, none⟩, c, rfl, fun j x hx => ⟨g, 0, rfl, (Array.getElem?_eq_some_iff.1 hg).1, fun t v hv => ?_⟩⟩
    have ht : t < 47 := by rw [← lenOb x]; exact (List.getElem?_eq_some_iff.1 hv).1
    have e1 := flat_at lenOb l j t x hx ht
    rw [hv, ← htk] at e1
    have hj : j < l.length := (List.getElem?_eq_some_iff.1 hx).1
    have hlt : j * 47 + t < l.length * 47 := by omega
    rw [List.getElem?_take_of_lt hlt, Array.getElem?_toList] at e1
    rw [Nat.zero_add, cell_of_block hg]
    exact e1
/-- 'append(v, o)' onto a row of the call's own: the very cells of an object. -/
theorem wpList_append_ob {w : World} {ops : Array Oper} {rest : List Oper} {o : Oper} {a : Act} {Q : Exit → Act → World → Prop} (hgd : o.guard = none) (s x : Operand)
    (ho : o.op = .call { callee := .builtin .append, args := #[s, x], argTypes := #[22, 22] })
    (N : Nat) (v : Value) (l : List Obv) (hs : a.eval s = v) (hown : OwnO N w v l) (M : Nat) (x0 : Obv) (hx : a.eval x = .slice (some ⟨M, 0, none⟩) 1 1) (hnew : w.heap[M]? = some (.cells x0.1.1 OT (0, 0)))
    (hlen : l.length + 1 ≤ 1000000) (hbase : N ≤ w.heap.size)
    (h : ∀ v' w', OwnO N w' v' (l ++ [x0]) → w.grownBy w' v.ownBlock → (v'.ownBlock = v.ownBlock ∨ v'.ownBlock = some w.heap.size) → wpList Tryz.prog ops Q rest (a.put o.dst v') w') :
    wpList Tryz.prog ops Q (o :: rest) a w := by
  obtain ⟨inf, i1, i2, i3, i4⟩ := info_OT
  have hby : (l.length + 1) * inf.bytes ≤ 140737488355328 := Nat.le_trans (Nat.mul_le_mul (show l.length + 1 ≤ 1000001 by omega) i4) (by decide)
  have NEW : ∀ (t : Nat) u, x0.1.1.toList[t]? = some u → w.cell? ((⟨M, 0, none⟩ : Addr).add t) = some u := World.news_of_block (w := w) (B := M) (cs := x0.1.1) (t := OT) (fr := (0, 0)) hnew
  refine wpList_append_own_at w hgd s x 22 ho N OT inf (.agg zerC) 47 inf.bytes Tryz.underlying22 i1 i2 i3 rfl rfl (by decide) v l.length (flat encOb l) hs hown ⟨M, 0, none⟩ 1 1 x0.1.1.toList hx (by rw [Array.length_toList, x0.1.2.1]) NEW (oneOb x0) (by unfold maxLen; omega) hby hbase ?_
  intro v' w' h1 h2 h3 h4
  refine h v' w' ?_ h2 h4
  unfold OwnO
  rw [List.length_append]
  simpa [flat, encOb] using h1

/-! ### names that are unlike -/
def UnlikeN (l : List Ob) : Prop := l.Pairwise fun a b => a.name ≠ b.name
theorem UnlikeN.eq {l : List Ob} (h : UnlikeN l) {a b : Ob} (ha : a ∈ l) (hb : b ∈ l) (e : a.name = b.name) : a = b := by
  obtain ⟨i, hi, rfl⟩ := List.getElem_of_mem ha
  obtain ⟨j, hj, rfl⟩ := List.getElem_of_mem hb
  rcases Nat.lt_trichotomy i j with h1 | h1 | h1
  · exact absurd e (List.pairwise_iff_getElem.1 h i j hi hj h1)
  · subst h1; rfl
  · exact absurd e.symm (List.pairwise_iff_getElem.1 h j i hj hi h1)
/-- Names sorted, that are unlike: each goes ahead of the next. -/
theorem sortS_strict {l : List ByteArray} (h : l.Pairwise (· ≠ ·)) : (bys (sortS l)).Pairwise (· < ·) := by
  have hn : (sortS l).Pairwise (· ≠ ·) := (sortS_perm l).symm.pairwise h (fun e => Ne.symm e)
  have hb : (bys (sortS l)).Pairwise (· ≠ ·) := by
    unfold bys
    rw [List.pairwise_map]
    exact hn.imp (fun hne e => hne (bys_inj e))
  have := (sortS_sorted l).and hb
  exact this.imp fun ⟨h1, h2⟩ => Decidable.byContradiction fun h3 => h2 (List.le_antisymm h1 (List.not_lt.1 h3))
/-- The pods in order, as the law's 'sooner' has it. -/
theorem sorted_strict {t : List El} (hs : Sorted t) (hu : UnlikeN (t.map (·.1.2))) : (t.map (·.1.2)).Pairwise ltO := by
  unfold UnlikeN at hu
  rw [List.pairwise_map] at hu ⊢
  exact (List.Pairwise.and hs hu).imp fun ⟨h1, h2⟩ => ltO_total (fun e => h1 (lt_ltO.2 e)) h2
theorem unlike_perm {a b : List Ob} (h : UnlikeN a) (hp : a.Perm b) : UnlikeN b := hp.pairwise h (fun e => Ne.symm e)
theorem unlike_filter {a : List Ob} (h : UnlikeN a) (p : Ob → Bool) : UnlikeN (a.filter p) := List.Pairwise.filter p h
/-- A live pod is not yet gone just if none of what goes has its name. -/
theorem gone_iff {l : List Ob} (hu : UnlikeN l) {s : ByteArray} {so : List Ob} (hso : ∀ x ∈ so, x ∈ l ∧ isLive s x = true) {x : Ob} (hx : x ∈ l) (hl : isLive s x = true) (k : Nat) :
    x.name ∈ sortS ((l.filter (isFailed s)).map (·.name)) ++ (so.take k).map (·.name) ↔ x ∈ so.take k := by
  rw [List.mem_append, (sortS_perm _).mem_iff, List.mem_map, List.mem_map]
  constructor
  · rintro (⟨y, hy, e⟩ | ⟨y, hy, e⟩)
    · obtain ⟨h1, h2⟩ := List.mem_filter.1 hy
      have := hu.eq h1 hx e
      subst this
      unfold isLive at hl
      unfold isFailed at h2
      rw [Bool.and_eq_true] at hl h2
      rw [h2.2] at hl
      cases hl.2
    · have := hu.eq (hso y (List.mem_of_mem_take hy)).1 hx e
      subst this
      exact hy
  · exact fun h => .inr ⟨x, h, rfl⟩
/-- A number is taken just if a pod has its name that is not among those that go first. -/
theorem taken_iff {l : List Ob} (hu : UnlikeN l) (hp : ∀ x ∈ l, isPod x = true) {s nm : ByteArray} :
    nm.data.toList ∈ takenOf s l ↔ ∃ x ∈ l, x.name = nm ∧ nm ∉ sortS ((l.filter (isFailed s)).map (·.name)) := by
  unfold takenOf
  rw [List.mem_map]
  constructor
  · rintro ⟨x, hx, e⟩
    obtain ⟨h1, h2⟩ := List.mem_filter.1 hx
    have en : x.name = nm := bys_inj e
    refine ⟨x, h1, en, fun hm => ?_⟩
    rw [(sortS_perm _).mem_iff, List.mem_map] at hm
    obtain ⟨y, hy, e2⟩ := hm
    obtain ⟨h3, h4⟩ := List.mem_filter.1 hy
    have := hu.eq h3 h1 (e2.trans en.symm)
    subst this
    unfold takes at h2
    rw [h4, Bool.and_eq_true] at h2
    cases h2.2
  · rintro ⟨x, hx, en, hm⟩
    refine ⟨x, List.mem_filter.2 ⟨hx, ?_⟩, by rw [en]⟩
    unfold takes
    rw [hp x hx, Bool.true_and]
    cases hf : isFailed s x with
    | false => rfl
    | true =>
      refine absurd ?_ hm
      rw [(sortS_perm _).mem_iff, List.mem_map]
      exact ⟨x, List.mem_filter.2 ⟨hx, hf⟩, en⟩
end Go.Proofs.YtbkoepghmcdnhaaGreatDoor.Rp
/- The law's wants and goes. -/
namespace Go.Proofs.YtbkoepghmcdnhaaGreatDoor
open Go.RowKit Go.Shelf Go.Lib Go.Sort
set_option linter.unusedVariables false
set_option linter.unusedSimpArgs false
set_option maxRecDepth 20000

def wantsB (cpu mem : Int) (lab : List Lab) (sel : List Req) (tol_ : List Lab) (warm : Int) : Bool := resB cpu mem && rightB lab && asksB sel && rightB tol_ && withinB warm 0 1800
theorem pol_bad {l : List Pol} {k : Nat} {x : Pol} (hx : l[k]? = some x) (h : polB x = false) (wi pk : Int) : behC wi pk l = false := by
  have : l.all polB = false := List.all_eq_false.2 ⟨x, List.mem_of_getElem? hx, by rw [h]; decide⟩
  rw [behC, this, Bool.and_false, Bool.and_false]
theorem pol_false {pc : Bool} {va pe : Int} (h : va < 1 ∨ 1000000 < va ∨ pe < 1 ∨ 1800 < pe) : polB (pc, va, pe) = false := by
  cases hb : polB (pc, va, pe) with
  | false => rfl
  | true =>
    simp [polB, polC, withinB] at hb
    omega
theorem pol_true {pc : Bool} {va pe : Int} (h : ¬ (va < 1 ∨ 1000000 < va ∨ pe < 1 ∨ 1800 < pe)) : polB (pc, va, pe) = true := by
  simp [polB, polC, withinB]
  omega

end Go.Proofs.YtbkoepghmcdnhaaGreatDoor
/- What the law asks of an object, shape by shape. -/
namespace Go.Proofs.YtbkoepghmcdnhaaGreatDoor
open Go.RowKit Go.Shelf Go.Lib Go.Sort
open Go.Joins (cell_of_block unfrozen_of_block block_setCell)
set_option linter.unusedVariables false
set_option linter.unusedSimpArgs false
set_option maxRecDepth 20000

def l_w (o : Ob) : Bool := decide (0 ≤ o.w.rep) && decide (o.w.rep ≤ 1000000) && wantsB o.w.cpu o.w.mem o.w.lab o.w.sel o.w.tol o.w.warm
def l_n (o : Ob) : Bool := mayB o.n.grp && resB o.n.cpu o.n.mem && rightB o.n.lab && rightB o.n.tnt && decide (0 ≤ o.n.since) && decide (o.n.since ≤ 4611686018427387904)
def l_g (o : Ob) : Bool := decide (0 ≤ o.g.mn) && decide (o.g.mn ≤ o.g.tg) && decide (o.g.tg ≤ o.g.mx) && decide (o.g.mx ≤ 64) && resB o.g.cpu o.g.mem && rightB o.g.lab && rightB o.g.tnt && decide (0 ≤ o.g.prio) && decide (o.g.prio ≤ 1000)
def l_p (o : Ob) : Bool := nameB o.p.own && mayB o.p.node && decide (0 ≤ o.p.ph) && decide (o.p.ph ≤ 3) && decide (0 ≤ o.p.since) && decide (o.p.since ≤ 4611686018427387904) && wantsB o.p.cpu o.p.mem o.p.lab o.p.sel o.p.tol o.p.warm && ((o.p.ph == 3) || ((o.p.ph == 0) == decide (o.p.node.size = 0)))
def lawC (l : List Sca) (j : Nat) : Bool := match l[j]? with
  | some x => decide (0 ≤ x.1) && decide (x.1 ≤ 4611686018427387904) && decide (0 ≤ x.2.1) && decide (x.2.1 ≤ 1000000) && decide (0 ≤ x.2.2) && decide (x.2.2 ≤ 1000000) && (decide (j = 0) || decide (lastAt 0 l j ≤ x.1))
  | none => true
def lawU (l : List Sca) : Nat → Bool
  | 0 => true
  | k + 1 => lawU l k && lawC l k
def h0B (o : Ob) : Bool := nameB o.h.tg && decide (1 ≤ o.h.mn) && decide (o.h.mn ≤ o.h.mx) && decide (o.h.mx ≤ 1000000) && decide (1 ≤ (o.h.met.length : Int)) && decide ((o.h.met.length : Int) ≤ 4) && decide (0 ≤ o.h.tol) && decide (o.h.tol ≤ 1000) && behC o.h.uw o.h.up o.h.upol && behC o.h.dw o.h.dp o.h.dpol
def l_h (o : Ob) : Bool := h0B o && lawU o.h.past o.h.past.length && decide ((o.h.past.length : Int) ≤ 32) && o.h.met.all metB
def lawS (o : Ob) : Bool := if o.kind = 0 then l_w o else if o.kind = 1 then l_p o else if o.kind = 2 then l_n o else if o.kind = 3 then l_g o else l_h o
def rgtE (o : Ob) : Int := if o.kind < 0 ∨ 4 < o.kind then 17 else if nameB o.name = false then 6 else if (empE o && lawS o) = false then 2 else 0
theorem FitsO.lens {o : Ob} (F : FitsO o) : LensO o := ⟨by have := F.w_lab_r; omega, by have := F.w_sel_r; omega, by have := F.w_tol_r; omega, by have := F.p_lab_r; omega, by have := F.p_sel_r; omega, by have := F.p_tol_r; omega, by have := F.n_lab_r; omega, by have := F.n_tnt_r; omega, by have := F.g_lab_r; omega, by have := F.g_tnt_r; omega, by have := F.h_met_r; omega, by have := F.h_upol_r; omega, by have := F.h_dpol_r; omega, by have := F.h_past_r; omega⟩
theorem ret_i {a b : Int} (h : a = b) : Ending.returned (.int .i64 a) = .returned (.int .i64 b) := by rw [h]

end Go.Proofs.YtbkoepghmcdnhaaGreatDoor
/- The law's Right asks what the program's Check asks. -/
namespace Go.Proofs.YtbkoepghmcdnhaaGreatDoor
open Go.RowKit Go.Shelf Go.Lib Go.Sort
set_option linter.unusedVariables false
set_option linter.unusedSimpArgs false

theorem lawU_iff (l : List Sca) : ∀ k, lawU l k = true ↔ ∀ j, j < k → lawC l j = true
  | 0 => by simp [lawU]
  | k + 1 => by
    rw [lawU, Bool.and_eq_true, lawU_iff l k]
    constructor
    · rintro ⟨h1, h2⟩ j hj
      by_cases e : j = k
      · rw [e]; exact h2
      · exact h1 j (by omega)
    · intro h
      exact ⟨fun j hj => h j (by omega), h k (by omega)⟩
theorem lawC_at' {l : List Sca} {k : Nat} {x : Sca} (hx : l[k]? = some x) : lawC l k = true ↔ 0 ≤ x.1 ∧ x.1 ≤ 4611686018427387904 ∧ 0 ≤ x.2.1 ∧ x.2.1 ≤ 1000000 ∧ 0 ≤ x.2.2 ∧ x.2.2 ≤ 1000000 ∧ (k = 0 ∨ lastAt 0 l k ≤ x.1) := by
  simp [lawC, hx, and_assoc]
theorem scaC_iff (a : Int) (x : Sca) : scaC a x = true ↔ a ≤ x.1 ∧ x.1 ≤ 4611686018427387904 ∧ 0 ≤ x.2.1 ∧ x.2.1 ≤ 1000000 ∧ 0 ≤ x.2.2 ∧ x.2.2 ≤ 1000000 := by
  simp [scaC, withinB, and_assoc]
theorem law_past (l : List Sca) : lawU l l.length = pastL 0 l := by
  rw [Bool.eq_iff_iff, lawU_iff, past_iff]
  constructor
  · intro h j x hx
    have hj := (List.getElem?_eq_some_iff.1 hx).1
    obtain ⟨a1, a2, a3, a4, a5, a6, a7⟩ := (lawC_at' hx).1 (h j hj)
    refine (scaC_iff _ _).2 ⟨?_, a2, a3, a4, a5, a6⟩
    rcases a7 with rfl | a7
    · exact a1
    · exact a7
  · intro h j hj
    have pos : ∀ (k : Nat) (x : Sca), l[k]? = some x → 0 ≤ x.1 := by
      intro k
      induction k with
      | zero => intro x hx; exact ((scaC_iff _ _).1 (h 0 x hx)).1
      | succ k ih =>
        intro x hx
        have hk : k < l.length := by have := (List.getElem?_eq_some_iff.1 hx).1; omega
        have h1 := ih _ (List.getElem?_eq_getElem hk)
        have h2 := ((scaC_iff _ _).1 (h (k + 1) x hx)).1
        rw [lastAt_step (List.getElem?_eq_getElem hk)] at h2
        omega
    have hx := List.getElem?_eq_getElem hj
    obtain ⟨b1, b2, b3, b4, b5, b6⟩ := (scaC_iff _ _).1 (h j _ hx)
    exact (lawC_at' hx).2 ⟨pos j _ hx, b2, b3, b4, b5, b6, .inr b1⟩

theorem eq_w (o : Ob) : l_w o = c_w o := by simp [l_w, c_w, wlC, wantsB, withinB, Bool.and_assoc]
theorem eq_n (o : Ob) : l_n o = c_n o := by simp [l_n, c_n, ndC, withinB, Bool.and_assoc]
theorem eq_g (o : Ob) : l_g o = c_g o := by
  unfold l_g c_g gpC
  generalize resB o.g.cpu o.g.mem = b1
  generalize rightB o.g.lab = b2
  generalize rightB o.g.tnt = b3
  rw [Bool.eq_iff_iff]
  cases b1 <;> cases b2 <;> cases b3 <;> simp [withinB] <;> omega
theorem eq_p (o : Ob) : l_p o = c_p o := by
  unfold l_p c_p pdC wlC wantsB phaseB
  generalize nameB o.p.own = b1
  generalize mayB o.p.node = b2
  generalize resB o.p.cpu o.p.mem = b3
  generalize rightB o.p.lab = b4
  generalize asksB o.p.sel = b5
  generalize rightB o.p.tol = b6
  rw [Bool.eq_iff_iff]
  by_cases hn : o.p.node.size = 0
  · rw [if_pos hn, decide_eq_true hn]
    cases b1 <;> cases b2 <;> cases b3 <;> cases b4 <;> cases b5 <;> cases b6 <;> simp [withinB] <;> omega
  · rw [if_neg hn, decide_eq_false hn]
    cases b1 <;> cases b2 <;> cases b3 <;> cases b4 <;> cases b5 <;> cases b6 <;> simp [withinB] <;> omega
theorem eq_h (o : Ob) : l_h o = c_h o := by
  unfold l_h c_h hpC h0B pastB
  rw [law_past]
  generalize nameB o.h.tg = b1
  generalize behC o.h.uw o.h.up o.h.upol = b2
  generalize behC o.h.dw o.h.dp o.h.dpol = b3
  generalize pastL 0 o.h.past = b4
  generalize o.h.met.all metB = b5
  rw [Bool.eq_iff_iff]
  cases b1 <;> cases b2 <;> cases b3 <;> cases b4 <;> cases b5 <;> simp [withinB] <;> omega
theorem law_sh (o : Ob) : lawS o = shC o := by unfold lawS shC; rw [eq_w, eq_p, eq_n, eq_g, eq_h]

theorem z_we (o : Ob) : e_w o = z_w o := by simp [e_w, z_w, zWl, Bool.and_assoc]
theorem z_pe (o : Ob) : e_p o = z_p o := by simp [e_p, z_p, zPd, Bool.and_assoc]
theorem z_ne (o : Ob) : e_n o = z_n o := by simp [e_n, z_n, zNd, Bool.and_assoc]
theorem z_ge (o : Ob) : e_g o = z_g o := by simp [e_g, z_g, zGp, Bool.and_assoc]
theorem z_he (o : Ob) : e_h o = z_h o := by
  unfold e_h z_h zHp zBh
  ac_rfl
theorem num_testk (x k : Int) : (x == k) = decide (x = k) := by rw [Bool.eq_iff_iff]; simp
theorem emp_al (o : Ob) : empE o = alC o := by
  unfold empE alC
  rw [z_we, z_pe, z_ne, z_ge, z_he]
  simp only [num_testk, Bool.or_comm]
theorem rgt_chk (o : Ob) : rgtE o = chkE o := by
  unfold rgtE chkE
  rw [emp_al, law_sh]
  by_cases hk : o.kind < 0 ∨ 4 < o.kind
  · have h2 : withinB o.kind 0 4 = false := by simp [withinB]; omega
    rw [if_pos hk, if_pos h2]
  · have h2 : ¬ withinB o.kind 0 4 = false := by simp [withinB]; omega
    rw [if_neg hk, if_neg h2]
    cases nameB o.name <;> cases alC o <;> cases shC o <;> simp
end Go.Proofs.YtbkoepghmcdnhaaGreatDoor
/- The law's Right: Hpas. -/
namespace Go.Proofs.YtbkoepghmcdnhaaGreatDoor
open Go.RowKit Go.Shelf Go.Lib Go.Sort
open Go.Joins (cell_of_block unfrozen_of_block block_setCell)
set_option linter.unusedVariables false
set_option linter.unusedSimpArgs false
set_option maxRecDepth 20000

theorem met_law (k : Int) (s : ByteArray) (m : Int) : metB (k, s, m) = (decide (0 ≤ k) && decide (k ≤ 3) && nameB s && milB m && (m != 0) && ((k != 0) || (s.toList == [99, 112, 117]) || (s.toList == [109, 101, 109]))) := by
  have e : (m != 0) = decide (m ≠ 0) := by rw [Bool.eq_iff_iff]; simp
  have h0 : metB (k, s, m) = (!((k == 0) && !(s.toList == [99, 112, 117]) && !(s.toList == [109, 101, 109])) && ((decide (0 ≤ k) && decide (k ≤ 3)) && nameB s && (milB m && (m != 0)))) := by
    rw [e, ← some_eq]
    rfl
  have e2 : (k != 0) = !(k == 0) := rfl
  rw [h0, e2]
  cases (k == 0) <;> cases (s.toList == [99, 112, 117]) <;> cases (s.toList == [109, 101, 109]) <;> cases decide (0 ≤ k) <;> cases decide (k ≤ 3) <;> cases nameB s <;> cases milB m <;> cases (m != 0) <;> rfl
theorem lawC_at {l : List Sca} {k : Nat} {x : Sca} (hx : l[k]? = some x) : lawC l k = (decide (0 ≤ x.1) && decide (x.1 ≤ 4611686018427387904) && decide (0 ≤ x.2.1) && decide (x.2.1 ≤ 1000000) && decide (0 ≤ x.2.2) && decide (x.2.2 ≤ 1000000) && (decide (k = 0) || decide (lastAt 0 l k ≤ x.1))) := by
  simp only [lawC, hx]
theorem take_all {l : List Met} {k : Nat} {x : Met} (hx : l[k]? = some x) : (l.take (k + 1)).all metB = ((l.take k).all metB && metB x) := by
  rw [List.take_add_one, List.all_append, hx]
  simp

end Go.Proofs.YtbkoepghmcdnhaaGreatDoor
/- Layer 16 (replica): the names that a pass over a workload would create and delete (replica.Plan). -/
namespace Go.Proofs.YtbkoepghmcdnhaaGreatDoor.Rp
open Go.RowKit Go.Shelf Go.Lib Go.Sort Go.Deep
open Go.Joins (cell_of_block unfrozen_of_block block_setCell)
open Go.Proofs.YtbkoepghmcdnhaaGreatDoor.Ow Go.Proofs.YtbkoepghmcdnhaaGreatDoor.Vi
set_option linter.unusedVariables false
set_option linter.unusedSimpArgs false
set_option maxRecDepth 20000

theorem Row.rr {N : Nat} {w : World} {q : Option Addr} {n c : Nat} {l : List Obv} (h : Row N w (.slice q n c) l) : RowR 47 encOb w q l := by
  intro j x hx
  obtain ⟨g, e, h1, h2, h3⟩ := Row.at h hx
  refine ⟨g, 0, e, h2, fun t v hv => ?_⟩
  rw [Nat.zero_add]
  exact h3 t v hv
theorem plan_other (w : World) (X : Array Value) (o : Ob) (v : Value) (hv : ObjV w X o) (hk : o.kind ≠ 0) :
    Calls Tryz.prog 13 #[.agg X, v] w fun e w' => e = .returned (.tuple #[.slice none 0 0, .slice none 0 0]) ∧ Below w.heap.size w w' := by
  obtain ⟨B, hB⟩ : ∃ B, B = w.heap.size := ⟨_, rfl⟩
  obtain ⟨w1, hw1⟩ : ∃ W, W = w.alloc (.cells X OT) := ⟨_, rfl⟩
  have G1 : Gr w w1 := hw1 ▸ (Gr.refl w).alloc _
  have b1 : w1.heap[B]? = some (.cells X OT (0, 0)) := by rw [hw1, hB]; exact heap_alloc_new w _
  obtain ⟨kd, hkd⟩ : ∃ a, a = o.kind := ⟨_, rfl⟩
  have d0 : w1.cell? ⟨B, 0, none⟩ = some (.int .i64 kd) := by rw [hkd]; exact (cell_of_block b1 0).trans hv.2.1.1
  have t1 : (kd != 0) = true := by rw [hkd]; exact bne_iff_ne.2 hk
  have HW : Hid (w.alloc (.cells X OT) = w1 ∧ w.heap.size = B) := ⟨hw1.symm, hB.symm⟩
  have HG := Lib.hid G1
  clear hv hk hB hw1 G1 b1 hkd
  go_enter Tryz.func13, Tryz.ntmps13
  go_upto_region 1 with fail
  rw [HW.out.1, HW.out.2]
  go_wp2
  go_ret2
  exact ⟨rfl, HG.out.below⟩
/-- What a plan says of a workload of so many replicas, and a row. -/
def Planned (w w' : World) (s : ByteArray) (N : Nat) (l : List Obv) (v1 v2 : Value) : Prop :=
  ∃ p t : List El, Sorted t ∧ Same1 p t ∧ p.map (·.1.2) = (l.map (·.2)).filter (isLive s) ∧
    OwnS w.heap.size w' v1 (frees s (takenOf s (l.map (·.2))) (min (N - t.length) 16)) ∧
    OwnS w.heap.size w' v2 (sortS (((l.map (·.2)).filter (isFailed s)).map (·.name)) ++ (t.take (min (t.length - N) 16)).map (·.1.2.name))
theorem strs_nm (t : List El) : strs (t.map (·.1.2.name)) = nmV t := by unfold strs nmV; rw [List.map_map]; rfl
set_option maxHeartbeats 8000000 in
theorem plan_any (w : World) (X : Array Value) (o : Ob) (N : Nat) (q : Option Addr) (n c : Nat) (l : List Obv) (hv : ObjV w X o) (hk : o.kind = 0) (hN : o.w.rep = (N : Int)) (hN1 : N ≤ 1000000000) (hs : o.name.size ≤ maxLen) (hn : n = l.length) (hr : RowR 47 encOb w q l)
    (hok : ∀ x ∈ l, ObjV w x.1.1 x.2 ∧ NilO x.1.1 ∧ FitO x.2 ∧ x.2.name.size ≤ maxLen) (hlen : n ≤ 1000) (hT : Tab w) :
    Calls Tryz.prog 13 #[.agg X, .slice q n c] w fun e w' => (∃ v1 v2, e = .returned (.tuple #[v1, v2]) ∧ Hid (Planned w w' o.name N l v1 v2)) ∧ Below w.heap.size w w' := by
  obtain ⟨B, hB⟩ : ∃ B, B = w.heap.size := ⟨_, rfl⟩
  obtain ⟨w1, hw1⟩ : ∃ W, W = w.alloc (.cells X OT) := ⟨_, rfl⟩
  have G1 : Gr w w1 := hw1 ▸ (Gr.refl w).alloc _
  have b1 : w1.heap[B]? = some (.cells X OT (0, 0)) := by rw [hw1, hB]; exact heap_alloc_new w _
  obtain ⟨s, hsn⟩ : ∃ a, a = o.name := ⟨_, rfl⟩
  have d0 : w1.cell? ⟨B, 0, none⟩ = some (.int .i64 0) := by rw [← hk]; exact (cell_of_block b1 0).trans hv.2.1.1
  have d1 : Hid (w1.cell? ⟨B, 1, none⟩ = some (.string s)) := by show _ = _; rw [hsn]; exact (cell_of_block b1 1).trans hv.2.1.2.1
  have d3 : Hid (w1.cell? ⟨B, 3, none⟩ = some (.int .i64 (N : Int))) := by show _ = _; rw [← hN]; exact (cell_of_block b1 3).trans hv.2.2.1.1
  have HBl : Hid (B < w1.heap.size) := (Array.getElem?_eq_some_iff.1 b1).1
  have HW : Hid (w.alloc (.cells X OT) = w1 ∧ w.heap.size = B) := ⟨hw1.symm, hB.symm⟩
  have HG := Lib.hid G1.below
  have zz := G1.below.size
  have CL := Lib.hid (live_any w w1 G1.below q c l s hr (fun x hx => ⟨(hok x hx).1, (hok x hx).2.1, (hok x hx).2.2.1⟩) (by omega))
  rw [← hn] at CL
  have HH := Lib.hid (And.intro hr (And.intro hok (And.intro hn (And.intro hT hs))))
  rw [← hsn] at HH ⊢
  have d1' := d1.out
  clear hv hk hN hB hw1 G1 b1 hr hok hn hT hs hsn
  go_enter Tryz.func13, Tryz.ntmps13
  go_upto_region 1 with fail
  rw [HW.out.1, HW.out.2]
  go_wp2_with fail
  refine CL.out.mono ?_
  rintro e w2 ⟨⟨q1, c1, l1, q2, c2, l2, rfl, r1, r2, e1, e2⟩, b2⟩
  obtain ⟨m1, hm1⟩ : ∃ m, m = l1.length := ⟨_, rfl⟩
  obtain ⟨m2, hm2⟩ : ∃ m, m = l2.length := ⟨_, rfl⟩
  have hm1n : m1 ≤ 1000 := by
    have h1 := congrArg List.length e1
    have h2 := List.length_filter_le (isLive s) (l.map (·.2))
    simp only [List.length_map] at h1 h2
    have := HH.out.2.2.1
    omega
  have hm2n : m2 ≤ 1000 := by
    have h1 := congrArg List.length e2
    have h2 := List.length_filter_le (isFailed s) (l.map (·.2))
    simp only [List.length_map] at h1 h2
    have := HH.out.2.2.1
    omega
  rw [← hm1] at r1
  rw [← hm2] at r2
  rw [← hm1, ← hm2]
  have HB2 := Lib.hid (HG.out.trans (b2.mono zz))
  have fromL : ∀ x : Ob, x ∈ l.map (·.2) → FitO x ∧ x.name.size ≤ maxLen := fun x hx => by
    obtain ⟨y, hy, rfl⟩ := List.mem_map.1 hx
    exact ⟨(HH.out.2.1 y hy).2.2.1, (HH.out.2.1 y hy).2.2.2⟩
  have ok1 : ∀ x ∈ l1, ObjV w2 x.1.1 x.2 ∧ NilO x.1.1 ∧ FitO x.2 := fun x hx => by
    have hx2 : x.2 ∈ l.map (·.2) := by
      have : x.2 ∈ l1.map (·.2) := List.mem_map.2 ⟨x, hx, rfl⟩
      rw [e1] at this
      exact (List.mem_filter.1 this).1
    exact ⟨(r1.firm x hx).obj.1, (r1.firm x hx).obj.2, (fromL x.2 hx2).1⟩
  have ok2 : ∀ x ∈ l2, ObjV w2 x.1.1 x.2 := fun x hx => (r2.firm x hx).obj.1
  have R1 := Lib.hid (And.intro (Row.rr r1) (And.intro ok1 (And.intro e1 hm1)))
  have R2 := Lib.hid (And.intro (Row.rr r2) (And.intro ok2 (And.intro e2 hm2)))
  have bl2 : B < w2.heap.size := Nat.lt_of_lt_of_le HBl.out b2.size
  have d1 : w2.cell? ⟨B, 1, none⟩ = some (.string s) := (b2.cell (p := ⟨B, 1, none⟩) HBl.out).trans d1.out
  have d3 : w2.cell? ⟨B, 3, none⟩ = some (.int .i64 (N : Int)) := (b2.cell (p := ⟨B, 3, none⟩) HBl.out).trans d3.out
  obtain ⟨K, hK⟩ : ∃ K : Int, K = min ((N : Int) - (m1 : Int)) 16 := ⟨_, rfl⟩
  obtain ⟨J, hJ⟩ : ∃ J : Int, J = min ((m1 : Int) - (N : Int)) 16 := ⟨_, rfl⟩
  have CF := Lib.hid (fun wx (b : Below w2.heap.size w2 wx) => free_any wx s q n c l K HH.out.2.2.1 (HH.out.1.below (HB2.out.trans (b.mono HB2.out.size))) (fun x hx => ⟨(HH.out.2.1 x hx).1.below (HB2.out.trans (b.mono HB2.out.size)), (HH.out.2.1 x hx).2.2.2⟩) (by omega) HH.out.2.2.2.2 (HH.out.2.2.2.1.below (HB2.out.trans (b.mono HB2.out.size))) (by omega))
  have HKJ := Lib.hid (And.intro hK hJ)
  have hmx : max (N : Int) 0 = (N : Int) := by omega
  have w1s : IntKind.i64.wrap ((N : Int) - (m1 : Int)) = (N : Int) - (m1 : Int) := by rw [IntKind.wrap_i64]; omega
  have w2s : IntKind.i64.wrap ((m1 : Int) - (N : Int)) = (m1 : Int) - (N : Int) := by rw [IntKind.wrap_i64]; omega
  have hK' := hK.symm
  have hJ' := hJ.symm
  clear hK hJ r1 r2 e1 e2 hm1 hm2 ok1 ok2 fromL b2 CL
  go_wp2_with fail
  refine (CF.out w2 (Below.refl _ _)).mono ?_
  rintro e w3 ⟨⟨v3, rfl, ho3⟩, b3⟩
  have HF3 := Lib.hid (And.intro ho3 b3)
  have CR := Lib.hid (rising_any w3 q2 m2 c2 l2 R2.out.2.2.2 (R2.out.1.below b3) (fun x hx => (R2.out.2.1 x hx).below b3) (by omega))
  clear ho3 CF d1 d3
  go_wp2_with fail
  refine CR.out.mono ?_
  rintro e w4 ⟨⟨v4, rfl, ho4⟩, b4⟩
  have low4 : Below w2.heap.size w2 w4 := b3.trans (b4.mono b3.size)
  have CP := Lib.hid (pick_any w2 w4 low4 q1 c1 l1 J R1.out.1 R1.out.2.1 (by have := R1.out.2.2.2; omega))
  rw [← R1.out.2.2.2] at CP
  have HF4 := Lib.hid (And.intro ho4 (And.intro b4 low4))
  clear ho4 b3 b4 low4 CR
  go_wp2_with fail
  refine CP.out.mono ?_
  rintro e w5 ⟨⟨q5, c5, m5, rfl, hp5⟩, b5⟩
  obtain ⟨p, t, st, sm, hpm, hm5, ho5⟩ := hp5.out
  have HO5 : Hid (OwnS w4.heap.size w5 (.slice q5 m5 c5) ((t.take J.toNat).map (·.1.2.name))) := by
    show _ = _ ∧ _
    rw [strs_nm, List.length_map, ← hm5]
    exact ho5
  have HF5 := Lib.hid (And.intro st (And.intro sm (And.intro hpm (And.intro hm5 b5))))
  clear st sm hpm hm5 ho5 b5 hp5 CP
  obtain ⟨qa, ca, rfl, na, sa⟩ := HF4.out.1.out.slc
  obtain ⟨qb, cb, eb, nb, sb⟩ := HO5.out.slc
  have HA := Lib.hid (And.intro na (And.intro (sa.below HF5.out.2.2.2.2) (And.intro nb (And.intro sb eb))))
  obtain ⟨la, hla⟩ : ∃ a, a = (sortS (l2.map (·.2.name))).length := ⟨_, rfl⟩
  rw [← hla]
  clear na sa nb sb eb
  have hm5b : m5 = ((t.take J.toNat).map (·.1.2.name)).length := by rw [List.length_map]; exact HF5.out.2.2.2.1
  obtain ⟨w6, hw6⟩ : ∃ W, W = w5.alloc (.cells #[.slice qa la ca, .slice q5 m5 c5] SlS) := ⟨_, rfl⟩
  have b6 : Below w5.heap.size w5 w6 := by rw [hw6]; exact ((Gr.refl w5).alloc _).below
  obtain ⟨M, hM⟩ : ∃ M, M = w5.heap.size := ⟨_, rfl⟩
  have SR : SRows w6 M 0 [(qa, ca, sortS (l2.map (·.2.name))), (q5, c5, (t.take J.toNat).map (·.1.2.name))] := by
    obtain ⟨na, sa, nb, sb, eb⟩ := HA.out
    simp only [Value.slice.injEq] at eb
    obtain ⟨e1, e2, e3⟩ := eb
    subst e1
    subst e3
    refine ⟨by rw [hw6, hM]; simp, fun j r hj => ?_⟩
    match j, hj with
    | 0, hj =>
      obtain rfl := Option.some.inj hj
      exact ⟨by rw [hw6, hM, hla]; simp, sa.below b6, na⟩
    | 1, hj =>
      obtain rfl := Option.some.inj hj
      exact ⟨by rw [hw6, hM]; simp [hm5b], sb.below b6, nb⟩
    | j + 2, hj => simp at hj
  have eC : catS [(qa, ca, sortS (l2.map (·.2.name))), (q5, c5, (t.take J.toNat).map (·.1.2.name))] = sortS (l2.map (·.2.name)) ++ (t.take J.toNat).map (·.1.2.name) := by simp [catS]
  have htl : t.length = m1 := by
    obtain ⟨st, sm, hpm, hm5, b5⟩ := HF5.out
    have h1 := congrArg List.length hpm
    have h2 : (l1.map (·.2)).filter isPod = l1.map (·.2) := by
      rw [List.filter_eq_self, R1.out.2.2.1]
      intro x hx
      have := (List.mem_filter.1 hx).2
      unfold isLive isOf at this
      rw [Bool.and_eq_true, Bool.and_eq_true] at this
      exact this.1.1
    rw [h2, List.length_map, List.length_map] at h1
    have := sm.1.length_eq
    have := R1.out.2.2.2
    omega
  have CC := concat_strs w6 M 0 _ SR (by rw [eC, List.length_append, sortS_len, List.length_map, List.length_map, List.length_take]; have := R2.out.2.2.2; omega) (by simp)
  rw [eC] at CC
  have CC2 : Hid (Calls Tryz.prog 29 #[.slice (some ⟨M, 0, none⟩) 2 2] w6 fun e w' => ∃ v, e = .returned v ∧ OwnS w6.heap.size w' v (sortS (l2.map (·.2.name)) ++ (t.take J.toNat).map (·.1.2.name)) ∧ Below w6.heap.size w6 w') := CC
  have HW6 : Hid (w5.alloc (.cells #[.slice qa la ca, .slice q5 m5 c5] SlS) = w6 ∧ w5.heap.size = M) := ⟨hw6.symm, hM.symm⟩
  have FIN : Hid (∀ v w7, OwnS w6.heap.size w7 v (sortS (l2.map (·.2.name)) ++ (t.take J.toNat).map (·.1.2.name)) → Below w6.heap.size w6 w7 → Planned w w7 s N l v3 v ∧ Below w.heap.size w w7) := by
    intro v w7 ho7 b7
    obtain ⟨st, sm, hpm, hm5, b5⟩ := HF5.out
    obtain ⟨ho4, b4, low4⟩ := HF4.out
    obtain ⟨ho3, b3⟩ := HF3.out
    have z2 := HB2.out.size
    have z4 := low4.size
    have z5 := b5.size
    have z6 := b6.size
    have l37 : Below w3.heap.size w3 w7 := b4.trans ((b5.trans ((b6.trans (b7.mono z6)).mono z5)).mono b4.size)
    have h2 : (l1.map (·.2)).filter isPod = l1.map (·.2) := by
      rw [List.filter_eq_self, R1.out.2.2.1]
      intro x hx
      have := (List.mem_filter.1 hx).2
      unfold isLive isOf at this
      rw [Bool.and_eq_true, Bool.and_eq_true] at this
      exact this.1.1
    have eK : K.toNat = min (N - t.length) 16 := by rw [HKJ.out.1, htl]; omega
    have eJ : J.toNat = min (t.length - N) 16 := by rw [HKJ.out.2, htl]; omega
    have eF : l2.map (·.2.name) = ((l.map (·.2)).filter (isFailed s)).map (·.name) := by rw [← R2.out.2.2.1, List.map_map]; rfl
    refine ⟨⟨p, t, st, sm, by rw [hpm, h2, R1.out.2.2.1], ?_, ?_⟩, HB2.out.trans ((b3.trans (l37.mono b3.size)).mono z2)⟩
    · have := ho3.out.below l37
      rw [eK] at this
      exact this.mono z2
    · rw [← eF, ← eJ]
      exact ho7.mono (by omega)
  clear hla hm5b hw6 b6 hM SR eC htl CC HA
  go_wp2_with fail
  rw [HW6.out.1, HW6.out.2]
  refine CC2.out.mono ?_
  rintro e w7 ⟨v7, rfl, ho7, b7⟩
  obtain ⟨F1, F2⟩ := FIN.out v7 w7 ho7 b7
  have F1 := Lib.hid F1
  have F2 := Lib.hid F2
  clear ho7 b7 FIN CC2 HW6 HF5 HF4 HF3 R1 R2 HO5 HB2
  go_wp2
  go_ret2
  exact ⟨⟨_, _, rfl, F1⟩, F2.out⟩
end Go.Proofs.YtbkoepghmcdnhaaGreatDoor.Rp
/- Pods: a pod's cells; a pod as an object by itself; pods.renew. -/
namespace Go.Proofs.YtbkoepghmcdnhaaGreatDoor.Po
open Go.RowKit Go.Shelf Go.Lib Go.Sort Go.Deep
open Go.Joins (cell_of_block unfrozen_of_block block_setCell)
set_option linter.unusedVariables false
set_option linter.unusedSimpArgs false
set_option maxRecDepth 20000

abbrev PT : TypeId := 38
abbrev OT : TypeId := 51
/-- The cells of a pod. -/
def PdS (w : World) (P : Array Value) (x : Pd) : Prop :=
  P.size = 10 ∧ P[0]? = some (.string x.own) ∧ P[1]? = some (.string x.node) ∧ P[2]? = some (.int .i64 x.ph) ∧ P[3]? = some (.int .i64 x.since) ∧ P[4]? = some (.int .i64 x.cpu) ∧ P[5]? = some (.int .i64 x.mem) ∧
  SlR 2 encL w P[6]? x.lab ∧ SlR 3 encR w P[7]? x.sel ∧ SlR 2 encL w P[8]? x.tol ∧ P[9]? = some (.int .i64 x.warm)
theorem PdS.below {w w' : World} {P : Array Value} {x : Pd} (h : PdS w P x) (hb : Below w.heap.size w w') : PdS w' P x := by
  obtain ⟨a0, a1, a2, a3, a4, a5, a6, a7, a8, a9, a10⟩ := h
  exact ⟨a0, a1, a2, a3, a4, a5, a6, a7.below hb, a8.below hb, a9.below hb, a10⟩
def NilP (P : Array Value) : Prop := ∀ i n c, i ∈ ([6, 7, 8] : List Nat) → P[i]? = some (.slice none n c) → c = 0
/-- Its rows lie in memory from N on. -/
def OwnP (N : Nat) (w : World) (x : Pd) (P : Array Value) : Prop := OwnC N w 101 2 encL P 6 x.lab ∧ OwnC N w 105 3 encR P 7 x.sel ∧ OwnC N w 101 2 encL P 8 x.tol
theorem OwnP.keep {N : Nat} {w w' : World} {x : Pd} {P : Array Value} (h : OwnP N w x P) (hw : ∀ g, N ≤ g → g < w.heap.size → w'.heap[g]? = w.heap[g]?) : OwnP N w' x P := ⟨h.1.keep hw rfl, h.2.1.keep hw rfl, h.2.2.keep hw rfl⟩
theorem OwnP.less {M N : Nat} {w : World} {x : Pd} {P : Array Value} (h : OwnP N w x P) (hm : M ≤ N) : OwnP M w x P := ⟨h.1.less hm, h.2.1.less hm, h.2.2.less hm⟩
theorem OwnP.nil {N : Nat} {w : World} {x : Pd} {P : Array Value} (h : OwnP N w x P) : NilP P := by
  intro i n c hi hc
  simp only [List.mem_cons, List.not_mem_nil, or_false] at hi
  rcases hi with rfl | rfl | rfl
  · exact OwnC.nil lenL h.1 n c hc
  · exact OwnC.nil lenR h.2.1 n c hc
  · exact OwnC.nil lenL h.2.2 n c hc
/-- It reads so wherever its rows are. -/
theorem PdS.own {N : Nat} {w0 w : World} {x : Pd} {P : Array Value} (h : PdS w0 P x) (o : OwnP N w x P) : PdS w P x := by
  obtain ⟨a0, a1, a2, a3, a4, a5, a6, a7, a8, a9, a10⟩ := h
  exact ⟨a0, a1, a2, a3, a4, a5, a6, OwnC.slr lenL o.1, OwnC.slr lenR o.2.1, OwnC.slr lenL o.2.2, a10⟩
theorem arr10 {D : Array Value} (h : D.size = 10) : ∃ d0 d1 d2 d3 d4 d5 d6 d7 d8 d9, D = #[d0, d1, d2, d3, d4, d5, d6, d7, d8, d9] := by
  obtain ⟨l⟩ := D
  match l, h with
  | [d0, d1, d2, d3, d4, d5, d6, d7, d8, d9], _ => exact ⟨d0, d1, d2, d3, d4, d5, d6, d7, d8, d9, rfl⟩
theorem PdS.one {w : World} {P : Array Value} {x : Pd} (h : PdS w P x) : P.all (·.oneCell') = true := by
  obtain ⟨a0, a1, a2, a3, a4, a5, a6, ⟨q7, c7, a7, _⟩, ⟨q8, c8, a8, _⟩, ⟨q9, c9, a9, _⟩, a10⟩ := h
  obtain ⟨d0, d1, d2, d3, d4, d5, d6, d7, d8, d9, rfl⟩ := arr10 a0
  simp at a1 a2 a3 a4 a5 a6 a7 a8 a9 a10
  subst a1 a2 a3 a4 a5 a6 a7 a8 a9 a10
  kernel_rfl
/-- An object that is but a pod. -/
def podC (k : Int) (nm : ByteArray) (v : Int) (P : Array Value) : Array Value := #[.int .i64 k, .string nm, .int .u64 v] ++ (zerC.extract 3 10 ++ P ++ zerC.extract 20 47)
def podO (k : Int) (nm : ByteArray) (v : Nat) (x : Pd) : Ob := ⟨k, nm, v, zerO.w, x, zerO.n, zerO.g, zerO.h⟩
theorem podC_lit (k : Int) (nm : ByteArray) (v : Int) (d0 d1 d2 d3 d4 d5 d6 d7 d8 d9 : Value) : podC k nm v #[d0, d1, d2, d3, d4, d5, d6, d7, d8, d9] = #[.int .i64 k, .string nm, .int .u64 v, .int .i64 0, .int .i64 0, .int .i64 0, .slice none 0 0, .slice none 0 0, .slice none 0 0, .int .i64 0, d0, d1, d2, d3, d4, d5, d6, d7, d8, d9, .string { data := #[] }, .int .i64 0, .int .i64 0, .slice none 0 0, .slice none 0 0, .int .i64 0, .bool false, .int .i64 0, .int .i64 0, .int .i64 0, .int .i64 0, .int .i64 0, .slice none 0 0, .slice none 0 0, .int .i64 0, .string { data := #[] }, .int .i64 0, .int .i64 0, .slice none 0 0, .int .i64 0, .int .i64 0, .int .i64 0, .slice none 0 0, .int .i64 0, .int .i64 0, .slice none 0 0, .slice none 0 0] := by kernel_rfl
theorem built0 {P : Array Value} (h : P.size = 10) : Tryz.prog.built OT [(4, .agg P)] = some (podC 0 ⟨#[]⟩ 0 P) := by
  obtain ⟨d0, d1, d2, d3, d4, d5, d6, d7, d8, d9, rfl⟩ := arr10 h
  kernel_rfl
theorem built1 {P : Array Value} (h : P.size = 10) : Tryz.prog.built OT [(0, .int .i64 1), (4, .agg P)] = some (podC 1 ⟨#[]⟩ 0 P) := by
  obtain ⟨d0, d1, d2, d3, d4, d5, d6, d7, d8, d9, rfl⟩ := arr10 h
  kernel_rfl
theorem built2 (nm : ByteArray) {P : Array Value} (h : P.size = 10) : Tryz.prog.built OT [(0, .int .i64 1), (1, .string nm), (4, .agg P)] = some (podC 1 nm 0 P) := by
  obtain ⟨d0, d1, d2, d3, d4, d5, d6, d7, d8, d9, rfl⟩ := arr10 h
  kernel_rfl
theorem obj_pod {w : World} {P : Array Value} {x : Pd} (h : PdS w P x) (k : Int) (nm : ByteArray) (v : Nat) (hv : v < 18446744073709551616) : ObjV w (podC k nm v P) (podO k nm v x) := by
  obtain ⟨a0, a1, a2, a3, a4, a5, a6, a7, a8, a9, a10⟩ := h
  obtain ⟨d0, d1, d2, d3, d4, d5, d6, d7, d8, d9, rfl⟩ := arr10 a0
  rw [podC_lit]
  have rL : SlR 2 encL w (some (.slice none 0 0)) [] := ⟨none, 0, rfl, RowR.nil _ _ _ _⟩
  have rR : SlR 3 encR w (some (.slice none 0 0)) [] := ⟨none, 0, rfl, RowR.nil _ _ _ _⟩
  have rM : SlR 3 encM w (some (.slice none 0 0)) [] := ⟨none, 0, rfl, RowR.nil _ _ _ _⟩
  have rP : SlR 3 encP w (some (.slice none 0 0)) [] := ⟨none, 0, rfl, RowR.nil _ _ _ _⟩
  have rS : SlR 3 encS w (some (.slice none 0 0)) [] := ⟨none, 0, rfl, RowR.nil _ _ _ _⟩
  exact ⟨rfl, ⟨rfl, rfl, rfl, hv⟩, ⟨rfl, rfl, rfl, rL, rR, rL, rfl⟩, ⟨a1, a2, a3, a4, a5, a6, a7, a8, a9, a10⟩, ⟨rfl, rfl, rfl, rL, rL, rfl, rfl⟩, ⟨rfl, rfl, rfl, rfl, rfl, rL, rL, rfl⟩, ⟨rfl, rfl, rfl, rM, rfl, rfl, rfl, rP, rfl, rfl, rP, rS⟩⟩
theorem nil_pod {P : Array Value} (hs : P.size = 10) (h : NilP P) (k : Int) (nm : ByteArray) (v : Int) : NilO (podC k nm v P) := by
  obtain ⟨d0, d1, d2, d3, d4, d5, d6, d7, d8, d9, rfl⟩ := arr10 hs
  rw [podC_lit]
  intro i n c hi hc
  simp only [rowsIx, List.mem_cons, List.not_mem_nil, or_false] at hi
  rcases hi with rfl | rfl | rfl | rfl | rfl | rfl | rfl | rfl | rfl | rfl | rfl | rfl | rfl | rfl
  · cases hc; rfl
  · cases hc; rfl
  · cases hc; rfl
  · exact h 6 n c (by decide) hc
  · exact h 7 n c (by decide) hc
  · exact h 8 n c (by decide) hc
  all_goals (cases hc; rfl)
theorem small_pod {x : Pd} (h : x.lab.length ≤ 1000 ∧ x.sel.length ≤ 1000 ∧ x.tol.length ≤ 1000) (k : Int) (nm : ByteArray) (v : Nat) : SmallO (podO k nm v x) :=
  ⟨Nat.zero_le _, Nat.zero_le _, Nat.zero_le _, h.1, h.2.1, h.2.2, Nat.zero_le _, Nat.zero_le _, Nat.zero_le _, Nat.zero_le _, Nat.zero_le _, Nat.zero_le _, Nat.zero_le _, Nat.zero_le _⟩
/-- The pod of an object. -/
theorem ext10 {cs : Array Value} (hs : cs.size = 47) (i : Nat) (hi : i < 10) : (cs.extract 10 20)[i]? = cs[10 + i]? := by
  rw [Array.getElem?_extract, if_pos (by omega)]
theorem ext_size {cs : Array Value} (hs : cs.size = 47) : (cs.extract 10 20).size = 10 := by simp; omega
theorem ext_pd {w : World} {cs : Array Value} {o : Ob} (hv : ObjV w cs o) : PdS w (cs.extract 10 20) o.p := by
  obtain ⟨hsz, _, _, ⟨c0, c1, c2, c3, c4, c5, c6, c7, c8, c9⟩, _⟩ := hv
  refine ⟨ext_size hsz, ?_, ?_, ?_, ?_, ?_, ?_, ?_, ?_, ?_, ?_⟩ <;> rw [ext10 hsz _ (by decide)] <;> assumption
theorem ext_nil {cs : Array Value} (hsz : cs.size = 47) (hn : NilO cs) : NilP (cs.extract 10 20) := by
  intro i n c hi h
  simp only [List.mem_cons, List.not_mem_nil, or_false] at hi
  rcases hi with rfl | rfl | rfl <;> rw [ext10 hsz _ (by decide)] at h
  · exact hn 16 n c (by decide) h
  · exact hn 17 n c (by decide) h
  · exact hn 18 n c (by decide) h
theorem ext_own {N : Nat} {w : World} {cs : Array Value} {o : Ob} (hsz : cs.size = 47) (h : ∀ i ∈ rowsIx, OwnAt N w o cs i) : OwnP N w o.p (cs.extract 10 20) := by
  have h6 : OwnC N w 101 2 encL cs 16 o.p.lab := h 16 (by decide)
  have h7 : OwnC N w 105 3 encR cs 17 o.p.sel := h 17 (by decide)
  have h8 : OwnC N w 101 2 encL cs 18 o.p.tol := h 18 (by decide)
  obtain ⟨v6, e6, o6⟩ := h6
  obtain ⟨v7, e7, o7⟩ := h7
  obtain ⟨v8, e8, o8⟩ := h8
  exact ⟨⟨v6, by rw [ext10 hsz _ (by decide)]; exact e6, o6⟩, ⟨v7, by rw [ext10 hsz _ (by decide)]; exact e7, o7⟩, ⟨v8, by rw [ext10 hsz _ (by decide)]; exact e8, o8⟩⟩
theorem ext_range {w : World} {b : Nat} {cs : Array Value} {T : TypeId} {fz : Nat × Nat} (hsz : cs.size = 47) (h : w.heap[b]? = some (.cells cs T fz)) : w.rangeAt b 10 (cs.extract 10 20).toList := fun j v hv => by
  have hj : j < 10 := by
    have := (List.getElem?_eq_some_iff.1 hv).1
    rw [Array.length_toList, ext_size hsz] at this
    exact this
  rw [Array.getElem?_toList, ext10 hsz j hj] at hv
  rw [cell_of_block h]
  exact hv
theorem info_pt : (Tryz.prog.info? PT).map (·.size) = some 10 := by kernel_rfl
theorem load_pd {w : World} {b : Nat} {P : Array Value} {T : TypeId} {fz : Nat × Nat} (h : w.heap[b]? = some (.cells P T fz)) (hs : P.size = 10) : (Instr.loadAt PT (.pointer (some ⟨b, 0, none⟩))).run Tryz.prog w = .ok (.agg P) w := by
  have h1 := run_loadAt_mid (P := Tryz.prog) w b 0 PT P.toList _ (Ld.rangeAt_block h) Tryz.underlying38 rfl (by rw [Array.length_toList, hs]; exact info_pt)
  simpa using h1
theorem load_in {w : World} {b : Nat} {cs : Array Value} {T : TypeId} {fz : Nat × Nat} (h : w.heap[b]? = some (.cells cs T fz)) (hs : cs.size = 47) : (Instr.loadAt PT (.pointer (some ⟨b, 10, none⟩))).run Tryz.prog w = .ok (.agg (cs.extract 10 20)) w := by
  have h1 := run_loadAt_mid (P := Tryz.prog) w b 10 PT (cs.extract 10 20).toList _ (ext_range hs h) Tryz.underlying38 rfl (by rw [Array.length_toList, ext_size hs]; exact info_pt)
  rwa [Array.toArray_toList] at h1
theorem field_pod (D : Array Value) (w : World) : (Instr.field OT (.agg D) 4).run Tryz.prog w = .ok (.agg (D.extract 10 20)) w := by kernel_rfl
/-- What is known to run, in a plain region. -/
theorem wpList_known {P : Program} {ops : Array Oper} {rest : List Oper} {o : Oper} {a : Act} {w w' : World} {v : Value} {Q : Exit → Act → World → Prop} (hw : Region.wanted o (yielded ops a.tmps) = true) (hr : (execOp a.eval o).run P w = .ok (.value v) w') (h : wpList P ops Q rest (a.put o.dst v) w') : wpList P ops Q (o :: rest) a w := by
  refine wpList_step fun K hK => ?_
  rw [if_pos hw]
  unfold Oper.wp
  rw [hr]
  exact hK _ _ h
theorem run_built {o : Oper} {ev : Operand → Value} {parts : Array (Nat × Operand)} {l : List (Nat × Value)} {C : Array Value} (ho : o.op = .build OT parts) (hp : (parts.map fun (i, x) => (i, ev x)).toList = l) (hc : Tryz.prog.built OT l = some C) (w : World) :
    (execOp ev o).run Tryz.prog w = .ok (.value (.agg C)) w := by
  rw [← hp] at hc
  unfold execOp
  simp only [ho, Sem.run_bind, run_build w _ _ _ hc, Result.andThen_ok]
  rfl
abbrev zerP : Array Value := #[.string { data := #[] }, .string { data := #[] }, .int .i64 0, .int .i64 0, .int .i64 0, .int .i64 0, .slice none 0 0, .slice none 0 0, .slice none 0 0, .int .i64 0]

set_option maxHeartbeats 4000000 in
theorem renew_any (w0 : World) (P0 : Array Value) (x : Pd) (hv : PdS w0 P0 x) (hn : NilP P0) (hs : x.lab.length ≤ 1000 ∧ x.sel.length ≤ 1000 ∧ x.tol.length ≤ 1000) :
    Calls Tryz.prog 58 #[.agg P0] w0 fun e w' => (∃ P, e = .returned (.agg P) ∧ PdS w' P x ∧ OwnP w0.heap.size w' x P) ∧ Below w0.heap.size w0 w' := by
  obtain ⟨B, hB⟩ : ∃ B, B = w0.heap.size := ⟨_, rfl⟩
  obtain ⟨w, hw⟩ : ∃ W, W = (w0.alloc (.cells P0 PT)).alloc (.cells zerP PT) := ⟨_, rfl⟩
  have G0 : Gr w0 w := hw ▸ ((Gr.refl w0).alloc _).alloc _
  have b0 : w.heap[B]? = some (.cells P0 PT (0, 0)) := by
    rw [hw, hB, ((Gr.refl (w0.alloc (.cells P0 PT))).alloc _).heap (by simp)]
    exact heap_alloc_new w0 _
  have b1 : w.heap[B + 1]? = some (.cells zerP PT (0, 0)) := by
    rw [hw, hB]
    have := heap_alloc_new (w0.alloc (.cells P0 PT)) (.cells zerP PT)
    simpa using this
  have hws : w.heap.size = B + 2 := by rw [hw, hB]; simp
  have LO := Lib.hid (load_pd b0 hv.1)
  have RB := Lib.hid (built0 hv.1)
  have HO : Hid (ObjV w (podC 0 ⟨#[]⟩ 0 P0) (podO 0 ⟨#[]⟩ 0 x)) := obj_pod (hv.below G0.below) 0 ⟨#[]⟩ 0 (by decide)
  have CC := Lib.hid (clone_any w (podC 0 ⟨#[]⟩ 0 P0) (podO 0 ⟨#[]⟩ 0 x) HO.out (nil_pod hv.1 hn _ _ _) (small_pod hs _ _ _))
  have HW := Lib.hid (And.intro hw (And.intro hB (And.intro hws (And.intro b1 G0))))
  obtain ⟨PC, hPC⟩ : ∃ C, C = podC 0 ⟨#[]⟩ 0 P0 := ⟨_, rfl⟩
  rw [← hPC] at RB CC HO
  clear hv hn hs hw hB hws b0 b1 G0 hPC
  go_enter Tryz.func58, Tryz.ntmps58
  go_upto_region 1 with fail
  rw [← HW.out.1, ← HW.out.2.1]
  go_wp2_with (first | (refine wpList_load_by (by kernel_rfl) PT _ rfl (.pointer (some ⟨B, 0, none⟩)) (.agg P0) (by kernel_rfl) LO.out ?_) | (refine wpList_known (by kernel_rfl) (run_built rfl (by kernel_rfl) RB.out _) ?_))
  refine CC.out.mono ?_
  rintro e m ⟨⟨D, rfl, hcs, hco, hci⟩, hb⟩
  have hws := HW.out.2.2.1
  have ov : ObjV m D (podO 0 ⟨#[]⟩ 0 x) := dup_obj HO.out hcs hco hci
  have hD : D.size = 47 := ov.1
  have pd : PdS m (D.extract 10 20) x := ext_pd ov
  have po : OwnP w.heap.size m x (D.extract 10 20) := ext_own (o := podO 0 ⟨#[]⟩ 0 x) hD hci
  obtain ⟨P, hP⟩ : ∃ P, P = D.extract 10 20 := ⟨_, rfl⟩
  have fp : ∀ ws : World, (Instr.field OT (.agg D) 4).run Tryz.prog ws = .ok (.agg P) ws := fun ws => hP ▸ field_pod D ws
  rw [← hP] at pd po
  have bm1 : m.heap[B + 1]? = some (.cells zerP PT (0, 0)) := (hb.block (B + 1) (by omega)).trans HW.out.2.2.2.1
  have TH := Lib.hid (Ld.there_block bm1 (n := P.size) (by rw [pd.1]; rfl))
  have IN : Hid ((Tryz.prog.info? PT).map (·.size) = some P.size) := by show _ = _; rw [pd.1]; exact info_pt
  have ON := Lib.hid pd.one
  have EB : Hid ((m.setCells (B + 1) 0 P.toList).heap[B + 1]? = some (.cells P PT (0, 0))) := Ld.laid bm1 (by rw [pd.1]; rfl)
  have EF : Hid ((∃ P', Ending.returned (.agg P) = .returned (.agg P') ∧ PdS (m.setCells (B + 1) 0 P.toList) P' x ∧ OwnP w0.heap.size (m.setCells (B + 1) 0 P.toList) x P') ∧ Below w0.heap.size w0 (m.setCells (B + 1) 0 P.toList)) := by
    have k : OwnP w.heap.size (m.setCells (B + 1) 0 P.toList) x P := po.keep (fun g h1 h2 => setCells_out _ _ _ _ _ (by omega))
    have hB := HW.out.2.1
    refine ⟨⟨P, rfl, pd.own k, k.less (by omega)⟩, ?_⟩
    have G0 := HW.out.2.2.2.2
    exact Ld.below_setCells _ _ _ (by omega) (G0.below.trans (hb.mono G0.size))
  clear hcs hco hci hb ov hD pd po hP bm1 hws HO CC LO RB
  go_wp2_with (refine wpList_store_mid rfl _ _ _ rfl (B + 1) 0 P (by rfl) (by rfl) TH.out IN.out ON.out ?_)
  refine bodyPost_ret (results_cell_row rfl _ _ (B + 1) PT P (0, 0) _ (by rfl) EB.out Tryz.underlying38 rfl IN.out) rfl ?_
  exact EF.out
end Go.Proofs.YtbkoepghmcdnhaaGreatDoor.Po
/- Pods: warmed; Next: how a pod gets on; the law's next; the chapter's example. -/
namespace Go.Proofs.YtbkoepghmcdnhaaGreatDoor.Po
open Go.RowKit Go.Shelf Go.Lib Go.Sort Go.Deep
open Go.Joins (cell_of_block unfrozen_of_block block_setCell)
set_option linter.unusedVariables false
set_option linter.unusedSimpArgs false
set_option maxRecDepth 20000

/-- Ticks that may be. -/
def Tk (x : Pd) : Prop := 0 ≤ x.since ∧ x.since ≤ 4611686018427387904 ∧ 0 ≤ x.warm ∧ x.warm ≤ 1800
def setPh (x : Pd) (a b : Int) : Pd := { x with ph := a, since := b }
/-- How a pod gets on. -/
def nxt (x : Pd) (now : Int) (there : Bool) : Pd :=
  if x.ph = 3 then x else if x.node.size ≠ 0 ∧ there = false then setPh x 3 now else if x.ph = 1 ∧ x.since + x.warm ≤ now then setPh x 2 (x.since + x.warm) else x
theorem nxt_rows (x : Pd) (now : Int) (there : Bool) : (nxt x now there).lab = x.lab ∧ (nxt x now there).sel = x.sel ∧ (nxt x now there).tol = x.tol ∧ (nxt x now there).warm = x.warm ∧ (nxt x now there).node = x.node ∧ (nxt x now there).own = x.own := by
  unfold nxt
  split
  · exact ⟨rfl, rfl, rfl, rfl, rfl, rfl⟩
  · split
    · exact ⟨rfl, rfl, rfl, rfl, rfl, rfl⟩
    · split <;> exact ⟨rfl, rfl, rfl, rfl, rfl, rfl⟩
theorem nxt_tk {x : Pd} (h : Tk x) {now : Int} (h0 : 0 ≤ now) (h1 : now ≤ 4611686018427387904) (there : Bool) : Tk (nxt x now there) := by
  unfold nxt
  unfold Tk at h
  split
  · exact h
  · split
    · exact ⟨h0, h1, h.2.2.1, h.2.2.2⟩
    · split
      · rename_i hh
        exact ⟨by show 0 ≤ x.since + x.warm; omega, by show x.since + x.warm ≤ _; omega, h.2.2.1, h.2.2.2⟩
      · exact h
/-- Behind that it stays. -/
theorem nxt_again (x : Pd) (now : Int) (there : Bool) : nxt (nxt x now there) now there = nxt x now there := by
  by_cases h3 : x.ph = 3
  · have e : nxt x now there = x := if_pos h3
    rw [e, e]
  · by_cases hn : x.node.size ≠ 0 ∧ there = false
    · have e : nxt x now there = setPh x 3 now := (if_neg h3).trans (if_pos hn)
      rw [e]
      exact if_pos rfl
    · by_cases hb : x.ph = 1 ∧ x.since + x.warm ≤ now
      · have e : nxt x now there = setPh x 2 (x.since + x.warm) := (if_neg h3).trans ((if_neg hn).trans (if_pos hb))
        rw [e]
        exact (if_neg (by show ¬ (2 : Int) = 3; decide)).trans ((if_neg hn).trans (if_neg (by show ¬ ((2 : Int) = 1 ∧ _); omega)))
      · have e : nxt x now there = x := (if_neg h3).trans ((if_neg hn).trans (if_neg hb))
        rw [e, e]
theorem set_pd {w : World} {P : Array Value} {x : Pd} (h : PdS w P x) (a b : Int) : PdS w ((P.setIfInBounds 2 (.int .i64 a)).setIfInBounds 3 (.int .i64 b)) (setPh x a b) := by
  obtain ⟨a0, a1, a2, a3, a4, a5, a6, a7, a8, a9, a10⟩ := h
  obtain ⟨d0, d1, d2, d3, d4, d5, d6, d7, d8, d9, rfl⟩ := arr10 a0
  exact ⟨rfl, a1, a2, rfl, rfl, a5, a6, a7, a8, a9, a10⟩
theorem set_own {N : Nat} {w : World} {P : Array Value} {x : Pd} (h : OwnP N w x P) (a b : Int) : OwnP N w (setPh x a b) ((P.setIfInBounds 2 (.int .i64 a)).setIfInBounds 3 (.int .i64 b)) := by
  have ne : ∀ i, 3 < i → ((P.setIfInBounds 2 (.int .i64 a)).setIfInBounds 3 (.int .i64 b))[i]? = P[i]? := fun i hi => by
    rw [Array.getElem?_setIfInBounds_ne (by omega), Array.getElem?_setIfInBounds_ne (by omega)]
  exact ⟨h.1.keep (fun _ _ _ => rfl) (ne 6 (by decide)), h.2.1.keep (fun _ _ _ => rfl) (ne 7 (by decide)), h.2.2.keep (fun _ _ _ => rfl) (ne 8 (by decide))⟩

/-- What a walk of Next ends with. -/
theorem next_end {w0 w3 : World} {B : Nat} {P : Array Value} {y : Pd} (hB : B = w0.heap.size) (b : w3.heap[B]? = some (.cells P PT (0, 0))) (b1 : w3.heap[B + 1]? = some (.cells zerP PT (0, 0))) (v : PdS w3 P y) (o : OwnP (B + 2) w3 y P) (low : Below w0.heap.size w0 w3) :
    Hid ((Instr.loadAt PT (.pointer (some ⟨B, 0, none⟩))).run Tryz.prog w3 = .ok (.agg P) w3) ∧ Hid (w3.there (B + 1) 0 P.size) ∧ Hid ((Tryz.prog.info? PT).map (·.size) = some P.size) ∧ Hid (P.all (·.oneCell') = true) ∧
    Hid ((w3.setCells (B + 1) 0 P.toList).heap[B + 1]? = some (.cells P PT (0, 0))) ∧ Hid ((∃ P', Ending.returned (.agg P) = .returned (.agg P') ∧ PdS (w3.setCells (B + 1) 0 P.toList) P' y ∧ OwnP w0.heap.size (w3.setCells (B + 1) 0 P.toList) y P') ∧ Below w0.heap.size w0 (w3.setCells (B + 1) 0 P.toList)) := by
  have k : OwnP (B + 2) (w3.setCells (B + 1) 0 P.toList) y P := o.keep (fun g h1 h2 => setCells_out _ _ _ _ _ (by omega))
  exact ⟨load_pd b v.1, Ld.there_block b1 (by rw [v.1]; rfl), by show _ = _; rw [v.1]; exact info_pt, v.one, Ld.laid b1 (by rw [v.1]; rfl), ⟨P, rfl, v.own k, k.less (by omega)⟩, Ld.below_setCells _ _ _ (by omega) low⟩

end Go.Proofs.YtbkoepghmcdnhaaGreatDoor.Po
/- Pods: the law's next; the chapter's example. -/
namespace Go.Proofs.YtbkoepghmcdnhaaGreatDoor.Po
open Go.RowKit Go.Shelf Go.Lib Go.Sort Go.Deep
open Go.Joins (cell_of_block unfrozen_of_block block_setCell)
set_option linter.unusedVariables false
set_option linter.unusedSimpArgs false
set_option maxRecDepth 20000

/-! ### the chapter's example -/
def exP : Pd := ⟨⟨#[97]⟩, ⟨#[110]⟩, 1, 5, 0, 0, [], [], [], 3⟩
abbrev exC : Array Value := #[.string { data := #[97] }, .string { data := #[110] }, .int .i64 1, .int .i64 5, .int .i64 0, .int .i64 0, .slice none 0 0, .slice none 0 0, .slice none 0 0, .int .i64 3]
theorem ex_pd (w : World) : PdS w exC exP := ⟨rfl, rfl, rfl, rfl, rfl, rfl, rfl, ⟨none, 0, rfl, RowR.nil _ _ _ _⟩, ⟨none, 0, rfl, RowR.nil _ _ _ _⟩, ⟨none, 0, rfl, RowR.nil _ _ _ _⟩, rfl⟩
theorem ex_nil : NilP exC := by
  intro i n c hi hc
  simp only [List.mem_cons, List.not_mem_nil, or_false] at hi
  rcases hi with rfl | rfl | rfl <;> (cases hc; rfl)
theorem ex_8 : nxt exP 8 true = setPh exP 2 8 := (if_neg (by decide)).trans ((if_neg (by decide)).trans (if_pos (by decide)))
theorem ex_7 : nxt exP 7 true = exP := (if_neg (by decide)).trans ((if_neg (by decide)).trans (if_neg (by decide)))
theorem field_ph {w : World} {P : Array Value} {x : Pd} (h : PdS w P x) (ws : World) : (Instr.field PT (.agg P) 2).run Tryz.prog ws = .ok (.int .i64 x.ph) ws := by
  obtain ⟨a0, a1, a2, a3, _⟩ := h
  obtain ⟨d0, d1, d2, d3, d4, d5, d6, d7, d8, d9, rfl⟩ := arr10 a0
  simp at a3
  subst a3
  kernel_rfl
theorem built_ex : Tryz.prog.built PT [(0, .string { data := #[97] }), (1, .string { data := #[110] }), (2, .int .i64 1), (3, .int .i64 5), (8, .int .i64 3)] = some exC := by kernel_rfl
theorem run_builtP {o : Oper} {ev : Operand → Value} {parts : Array (Nat × Operand)} {l : List (Nat × Value)} {C : Array Value} (ho : o.op = .build PT parts) (hp : (parts.map fun (i, x) => (i, ev x)).toList = l) (hc : Tryz.prog.built PT l = some C) (w : World) :
    (execOp ev o).run Tryz.prog w = .ok (.value (.agg C)) w := by
  rw [← hp] at hc
  unfold execOp
  simp only [ho, Sem.run_bind, run_build w _ _ _ hc, Result.andThen_ok]
  rfl
/-- A pod is stored into a new variable of its own. -/
theorem new_pd {w : World} {P : Array Value} {x : Pd} (hv : PdS w P x) (hn : NilP P) :
    Hid ((w.alloc (.cells zerP PT)).there w.heap.size 0 P.size) ∧ Hid ((Tryz.prog.info? PT).map (·.size) = some P.size) ∧ Hid (P.all (·.oneCell') = true) ∧ ∃ w1, (w.alloc (.cells zerP PT)).setCells w.heap.size 0 P.toList = w1 ∧ w1.heap[w.heap.size]? = some (.cells P PT (0, 0)) ∧ Below w.heap.size w w1 ∧ w1.heap.size = w.heap.size + 1 := by
  have b := heap_alloc_new w (.cells zerP PT)
  refine ⟨Ld.there_block b (by rw [hv.1]; rfl), by show _ = _; rw [hv.1]; exact info_pt, hv.one, _, rfl, Ld.laid b (by rw [hv.1]; rfl), ?_, by rw [setCells_size]; simp⟩
  exact Ld.below_setCells _ _ _ (Nat.le_refl _) ((Gr.refl w).alloc _).below

/-- Two objects laid into two variables of the call's own. -/
theorem two_ob {w w1 : World} {p q : Nat} {CA CB : Array Value} (b : Below w.heap.size w w1) (hp : w1.heap[p]? = some (.cells zerC OT (0, 0))) (hq : w1.heap[q]? = some (.cells zerC OT (0, 0))) (hne : p ≠ q) (lp : w.heap.size ≤ p) (lq : w.heap.size ≤ q) (ha : CA.size = 47) (hb : CB.size = 47) :
    w1.there p 0 47 ∧ (w1.setCells p 0 CA.toList).there q 0 47 ∧ Below w.heap.size w (w1.setCells p 0 CA.toList) ∧ ((w1.setCells p 0 CA.toList).setCells q 0 CB.toList).heap[p]? = some (.cells CA OT (0, 0)) ∧ ((w1.setCells p 0 CA.toList).setCells q 0 CB.toList).heap[q]? = some (.cells CB OT (0, 0)) ∧ Below w.heap.size w ((w1.setCells p 0 CA.toList).setCells q 0 CB.toList) := by
  have hq1 : (w1.setCells p 0 CA.toList).heap[q]? = some (.cells zerC OT (0, 0)) := by rw [setCells_out _ _ _ _ _ (fun e => hne e.symm)]; exact hq
  have b1 : Below w.heap.size w (w1.setCells p 0 CA.toList) := Ld.below_setCells _ _ _ lp b
  exact ⟨Ld.there_block hp rfl, Ld.there_block hq1 rfl, b1, by rw [setCells_out _ _ _ _ _ hne]; exact Ld.laid hp (by rw [ha]; rfl), Ld.laid hq1 (by rw [hb]; rfl), Ld.below_setCells _ _ _ lq b1⟩
end Go.Proofs.YtbkoepghmcdnhaaGreatDoor.Po
/- Pods: a workload's cells; a workload as an object by itself; pods.Made; the document's Same. -/
namespace Go.Proofs.YtbkoepghmcdnhaaGreatDoor.Po
open Go.RowKit Go.Shelf Go.Lib Go.Sort Go.Deep
open Go.Joins (cell_of_block unfrozen_of_block block_setCell)
set_option linter.unusedVariables false
set_option linter.unusedSimpArgs false
set_option maxRecDepth 20000

abbrev WT : TypeId := 36
/-- The cells of a workload. -/
def WlS (w : World) (P : Array Value) (x : Wl) : Prop :=
  P.size = 7 ∧ P[0]? = some (.int .i64 x.rep) ∧ P[1]? = some (.int .i64 x.cpu) ∧ P[2]? = some (.int .i64 x.mem) ∧ SlR 2 encL w P[3]? x.lab ∧ SlR 3 encR w P[4]? x.sel ∧ SlR 2 encL w P[5]? x.tol ∧ P[6]? = some (.int .i64 x.warm)
theorem WlS.below {w w' : World} {P : Array Value} {x : Wl} (h : WlS w P x) (hb : Below w.heap.size w w') : WlS w' P x := by
  obtain ⟨a0, a1, a2, a3, a4, a5, a6, a7⟩ := h
  exact ⟨a0, a1, a2, a3, a4.below hb, a5.below hb, a6.below hb, a7⟩
def NilW (P : Array Value) : Prop := ∀ i n c, i ∈ ([3, 4, 5] : List Nat) → P[i]? = some (.slice none n c) → c = 0
theorem arr7 {D : Array Value} (h : D.size = 7) : ∃ d0 d1 d2 d3 d4 d5 d6, D = #[d0, d1, d2, d3, d4, d5, d6] := by
  obtain ⟨l⟩ := D
  match l, h with
  | [d0, d1, d2, d3, d4, d5, d6], _ => exact ⟨d0, d1, d2, d3, d4, d5, d6, rfl⟩
/-- An object that is but a workload. -/
def wkC (nm : ByteArray) (P : Array Value) : Array Value := #[.int .i64 0, .string nm, .int .u64 0] ++ (P ++ zerC.extract 10 47)
def wkO (nm : ByteArray) (x : Wl) : Ob := ⟨0, nm, 0, x, zerO.p, zerO.n, zerO.g, zerO.h⟩
theorem wkC_lit (nm : ByteArray) (d0 d1 d2 d3 d4 d5 d6 : Value) : wkC nm #[d0, d1, d2, d3, d4, d5, d6] = #[.int .i64 0, .string nm, .int .u64 0, d0, d1, d2, d3, d4, d5, d6, .string { data := #[] }, .string { data := #[] }, .int .i64 0, .int .i64 0, .int .i64 0, .int .i64 0, .slice none 0 0, .slice none 0 0, .slice none 0 0, .int .i64 0, .string { data := #[] }, .int .i64 0, .int .i64 0, .slice none 0 0, .slice none 0 0, .int .i64 0, .bool false, .int .i64 0, .int .i64 0, .int .i64 0, .int .i64 0, .int .i64 0, .slice none 0 0, .slice none 0 0, .int .i64 0, .string { data := #[] }, .int .i64 0, .int .i64 0, .slice none 0 0, .int .i64 0, .int .i64 0, .int .i64 0, .slice none 0 0, .int .i64 0, .int .i64 0, .slice none 0 0, .slice none 0 0] := by kernel_rfl
theorem built3 (nm : ByteArray) {P : Array Value} (h : P.size = 7) : Tryz.prog.built OT [(0, .int .i64 0), (1, .string nm), (3, .agg P)] = some (wkC nm P) := by
  obtain ⟨d0, d1, d2, d3, d4, d5, d6, rfl⟩ := arr7 h
  kernel_rfl
theorem info_wt : (Tryz.prog.info? WT).map (·.size) = some 7 := by kernel_rfl
theorem load_wl {w : World} {b : Nat} {P : Array Value} {T : TypeId} {fz : Nat × Nat} (h : w.heap[b]? = some (.cells P T fz)) (hs : P.size = 7) : (Instr.loadAt WT (.pointer (some ⟨b, 0, none⟩))).run Tryz.prog w = .ok (.agg P) w := by
  have h1 := run_loadAt_mid (P := Tryz.prog) w b 0 WT P.toList _ (Ld.rangeAt_block h) Tryz.underlying36 rfl (by rw [Array.length_toList, hs]; exact info_wt)
  simpa using h1
/-- A pod as a workload asks for it. -/
def mdP (x : Wl) (own : ByteArray) (now : Int) : Pd := ⟨own, ⟨#[]⟩, 0, now, x.cpu, x.mem, x.lab, x.sel, x.tol, x.warm⟩
theorem built_md (own : ByteArray) (now cpu mem : Int) (q4 q5 q6 : Option Addr) (n4 n5 n6 k4 k5 k6 : Nat) (warm : Int) : Tryz.prog.built PT [(0, .string own), (2, .int .i64 0), (3, .int .i64 now), (4, .agg #[.int .i64 cpu, .int .i64 mem]), (5, .slice q4 n4 k4), (6, .slice q5 n5 k5), (7, .slice q6 n6 k6), (8, .int .i64 warm)] = some #[.string own, .string { data := #[] }, .int .i64 0, .int .i64 now, .int .i64 cpu, .int .i64 mem, .slice q4 n4 k4, .slice q5 n5 k5, .slice q6 n6 k6, .int .i64 warm] := by kernel_rfl

set_option maxHeartbeats 4000000 in
theorem made_any (w0 : World) (P0 : Array Value) (x : Wl) (own : ByteArray) (now : Int) (hv : WlS w0 P0 x) (hn : NilW P0) (hs : x.lab.length ≤ 1000 ∧ x.sel.length ≤ 1000 ∧ x.tol.length ≤ 1000) :
    Calls Tryz.prog 39 #[.agg P0, .string own, .int .i64 now] w0 fun e w' => (∃ P, e = .returned (.agg P) ∧ PdS w' P (mdP x own now) ∧ OwnP w0.heap.size w' (mdP x own now) P) ∧ Below w0.heap.size w0 w' := by
  obtain ⟨B, hB⟩ : ∃ B, B = w0.heap.size := ⟨_, rfl⟩
  obtain ⟨w, hw⟩ : ∃ W, W = (w0.alloc (.cells P0 WT)).alloc (.cells zerP PT) := ⟨_, rfl⟩
  have G0 : Gr w0 w := hw ▸ ((Gr.refl w0).alloc _).alloc _
  have b0 : w.heap[B]? = some (.cells P0 WT (0, 0)) := by
    rw [hw, hB, ((Gr.refl (w0.alloc (.cells P0 WT))).alloc _).heap (by simp)]
    exact heap_alloc_new w0 _
  have b1 : w.heap[B + 1]? = some (.cells zerP PT (0, 0)) := by
    rw [hw, hB]
    have := heap_alloc_new (w0.alloc (.cells P0 WT)) (.cells zerP PT)
    simpa using this
  have hws : w.heap.size = B + 2 := by rw [hw, hB]; simp
  obtain ⟨a0, a1, a2, a3, ⟨q4, k4, a4, r4⟩, ⟨q5, k5, a5, r5⟩, ⟨q6, k6, a6, r6⟩, a7⟩ := hv.below G0.below
  have c1 : w.cell? ⟨B, 1, none⟩ = some (.int .i64 x.cpu) := (cell_of_block b0 1).trans a2
  have c2 : w.cell? ⟨B, 2, none⟩ = some (.int .i64 x.mem) := (cell_of_block b0 2).trans a3
  have c3 : w.cell? ⟨B, 3, none⟩ = some (.slice q4 x.lab.length k4) := (cell_of_block b0 3).trans a4
  have c4 : w.cell? ⟨B, 4, none⟩ = some (.slice q5 x.sel.length k5) := (cell_of_block b0 4).trans a5
  have c5 : w.cell? ⟨B, 5, none⟩ = some (.slice q6 x.tol.length k6) := (cell_of_block b0 5).trans a6
  have c6 : w.cell? ⟨B, 6, none⟩ = some (.int .i64 x.warm) := (cell_of_block b0 6).trans a7
  obtain ⟨MC, hMC⟩ : ∃ C : Array Value, C = #[.string own, .string { data := #[] }, .int .i64 0, .int .i64 now, .int .i64 x.cpu, .int .i64 x.mem, .slice q4 x.lab.length k4, .slice q5 x.sel.length k5, .slice q6 x.tol.length k6, .int .i64 x.warm] := ⟨_, rfl⟩
  have pm : PdS w MC (mdP x own now) := by
    rw [hMC]
    exact ⟨rfl, rfl, rfl, rfl, rfl, rfl, rfl, ⟨q4, k4, rfl, r4⟩, ⟨q5, k5, rfl, r5⟩, ⟨q6, k6, rfl, r6⟩, rfl⟩
  have nm : NilP MC := by
    rw [hMC]
    intro i n c hi hc
    simp only [List.mem_cons, List.not_mem_nil, or_false] at hi
    rcases hi with rfl | rfl | rfl
    · exact hn 3 n c (by decide) (a4.trans hc)
    · exact hn 4 n c (by decide) (a5.trans hc)
    · exact hn 5 n c (by decide) (a6.trans hc)
  have RB := Lib.hid (built_md own now x.cpu x.mem q4 q5 q6 x.lab.length x.sel.length x.tol.length k4 k5 k6 x.warm)
  rw [← hMC] at RB
  have CC := Lib.hid (renew_any w MC (mdP x own now) pm nm hs)
  have HW := Lib.hid (And.intro hw (And.intro hB (And.intro hws (And.intro b1 G0))))
  obtain ⟨y, hy⟩ : ∃ y, y = mdP x own now := ⟨_, rfl⟩
  rw [← hy] at CC ⊢
  clear hv hn hs hw hB hws b0 b1 G0 hMC pm nm a0 a1 a2 a3 a4 a5 a6 a7 r4 r5 r6 hy
  go_enter Tryz.func39, Tryz.ntmps39
  go_upto_region 1 with fail
  rw [← HW.out.1, ← HW.out.2.1]
  go_wp2_with (first | (refine wpList_known (by kernel_rfl) (run_builtP rfl (by kernel_rfl) RB.out _) ?_))
  refine CC.out.mono ?_
  rintro e m ⟨⟨P, rfl, pd, po⟩, hb⟩
  have hws := HW.out.2.2.1
  have bm1 : m.heap[B + 1]? = some (.cells zerP PT (0, 0)) := (hb.block (B + 1) (by omega)).trans HW.out.2.2.2.1
  have TH := Lib.hid (Ld.there_block bm1 (n := P.size) (by rw [pd.1]; rfl))
  have IN : Hid ((Tryz.prog.info? PT).map (·.size) = some P.size) := by show _ = _; rw [pd.1]; exact info_pt
  have ON := Lib.hid pd.one
  have EB : Hid ((m.setCells (B + 1) 0 P.toList).heap[B + 1]? = some (.cells P PT (0, 0))) := Ld.laid bm1 (by rw [pd.1]; rfl)
  have EF : Hid ((∃ P', Ending.returned (.agg P) = .returned (.agg P') ∧ PdS (m.setCells (B + 1) 0 P.toList) P' y ∧ OwnP w0.heap.size (m.setCells (B + 1) 0 P.toList) y P') ∧ Below w0.heap.size w0 (m.setCells (B + 1) 0 P.toList)) := by
    have k : OwnP w.heap.size (m.setCells (B + 1) 0 P.toList) y P := po.keep (fun g h1 h2 => setCells_out _ _ _ _ _ (by omega))
    have hB := HW.out.2.1
    refine ⟨⟨P, rfl, pd.own k, k.less (by omega)⟩, ?_⟩
    have G0 := HW.out.2.2.2.2
    exact Ld.below_setCells _ _ _ (by omega) (G0.below.trans (hb.mono G0.size))
  clear pd po hb bm1 hws CC RB
  go_wp2_with (refine wpList_store_mid rfl _ _ _ rfl (B + 1) 0 P (by rfl) (by rfl) TH.out IN.out ON.out ?_)
  refine bodyPost_ret (results_cell_row rfl _ _ (B + 1) PT P (0, 0) _ (by rfl) EB.out Tryz.underlying38 rfl IN.out) rfl ?_
  exact EF.out

/-! ### the document's Same of two rows that say the same -/
end Go.Proofs.YtbkoepghmcdnhaaGreatDoor.Po
/- Layer 15 (victim): the chapter's example. -/
namespace Go.Proofs.YtbkoepghmcdnhaaGreatDoor.Vi
open Go.RowKit Go.Shelf Go.Lib Go.Sort Go.Deep
open Go.Joins (cell_of_block unfrozen_of_block block_setCell)
open Go.Proofs.YtbkoepghmcdnhaaGreatDoor.Ow
set_option linter.unusedVariables false
set_option linter.unusedSimpArgs false
set_option maxRecDepth 20000

/-- The example's pods. -/
def exP (ph : Int) : Array Value := #[.string { data := #[] }, .string { data := #[] }, .int .i64 ph, .int .i64 0, .int .i64 0, .int .i64 0, .slice none 0 0, .slice none 0 0, .slice none 0 0, .int .i64 0]
def exC (nm : ByteArray) (ph : Int) : Array Value := #[.int .i64 1, .string nm, .int .u64 0, .int .i64 0, .int .i64 0, .int .i64 0, .slice none 0 0, .slice none 0 0, .slice none 0 0, .int .i64 0, .string { data := #[] }, .string { data := #[] }, .int .i64 ph, .int .i64 0, .int .i64 0, .int .i64 0, .slice none 0 0, .slice none 0 0, .slice none 0 0, .int .i64 0, .string { data := #[] }, .int .i64 0, .int .i64 0, .slice none 0 0, .slice none 0 0, .int .i64 0, .bool false, .int .i64 0, .int .i64 0, .int .i64 0, .int .i64 0, .int .i64 0, .slice none 0 0, .slice none 0 0, .int .i64 0, .string { data := #[] }, .int .i64 0, .int .i64 0, .slice none 0 0, .int .i64 0, .int .i64 0, .int .i64 0, .slice none 0 0, .int .i64 0, .int .i64 0, .slice none 0 0, .slice none 0 0]
def exO (nm : ByteArray) (ph : Int) : Ob := { zerO with kind := 1, name := nm, p := { zerO.p with ph := ph } }
theorem ex_size (nm : ByteArray) (ph : Int) : (exC nm ph).size = 47 := rfl
theorem ex_obj (w : World) (nm : ByteArray) (ph : Int) : ObjV w (exC nm ph) (exO nm ph) := by
  have rL : SlR 2 encL w (some (.slice none 0 0)) [] := ⟨none, 0, rfl, RowR.nil _ _ _ _⟩
  have rR : SlR 3 encR w (some (.slice none 0 0)) [] := ⟨none, 0, rfl, RowR.nil _ _ _ _⟩
  have rM : SlR 3 encM w (some (.slice none 0 0)) [] := ⟨none, 0, rfl, RowR.nil _ _ _ _⟩
  have rP : SlR 3 encP w (some (.slice none 0 0)) [] := ⟨none, 0, rfl, RowR.nil _ _ _ _⟩
  have rS : SlR 3 encS w (some (.slice none 0 0)) [] := ⟨none, 0, rfl, RowR.nil _ _ _ _⟩
  exact ⟨rfl, ⟨rfl, rfl, rfl, (by decide : (0 : Nat) < 18446744073709551616)⟩, ⟨rfl, rfl, rfl, rL, rR, rL, rfl⟩, ⟨rfl, rfl, rfl, rfl, rfl, rfl, rL, rR, rL, rfl⟩, ⟨rfl, rfl, rfl, rL, rL, rfl, rfl⟩, ⟨rfl, rfl, rfl, rfl, rfl, rL, rL, rfl⟩, ⟨rfl, rfl, rfl, rM, rfl, rfl, rfl, rP, rfl, rfl, rP, rS⟩⟩
theorem ex_one (nm : ByteArray) (ph : Int) : (exC nm ph).all (·.oneCell') = true := objV_one (ex_obj default nm ph)
theorem ex_nil (nm : ByteArray) (ph : Int) : NilO (exC nm ph) := by
  intro i n c hi hc
  simp only [rowsIx, List.mem_cons, List.not_mem_nil, or_false] at hi
  rcases hi with rfl | rfl | rfl | rfl | rfl | rfl | rfl | rfl | rfl | rfl | rfl | rfl | rfl | rfl
  all_goals (cases hc; rfl)
theorem ex_fit (nm : ByteArray) (ph : Int) : FitO (exO nm ph) := ⟨by show (0 : Nat) * 32 ≤ 140737488351232; decide, by show (0 : Nat) * 24 ≤ 140737488351232; decide, by show (0 : Nat) * 24 ≤ 140737488351232; decide, by show (0 : Nat) * 24 ≤ 140737488351232; decide⟩
def exA : Obv := (⟨exC { data := #[97] } 2, ex_size _ _, ex_one _ _⟩, exO { data := #[97] } 2)
def exB : Obv := (⟨exC { data := #[98] } 0, ex_size _ _, ex_one _ _⟩, exO { data := #[98] } 0)
/-- What is known to run, in a plain region. -/
theorem wpList_known {P : Program} {ops : Array Oper} {rest : List Oper} {o : Oper} {a : Act} {w w' : World} {v : Value} {Q : Exit → Act → World → Prop} (hw : Region.wanted o (yielded ops a.tmps) = true) (hr : (execOp a.eval o).run P w = .ok (.value v) w') (h : wpList P ops Q rest (a.put o.dst v) w') : wpList P ops Q (o :: rest) a w := by
  refine wpList_step fun K hK => ?_
  rw [if_pos hw]
  unfold Oper.wp
  rw [hr]
  exact hK _ _ h
theorem run_built {T : TypeId} {o : Oper} {ev : Operand → Value} {parts : Array (Nat × Operand)} {l : List (Nat × Value)} {C : Array Value} (ho : o.op = .build T parts) (hp : (parts.map fun (i, x) => (i, ev x)).toList = l) (hc : Tryz.prog.built T l = some C) (w : World) :
    (execOp ev o).run Tryz.prog w = .ok (.value (.agg C)) w := by
  rw [← hp] at hc
  unfold execOp
  simp only [ho, Sem.run_bind, run_build w _ _ _ hc, Result.andThen_ok]
  rfl
theorem built_p (ph : Int) : Tryz.prog.built 38 [(2, .int .i64 ph)] = some (exP ph) := by kernel_rfl
theorem built_o (nm : ByteArray) (ph : Int) : Tryz.prog.built OT [(0, .int .i64 1), (1, .string nm), (4, .agg (exP ph))] = some (exC nm ph) := by kernel_rfl
theorem two {α : Type} {l : List α} (h : l.length = 2) : ∃ a b, l = [a, b] := by
  match l, h with
  | [a, b], _ => exact ⟨a, b, rfl⟩
/-- Of the example's two pods the pending one goes first. -/
theorem ex_first {p s : List El} (hs : Sorted s) (sm : Same1 p s) (hp : p.map (·.1.2) = [exO { data := #[97] } 2, exO { data := #[98] } 0]) : ∃ y, s.take 1 = [y] ∧ y.1.2.name = { data := #[98] } := by
  have hl : s.length = 2 := by
    have h1 := congrArg List.length hp
    have h2 := sm.1.length_eq
    simp at h1
    omega
  have hlp : p.length = 2 := by
    have h1 := congrArg List.length hp
    simpa using h1
  obtain ⟨pa, pb, rfl⟩ := two hlp
  obtain ⟨x, y, rfl⟩ := two hl
  simp only [List.map_cons, List.map_nil, List.cons.injEq, and_true] at hp
  obtain ⟨ha, hb⟩ := hp
  have lba : lt pb pa := by
    have e1 : pb.1.2.p.ph = 0 := by rw [hb]; rfl
    have e2 : pa.1.2.p.ph = 2 := by rw [ha]; rfl
    exact lt_iff.2 (.inl (by rw [e1, e2]; decide))
  have mx : x ∈ [pa, pb] := sm.1.mem_iff.2 (by simp)
  have mb : pb ∈ [x, y] := sm.1.mem_iff.1 (by simp)
  simp only [List.mem_cons, List.not_mem_nil, or_false] at mx mb
  have hxy : ¬ lt y x := by
    have := List.pairwise_cons.1 hs
    exact this.1 y (by simp)
  refine ⟨x, rfl, ?_⟩
  rcases mx with rfl | rfl
  · rcases mb with h | h
    · exfalso
      rw [h] at lba
      exact lt_irr _ lba
    · rw [← h] at hxy
      exact absurd lba hxy
  · rw [hb]
    rfl
/-- A slice literal of two whole structs, at the list of a plain region's operations. -/
theorem wpList_build2 {P : Program} {ops : Array Oper} {rest : List Oper} {o : Oper} {a : Act} {w : World} {Q : Exit → Act → World → Prop} (hw : Region.wanted o (yielded ops a.tmps) = true) (t e : TypeId) (x y : Operand) (ho : o.op = .buildSlice t 2 #[(0, x), (1, y)]) (z : Value) (s : Nat) (X Y : Array Value) (hx : a.eval x = .agg X) (hy : a.eval y = .agg Y) (hX : X.size = s) (hY : Y.size = s) (h0 : 0 < s) (h1 : s ≤ 1000000)
    (hu : P.underlying t = some (.slice e)) (hinfo : (P.info? e).map (fun i => (i.zero, i.size)) = some (some z, s)) (k : wpList P ops Q rest (a.put o.dst (.slice (some ⟨w.heap.size, 0, none⟩) 2 2)) (w.alloc (.cells (X ++ Y) e))) : wpList P ops Q (o :: rest) a w := by
  refine wpList_step fun K hK => ?_
  rw [if_pos hw]
  cases hie : P.info? e with
  | none => rw [hie] at hinfo; cases hinfo
  | some i =>
    rw [hie] at hinfo
    simp only [Option.map_some, Option.some.injEq, Prod.mk.injEq] at hinfo
    obtain ⟨hz, hs⟩ := hinfo
    refine wp_buildSlice t e 2 _ ho (X ++ Y) i z hu hie hz (by rw [hs]; omega) (by rw [hs]; omega) ?_ (hK _ _ k)
    have hc : (Value.agg X).cells = X := rfl
    have hc2 : (Value.agg Y).cells = Y := rfl
    have := Great.fill_whole h0 [Value.agg X, Value.agg Y] ((Array.range (2 * i.size)).map (z.cells[· % z.cells.size]!)) (fun v hv => by
      simp only [List.mem_cons, List.not_mem_nil, or_false] at hv
      rcases hv with rfl | rfl
      · rw [hc]; exact hX
      · rw [hc2]; exact hY) (by simp [hs])
    rw [hs] at this ⊢
    have e : (X.toList ++ Y.toList).toArray = X ++ Y := by
      apply Array.toList_inj.1
      simp
    simp [hx, hy, hc, hc2] at this ⊢
    rw [this, e]
end Go.Proofs.YtbkoepghmcdnhaaGreatDoor.Vi
/- Layer 16 (replica): the chapter's example. -/
namespace Go.Proofs.YtbkoepghmcdnhaaGreatDoor.Rp
open Go.RowKit Go.Shelf Go.Lib Go.Sort Go.Deep
open Go.Joins (cell_of_block unfrozen_of_block block_setCell)
open Go.Proofs.YtbkoepghmcdnhaaGreatDoor.Ow Go.Proofs.YtbkoepghmcdnhaaGreatDoor.Vi
set_option linter.unusedVariables false
set_option linter.unusedSimpArgs false
set_option maxRecDepth 20000

abbrev tApp : ByteArray := { data := #[97, 112, 112] }
def exW : Array Value := #[.int .i64 2, .int .i64 0, .int .i64 0, .slice none 0 0, .slice none 0 0, .slice none 0 0, .int .i64 0]
def exWC : Array Value := #[.int .i64 0, .string { data := #[97, 112, 112] }, .int .u64 0, .int .i64 2, .int .i64 0, .int .i64 0, .slice none 0 0, .slice none 0 0, .slice none 0 0, .int .i64 0] ++ zerC.extract 10 47
def exWO : Ob := { zerO with kind := 0, name := tApp, w := { zerO.w with rep := 2 } }
theorem exW_obj (w : World) : ObjV w exWC exWO := by
  have rL : SlR 2 encL w (some (.slice none 0 0)) [] := ⟨none, 0, rfl, RowR.nil _ _ _ _⟩
  have rR : SlR 3 encR w (some (.slice none 0 0)) [] := ⟨none, 0, rfl, RowR.nil _ _ _ _⟩
  have rM : SlR 3 encM w (some (.slice none 0 0)) [] := ⟨none, 0, rfl, RowR.nil _ _ _ _⟩
  have rP : SlR 3 encP w (some (.slice none 0 0)) [] := ⟨none, 0, rfl, RowR.nil _ _ _ _⟩
  have rS : SlR 3 encS w (some (.slice none 0 0)) [] := ⟨none, 0, rfl, RowR.nil _ _ _ _⟩
  exact ⟨rfl, ⟨rfl, rfl, rfl, (by decide : (0 : Nat) < 18446744073709551616)⟩, ⟨rfl, rfl, rfl, rL, rR, rL, rfl⟩, ⟨rfl, rfl, rfl, rfl, rfl, rfl, rL, rR, rL, rfl⟩, ⟨rfl, rfl, rfl, rL, rL, rfl, rfl⟩, ⟨rfl, rfl, rfl, rfl, rfl, rL, rL, rfl⟩, ⟨rfl, rfl, rfl, rM, rfl, rfl, rfl, rP, rfl, rfl, rP, rS⟩⟩
theorem built_w : Tryz.prog.built 36 [(0, .int .i64 2)] = some exW := by kernel_rfl
theorem built_wo : Tryz.prog.built OT [(0, .int .i64 0), (1, .string { data := #[97, 112, 112] }), (3, .agg exW)] = some exWC := by kernel_rfl
theorem okApp : okNm tApp = true := by decide +kernel
theorem frees_app : frees tApp [] 2 = [⟨#[97, 112, 112, 45, 48, 48, 48, 48]⟩, ⟨#[97, 112, 112, 45, 48, 48, 48, 49]⟩] := by
  have h : (List.range 2).filter (fr tApp []) = [0, 1] := by
    rw [List.filter_eq_self.2]
    · rfl
    · intro x _
      unfold fr
      simp
  rw [frees_at okApp (n := 2) (by decide) (by rw [h]; decide) (.inr (by rw [h]; rfl)), h]
  decide +kernel
set_option maxHeartbeats 4000000 in
theorem rlives (w : World) (hT : Tab w) : Calls Tryz.prog 5 #[] w fun e w' => e = .returned (.bool true) ∧ Below w.heap.size w w' := by
  have CP := Lib.hid (plan_any w exWC exWO 2 none 0 0 [] (exW_obj w) rfl rfl (by decide) (by decide) rfl (RowR.nil _ _ _ _) (by simp) (by decide) hT)
  have BW := Lib.hid built_w
  have BO := Lib.hid built_wo
  obtain ⟨X, hX⟩ : ∃ X, X = exWC := ⟨_, rfl⟩
  rw [← hX] at CP BO
  clear hX hT
  go_enter Tryz.func5, Tryz.ntmps5
  go_wp2_with (first | (refine wpList_known (by kernel_rfl) (run_built rfl (by kernel_rfl) BW.out _) ?_) | (refine wpList_known (by kernel_rfl) (run_built rfl (by kernel_rfl) BO.out _) ?_))
  refine CP.out.mono ?_
  rintro e w1 ⟨⟨v1, v2, rfl, HP⟩, b1⟩
  obtain ⟨p, t, st, sm, hp, o1, o2⟩ := HP.out
  have ht : t = [] := by
    have h1 : p.length = 0 := by
      have := congrArg List.length hp
      rw [List.length_map] at this
      exact this
    have h2 := sm.1.length_eq
    exact List.eq_nil_of_length_eq_zero (by omega)
  subst ht
  have e1 : frees exWO.name (takenOf exWO.name (([] : List Obv).map (·.2))) (min (2 - ([] : List El).length) 16) = [⟨#[97, 112, 112, 45, 48, 48, 48, 48]⟩, ⟨#[97, 112, 112, 45, 48, 48, 48, 49]⟩] := frees_app
  have e2 : sortS (((([] : List Obv).map (·.2)).filter (isFailed exWO.name)).map (·.name)) ++ (([] : List El).take (min (([] : List El).length - 2) 16)).map (·.1.2.name) = [] := by
    show sortS [] ++ _ = []
    rw [List.eq_nil_of_length_eq_zero (sortS_len [])]
    rfl
  rw [e1] at o1
  rw [e2] at o2
  obtain ⟨q1, c1, rfl, _, s1⟩ := o1.slc
  obtain ⟨q2, c2, rfl, _, _⟩ := o2.slc
  obtain ⟨g, off, rfl, hg, k0⟩ := s1 0 _ rfl
  obtain ⟨g', off', eg, _, k1⟩ := s1 1 _ rfl
  simp only [Option.some.injEq, Addr.mk.injEq] at eg
  obtain ⟨rfl, rfl, _⟩ := eg
  rw [Nat.add_zero] at k0
  have B1 := Lib.hid b1
  clear HP st sm hp o1 o2 e1 e2 s1 hg b1 BW BO CP
  go_wp2_with fail
  go_ret
  exact ⟨by first | rfl | (simp; done), B1.out⟩
end Go.Proofs.YtbkoepghmcdnhaaGreatDoor.Rp
/- Arguments that nobody turned read again as they did: the last step of a law over arguments of whatever shape. -/
namespace Go.Proofs.YtbkoepghmcdnhaaGreatDoor
open Go.RowKit Go.WideShapes Go.ChangeShapes

theorem all_again {H : Type} {enc : TypeId × Value → H} {P : Program} (hl : laidOutB P = true) {W W' : World} (hb : Below W.heap.size W W') {sp : Nat → Bool} :
    ∀ (ts : List TypeId) (vs : List Value) (ds : List (DataW H)) (ps : List MemPlace), (∀ t ∈ ts, P.readableRec t = true ∧ t < P.types.size) →
      DataW.TrodAll enc P W 0 (fun _ => true) true ts vs ds ps → (∀ p ∈ ps, p.block < W.heap.size) → (∀ p ∈ ps, sp p.block = true) → DataW.TrodAll enc P W' 0 sp true ts vs ds ps := by
  intro ts
  induction ts with
  | nil =>
    intro vs ds ps _ h _ _
    cases vs <;> cases ds <;> first | exact h | exact h.elim
  | cons t ts ih =>
    intro vs ds ps ht h hlt hsp
    obtain ⟨v, vs', d, ds', p, q, rfl, rfl, rfl, h1, h2⟩ := trodAll_cons h
    refine ⟨p, q, ?_, ih _ _ _ (fun t' h' => ht t' (List.mem_cons_of_mem _ h')) h2 (fun x hx => hlt x (List.mem_append_right _ hx)) (fun x hx => hsp x (List.mem_append_right _ hx)), rfl⟩
    have h3 := ht t List.mem_cons_self
    exact WideElems.Trod_stays hl h3.1 h3.2 h1 (fun x hx => hb.same (hlt x (List.mem_append_left _ hx))) (fun x hx => hsp x (List.mem_append_left _ hx))

end Go.Proofs.YtbkoepghmcdnhaaGreatDoor
/- The last step of a law over plain arguments: what was there before the call reads as it did, if nothing below the heap's old end has turned. -/
namespace Go.Proofs.YtbkoepghmcdnhaaGreatDoor
open Go.RowKit Go.WideShapes Go.ChangeShapes

theorem post_below {H : Type} {enc : TypeId × Value → H} {P : Program} {f : Func} {s : ChangeSpec} {apart fresh handsOn again : Bool} {W W' : World} {args : Array Value} {v : Value} {ds gs : List (DataW H)} {before : List MemPlace}
    (hW : DataW.Whole enc P f.params.toList s.vars apart W args.toList ds gs before) (hb : Below W.heap.size W W')
    (hres : ∀ (b : Nat) (sp : Nat → Bool) (hd : Bool), DataW.TrodAll enc P W' b sp hd f.resultTypes.toList (v.resultList f.resultTypes.size) (s.fn H (ds ++ gs)).results [])
    (hargs : ∀ sp : Nat → Bool, (∀ p ∈ before, sp p.block = true) → DataW.TrodAll enc P W' 0 sp true f.params.toList args.toList (s.fn H (ds ++ gs)).args before)
    (hvars : ∀ sp : Nat → Bool, DataW.TrodVars enc P W' sp s.vars (s.fn H (ds ++ gs)).vars [])
    (hok : ∀ (j : Nat) (t : TypeId) (r : Value), f.resultTypes[j]? = some t → (v.resultList f.resultTypes.size)[j]? = some r → Value.okWide P W' .any 0 t r) :
    s.post enc P f apart fresh handsOn again W args v W' := by
  have hsp : ∀ p ∈ before, (fun b => decide (b < W.heap.size)) p.block = true := fun p hp => by simpa using hW.lt p hp
  refine ⟨ds, gs, before, [], before, [], hW, hres _ _ _, hargs _ hsp, hvars _, World.keptBut_mono (fun p hp => ⟨hp, .inr (.inl hp)⟩) (hb.frame (· ∈ before)), fun _ => ?_⟩
  have hlt : ∀ p ∈ before, p.block < W.heap.size := fun p hp => hW.lt p hp
  obtain ⟨_, _, _, _, _, hz, hn⟩ := hW
  refine ⟨hok, _, _, ([] ++ before) ++ [], ⟨[] ++ before, [], trodAll_append (hargs _ (fun _ _ => rfl)) (hres _ _ _), hvars _, rfl, fun b off hp => ?_, fun ha => by simpa using hn ha⟩, fun p hp _ => by simpa using hp⟩
  have hin : MemPlace.cell b off ∈ before := by simpa using hp
  rw [hb.frozen (hlt _ hin)]
  exact hz b off hin

/-- A number of 64 bits as a natural one. -/
theorem nat_of_wf {a : Int} (h : (Lit.int .u64 a).wf = true) : ∃ n : Nat, a = (n : Int) ∧ n < 18446744073709551616 := by
  have h2 : 0 ≤ a ∧ a < 18446744073709551616 := by
    simp [Lit.wf, IntKind.min, IntKind.max, IntKind.signed, IntKind.bits] at h
    omega
  exact ⟨a.toNat, by omega, by omega⟩
end Go.Proofs.YtbkoepghmcdnhaaGreatDoor
