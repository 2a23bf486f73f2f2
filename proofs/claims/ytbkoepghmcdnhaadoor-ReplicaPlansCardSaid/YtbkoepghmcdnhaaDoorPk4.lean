/- Layer 16 (replica): an owner's names of the least numbers that no pod of a row has (replica.free). -/
import Derived.Test.YtbkoepghmcdnhaaDoorPk1
import Derived.Test.YtbkoepghmcdnhaaDoorPk3
import Derived.Test.YtbkoepghmcdnhaaDoorViB
import Derived.Maps.OwnOps
import Derived.Maps.OwnSet
import Derived.Maps.Views
import Derived.StringKeys
namespace Go.Proofs.YtbkoepghmcdnhaaDoor.Rp
open Go.RowKit Go.Shelf Go.Lib Go.Sort Go.Deep Go.Maps
open Go.WideMaps (keyOf_string_mk)
open Go.Joins (cell_of_block unfrozen_of_block block_setCell)
open Go.Proofs.YtbkoepghmcdnhaaDoor.Ow Go.Proofs.YtbkoepghmcdnhaaDoor.Vi
set_option linter.unusedVariables false
set_option linter.unusedSimpArgs false
set_option maxRecDepth 20000

theorem var_belowT {w w' : World} {n : String} {cs : Array Value} (h : w.var? Tryd.prog n = some cs) (hb : Below w.heap.size w w') : w'.var? Tryd.prog n = some cs := by
  unfold World.var? at h ⊢
  cases hg : Tryd.prog.globalNamed n with
  | none => simp [hg] at h
  | some g =>
    simp only [hg, Option.bind_some] at h ⊢
    have hlt : g < w.heap.size := by
      rcases Nat.lt_or_ge g w.heap.size with h' | h'
      · exact h'
      · simp [Array.getElem?_eq_none h'] at h
    rw [hb.block g hlt]
    exact h
theorem Tab.below {w w' : World} (h : Tab w) (hb : Below w.heap.size w w') : Tab w' := var_belowT h hb

/-- Does a pod hold its number, so far as this owner's go? (All but the owner's failed ones.) -/
def takes (s : ByteArray) (o : Ob) : Bool := isPod o && !(isFailed s o)
def fr (s : ByteArray) (T : List Nmb) (n : Nat) : Bool := decide ((pname s n).data.toList ∉ T)
/-- The least names that are free, so many at most. -/
def frees (s : ByteArray) (T : List Nmb) (k : Nat) : List ByteArray := if okNm s = true then (((List.range 10000).filter (fr s T)).take k).map (pname s) else []

/-! ### a map that counts texts -/
theorem lawT : Keyed Tryd.prog StT := string_keyed Tryd.underlying9
theorem zeroI (w : World) : (zeroValue 3).run Tryd.prog w = .ok (.int .i64 0) w := by kernel_rfl
theorem litT_inj {a b : Int} (h : (DataW.lit (.int .i64 a) : DataW Unit) = .lit (.int .i64 b)) : b = a := by cases h; rfl
theorem isKeyT {x : Nmb} : WideAt.IsKeyLit (.string x) := by simp [WideAt.IsKeyLit]
def CntS (w : World) (B n : Nat) (T : List Nmb) : Prop :=
  ∃ D : DataW Unit, w.ownsMap Tryd.prog StT (plainElem Tryd.prog 3) B n D ∧ IsMap D ∧ ∀ y : Nmb, D.atKey (.string y) (.lit (.int .i64 0)) = .lit (.int .i64 ((T.count y : Nat) : Int))
theorem CntS.below {w w' : World} {B n : Nat} {T : List Nmb} (h : CntS w B n T) (hb : Below w.heap.size w w') : CntS w' B n T := by
  obtain ⟨D, h1, h2, h3⟩ := h
  refine ⟨D, ?_, h2, h3⟩
  exact h1.kept (row := none) ⟨hb.os, hb.tape, hb.output, hb.size, fun i hi _ => hb.block i hi⟩ (by simp)
theorem CntS.mono {w : World} {B n n' : Nat} {T : List Nmb} (h : CntS w B n T) (hn : n ≤ n') : CntS w B n' T := by
  obtain ⟨D, h1, h2, h3⟩ := h
  exact ⟨D, h1.mono hn, h2, h3⟩
theorem CntS.put {w1 : World} {B n : Nat} {T : List Nmb} {D : DataW Unit} {x : Nmb} {v : Int} (hD : IsMap D) (hf : ∀ y : Nmb, D.atKey (.string y) (.lit (.int .i64 0)) = .lit (.int .i64 ((T.count y : Nat) : Int)))
    (hw : w1.ownsMap Tryd.prog StT (plainElem Tryd.prog 3) B n (D.put (.string x) (.lit (.int .i64 v)))) (hv : v = ((T.count x : Nat) : Int) + 1) : CntS w1 B n (T ++ [x]) := by
  refine ⟨_, hw, hD.put _ _, fun y => ?_⟩
  rw [List.count_append]
  by_cases h : y = x
  · subst h
    rw [List.count_singleton_self, atKey_put_same hD isKeyT, hv]
    push_cast
    rfl
  · rw [List.count_eq_zero_of_not_mem (l := [x]) (by simpa using h), Nat.add_zero, ← hf y]
    exact atKey_put_other (by intro e; injection e with e; exact h e) _ _

def takenOf (s : ByteArray) (l : List Ob) : List Nmb := (l.filter (takes s)).map (·.name.data.toList)
theorem taken_add {s : ByteArray} {l : List Obv} {j : Nat} {x : Obv} (hx : l[j]? = some x) : takenOf s ((l.take (j + 1)).map (·.2)) = takenOf s ((l.take j).map (·.2)) ++ (if takes s x.2 = true then [x.2.name.data.toList] else []) := by
  unfold takenOf
  rw [List.take_add_one, hx, List.map_append, List.filter_append, List.map_append]
  congr 1
  by_cases h : takes s x.2 = true
  · rw [if_pos h]; simp [h]
  · rw [if_neg h]; simp [h]
theorem frees_zero {s : ByteArray} {T : List Nmb} : frees s T 0 = [] := by
  unfold frees
  split
  · simp
  · rfl
theorem frees_at {s : ByteArray} {T : List Nmb} {n k : Nat} (hs : okNm s = true) (hn : n ≤ 10000) (hc : ((List.range n).filter (fr s T)).length ≤ k) (h : n = 10000 ∨ ((List.range n).filter (fr s T)).length = k) : frees s T k = ((List.range n).filter (fr s T)).map (pname s) := by
  unfold frees
  rw [if_pos hs, filter_cut hn hc h]

set_option maxHeartbeats 8000000 in
theorem free_any (w : World) (s : ByteArray) (q : Option Addr) (n c : Nat) (l : List Obv) (k : Int) (hn : n = l.length) (hr : RowR 47 encOb w q l) (hok : ∀ x ∈ l, ObjV w x.1.1 x.2 ∧ x.2.name.size ≤ maxLen) (hlen : n < 1000000) (hs : s.size ≤ maxLen) (hT : Tab w) (hk : k ≤ 16) :
    Calls Tryd.prog 18 #[.string s, .slice q n c, .int .i64 k] w fun e w' => (∃ v, e = .returned v ∧ Hid (OwnS w.heap.size w' v (frees s (takenOf s (l.map (·.2))) k.toNat))) ∧ Below w.heap.size w w' := by
  by_cases hk1 : k < 1
  · have t1 : decide (k < 1) = true := decide_eq_true hk1
    have e0 : k.toNat = 0 := by omega
    have F : Hid (frees s (takenOf s (l.map (·.2))) k.toNat = []) := by show _ = _; rw [e0]; exact frees_zero
    clear hn hr hok hT e0 hk1
    go_enter Tryd.func18, Tryd.ntmps18
    go_wp2
    go_ret
    exact ⟨⟨_, rfl, by rw [F.out]; exact OwnS.nil _ _⟩, Below.refl _ _⟩
  obtain ⟨m, hm⟩ : ∃ m : Nat, k = (m : Int) := ⟨k.toNat, by omega⟩
  subst hm
  have t1 : decide ((m : Int) < 1) = false := decide_eq_false hk1
  have hm16 : m ≤ 16 := by omega
  have hm1 : Hid (1 ≤ m) := by show _ ≤ _; omega
  have HT := Lib.hid hT
  obtain ⟨B, hB⟩ : ∃ B, B = w.heap.size := ⟨_, rfl⟩
  obtain ⟨w1, hw1⟩ : ∃ W, W = w.alloc (.map #[] 0) := ⟨_, rfl⟩
  have bw1 : Below w.heap.size w w1 := by rw [hw1]; exact ((Gr.refl w).alloc _).below
  have C0 : Hid (CntS w1 B 0 []) := by
    rw [hw1, hB]
    exact ⟨.map [], World.ownsMap_made _ _ _ _, isMap_empty, fun y => rfl⟩
  have hBw : Hid (B = w.heap.size) := hB
  have HW1 : Hid (w.alloc (.map #[] 0) = w1 ∧ w.heap.size = B) := ⟨hw1.symm, hB.symm⟩
  have BW1 := Lib.hid bw1
  have HH := Lib.hid (And.intro hr (And.intro hok (And.intro hn hs)))
  have hmm := @run_makeMap Tryd.prog
  clear hr hok hn hs hT hk hk1 hB hw1 bw1
  go_enter Tryd.func18, Tryd.ntmps18
  go_wp2_with fail
  rw [HW1.out.1, HW1.out.2]
  go_loopg [19] n (fun g1 vi wr => ∃ j : Nat, vi = .int .i64 (j : Int) ∧ j ≤ n ∧ n - j ≤ g1 ∧ Hid (CntS wr B j (takenOf s ((l.take j).map (·.2)))) ∧ Hid (Below w.heap.size w wr))
  case atStart => exact ⟨0, rfl, Nat.zero_le _, by omega, C0.out, BW1.out⟩
  case round =>
    obtain ⟨j, rfl, h1, h2, HC, HB⟩ := hrel
    by_cases hlt : j < n
    · obtain ⟨hr, hok, hn, hs⟩ := HH.out
      obtain ⟨x, hx⟩ : ∃ x, l[j]? = some x := ⟨l[j]'(by omega), List.getElem?_eq_getElem (by omega)⟩
      obtain ⟨b, off, rfl, _, _⟩ := hr j x hx
      obtain ⟨hbl, hra⟩ := rangeAt_obs hr hx
      have LD := Lib.hid (load_at (x := x) (rangeAt_below hra HB.out hbl))
      obtain ⟨okv, okn⟩ := hok x (List.mem_of_getElem? hx)
      obtain ⟨X, hX⟩ : ∃ X, X = x.1.1 := ⟨_, rfl⟩
      obtain ⟨o, ho⟩ : ∃ o, o = x.2 := ⟨_, rfl⟩
      rw [← hX] at LD okv
      rw [← ho] at okv okn
      have ON := Lib.hid (objV_one okv)
      obtain ⟨th, inn, el⟩ := el_new wr X okv.1
      have TH := Lib.hid th
      have IN := Lib.hid inn
      obtain ⟨w3, hw3⟩ : ∃ W', W' = (wr.alloc (.cells zerC OT)).setCells wr.heap.size 0 X.toList := ⟨_, rfl⟩
      obtain ⟨O, hO⟩ : ∃ A, A = wr.heap.size := ⟨_, rfl⟩
      have HW3 : Hid ((wr.alloc (.cells zerC OT)).setCells wr.heap.size 0 X.toList = w3 ∧ wr.heap.size = O) := ⟨hw3.symm, hO.symm⟩
      rw [← hw3, ← hO] at el
      obtain ⟨kd, hkd⟩ : ∃ a, a = o.kind := ⟨_, rfl⟩
      obtain ⟨nm, hnm⟩ : ∃ a, a = o.name := ⟨_, rfl⟩
      obtain ⟨ow, how⟩ : ∃ a, a = o.p.own := ⟨_, rfl⟩
      obtain ⟨ph, hph⟩ : ∃ a, a = o.p.ph := ⟨_, rfl⟩
      have d0 : w3.cell? ⟨O, 0, none⟩ = some (.int .i64 kd) := by rw [hkd]; exact (cell_of_block el.blk 0).trans okv.2.1.1
      have d1 : w3.cell? ⟨O, 1, none⟩ = some (.string nm) := by rw [hnm]; exact (cell_of_block el.blk 1).trans okv.2.1.2.1
      have d10 : w3.cell? ⟨O, 10, none⟩ = some (.string ow) := by rw [how]; exact (cell_of_block el.blk 10).trans okv.2.2.2.1.1
      have d12 : w3.cell? ⟨O, 12, none⟩ = some (.int .i64 ph) := by rw [hph]; exact (cell_of_block el.blk 12).trans okv.2.2.2.1.2.2.1
      have B3 : Hid (Below w.heap.size w w3) := HB.out.trans (el.low.mono HB.out.size)
      have HC3 : Hid (CntS w3 B j (takenOf s ((l.take j).map (·.2)))) := HC.out.below el.low
      have TK : Hid (takenOf s ((l.take (j + 1)).map (·.2)) = takenOf s ((l.take j).map (·.2)) ++ (if takes s o = true then [nm.data.toList] else [])) := by
        show _ = _
        rw [taken_add hx, ho, hnm, ho]
      have TKS : Hid (takes s o = (decide (kd = 1) && !((decide (kd = 1) && (ow.toList == s.toList)) && decide (ph = 3)))) := by
        show _ = _
        unfold takes isFailed isOf isPod
        rw [hkd, how, hph]
      have HKY : Hid (keyOf Tryd.prog StT (.string nm) = some (.string nm.data.toList)) := keyOf_string_mk Tryd.underlying9 (by rw [hnm]; exact okn)
      clear hr hok hn hs hx hbl hra okv okn hX ho th inn el hw3 hO HC HB hkd hnm how hph
      go_upto_region 7 with (first | (refine wpList_load_by (by kernel_rfl) OT _ rfl (.pointer (some ⟨b, off + j * 47, none⟩)) (.agg X) (by first | rfl | (simp; done)) LD.out ?_) | (refine wpList_store_mid rfl _ _ _ rfl wr.heap.size 0 X (by rfl) (by rfl) TH.out IN.out ON.out ?_; rw [HW3.out.1, HW3.out.2]))
      clear TH IN ON HW3 LD
      cases htk : takes s o with
      | false =>
        have HC4 : Hid (CntS w3 B (j + 1) (takenOf s ((l.take (j + 1)).map (·.2)))) := by
          have := TK.out
          rw [htk, if_neg (by decide), List.append_nil] at this
          rw [this]
          exact HC3.out.mono (Nat.le_succ _)
        have cases3 : kd ≠ 1 ∨ (kd = 1 ∧ ow = s ∧ ph = 3) := by
          have := TKS.out
          rw [htk] at this
          by_cases a : kd = 1
          · refine .inr ⟨a, ?_⟩
            rw [decide_eq_true a, Bool.true_and, Bool.true_and, byte_beq] at this
            have e := Eq.symm this
            rw [Bool.not_eq_false', Bool.and_eq_true, decide_eq_true_eq, decide_eq_true_eq] at e
            exact e
          · exact .inl a
        clear HC3 TK TKS htk d1 HKY
        rcases cases3 with hk1 | ⟨rfl, rfl, rfl⟩
        · have t2 : (kd == 1) = false := by rw [beq_eq_false_iff_ne]; exact hk1
          clear hk1
          go_wp2
          go_roundg (n - (j + 1))
          case measure => omega
          case rel => exact ⟨j + 1, by push_cast; rfl, by omega, by omega, HC4, B3⟩
        · have t3 : (!ow.toList == ow.toList) = false := by simp
          go_wp2
          go_roundg (n - (j + 1))
          case measure => omega
          case rel => exact ⟨j + 1, by push_cast; rfl, by omega, by omega, HC4, B3⟩
      | true =>
        have TK2 : Hid (takenOf s ((l.take (j + 1)).map (·.2)) = takenOf s ((l.take j).map (·.2)) ++ [nm.data.toList]) := by
          have := TK.out
          rw [htk, if_pos rfl] at this
          exact this
        have cases3 : kd = 1 ∧ (ow ≠ s ∨ (ow = s ∧ ph ≠ 3)) := by
          have := TKS.out
          rw [htk] at this
          by_cases a : kd = 1
          · refine ⟨a, ?_⟩
            rw [decide_eq_true a, Bool.true_and, Bool.true_and, byte_beq] at this
            by_cases b : ow = s
            · refine .inr ⟨b, fun e => ?_⟩
              rw [decide_eq_true b, decide_eq_true e] at this
              cases this
            · exact .inl b
          · rw [decide_eq_false a] at this
            cases this
        obtain ⟨rfl, hc3⟩ := cases3
        obtain ⟨D, hown, hD, hf⟩ := HC3.out
        have HD := Lib.hid hD
        have HF := Lib.hid hf
        obtain ⟨cn, hcn⟩ : ∃ a : Nat, a = (takenOf s ((l.take j).map (·.2))).count nm.data.toList := ⟨_, rfl⟩
        have hcle : cn ≤ j := by
          rw [hcn]
          refine Nat.le_trans List.count_le_length ?_
          unfold takenOf
          rw [List.length_map]
          refine Nat.le_trans (List.length_filter_le _ _) ?_
          rw [List.length_map, List.length_take]
          omega
        have HA : Hid (D.atKey (.string nm.data.toList) (.lit (.int .i64 0)) = .lit (.int .i64 (cn : Int))) := by
          show _ = _
          rw [hcn]
          exact hf _
        have HCN := Lib.hid hcn
        have t9 : IntKind.i64.wrap ((cn : Int) + 1) = (cn : Int) + 1 := by rw [IntKind.wrap_i64]; omega
        have FIN : ∀ w5, w5.ownsMap Tryd.prog StT (plainElem Tryd.prog 3) B (j + 1) (D.put (.string nm.data.toList) (.lit (.int .i64 ((cn : Int) + 1)))) → w3.grownBy w5 (some B) → Hid (CntS w5 B (j + 1) (takenOf s ((l.take (j + 1)).map (·.2)))) ∧ Hid (Below w.heap.size w w5) := fun w5 h5 g5 => by
          refine ⟨?_, B3.out.grown g5 B3.out.size (fun k e => by have := hBw.out; have e := Option.some.inj e; omega)⟩
          show CntS _ _ _ _
          rw [TK2.out]
          exact CntS.put HD.out HF.out h5 (by rw [HCN.out])
        have HFIN := Lib.hid FIN
        have key : (ow != s) = true ∨ ((!ow.toList == s.toList) = false ∧ (ph != 3) = true) ∨ (!ow.toList == s.toList) = true := by
          rcases hc3 with h | ⟨h, h'⟩
          · exact .inr (.inr (by rw [byte_beq, decide_eq_false h]; rfl))
          · exact .inr (.inl ⟨by rw [h]; simp, by rw [bne_iff_ne]; exact h'⟩)
        have key2 : ((!ow.toList == s.toList) = false ∧ (ph != 3) = true) ∨ (!ow.toList == s.toList) = true := by
          rcases hc3 with h | ⟨h, h'⟩
          · exact .inr (by rw [byte_beq, decide_eq_false h]; rfl)
          · exact .inl ⟨by rw [h]; simp, by rw [bne_iff_ne]; exact h'⟩
        clear HC3 TK TKS htk hD hf hcn FIN hc3 key
        rcases key2 with ⟨t3, t4⟩ | t3
        all_goals
          go_wp2_with (first
            | (at_lookup; refine wpList_lookup_own_int _ rfl _ _ 84 rfl StT 3 .i64 lawT Tryd.underlying84 Tryd.underlying3 (zeroI _) B j D rfl hown _ _ rfl HKY.out ?_; intro cc hat hwc; obtain rfl := litT_inj (HA.out.symm.trans hat); clear hat hwc)
            | (at_mapUpdate; refine wpList_mapUpdate_own _ rfl _ _ _ 84 rfl StT 3 lawT Tryd.underlying84 _ B j D rfl hown (by unfold maxLen; omega) _ _ _ rfl rfl HKY.out _ [] (plainElem_int Tryd.underlying3 (WalkArith.wf_i64 (by omega))) ?_; intro w5 hown1 hgrow1; obtain ⟨F1, F2⟩ := HFIN.out w5 hown1 hgrow1; clear hown1 hgrow1))
          go_roundg (n - (j + 1))
          case measure => omega
          case rel => exact ⟨j + 1, by push_cast; rfl, by omega, by omega, F1, F2⟩
    · obtain rfl : j = n := by omega
      have HTK : Hid (takenOf s ((l.take j).map (·.2)) = takenOf s (l.map (·.2))) := by
        show _ = _
        rw [List.take_of_length_le (by have := HH.out.2.2.1; omega)]
      have HC2 := Lib.hid (HTK.out ▸ HC.out)
      clear HTK HC
      go_wp2_with fail
      obtain ⟨T, hTT⟩ : ∃ T, T = takenOf s (l.map (·.2)) := ⟨_, rfl⟩
      have FR : ∀ i, fr s (takenOf s (l.map (·.2))) i = fr s T i := fun i => by rw [hTT]
      rw [← hTT] at HC2
      have HTE := Lib.hid hTT
      obtain ⟨wp, rfl⟩ : ∃ W, W = wr := ⟨wr, rfl⟩
      have hsz := HB.out.size
      have HB1 := Lib.hid HB.out
      clear hTT FR HB
      go_loopg [10, 11, 12, 13] 10001 (fun g1 v10 v11 _ _ wr => ∃ i r : Nat, v11 = .int .i64 (i : Int) ∧ i ≤ 10000 ∧ 10001 - i ≤ g1 ∧ r ≤ m ∧ Hid (((List.range i).filter (fr s T)).length = r ∧ (okNm s = true ∨ i = 0)) ∧ (∃ q5 c5, v10 = .slice q5 r c5) ∧ Hid (OwnS wp.heap.size wr v10 (((List.range i).filter (fr s T)).map (pname s))) ∧ Hid (Below wp.heap.size wp wr))
      case atStart => exact ⟨0, 0, rfl, by omega, by omega, Nat.zero_le _, ⟨rfl, .inr rfl⟩, ⟨none, 0, rfl⟩, OwnS.nil _ _, Below.refl _ _⟩
      case round =>
        obtain ⟨i, r, rfl, hi, hg1, hrm, HR, ⟨q5, c5, rfl⟩, HO, HBQ⟩ := hrel
        by_cases hlt2 : r < m
        · by_cases hfar : i = 10000
          · subst hfar
            have CN := Lib.hid (pod_far wr s 10000 (by omega))
            have RES : Hid (r = ((List.range 10000).filter (fr s T)).length ∧ okNm s = true) := by
              obtain ⟨a, b⟩ := HR.out
              exact ⟨a.symm, b.resolve_right (by omega)⟩
            clear HR
            go_wp2_with fail
            refine CN.out.mono ?_
            rintro e w2 ⟨rfl, b2⟩
            have FIN : Hid (OwnS w.heap.size w2 (.slice q5 r c5) (frees s (takenOf s (l.map (·.2))) m)) ∧ Hid (Below w.heap.size w w2) := by
              refine ⟨?_, HB1.out.trans ((HBQ.out.trans (b2.mono HBQ.out.size)).mono HB1.out.size)⟩
              show OwnS _ _ _ _
              rw [← HTE.out, frees_at RES.out.2 (Nat.le_refl _) (by rw [← RES.out.1]; exact hrm) (.inl rfl)]
              exact (HO.out.below b2).mono hsz
            obtain ⟨F1, F2⟩ := FIN
            clear CN RES b2 HO HBQ HB1 HC2 HTE
            go_wp2
            go_ret
            exact ⟨⟨_, rfl, by rw [Int.toNat_natCast]; exact F1.out⟩, F2.out⟩
          · have hi2 : i < 10000 := by omega
            have TB : Tab wr := (HT.out.below (HB1.out.trans (HBQ.out.mono HB1.out.size)))
            have CN := Lib.hid (nth_name wr s i hi2 (by have := HH.out.2.2.2; unfold maxLen at this; omega) TB)
            cases hok : okNm s with
            | false =>
              have e0 : i = 0 := HR.out.2.resolve_left (by rw [hok]; decide)
              subst e0
              have e1 : r = 0 := HR.out.1.symm
              subst e1
              have PV : Hid (podV s 0 = .tuple #[.string ⟨#[]⟩, .int .i64 6]) := by show _ = _; unfold podV; rw [hok]; rfl
              have FE : Hid (frees s (takenOf s (l.map (·.2))) m = []) := by show _ = _; unfold frees; rw [hok]; rfl
              rw [PV.out] at CN
              clear HR hok TB
              go_wp2_with fail
              refine CN.out.mono ?_
              rintro e w2 ⟨rfl, b2⟩
              have F1 : Hid (OwnS w.heap.size w2 (.slice q5 0 c5) (frees s (takenOf s (l.map (·.2))) m)) := by
                show OwnS _ _ _ _
                rw [FE.out]
                exact (HO.out.below b2).mono hsz
              have F2 : Hid (Below w.heap.size w w2) := HB1.out.trans ((HBQ.out.trans (b2.mono HBQ.out.size)).mono HB1.out.size)
              clear CN PV FE b2 HO HBQ HB1 HC2 HTE
              go_wp2
              go_ret
              exact ⟨⟨_, rfl, by rw [Int.toNat_natCast]; exact F1.out⟩, F2.out⟩
            | true =>
              have PV : Hid (podV s i = .tuple #[.string (pname s i), .int .i64 0]) := by show _ = _; unfold podV; rw [hok]; rfl
              rw [PV.out] at CN
              have HOK := Lib.hid hok
              obtain ⟨nm, hnm⟩ : ∃ t, t = pname s i := ⟨_, rfl⟩
              rw [← hnm] at CN
              have HKY : Hid (keyOf Tryd.prog StT (.string nm) = some (.string nm.data.toList)) := keyOf_string_mk Tryd.underlying9 (by rw [hnm, pname_size]; unfold okNm at hok; rw [Bool.and_eq_true, decide_eq_true_eq] at hok; unfold maxLen; omega)
              have NXT := filter_next (p := fr s T) (k := i)
              have HFRI : Hid (fr s T i = decide (nm.data.toList ∉ T)) := by show _ = _; unfold fr; rw [hnm]
              have HNM := Lib.hid hnm
              have HNXT := Lib.hid NXT
              clear PV TB hok hnm NXT
              go_wp2_with fail
              refine CN.out.mono ?_
              rintro e w2 ⟨rfl, b2⟩
              have HC3 := Lib.hid ((HC2.out.below HBQ.out).below b2)
              have HB2 := Lib.hid (HBQ.out.trans (b2.mono HBQ.out.size))
              have HO2 := Lib.hid (HO.out.below b2)
              clear b2 HO HBQ CN
              obtain ⟨D, hown, hD, hf⟩ := HC3.out
              obtain ⟨cn, hcn⟩ : ∃ a : Nat, a = T.count nm.data.toList := ⟨_, rfl⟩
              have HA : Hid (D.atKey (.string nm.data.toList) (.lit (.int .i64 0)) = .lit (.int .i64 (cn : Int))) := by
                show _ = _
                rw [hcn]
                exact hf _
              have HCN := Lib.hid hcn
              have BS : Hid (wp.heap.size ≤ w2.heap.size) := HB2.out.size
              clear hD hf hcn HC3
              by_cases hz : cn = 0
              · have t2 : ((cn : Int) == 0) = true := by rw [hz]; rfl
                have HL : Hid ((List.range (i + 1)).filter (fr s T) = (List.range i).filter (fr s T) ++ [i]) := by
                  show _ = _
                  rw [HNXT.out, HFRI.out, decide_eq_true (by rw [hz] at HCN; exact List.count_eq_zero.1 HCN.out.symm), if_pos rfl]
                obtain ⟨w4, hw4⟩ : ∃ w4, w4 = w2.alloc (.cells #[.string nm] StT) := ⟨_, rfl⟩
                obtain ⟨M, hM⟩ : ∃ M, M = w2.heap.size := ⟨_, rfl⟩
                have HW4 : Hid (w2.alloc (.cells #[.string nm] StT) = w4 ∧ w2.heap.size = M) := ⟨hw4.symm, hM.symm⟩
                have b4 : Below w2.heap.size w2 w4 := by rw [hw4]; exact ((Gr.refl w2).alloc _).below
                have NEW : Hid (SRow w4 (some ⟨M, 0, none⟩) [nm]) := by rw [hw4, hM]; exact one_new w2 nm
                have OW : Hid (OwnS wp.heap.size w4 (.slice q5 r c5) (((List.range i).filter (fr s T)).map (pname s))) := HO2.out.below b4
                have BS4 : Hid (wp.heap.size ≤ w4.heap.size) := by have := BS.out; have := b4.size; show _ ≤ _; omega
                have HB4 := Lib.hid (HB2.out.trans (b4.mono HB2.out.size))
                have LE : Hid ((((List.range i).filter (fr s T)).map (pname s)).length + [nm].length ≤ 1000000) := by
                  show _ ≤ _
                  rw [List.length_map, HR.out.1, List.length_singleton]
                  omega
                clear hw4 hM b4 HNXT HFRI hz
                go_wp2_with (first
                  | (at_lookup; refine wpList_lookup_own_int _ rfl _ _ 84 rfl StT 3 .i64 lawT Tryd.underlying84 Tryd.underlying3 (zeroI _) B j D rfl hown _ _ rfl HKY.out ?_; intro cc hat hwc; obtain rfl := litT_inj (HA.out.symm.trans hat); clear hat hwc)
                  | (at_builtin; rw [HW4.out.1, HW4.out.2]; refine wpList_append_strs rfl _ _ rfl wp.heap.size (.slice q5 r c5) (((List.range i).filter (fr s T)).map (pname s)) rfl OW.out (some ⟨M, 0, none⟩) 1 1 [nm] (by rfl) rfl NEW.out (fun e => by cases e) LE.out BS4.out ?_; intro v7 w7 ho7 hg7 ha7))
                have FIN : Hid (OwnS wp.heap.size w7 v7 (((List.range (i + 1)).filter (fr s T)).map (pname s))) ∧ Hid (Below wp.heap.size wp w7) ∧ (∃ q c, v7 = .slice q (r + 1) c) := by
                  have e : ((List.range (i + 1)).filter (fr s T)).map (pname s) = ((List.range i).filter (fr s T)).map (pname s) ++ [nm] := by rw [HL.out, List.map_append, HNM.out]; rfl
                  refine ⟨by rw [e]; exact ho7, HB4.out.grown hg7 HB4.out.size (fun k e => (OW.out.lt k e).1), ?_⟩
                  obtain ⟨q, c, e, _⟩ := ho7.slc
                  refine ⟨q, c, ?_⟩
                  rw [e, List.length_append, List.length_map, HR.out.1]
                  rfl
                obtain ⟨F1, F2, q7, c7, rfl⟩ := FIN
                have F3 : Hid (((List.range (i + 1)).filter (fr s T)).length = r + 1 ∧ (okNm s = true ∨ i + 1 = 0)) := by
                  refine ⟨?_, .inl HOK.out⟩
                  rw [HL.out, List.length_append, HR.out.1]
                  rfl
                clear ho7 hg7 ha7 HB4 LE OW NEW HW4 HL HR HCN HA HKY HNM HOK HO2 HB2 hown BS BS4
                go_wp2_with fail
                go_roundg (10001 - (i + 1))
                case measure => omega
                case rel => exact ⟨i + 1, r + 1, by push_cast; rfl, by omega, by omega, by omega, F3, ⟨q7, c7, rfl⟩, F1, F2⟩
              · have t2 : ((cn : Int) == 0) = false := by rw [beq_eq_false_iff_ne]; omega
                have HL : Hid ((List.range (i + 1)).filter (fr s T) = (List.range i).filter (fr s T)) := by
                  show _ = _
                  rw [HNXT.out, HFRI.out, decide_eq_false (fun e => hz (by rw [HCN.out]; exact List.count_eq_zero.2 e)), if_neg (by decide), List.append_nil]
                have F1 : Hid (OwnS wp.heap.size w2 (.slice q5 r c5) (((List.range (i + 1)).filter (fr s T)).map (pname s))) := by show OwnS _ _ _ _; rw [HL.out]; exact HO2.out
                have F3 : Hid (((List.range (i + 1)).filter (fr s T)).length = r ∧ (okNm s = true ∨ i + 1 = 0)) := ⟨by rw [HL.out]; exact HR.out.1, .inl HOK.out⟩
                clear HL HR HCN HNM HOK HO2 HNXT HFRI hz BS
                go_wp2_with (at_lookup; refine wpList_lookup_own_int _ rfl _ _ 84 rfl StT 3 .i64 lawT Tryd.underlying84 Tryd.underlying3 (zeroI _) B j D rfl hown _ _ rfl HKY.out ?_; intro cc hat hwc; obtain rfl := litT_inj (HA.out.symm.trans hat); clear hat hwc)
                go_roundg (10001 - (i + 1))
                case measure => omega
                case rel => exact ⟨i + 1, r, by push_cast; rfl, by omega, by omega, by omega, F3, ⟨q5, c5, rfl⟩, F1, HB2⟩
        · obtain rfl : r = m := by omega
          have F1 : Hid (OwnS w.heap.size wr (.slice q5 r c5) (frees s (takenOf s (l.map (·.2))) r)) := by
            show OwnS _ _ _ _
            obtain ⟨a, b⟩ := HR.out
            rcases b with b | rfl
            · rw [← HTE.out, frees_at b hi (by omega) (.inr a)]
              exact HO.out.mono hsz
            · have h1 : r = 0 := a.symm
              have h2 := hm1.out
              omega
          have F2 : Hid (Below w.heap.size w wr) := HB1.out.trans (HBQ.out.mono HB1.out.size)
          clear HR HO HBQ HB1 HC2 HTE
          go_wp2
          go_ret
          exact ⟨⟨_, rfl, by rw [Int.toNat_natCast]; exact F1.out⟩, F2.out⟩
end Go.Proofs.YtbkoepghmcdnhaaDoor.Rp
/- Layer 16 (replica): rows of objects of the law's own, of the very cells that came in; what the law's plan finds. -/
namespace Go.Proofs.YtbkoepghmcdnhaaDoor.Rp
open Go.RowKit Go.Shelf Go.Lib Go.Sort Go.Deep
open Go.Joins (cell_of_block unfrozen_of_block block_setCell)
open Go.Proofs.YtbkoepghmcdnhaaDoor.Ow Go.Proofs.YtbkoepghmcdnhaaDoor.Vi
set_option linter.unusedVariables false
set_option linter.unusedSimpArgs false
set_option maxRecDepth 20000

def OwnO (N : Nat) (w : World) (v : Value) (l : List Obv) : Prop := w.ownsRow N OT 47 v l.length (flat encOb l)
theorem OwnO.nil (N : Nat) (w : World) : OwnO N w (.slice none 0 0) [] := ⟨rfl, .inl ⟨rfl, rfl⟩⟩
theorem OwnO.lt {N : Nat} {w : World} {v : Value} {l : List Obv} (h : OwnO N w v l) : ∀ k, v.ownBlock = some k → N ≤ k ∧ k < w.heap.size := fun k hk => own_lt h hk
theorem OwnO.grown {N : Nat} {w w' : World} {v : Value} {l : List Obv} {row : Option Nat} (h : OwnO N w v l) (g : w.grownBy w' row) (hne : ∀ k, row = some k → v.ownBlock ≠ some k) : OwnO N w' v l := by
  refine World.ownsRow.kept h g ?_
  cases hv : v.ownBlock with
  | none => exact .inl rfl
  | some b => exact .inr (fun e => hne b e.symm hv)
theorem OwnO.below {N : Nat} {w w' : World} {v : Value} {l : List Obv} (h : OwnO N w v l) (b : Below w.heap.size w w') : OwnO N w' v l := own_below h b
theorem OwnO.slc {N : Nat} {w : World} {v : Value} {l : List Obv} (h : OwnO N w v l) : ∃ q c, v = .slice q l.length c ∧ RowR 47 encOb w q l := by
  obtain ⟨h0, h⟩ := h
  rcases h with ⟨rfl, h1⟩ | ⟨g, c, cur, rfl, hb, hg, hc, hm, hsz, htk⟩
  · obtain rfl := List.eq_nil_of_length_eq_zero h1
    exact ⟨none, 0, rfl, RowR.nil _ _ _ _⟩
  · refine ⟨some ⟨g, 0, none⟩, c, rfl, fun j x hx => ⟨g, 0, rfl, (Array.getElem?_eq_some_iff.1 hg).1, fun t v hv => ?_⟩⟩
    have ht : t < 47 := by rw [← lenOb x]; exact (List.getElem?_eq_some_iff.1 hv).1
    have e1 := flat_at lenOb l j t x hx ht
    rw [hv, ← htk] at e1
    have hj : j < l.length := (List.getElem?_eq_some_iff.1 hx).1
    have hlt : j * 47 + t < l.length * 47 := by omega
    rw [List.getElem?_take_of_lt hlt, Array.getElem?_toList] at e1
    rw [Nat.zero_add, cell_of_block hg]
    exact e1
/-- 'append(v, o)' onto a row of the call's own: the very cells of an object. -/
theorem wpList_append_ob {w : World} {ops : Array Oper} {rest : List Oper} {o : Oper} {a : Act} {Q : Exit → Act → World → Prop} (hgd : o.guard = none) (s x : Operand)
    (ho : o.op = .call { callee := .builtin .append, args := #[s, x], argTypes := #[45, 45] })
    (N : Nat) (v : Value) (l : List Obv) (hs : a.eval s = v) (hown : OwnO N w v l) (M : Nat) (x0 : Obv) (hx : a.eval x = .slice (some ⟨M, 0, none⟩) 1 1) (hnew : w.heap[M]? = some (.cells x0.1.1 OT (0, 0)))
    (hlen : l.length + 1 ≤ 1000000) (hbase : N ≤ w.heap.size)
    (h : ∀ v' w', OwnO N w' v' (l ++ [x0]) → w.grownBy w' v.ownBlock → (v'.ownBlock = v.ownBlock ∨ v'.ownBlock = some w.heap.size) → wpList Tryd.prog ops Q rest (a.put o.dst v') w') :
    wpList Tryd.prog ops Q (o :: rest) a w := by
  obtain ⟨inf, i1, i2, i3, i4⟩ := info_OT
  have hby : (l.length + 1) * inf.bytes ≤ 140737488355328 := Nat.le_trans (Nat.mul_le_mul (show l.length + 1 ≤ 1000001 by omega) i4) (by decide)
  have NEW : ∀ (t : Nat) u, x0.1.1.toList[t]? = some u → w.cell? ((⟨M, 0, none⟩ : Addr).add t) = some u := World.news_of_block (w := w) (B := M) (cs := x0.1.1) (t := OT) (fr := (0, 0)) hnew
  refine wpList_append_own_at w hgd s x 45 ho N OT inf (.agg zerC) 47 inf.bytes Tryd.underlying45 i1 i2 i3 rfl rfl (by decide) v l.length (flat encOb l) hs hown ⟨M, 0, none⟩ 1 1 x0.1.1.toList hx (by rw [Array.length_toList, x0.1.2.1]) NEW (oneOb x0) (by unfold maxLen; omega) hby hbase ?_
  intro v' w' h1 h2 h3 h4
  refine h v' w' ?_ h2 h4
  unfold OwnO
  rw [List.length_append]
  simpa [flat, encOb] using h1

/-! ### names that are unlike -/
def UnlikeN (l : List Ob) : Prop := l.Pairwise fun a b => a.name ≠ b.name
theorem UnlikeN.eq {l : List Ob} (h : UnlikeN l) {a b : Ob} (ha : a ∈ l) (hb : b ∈ l) (e : a.name = b.name) : a = b := by
  obtain ⟨i, hi, rfl⟩ := List.getElem_of_mem ha
  obtain ⟨j, hj, rfl⟩ := List.getElem_of_mem hb
  rcases Nat.lt_trichotomy i j with h1 | h1 | h1
  · exact absurd e (List.pairwise_iff_getElem.1 h i j hi hj h1)
  · subst h1; rfl
  · exact absurd e.symm (List.pairwise_iff_getElem.1 h j i hj hi h1)
/-- Names sorted, that are unlike: each goes ahead of the next. -/
theorem sortS_strict {l : List ByteArray} (h : l.Pairwise (· ≠ ·)) : (bys (sortS l)).Pairwise (· < ·) := by
  have hn : (sortS l).Pairwise (· ≠ ·) := (sortS_perm l).symm.pairwise h (fun e => Ne.symm e)
  have hb : (bys (sortS l)).Pairwise (· ≠ ·) := by
    unfold bys
    rw [List.pairwise_map]
    exact hn.imp (fun hne e => hne (bys_inj e))
  have := (sortS_sorted l).and hb
  exact this.imp fun ⟨h1, h2⟩ => Decidable.byContradiction fun h3 => h2 (List.le_antisymm h1 (List.not_lt.1 h3))
/-- The pods in order, as the law's 'sooner' has it. -/
theorem sorted_strict {t : List El} (hs : Sorted t) (hu : UnlikeN (t.map (·.1.2))) : (t.map (·.1.2)).Pairwise ltO := by
  unfold UnlikeN at hu
  rw [List.pairwise_map] at hu ⊢
  exact (List.Pairwise.and hs hu).imp fun ⟨h1, h2⟩ => ltO_total (fun e => h1 (lt_ltO.2 e)) h2
theorem unlike_perm {a b : List Ob} (h : UnlikeN a) (hp : a.Perm b) : UnlikeN b := hp.pairwise h (fun e => Ne.symm e)
theorem unlike_filter {a : List Ob} (h : UnlikeN a) (p : Ob → Bool) : UnlikeN (a.filter p) := List.Pairwise.filter p h
/-- A live pod is not yet gone just if none of what goes has its name. -/
theorem gone_iff {l : List Ob} (hu : UnlikeN l) {s : ByteArray} {so : List Ob} (hso : ∀ x ∈ so, x ∈ l ∧ isLive s x = true) {x : Ob} (hx : x ∈ l) (hl : isLive s x = true) (k : Nat) :
    x.name ∈ sortS ((l.filter (isFailed s)).map (·.name)) ++ (so.take k).map (·.name) ↔ x ∈ so.take k := by
  rw [List.mem_append, (sortS_perm _).mem_iff, List.mem_map, List.mem_map]
  constructor
  · rintro (⟨y, hy, e⟩ | ⟨y, hy, e⟩)
    · obtain ⟨h1, h2⟩ := List.mem_filter.1 hy
      have := hu.eq h1 hx e
      subst this
      unfold isLive at hl
      unfold isFailed at h2
      rw [Bool.and_eq_true] at hl h2
      rw [h2.2] at hl
      cases hl.2
    · have := hu.eq (hso y (List.mem_of_mem_take hy)).1 hx e
      subst this
      exact hy
  · exact fun h => .inr ⟨x, h, rfl⟩
/-- A number is taken just if a pod has its name that is not among those that go first. -/
theorem taken_iff {l : List Ob} (hu : UnlikeN l) (hp : ∀ x ∈ l, isPod x = true) {s nm : ByteArray} :
    nm.data.toList ∈ takenOf s l ↔ ∃ x ∈ l, x.name = nm ∧ nm ∉ sortS ((l.filter (isFailed s)).map (·.name)) := by
  unfold takenOf
  rw [List.mem_map]
  constructor
  · rintro ⟨x, hx, e⟩
    obtain ⟨h1, h2⟩ := List.mem_filter.1 hx
    have en : x.name = nm := bys_inj e
    refine ⟨x, h1, en, fun hm => ?_⟩
    rw [(sortS_perm _).mem_iff, List.mem_map] at hm
    obtain ⟨y, hy, e2⟩ := hm
    obtain ⟨h3, h4⟩ := List.mem_filter.1 hy
    have := hu.eq h3 h1 (e2.trans en.symm)
    subst this
    unfold takes at h2
    rw [h4, Bool.and_eq_true] at h2
    cases h2.2
  · rintro ⟨x, hx, en, hm⟩
    refine ⟨x, List.mem_filter.2 ⟨hx, ?_⟩, by rw [en]⟩
    unfold takes
    rw [hp x hx, Bool.true_and]
    cases hf : isFailed s x with
    | false => rfl
    | true =>
      refine absurd ?_ hm
      rw [(sortS_perm _).mem_iff, List.mem_map]
      exact ⟨x, List.mem_filter.2 ⟨hx, hf⟩, en⟩
end Go.Proofs.YtbkoepghmcdnhaaDoor.Rp
