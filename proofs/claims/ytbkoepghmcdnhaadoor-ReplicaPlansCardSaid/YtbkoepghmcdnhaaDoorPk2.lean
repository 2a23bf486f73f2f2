/- Layer 15 (victim): all pods of a row, the first to go first (Order); the names of the first so many (Pick). -/
import Derived.Test.YtbkoepghmcdnhaaDoorPk1
import Derived.Test.YtbkoepghmcdnhaaDoorObOwn
import Derived.Test.YtbkoepghmcdnhaaDoorObN
import Derived.Maps.AppendAt
import Derived.Laws.AppendOwnNone
import Derived.Lib.AppendZeros
import Derived.Lib.SliceRun
import Derived.Lib.SmallJoins
import Derived.BigQuiet
namespace Go.Proofs.YtbkoepghmcdnhaaDoor.Vi
open Go.RowKit Go.Shelf Go.Lib Go.Sort Go.Deep
open Go.Joins (cell_of_block unfrozen_of_block block_setCell)
open Go.Proofs.YtbkoepghmcdnhaaDoor.Ow
set_option linter.unusedVariables false
set_option linter.unusedSimpArgs false
set_option maxRecDepth 20000

set_option maxHeartbeats 4000000 in
theorem order_any (W w : World) (low : Below W.heap.size W w) (q : Option Addr) (c : Nat) (l : List Obv) (hr : RowR 47 encOb W q l) (hok : ∀ x ∈ l, ObjV W x.1.1 x.2 ∧ NilO x.1.1 ∧ FitO x.2) (hlen : l.length < 1000000) :
    Calls Tryd.prog 32 #[.slice q l.length c] w fun e w' => (∃ q' c' n, e = .returned (.slice q' n c') ∧ Hid (∃ p s : List El, n = s.length ∧ Row w.heap.size w' (.slice q' n c') (s.map (·.1)) ∧ Sorted s ∧ Same1 p s ∧ p.map (·.1.2) = (l.map (·.2)).filter isPod)) ∧ Below w.heap.size w w' := by
  have CS := Lib.hid (sift_any W w w.heap.size rfl low q c l hr hok (by omega) 37 #[] isPod enters_pod (fun ws X o b hv => by rw [append_none]; exact podis_any ws X o hv))
  have HN : Hid (((l.map (·.2)).filter isPod).length < 1000000) := by
    have := List.length_filter_le isPod (l.map (·.2))
    rw [List.length_map] at this
    show _ < _
    omega
  obtain ⟨n, hn⟩ : ∃ n, n = l.length := ⟨_, rfl⟩
  rw [← hn] at CS ⊢
  clear hr hok hlen low hn
  go_enter Tryd.func32, Tryd.ntmps32
  go_wp2_with fail
  refine CS.out.mono ?_
  rintro e w1 ⟨⟨q1, c1, l1, rfl, r1, e1⟩, b1⟩
  have fd : ∀ x ∈ l1, Fd x := fun x hx => by
    have hm : x.2 ∈ (l.map (·.2)).filter isPod := by rw [← e1]; exact List.mem_map.2 ⟨x, hx, rfl⟩
    have := (List.mem_filter.1 hm).2
    exact fd_obj (r1.firm x hx).obj.1 (of_decide_eq_true this)
  obtain ⟨p, rfl⟩ := els fd
  rw [List.length_map] at r1
  have hcc : q1 = none → c1 = 0 := by
    intro e
    subst e
    rcases r1.own.2 with ⟨e, _⟩ | ⟨g, cap, cur, e, _⟩
    · simp only [Value.slice.injEq] at e; exact e.2.2
    · cases e
  have hp : p.length < 1000000 := by
    have := congrArg List.length e1
    rw [List.length_map, List.length_map] at this
    have := HN.out
    omega
  have CO := Lib.hid (sort_row w1 w.heap.size q1 c1 p r1 hp hcc)
  have H1 := Lib.hid (And.intro b1 (And.intro e1 r1.own))
  obtain ⟨m, hm⟩ : ∃ m, m = p.length := ⟨_, rfl⟩
  rw [List.length_map]
  rw [← hm] at CO H1 ⊢
  have HM : Hid (m = p.length) := hm
  clear fd r1 hcc hp b1 e1 CS hm
  go_wp2_with fail
  refine CO.out.mono ?_
  rintro e w2 ⟨rfl, ⟨s, hs, rs, ss, sm⟩, gb⟩
  have FIN : Hid ((∃ q' c' n, Ending.returned (.slice q1 m c1) = .returned (.slice q' n c') ∧ Hid (∃ p s : List El, n = s.length ∧ Row w.heap.size w2 (.slice q' n c') (s.map (·.1)) ∧ Sorted s ∧ Same1 p s ∧ p.map (·.1.2) = (l.map (·.2)).filter isPod)) ∧ Below w.heap.size w w2) := by
    obtain ⟨b1, e1, o1⟩ := H1.out
    refine ⟨⟨q1, c1, m, rfl, p, s, by rw [hs, HM.out], rs, ss, sm, by rw [← e1, List.map_map]; rfl⟩, b1.grown gb b1.size (fun k e => (own_lt o1 e).1)⟩
  clear hs rs ss sm gb CO H1 HN HM
  go_wp2
  go_ret
  exact FIN.out

theorem inf_str : ∃ i : TypeInfo, Tryd.prog.info? 9 = some i ∧ i.zero = some (.string ⟨#[]⟩) ∧ i.size = 1 ∧ i.bytes = 16 := by
  have hinf : (Tryd.prog.info? 9).map (fun i => (i.zero, i.size, i.bytes)) = some (some (.string ⟨#[]⟩), 1, 16) := by kernel_rfl
  cases hi : Tryd.prog.info? 9 with
  | none => rw [hi] at hinf; cases hinf
  | some i =>
    rw [hi] at hinf
    simp only [Option.map_some, Option.some.injEq, Prod.mk.injEq] at hinf
    exact ⟨i, rfl, hinf.1, hinf.2.1, hinf.2.2⟩
def nmV (s : List El) : List Value := s.map fun x => .string x.1.2.name
/-- The row's object at a place. -/
theorem Row.at {N : Nat} {w : World} {q : Option Addr} {n c : Nat} {l : List Obv} (h : Row N w (.slice q n c) l) {j : Nat} {x : Obv} (hx : l[j]? = some x) : ∃ g, q = some ⟨g, 0, none⟩ ∧ N ≤ g ∧ g < w.heap.size ∧ w.rangeAt g (j * 47) (encOb x) := by
  rcases h.own.2 with ⟨e, e0⟩ | ⟨g, cap, cur, e, hb, hg, hc, hm, hsz, htk⟩
  · have := (List.getElem?_eq_some_iff.1 hx).1; omega
  · simp only [Value.slice.injEq] at e
    obtain ⟨rfl, _, _⟩ := e
    refine ⟨g, rfl, hb, (Array.getElem?_eq_some_iff.1 hg).1, fun t v hv => ?_⟩
    have ht : t < 47 := by rw [← lenOb x]; exact (List.getElem?_eq_some_iff.1 hv).1
    have e1 := flat_at lenOb l j t x hx ht
    rw [hv, ← htk] at e1
    have hj : j < l.length := (List.getElem?_eq_some_iff.1 hx).1
    have hlt : j * 47 + t < l.length * 47 := by omega
    rw [List.getElem?_take_of_lt hlt, Array.getElem?_toList] at e1
    rw [cell_of_block hg]
    exact e1
set_option maxHeartbeats 8000000 in
theorem pick_any (W w : World) (low : Below W.heap.size W w) (q : Option Addr) (c : Nat) (l : List Obv) (k : Int) (hr : RowR 47 encOb W q l) (hok : ∀ x ∈ l, ObjV W x.1.1 x.2 ∧ NilO x.1.1 ∧ FitO x.2) (hlen : l.length < 1000000) :
    Calls Tryd.prog 21 #[.slice q l.length c, .int .i64 k] w fun e w' => (∃ q' c' m, e = .returned (.slice q' m c') ∧ Hid (∃ p s : List El, Sorted s ∧ Same1 p s ∧ p.map (·.1.2) = (l.map (·.2)).filter isPod ∧ m = (s.take k.toNat).length ∧ w'.ownsRow w.heap.size 9 1 (.slice q' m c') m (nmV (s.take k.toNat)))) ∧ Below w.heap.size w w' := by
  obtain ⟨inf, i1, i2, i3, i4⟩ := inf_str
  have HI := Lib.hid (And.intro i1 (And.intro i2 (And.intro i3 i4)))
  have CS := Lib.hid (order_any W w low q c l hr hok hlen)
  obtain ⟨n, hn⟩ : ∃ n, n = l.length := ⟨_, rfl⟩
  rw [← hn] at CS hlen ⊢
  have HL := Lib.hid hn
  clear hr hok low hn i1 i2 i3 i4
  go_enter Tryd.func21, Tryd.ntmps21
  go_wp2_with fail
  refine CS.out.mono ?_
  rintro e w1 ⟨⟨q1, c1, m1, rfl, HP⟩, b1⟩
  obtain ⟨p, s, hm, rs, ss, sm, hp⟩ := HP.out
  have hms : m1 < 1000000 := by
    have h1 := congrArg List.length hp
    have h2 := List.length_filter_le isPod (l.map (·.2))
    rw [List.length_map] at h1 h2
    have h3 := sm.1.length_eq
    have := HL.out
    omega
  have HH := Lib.hid (And.intro hm (And.intro rs (And.intro ss (And.intro sm (And.intro hp b1)))))
  have z1 : w.heap.size ≤ w1.heap.size := b1.size
  clear hm rs ss sm hp b1 CS HP
  go_wp2_with fail
  go_loopg [5, 11] m1 (fun g1 v5 vi wr => ∃ j : Nat, vi = .int .i64 (j : Int) ∧ j ≤ m1 ∧ m1 - j ≤ g1 ∧ Hid (j ≤ k.toNat) ∧ (∃ q5 c5, v5 = .slice q5 j c5 ∧ Hid (wr.ownsRow w1.heap.size 9 1 (.slice q5 j c5) j (nmV (s.take j)))) ∧ Hid (Below w1.heap.size w1 wr))
  case atStart => exact ⟨0, rfl, Nat.zero_le _, by omega, Nat.zero_le _, ⟨none, 0, rfl, World.ownsRow_nil _ _ _ _⟩, Below.refl _ _⟩
  case round =>
    obtain ⟨j, rfl, h1, h2, hjk, ⟨q5, c5, rfl, HO⟩, HB⟩ := hrel
    by_cases hlt : j < m1
    · obtain ⟨hm, rs, ss, sm, hp, b1⟩ := HH.out
      obtain ⟨x, hx⟩ : ∃ x, s[j]? = some x := ⟨s[j]'(by omega), List.getElem?_eq_getElem (by omega)⟩
      have hx' : (s.map (·.1))[j]? = some x.1 := by rw [List.getElem?_map, hx]; rfl
      obtain ⟨g, rfl, hNg, hg1, hra⟩ := rs.at hx'
      have LD := Lib.hid (load_at (x := x.1) (rangeAt_below hra HB.out hg1))
      obtain ⟨X, hX⟩ : ∃ X, X = x.1.1.1 := ⟨_, rfl⟩
      rw [← hX] at LD
      have hXs : X.size = 47 := by rw [hX]; exact x.1.1.2.1
      have hXo : X.all (·.oneCell') = true := by rw [hX]; exact x.1.1.2.2
      have hX1 : X[1]? = some (.string x.1.2.name) := by rw [hX]; exact x.2.2.1
      have z0 : (wr.alloc (.cells zerC OT)).heap[wr.heap.size]? = some (.cells zerC OT (0, 0)) := heap_alloc_new wr _
      obtain ⟨w3, hw3⟩ : ∃ W', W' = (wr.alloc (.cells zerC OT)).setCells wr.heap.size 0 X.toList := ⟨_, rfl⟩
      obtain ⟨O, hO⟩ : ∃ A, A = wr.heap.size := ⟨_, rfl⟩
      have th := Ld.there_block z0 (n := X.size) (by rw [hXs]; rfl)
      have o3 : w3.heap[O]? = some (.cells X OT (0, 0)) := by rw [hw3, hO]; exact Ld.laid z0 (by rw [hXs]; rfl)
      have b3 : Below O wr w3 := by rw [hw3, hO]; exact Ld.below_setCells _ _ _ (Nat.le_refl _) (((Gr.refl wr).alloc _).below)
      have TH := Lib.hid th
      have IN : Hid ((Tryd.prog.info? OT).map (·.size) = some X.size) := by show _ = _; rw [hXs]; exact info_ob47
      have ON := Lib.hid hXo
      have HW3 : Hid ((wr.alloc (.cells zerC OT)).setCells wr.heap.size 0 X.toList = w3 ∧ wr.heap.size = O) := ⟨hw3.symm, hO.symm⟩
      have B3 : Hid (Below wr.heap.size wr w3) := by rw [hO] at b3; exact b3
      obtain ⟨nm, hnm⟩ : ∃ s, s = x.1.2.name := ⟨_, rfl⟩
      rw [← hnm] at hX1
      have d1 : w3.cell? ⟨O, 1, none⟩ = some (.string nm) := (cell_of_block o3 1).trans hX1
      obtain ⟨w4, hw4⟩ : ∃ w4, w4 = w3.alloc (.cells #[.string nm] 9) := ⟨_, rfl⟩
      obtain ⟨M, hM⟩ : ∃ M, M = w3.heap.size := ⟨_, rfl⟩
      have b4 : Below w3.heap.size w3 w4 := by rw [hw4]; exact ((Gr.refl w3).alloc _).below
      have lo4 : Below wr.heap.size wr w4 := by
        rw [hO] at b3
        exact b3.trans (b4.mono b3.size)
      have NEW : Hid (∀ (t : Nat) u, [Value.string nm][t]? = some u → w4.cell? ((⟨M, 0, none⟩ : Addr).add t) = some u) := by
        have := World.news_of_block (w := w4) (B := M) (cs := #[.string nm]) (t := 9) (fr := (0, 0)) (by rw [hw4, hM]; exact heap_alloc_new w3 _)
        exact this
      have HW4 : Hid (w3.alloc (.cells #[.string nm] 9) = w4 ∧ w3.heap.size = M) := ⟨hw4.symm, hM.symm⟩
      have OW : Hid (w4.ownsRow w1.heap.size 9 1 (.slice q5 j c5) j (nmV (s.take j))) := own_below HO.out lo4
      have zB := HB.out.size
      have BS : Hid (w1.heap.size ≤ w4.heap.size) := by have := lo4.size; show _ ≤ _; omega
      have HX : Hid (s[j]? = some x ∧ nm = x.1.2.name ∧ Below wr.heap.size wr w4) := ⟨hx, hnm, lo4⟩
      clear hm rs ss sm hp b1 hx hx' hNg hg1 hra hX hXs hXo hX1 z0 hw3 hO th o3 b3 hw4 hM b4 lo4 hnm zB
      go_upto_region 5 with (first | (refine wpList_load_by (by kernel_rfl) OT _ rfl (.pointer (some ⟨g, j * 47, none⟩)) (.agg X) (by first | rfl | (simp; done)) LD.out ?_) | (refine wpList_store_mid rfl _ _ _ rfl wr.heap.size 0 X (by rfl) (by rfl) TH.out IN.out ON.out ?_; rw [HW3.out.1, HW3.out.2]))
      clear TH IN ON HW3 LD
      by_cases hk : k ≤ (j : Int)
      · have t1 : decide ((j : Int) ≥ k) = true := decide_eq_true hk
        have K4 : Hid (Below wr.heap.size wr w3) := by
          have := HX.out.2.2
          exact B3.out
        have FIN : Hid ((∃ q' c' m, Ending.returned (.slice q5 j c5) = .returned (.slice q' m c') ∧ Hid (∃ p s : List El, Sorted s ∧ Same1 p s ∧ p.map (·.1.2) = (l.map (·.2)).filter isPod ∧ m = (s.take k.toNat).length ∧ w3.ownsRow w.heap.size 9 1 (.slice q' m c') m (nmV (s.take k.toNat)))) ∧ Below w.heap.size w w3) := by
          obtain ⟨hm, rs, ss, sm, hp, b1⟩ := HH.out
          have hjk' := hjk.out
          have e : k.toNat = j := by omega
          refine ⟨⟨q5, c5, j, rfl, p, s, ss, sm, hp, by rw [e, List.length_take]; omega, ?_⟩, b1.trans ((HB.out.trans (K4.out.mono HB.out.size)).mono z1)⟩
          rw [e]
          exact own_mono (own_below HO.out K4.out) z1
        clear HO HB HX HH hjk K4 B3 OW NEW d1 HW4 BS
        go_wp2
        go_ret
        exact FIN.out
      · have t1 : decide ((j : Int) ≥ k) = false := decide_eq_false (by omega)
        go_wp2_with (at_builtin; rw [HW4.out.1, HW4.out.2]; refine wpList_append_own_at w4 rfl _ _ 51 rfl w1.heap.size 9 inf (.string ⟨#[]⟩) 1 16 Tryd.underlying51 HI.out.1 HI.out.2.1 HI.out.2.2.1 HI.out.2.2.2 rfl (by decide) (.slice q5 j c5) j (nmV (s.take j)) (by rfl) OW.out ⟨M, 0, none⟩ 1 1 [.string nm] (by rfl) rfl NEW.out (by intro u hu; simp at hu; subst hu; rfl) (by unfold maxLen; omega) (by omega) BS.out ?_; intro v7 w7 ho7 hg7 hn7 ha7; obtain ⟨q7, c7, rfl⟩ := own_slc ho7)
        have FIN : Hid (j + 1 ≤ k.toNat) ∧ (∃ q5' c5', Value.slice q7 (j + 1) c7 = .slice q5' (j + 1) c5' ∧ Hid (w7.ownsRow w1.heap.size 9 1 (.slice q5' (j + 1) c5') (j + 1) (nmV (s.take (j + 1))))) ∧ Hid (Below w1.heap.size w1 w7) := by
          obtain ⟨hx, hnm, lo4⟩ := HX.out
          refine ⟨by show _ ≤ _; omega, ⟨q7, c7, rfl, ?_⟩, ?_⟩
          · have e : nmV (s.take (j + 1)) = nmV (s.take j) ++ [.string nm] := by
              unfold nmV
              rw [List.take_add_one, hx, List.map_append, hnm]
              rfl
            rw [e]
            exact ho7
          · exact (HB.out.trans (lo4.mono HB.out.size)).grown hg7 BS.out (fun k e => (own_lt OW.out e).1)
        obtain ⟨F1, F2, F3⟩ := FIN
        clear ho7 hg7 hn7 ha7 HO HB HX hjk B3 OW NEW d1 HW4 BS
        go_wp2_with fail
        go_roundg (m1 - (j + 1))
        case measure => omega
        case rel => exact ⟨j + 1, by push_cast; rfl, by omega, by omega, F1, F2, F3⟩
    · have FIN : Hid ((∃ q' c' m, Ending.returned (.slice q5 j c5) = .returned (.slice q' m c') ∧ Hid (∃ p s : List El, Sorted s ∧ Same1 p s ∧ p.map (·.1.2) = (l.map (·.2)).filter isPod ∧ m = (s.take k.toNat).length ∧ wr.ownsRow w.heap.size 9 1 (.slice q' m c') m (nmV (s.take k.toNat)))) ∧ Below w.heap.size w wr) := by
        obtain ⟨hm, rs, ss, sm, hp, b1⟩ := HH.out
        have hjk' := hjk.out
        have e : s.take k.toNat = s.take j := by rw [List.take_of_length_le (by omega), List.take_of_length_le (by omega)]
        refine ⟨⟨q5, c5, j, rfl, p, s, ss, sm, hp, by rw [e, List.length_take]; omega, ?_⟩, b1.trans (HB.out.mono z1)⟩
        rw [e]
        exact own_mono HO.out z1
      clear HO HB HH hjk
      go_wp2
      go_ret
      exact FIN.out
end Go.Proofs.YtbkoepghmcdnhaaDoor.Vi
/- Layer 16 (replica): rows of texts: read, looked through, held against each other, appended to, sorted, put together. -/
namespace Go.Proofs.YtbkoepghmcdnhaaDoor.Rp
open Go.RowKit Go.Shelf Go.Lib Go.Sort
open Go.Joins (cell_of_block unfrozen_of_block block_setCell)
set_option linter.unusedVariables false
set_option linter.unusedSimpArgs false
set_option maxRecDepth 20000

abbrev SlS : TypeId := 51
abbrev StT : TypeId := 9
def strs (l : List ByteArray) : List Value := l.map Value.string
theorem strs_len (l : List ByteArray) : (strs l).length = l.length := List.length_map ..
theorem strs_app (l m : List ByteArray) : strs (l ++ m) = strs l ++ strs m := List.map_append ..
theorem strs_one (l : List ByteArray) : ∀ u ∈ strs l, u.oneCell' = true := by
  intro u hu
  obtain ⟨x, _, rfl⟩ := List.mem_map.1 hu
  rfl
theorem strs_at {l : List ByteArray} {j : Nat} {s : ByteArray} (h : l[j]? = some s) : (strs l)[j]? = some (.string s) := by
  unfold strs
  rw [List.getElem?_map, h]
  rfl
/-- The slice reads as these texts. -/
def SRow (w : World) (q : Option Addr) (l : List ByteArray) : Prop := ∀ (j : Nat) (s : ByteArray), l[j]? = some s → ∃ b off, q = some ⟨b, off, none⟩ ∧ b < w.heap.size ∧ w.cell? ⟨b, off + j, none⟩ = some (.string s)
theorem SRow.nil (w : World) (q : Option Addr) : SRow w q [] := fun j s h => by simp at h
theorem SRow.below {w w' : World} {q : Option Addr} {l : List ByteArray} (h : SRow w q l) (b : Below w.heap.size w w') : SRow w' q l := fun j s hs => by
  obtain ⟨g, off, e, h1, h2⟩ := h j s hs
  exact ⟨g, off, e, Nat.lt_of_lt_of_le h1 b.size, (b.cell (p := ⟨g, off + j, none⟩) h1).trans h2⟩
/-- A row of texts of the call's own. -/
def OwnS (N : Nat) (w : World) (v : Value) (l : List ByteArray) : Prop := w.ownsRow N StT 1 v l.length (strs l)
theorem OwnS.nil (N : Nat) (w : World) : OwnS N w (.slice none 0 0) [] := ⟨rfl, .inl ⟨rfl, rfl⟩⟩
theorem OwnS.slc {N : Nat} {w : World} {v : Value} {l : List ByteArray} (h : OwnS N w v l) : ∃ q c, v = .slice q l.length c ∧ (q = none → c = 0 ∧ l = []) ∧ SRow w q l := by
  obtain ⟨h0, h⟩ := h
  rcases h with ⟨rfl, h1⟩ | ⟨g, c, cur, rfl, hb, hg, hc, hm, hsz, htk⟩
  · obtain rfl := List.eq_nil_of_length_eq_zero h1
    exact ⟨none, 0, rfl, fun _ => ⟨rfl, rfl⟩, SRow.nil _ _⟩
  · refine ⟨some ⟨g, 0, none⟩, c, rfl, fun e => (by cases e), fun j s hs => ⟨g, 0, rfl, (Array.getElem?_eq_some_iff.1 hg).1, ?_⟩⟩
    have hj : j < l.length := (List.getElem?_eq_some_iff.1 hs).1
    have h2 : (cur.toList.take (l.length * 1))[j]? = some (.string s) := by rw [htk]; exact strs_at hs
    rw [List.getElem?_take_of_lt (by omega), Array.getElem?_toList] at h2
    rw [Nat.zero_add, cell_of_block hg]
    exact h2
theorem OwnS.below {N : Nat} {w w' : World} {v : Value} {l : List ByteArray} (h : OwnS N w v l) (hb : Below w.heap.size w w') : OwnS N w' v l :=
  World.ownsRow.kept (row := none) h ⟨hb.os, hb.tape, hb.output, hb.size, fun i hi _ => hb.block i hi⟩ (by cases hv : v.ownBlock <;> simp)
theorem OwnS.lt {N : Nat} {w : World} {v : Value} {l : List ByteArray} (h : OwnS N w v l) : ∀ k, v.ownBlock = some k → N ≤ k ∧ k < w.heap.size := fun k hk => by
  rcases h.2 with ⟨rfl, _⟩ | ⟨g', cap, cur, rfl, hb, hh, _⟩
  · simp [Value.ownBlock] at hk
  · simp [Value.ownBlock] at hk
    subst hk
    exact ⟨hb, (Array.getElem?_eq_some_iff.1 hh).1⟩
theorem OwnS.mono {N M : Nat} {w : World} {v : Value} {l : List ByteArray} (h : OwnS N w v l) (hm : M ≤ N) : OwnS M w v l := by
  obtain ⟨h0, h⟩ := h
  rcases h with h | ⟨g, c, cur, h1, hb, h2⟩
  · exact ⟨h0, .inl h⟩
  · exact ⟨h0, .inr ⟨g, c, cur, h1, Nat.le_trans hm hb, h2⟩⟩
theorem info_str : ∃ i : TypeInfo, Tryd.prog.info? StT = some i ∧ i.zero = some (.string ⟨#[]⟩) ∧ i.size = 1 ∧ i.bytes = 16 := by
  have hinf : (Tryd.prog.info? StT).map (fun i => (i.zero, i.size, i.bytes)) = some (some (.string ⟨#[]⟩), 1, 16) := by kernel_rfl
  cases hi : Tryd.prog.info? StT with
  | none => rw [hi] at hinf; cases hinf
  | some i =>
    rw [hi] at hinf
    simp only [Option.map_some, Option.some.injEq, Prod.mk.injEq] at hinf
    exact ⟨i, rfl, hinf.1, hinf.2.1, hinf.2.2⟩
/-- 'append(v, src...)' onto a row of the call's own. -/
theorem wpList_append_strs {w : World} {ops : Array Oper} {rest : List Oper} {o : Oper} {a : Act} {Q : Exit → Act → World → Prop} (hgd : o.guard = none) (s x : Operand)
    (ho : o.op = .call { callee := .builtin .append, args := #[s, x], argTypes := #[SlS, SlS] })
    (N : Nat) (v : Value) (l : List ByteArray) (hs : a.eval s = v) (hown : OwnS N w v l)
    (q : Option Addr) (n c : Nat) (m : List ByteArray) (hx : a.eval x = .slice q n c) (hn : n = m.length) (hr : SRow w q m) (hq : q = none → c = 0 ∧ m = []) (hlen : l.length + m.length ≤ 1000000) (hbase : N ≤ w.heap.size)
    (h : ∀ v' w', OwnS N w' v' (l ++ m) → w.grownBy w' v.ownBlock → (v'.ownBlock = v.ownBlock ∨ v'.ownBlock = some w.heap.size) → wpList Tryd.prog ops Q rest (a.put o.dst v') w') :
    wpList Tryd.prog ops Q (o :: rest) a w := by
  subst hn
  obtain ⟨i, hi, hz0, hz1, hz2⟩ := info_str
  cases q with
  | none =>
    obtain ⟨rfl, rfl⟩ := hq rfl
    refine wpList_append_own_none hgd s x _ ho N StT i 1 Tryd.underlying51 hi v l.length (strs l) hs hown hx ?_
    exact h v w (by simpa using hown) ⟨rfl, rfl, rfl, Nat.le_refl _, fun _ _ _ => rfl⟩ (.inl rfl)
  | some ad =>
    have hnews : ∀ j u, (strs m)[j]? = some u → w.cell? (ad.add j) = some u := by
      intro j u hu
      unfold strs at hu
      rw [List.getElem?_map, Option.map_eq_some_iff] at hu
      obtain ⟨y, hy, rfl⟩ := hu
      obtain ⟨b, off, e, h1, h2⟩ := hr j y hy
      injection e with e
      subst e
      have ea : (⟨b, off, none⟩ : Addr).add j = ⟨b, off + j, none⟩ := by unfold Addr.add; split <;> simp_all
      rw [ea]
      exact h2
    refine wpList_append_own_at w hgd s x _ ho N StT i (.string ⟨#[]⟩) 1 16 Tryd.underlying51 hi hz0 hz1 hz2 rfl (by decide) v l.length (strs l) hs hown ad m.length c (strs m) hx
      (by rw [strs_len, Nat.mul_one]) hnews (strs_one m) (by unfold maxLen; omega) (by omega) hbase ?_
    intro v' w' h1 h2 h3 h4
    refine h v' w' ?_ h2 h4
    unfold OwnS
    rw [strs_app, List.length_append]
    exact h1

/-! ### in, same -/
theorem byte_beq (a b : ByteArray) : (a.toList == b.toList) = decide (a = b) := by
  rw [ByteArray.toList_eq, ByteArray.toList_eq, Bool.eq_iff_iff, beq_iff_eq, decide_eq_true_eq]
  constructor
  · intro h
    cases a
    cases b
    simp only at h
    congr 1
    exact Array.ext' h
  · intro h
    rw [h]
theorem in_any (w : World) (q : Option Addr) (n c : Nat) (l : List ByteArray) (s : ByteArray) (b : Bool) (hn : n = l.length) (hb : b = true ↔ s ∈ l) (hr : SRow w q l) (hl : n ≤ 1000000) :
    Calls Tryd.prog 22 #[.slice q n c, .string s] w fun e w' => e = .returned (.bool b) ∧ w = w' := by
  have HR := Lib.hid (And.intro hr (And.intro hb hn))
  clear hr hb hn
  go_enter Tryd.func22, Tryd.ntmps22
  go_wp2_with fail
  go_loopg [6, 9] n (fun g _ vi wr => ∃ j : Nat, vi = .int .i64 (j : Int) ∧ j ≤ n ∧ n - j ≤ g ∧ Hid (∀ x ∈ l.take j, x ≠ s) ∧ w = wr)
  case atStart => exact ⟨0, rfl, Nat.zero_le _, by omega, fun x hx => by simp at hx, rfl⟩
  case round =>
    obtain ⟨j, rfl, h1, h2, HP, rfl⟩ := hrel
    by_cases hlt : j < n
    · obtain ⟨hr, hb, hn⟩ := HR.out
      obtain ⟨x, hx⟩ : ∃ x, l[j]? = some x := ⟨l[j]'(by omega), List.getElem?_eq_getElem (by omega)⟩
      obtain ⟨g, off, rfl, hg, hc⟩ := hr j x hx
      by_cases he : x = s
      · have t1 : (x.toList == s.toList) = true := by rw [he]; simp
        have HB : Hid (b = true) := by
          show _ = _
          rw [hb, ← he]
          exact List.mem_of_getElem? hx
        clear hr hb hn hx hg he HP
        go_wp2
        go_ret
        exact ⟨by rw [HB.out]; rfl, rfl⟩
      · have t1 : (x.toList == s.toList) = false := by rw [byte_beq]; exact decide_eq_false he
        have HP2 : Hid (∀ y ∈ l.take (j + 1), y ≠ s) := by
          intro y hy
          rw [List.take_add_one, hx, List.mem_append] at hy
          rcases hy with hy | hy
          · exact HP.out y hy
          · simp at hy
            subst hy
            exact he
        clear hr hb hn hx hg he HP
        go_wp2
        go_roundg (n - (j + 1))
        case measure => omega
        case rel => exact ⟨j + 1, by push_cast; rfl, by omega, by omega, HP2.out, rfl⟩
    · obtain rfl : j = n := by omega
      have HB : Hid (b = false) := by
        obtain ⟨hr, hb, hn⟩ := HR.out
        show _ = _
        rw [← Bool.not_eq_true, hb]
        intro hm
        have := HP.out s (by rw [List.take_of_length_le (by omega)]; exact hm)
        exact this rfl
      clear HP
      go_wp2
      go_ret
      exact ⟨by rw [HB.out]; rfl, rfl⟩
theorem take_eq {a b : List ByteArray} {j : Nat} {x : ByteArray} (h : a.take j = b.take j) (ha : a[j]? = some x) (hb : b[j]? = some x) : a.take (j + 1) = b.take (j + 1) := by
  rw [List.take_add_one, List.take_add_one, h, ha, hb]
set_option maxHeartbeats 1000000 in
theorem names_same (w : World) (q p : Option Addr) (n m c d : Nat) (a b : List ByteArray) (t : Bool) (hn : n = a.length) (hm : m = b.length) (ht : t = true ↔ a = b) (ha : SRow w q a) (hb : SRow w p b) (hl : n ≤ 1000000) (hk : m ≤ 1000000) :
    Calls Tryd.prog 9 #[.slice q n c, .slice p m d] w fun e w' => e = .returned (.bool t) ∧ Below w.heap.size w w' := by
  by_cases e : n = m
  case neg =>
    have t1 : ((n : Int) != (m : Int)) = true := by simp; omega
    have HT : Hid (t = false) := by
      show _ = _
      rw [← Bool.not_eq_true, ht]
      rintro rfl
      exact e (hn.trans hm.symm)
    clear hn hm ht ha hb e
    go_enter Tryd.func9, Tryd.ntmps9
    go_wp2
    go_ret
    exact ⟨by rw [HT.out]; rfl, Below.refl _ _⟩
  subst e
  have t1 : ((n : Int) != (n : Int)) = false := by simp
  have HH := Lib.hid (And.intro ha (And.intro hb (And.intro hn (And.intro hm ht))))
  clear ha hb hn hm ht
  go_enter Tryd.func9, Tryd.ntmps9
  go_wp2_with fail
  go_loopg [5, 13] n (fun g _ vi wr => ∃ j : Nat, vi = .int .i64 (j : Int) ∧ j ≤ n ∧ n - j ≤ g ∧ Hid (a.take j = b.take j) ∧ Hid (Below w.heap.size w wr))
  case atStart => exact ⟨0, rfl, Nat.zero_le _, by omega, rfl, Below.refl _ _⟩
  case round =>
    obtain ⟨j, rfl, h1, h2, HP, HB⟩ := hrel
    by_cases hlt : j < n
    · obtain ⟨ha, hb, hn, hm, ht⟩ := HH.out
      obtain ⟨x, hx⟩ : ∃ x, a[j]? = some x := ⟨a[j]'(by omega), List.getElem?_eq_getElem (by omega)⟩
      obtain ⟨y, hy⟩ : ∃ y, b[j]? = some y := ⟨b[j]'(by omega), List.getElem?_eq_getElem (by omega)⟩
      obtain ⟨g1, o1, rfl, _, hc1⟩ := (ha.below HB.out) j x hx
      obtain ⟨g2, o2, rfl, _, hc2⟩ := (hb.below HB.out) j y hy
      by_cases he : x = y
      · have t2 : (!x.toList == y.toList) = false := by rw [he]; simp
        have HP2 : Hid (a.take (j + 1) = b.take (j + 1)) := take_eq HP.out hx (by rw [hy, he])
        clear ha hb hn hm ht hx hy he HP
        go_wp2_with fail
        go_quiet (fail)
        have B4 : Hid (Below w.heap.size w (wr.drewN nq)) := HB.out.trans ((((Gr.refl wr).drewN nq).below).mono HB.out.size)
        clear hc1 hc2 HB
        generalize wr.drewN nq = w4 at B4 ⊢
        go_wp2
        go_roundg (n - (j + 1))
        case measure => omega
        case rel => exact ⟨j + 1, by push_cast; rfl, by omega, by omega, HP2.out, B4.out⟩
      · have t2 : (!x.toList == y.toList) = true := by rw [byte_beq, decide_eq_false he]; rfl
        have HT : Hid (t = false) := by
          show _ = _
          rw [← Bool.not_eq_true, ht]
          rintro rfl
          rw [hx] at hy
          cases hy
          exact he rfl
        clear ha hb hn hm ht hx hy he HP
        go_wp2_with fail
        go_quiet (fail)
        have B4 : Hid (Below w.heap.size w (wr.drewN nq)) := HB.out.trans ((((Gr.refl wr).drewN nq).below).mono HB.out.size)
        clear hc1 hc2 HB
        generalize wr.drewN nq = w4 at B4 ⊢
        go_wp2
        go_ret
        exact ⟨by rw [HT.out]; rfl, B4.out⟩
    · obtain rfl : j = n := by omega
      have HT : Hid (t = true) := by
        obtain ⟨ha, hb, hn, hm, ht⟩ := HH.out
        show _ = _
        rw [ht]
        have := HP.out
        rwa [List.take_of_length_le (by omega), List.take_of_length_le (by omega)] at this
      clear HP
      go_wp2
      go_ret
      exact ⟨by rw [HT.out]; rfl, HB.out⟩
end Go.Proofs.YtbkoepghmcdnhaaDoor.Rp
