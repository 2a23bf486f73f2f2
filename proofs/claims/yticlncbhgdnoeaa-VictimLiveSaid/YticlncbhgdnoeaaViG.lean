/- Layer 15 (victim): all pods of a row, the first to go first (Order); the names of the first so many (Pick). -/
import Derived.Test.YticlncbhgdnoeaaViF
namespace Go.Proofs.Yticlncbhgdnoeaa.Vi
open Go.RowKit Go.Shelf Go.Lib Go.Sort Go.Deep
open Go.Joins (cell_of_block unfrozen_of_block block_setCell)
open Go.Proofs.Yticlncbhgdnoeaa.Ow
set_option linter.unusedVariables false
set_option linter.unusedSimpArgs false
set_option maxRecDepth 20000

set_option maxHeartbeats 4000000 in
theorem order_any (W w : World) (low : Below W.heap.size W w) (q : Option Addr) (c : Nat) (l : List Obv) (hr : RowR 47 encOb W q l) (hok : ∀ x ∈ l, ObjV W x.1.1 x.2 ∧ NilO x.1.1 ∧ FitO x.2) (hlen : l.length < 1000000) :
    Calls Try.prog 11 #[.slice q l.length c] w fun e w' => (∃ q' c' n, e = .returned (.slice q' n c') ∧ Hid (∃ p s : List El, n = s.length ∧ Row w.heap.size w' (.slice q' n c') (s.map (·.1)) ∧ Sorted s ∧ Same1 p s ∧ p.map (·.1.2) = (l.map (·.2)).filter isPod)) ∧ Below w.heap.size w w' := by
  have CS := Lib.hid (sift_any W w w.heap.size rfl low q c l hr hok (by omega) 13 #[] isPod enters_pod (fun ws X o b hv => by rw [append_none]; exact podis_any ws X o hv))
  have HN : Hid (((l.map (·.2)).filter isPod).length < 1000000) := by
    have := List.length_filter_le isPod (l.map (·.2))
    rw [List.length_map] at this
    show _ < _
    omega
  obtain ⟨n, hn⟩ : ∃ n, n = l.length := ⟨_, rfl⟩
  rw [← hn] at CS ⊢
  clear hr hok hlen low hn
  go_enter Try.func11, Try.ntmps11
  go_wp2_with fail
  refine CS.out.mono ?_
  rintro e w1 ⟨⟨q1, c1, l1, rfl, r1, e1⟩, b1⟩
  have fd : ∀ x ∈ l1, Fd x := fun x hx => by
    have hm : x.2 ∈ (l.map (·.2)).filter isPod := by rw [← e1]; exact List.mem_map.2 ⟨x, hx, rfl⟩
    have := (List.mem_filter.1 hm).2
    exact fd_obj (r1.firm x hx).obj.1 (of_decide_eq_true this)
  obtain ⟨p, rfl⟩ := els fd
  rw [List.length_map] at r1
  have hcc : q1 = none → c1 = 0 := by
    intro e
    subst e
    rcases r1.own.2 with ⟨e, _⟩ | ⟨g, cap, cur, e, _⟩
    · simp only [Value.slice.injEq] at e; exact e.2.2
    · cases e
  have hp : p.length < 1000000 := by
    have := congrArg List.length e1
    rw [List.length_map, List.length_map] at this
    have := HN.out
    omega
  have CO := Lib.hid (sort_row w1 w.heap.size q1 c1 p r1 hp hcc)
  have H1 := Lib.hid (And.intro b1 (And.intro e1 r1.own))
  obtain ⟨m, hm⟩ : ∃ m, m = p.length := ⟨_, rfl⟩
  rw [List.length_map]
  rw [← hm] at CO H1 ⊢
  have HM : Hid (m = p.length) := hm
  clear fd r1 hcc hp b1 e1 CS hm
  go_wp2_with fail
  refine CO.out.mono ?_
  rintro e w2 ⟨rfl, ⟨s, hs, rs, ss, sm⟩, gb⟩
  have FIN : Hid ((∃ q' c' n, Ending.returned (.slice q1 m c1) = .returned (.slice q' n c') ∧ Hid (∃ p s : List El, n = s.length ∧ Row w.heap.size w2 (.slice q' n c') (s.map (·.1)) ∧ Sorted s ∧ Same1 p s ∧ p.map (·.1.2) = (l.map (·.2)).filter isPod)) ∧ Below w.heap.size w w2) := by
    obtain ⟨b1, e1, o1⟩ := H1.out
    refine ⟨⟨q1, c1, m, rfl, p, s, by rw [hs, HM.out], rs, ss, sm, by rw [← e1, List.map_map]; rfl⟩, b1.grown gb b1.size (fun k e => (own_lt o1 e).1)⟩
  clear hs rs ss sm gb CO H1 HN HM
  go_wp2
  go_ret
  exact FIN.out

theorem inf_str : ∃ i : TypeInfo, Try.prog.info? 9 = some i ∧ i.zero = some (.string ⟨#[]⟩) ∧ i.size = 1 ∧ i.bytes = 16 := by
  have hinf : (Try.prog.info? 9).map (fun i => (i.zero, i.size, i.bytes)) = some (some (.string ⟨#[]⟩), 1, 16) := by kernel_rfl
  cases hi : Try.prog.info? 9 with
  | none => rw [hi] at hinf; cases hinf
  | some i =>
    rw [hi] at hinf
    simp only [Option.map_some, Option.some.injEq, Prod.mk.injEq] at hinf
    exact ⟨i, rfl, hinf.1, hinf.2.1, hinf.2.2⟩
def nmV (s : List El) : List Value := s.map fun x => .string x.1.2.name
/-- The row's object at a place. -/
theorem Row.at {N : Nat} {w : World} {q : Option Addr} {n c : Nat} {l : List Obv} (h : Row N w (.slice q n c) l) {j : Nat} {x : Obv} (hx : l[j]? = some x) : ∃ g, q = some ⟨g, 0, none⟩ ∧ N ≤ g ∧ g < w.heap.size ∧ w.rangeAt g (j * 47) (encOb x) := by
  rcases h.own.2 with ⟨e, e0⟩ | ⟨g, cap, cur, e, hb, hg, hc, hm, hsz, htk⟩
  · have := (List.getElem?_eq_some_iff.1 hx).1; omega
  · simp only [Value.slice.injEq] at e
    obtain ⟨rfl, _, _⟩ := e
    refine ⟨g, rfl, hb, (Array.getElem?_eq_some_iff.1 hg).1, fun t v hv => ?_⟩
    have ht : t < 47 := by rw [← lenOb x]; exact (List.getElem?_eq_some_iff.1 hv).1
    have e1 := flat_at lenOb l j t x hx ht
    rw [hv, ← htk] at e1
    have hj : j < l.length := (List.getElem?_eq_some_iff.1 hx).1
    have hlt : j * 47 + t < l.length * 47 := by omega
    rw [List.getElem?_take_of_lt hlt, Array.getElem?_toList] at e1
    rw [cell_of_block hg]
    exact e1
set_option maxHeartbeats 8000000 in
theorem pick_any (W w : World) (low : Below W.heap.size W w) (q : Option Addr) (c : Nat) (l : List Obv) (k : Int) (hr : RowR 47 encOb W q l) (hok : ∀ x ∈ l, ObjV W x.1.1 x.2 ∧ NilO x.1.1 ∧ FitO x.2) (hlen : l.length < 1000000) :
    Calls Try.prog 6 #[.slice q l.length c, .int .i64 k] w fun e w' => (∃ q' c' m, e = .returned (.slice q' m c') ∧ Hid (∃ p s : List El, Sorted s ∧ Same1 p s ∧ p.map (·.1.2) = (l.map (·.2)).filter isPod ∧ m = (s.take k.toNat).length ∧ w'.ownsRow w.heap.size 9 1 (.slice q' m c') m (nmV (s.take k.toNat)))) ∧ Below w.heap.size w w' := by
  obtain ⟨inf, i1, i2, i3, i4⟩ := inf_str
  have HI := Lib.hid (And.intro i1 (And.intro i2 (And.intro i3 i4)))
  have CS := Lib.hid (order_any W w low q c l hr hok hlen)
  obtain ⟨n, hn⟩ : ∃ n, n = l.length := ⟨_, rfl⟩
  rw [← hn] at CS hlen ⊢
  have HL := Lib.hid hn
  clear hr hok low hn i1 i2 i3 i4
  go_enter Try.func6, Try.ntmps6
  go_wp2_with fail
  refine CS.out.mono ?_
  rintro e w1 ⟨⟨q1, c1, m1, rfl, HP⟩, b1⟩
  obtain ⟨p, s, hm, rs, ss, sm, hp⟩ := HP.out
  have hms : m1 < 1000000 := by
    have h1 := congrArg List.length hp
    have h2 := List.length_filter_le isPod (l.map (·.2))
    rw [List.length_map] at h1 h2
    have h3 := sm.1.length_eq
    have := HL.out
    omega
  have HH := Lib.hid (And.intro hm (And.intro rs (And.intro ss (And.intro sm (And.intro hp b1)))))
  have z1 : w.heap.size ≤ w1.heap.size := b1.size
  clear hm rs ss sm hp b1 CS HP
  go_wp2_with fail
  go_loopg [5, 11] m1 (fun g1 v5 vi wr => ∃ j : Nat, vi = .int .i64 (j : Int) ∧ j ≤ m1 ∧ m1 - j ≤ g1 ∧ Hid (j ≤ k.toNat) ∧ (∃ q5 c5, v5 = .slice q5 j c5 ∧ Hid (wr.ownsRow w1.heap.size 9 1 (.slice q5 j c5) j (nmV (s.take j)))) ∧ Hid (Below w1.heap.size w1 wr))
  case atStart => exact ⟨0, rfl, Nat.zero_le _, by omega, Nat.zero_le _, ⟨none, 0, rfl, World.ownsRow_nil _ _ _ _⟩, Below.refl _ _⟩
  case round =>
    obtain ⟨j, rfl, h1, h2, hjk, ⟨q5, c5, rfl, HO⟩, HB⟩ := hrel
    by_cases hlt : j < m1
    · obtain ⟨hm, rs, ss, sm, hp, b1⟩ := HH.out
      obtain ⟨x, hx⟩ : ∃ x, s[j]? = some x := ⟨s[j]'(by omega), List.getElem?_eq_getElem (by omega)⟩
      have hx' : (s.map (·.1))[j]? = some x.1 := by rw [List.getElem?_map, hx]; rfl
      obtain ⟨g, rfl, hNg, hg1, hra⟩ := rs.at hx'
      have LD := Lib.hid (load_at (x := x.1) (rangeAt_below hra HB.out hg1))
      obtain ⟨X, hX⟩ : ∃ X, X = x.1.1.1 := ⟨_, rfl⟩
      rw [← hX] at LD
      have hXs : X.size = 47 := by rw [hX]; exact x.1.1.2.1
      have hXo : X.all (·.oneCell') = true := by rw [hX]; exact x.1.1.2.2
      have hX1 : X[1]? = some (.string x.1.2.name) := by rw [hX]; exact x.2.2.1
      have z0 : (wr.alloc (.cells zerC OT)).heap[wr.heap.size]? = some (.cells zerC OT (0, 0)) := heap_alloc_new wr _
      obtain ⟨w3, hw3⟩ : ∃ W', W' = (wr.alloc (.cells zerC OT)).setCells wr.heap.size 0 X.toList := ⟨_, rfl⟩
      obtain ⟨O, hO⟩ : ∃ A, A = wr.heap.size := ⟨_, rfl⟩
      have th := Ld.there_block z0 (n := X.size) (by rw [hXs]; rfl)
      have o3 : w3.heap[O]? = some (.cells X OT (0, 0)) := by rw [hw3, hO]; exact Ld.laid z0 (by rw [hXs]; rfl)
      have b3 : Below O wr w3 := by rw [hw3, hO]; exact Ld.below_setCells _ _ _ (Nat.le_refl _) (((Gr.refl wr).alloc _).below)
      have TH := Lib.hid th
      have IN : Hid ((Try.prog.info? OT).map (·.size) = some X.size) := by show _ = _; rw [hXs]; exact info_ob47
      have ON := Lib.hid hXo
      have HW3 : Hid ((wr.alloc (.cells zerC OT)).setCells wr.heap.size 0 X.toList = w3 ∧ wr.heap.size = O) := ⟨hw3.symm, hO.symm⟩
      have B3 : Hid (Below wr.heap.size wr w3) := by rw [hO] at b3; exact b3
      obtain ⟨nm, hnm⟩ : ∃ s, s = x.1.2.name := ⟨_, rfl⟩
      rw [← hnm] at hX1
      have d1 : w3.cell? ⟨O, 1, none⟩ = some (.string nm) := (cell_of_block o3 1).trans hX1
      obtain ⟨w4, hw4⟩ : ∃ w4, w4 = w3.alloc (.cells #[.string nm] 9) := ⟨_, rfl⟩
      obtain ⟨M, hM⟩ : ∃ M, M = w3.heap.size := ⟨_, rfl⟩
      have b4 : Below w3.heap.size w3 w4 := by rw [hw4]; exact ((Gr.refl w3).alloc _).below
      have lo4 : Below wr.heap.size wr w4 := by
        rw [hO] at b3
        exact b3.trans (b4.mono b3.size)
      have NEW : Hid (∀ (t : Nat) u, [Value.string nm][t]? = some u → w4.cell? ((⟨M, 0, none⟩ : Addr).add t) = some u) := by
        have := World.news_of_block (w := w4) (B := M) (cs := #[.string nm]) (t := 9) (fr := (0, 0)) (by rw [hw4, hM]; exact heap_alloc_new w3 _)
        exact this
      have HW4 : Hid (w3.alloc (.cells #[.string nm] 9) = w4 ∧ w3.heap.size = M) := ⟨hw4.symm, hM.symm⟩
      have OW : Hid (w4.ownsRow w1.heap.size 9 1 (.slice q5 j c5) j (nmV (s.take j))) := own_below HO.out lo4
      have zB := HB.out.size
      have BS : Hid (w1.heap.size ≤ w4.heap.size) := by have := lo4.size; show _ ≤ _; omega
      have HX : Hid (s[j]? = some x ∧ nm = x.1.2.name ∧ Below wr.heap.size wr w4) := ⟨hx, hnm, lo4⟩
      clear hm rs ss sm hp b1 hx hx' hNg hg1 hra hX hXs hXo hX1 z0 hw3 hO th o3 b3 hw4 hM b4 lo4 hnm zB
      go_upto_region 5 with (first | (refine wpList_load_by (by kernel_rfl) OT _ rfl (.pointer (some ⟨g, j * 47, none⟩)) (.agg X) (by first | rfl | (simp; done)) LD.out ?_) | (refine wpList_store_mid rfl _ _ _ rfl wr.heap.size 0 X (by rfl) (by rfl) TH.out IN.out ON.out ?_; rw [HW3.out.1, HW3.out.2]))
      clear TH IN ON HW3 LD
      by_cases hk : k ≤ (j : Int)
      · have t1 : decide ((j : Int) ≥ k) = true := decide_eq_true hk
        have K4 : Hid (Below wr.heap.size wr w3) := by
          have := HX.out.2.2
          exact B3.out
        have FIN : Hid ((∃ q' c' m, Ending.returned (.slice q5 j c5) = .returned (.slice q' m c') ∧ Hid (∃ p s : List El, Sorted s ∧ Same1 p s ∧ p.map (·.1.2) = (l.map (·.2)).filter isPod ∧ m = (s.take k.toNat).length ∧ w3.ownsRow w.heap.size 9 1 (.slice q' m c') m (nmV (s.take k.toNat)))) ∧ Below w.heap.size w w3) := by
          obtain ⟨hm, rs, ss, sm, hp, b1⟩ := HH.out
          have hjk' := hjk.out
          have e : k.toNat = j := by omega
          refine ⟨⟨q5, c5, j, rfl, p, s, ss, sm, hp, by rw [e, List.length_take]; omega, ?_⟩, b1.trans ((HB.out.trans (K4.out.mono HB.out.size)).mono z1)⟩
          rw [e]
          exact own_mono (own_below HO.out K4.out) z1
        clear HO HB HX HH hjk K4 B3 OW NEW d1 HW4 BS
        go_wp2
        go_ret
        exact FIN.out
      · have t1 : decide ((j : Int) ≥ k) = false := decide_eq_false (by omega)
        go_wp2_with (at_builtin; rw [HW4.out.1, HW4.out.2]; refine wpList_append_own_at w4 rfl _ _ 50 rfl w1.heap.size 9 inf (.string ⟨#[]⟩) 1 16 Try.underlying50 HI.out.1 HI.out.2.1 HI.out.2.2.1 HI.out.2.2.2 rfl (by decide) (.slice q5 j c5) j (nmV (s.take j)) (by rfl) OW.out ⟨M, 0, none⟩ 1 1 [.string nm] (by rfl) rfl NEW.out (by intro u hu; simp at hu; subst hu; rfl) (by unfold maxLen; omega) (by omega) BS.out ?_; intro v7 w7 ho7 hg7 hn7 ha7; obtain ⟨q7, c7, rfl⟩ := own_slc ho7)
        have FIN : Hid (j + 1 ≤ k.toNat) ∧ (∃ q5' c5', Value.slice q7 (j + 1) c7 = .slice q5' (j + 1) c5' ∧ Hid (w7.ownsRow w1.heap.size 9 1 (.slice q5' (j + 1) c5') (j + 1) (nmV (s.take (j + 1))))) ∧ Hid (Below w1.heap.size w1 w7) := by
          obtain ⟨hx, hnm, lo4⟩ := HX.out
          refine ⟨by show _ ≤ _; omega, ⟨q7, c7, rfl, ?_⟩, ?_⟩
          · have e : nmV (s.take (j + 1)) = nmV (s.take j) ++ [.string nm] := by
              unfold nmV
              rw [List.take_add_one, hx, List.map_append, hnm]
              rfl
            rw [e]
            exact ho7
          · exact (HB.out.trans (lo4.mono HB.out.size)).grown hg7 BS.out (fun k e => (own_lt OW.out e).1)
        obtain ⟨F1, F2, F3⟩ := FIN
        clear ho7 hg7 hn7 ha7 HO HB HX hjk B3 OW NEW d1 HW4 BS
        go_wp2_with fail
        go_roundg (m1 - (j + 1))
        case measure => omega
        case rel => exact ⟨j + 1, by push_cast; rfl, by omega, by omega, F1, F2, F3⟩
    · have FIN : Hid ((∃ q' c' m, Ending.returned (.slice q5 j c5) = .returned (.slice q' m c') ∧ Hid (∃ p s : List El, Sorted s ∧ Same1 p s ∧ p.map (·.1.2) = (l.map (·.2)).filter isPod ∧ m = (s.take k.toNat).length ∧ wr.ownsRow w.heap.size 9 1 (.slice q' m c') m (nmV (s.take k.toNat)))) ∧ Below w.heap.size w wr) := by
        obtain ⟨hm, rs, ss, sm, hp, b1⟩ := HH.out
        have hjk' := hjk.out
        have e : s.take k.toNat = s.take j := by rw [List.take_of_length_le (by omega), List.take_of_length_le (by omega)]
        refine ⟨⟨q5, c5, j, rfl, p, s, ss, sm, hp, by rw [e, List.length_take]; omega, ?_⟩, b1.trans (HB.out.mono z1)⟩
        rw [e]
        exact own_mono HO.out z1
      clear HO HB HH hjk
      go_wp2
      go_ret
      exact FIN.out
end Go.Proofs.Yticlncbhgdnoeaa.Vi
