/- Layer 16 (replica): what the law's plan answers. -/
import Derived.Test.YtbkoepghmcdnhaaDoorPk4
import Derived.Test.YtbkoepghmcdnhaaDoorPk2
namespace Go.Proofs.YtbkoepghmcdnhaaDoor.Rp
open Go.RowKit Go.Shelf Go.Lib Go.Sort Go.Deep
open Go.Joins (cell_of_block unfrozen_of_block block_setCell)
open Go.Proofs.YtbkoepghmcdnhaaDoor.Ow Go.Proofs.YtbkoepghmcdnhaaDoor.Vi
set_option linter.unusedVariables false
set_option linter.unusedSimpArgs false
set_option maxRecDepth 20000

/-- What the law asks of the row: pods that may be, of unlike names. -/
structure Fine (l : List Ob) : Prop where
  pod : ∀ x ∈ l, isPod x = true
  ph : ∀ x ∈ l, 0 ≤ x.p.ph ∧ x.p.ph ≤ 3
  nm : ∀ x ∈ l, x.name.data.toList ≠ []
  sz : ∀ x ∈ l, x.name.size ≤ maxLen
  un : UnlikeN l
theorem take_filter {l : List Obv} {p : Obv → Bool} {j : Nat} {x : Obv} (hx : l[j]? = some x) : (l.take (j + 1)).filter p = (l.take j).filter p ++ (if p x = true then [x] else []) := by
  rw [List.take_add_one, hx, List.filter_append]
  congr 1
  by_cases h : p x = true
  · rw [if_pos h]; simp [h]
  · rw [if_neg h]; simp [h]
theorem frees_P {s : ByteArray} {T : List Nmb} {n k : Nat} {P : Nat → Bool} (hP : P = fun k => okNm s && fr s T k) (hn : n ≤ 10000) (hc : ((List.range n).filter P).length ≤ k) (h : n = 10000 ∨ ((List.range n).filter P).length = k) : frees s T k = ((List.range n).filter P).map (pname s) := by
  cases hs : okNm s with
  | true =>
    have e : P = fr s T := by rw [hP, hs]; funext x; rfl
    rw [e] at hc h ⊢
    exact frees_at hs hn hc h
  | false =>
    have e : (List.range n).filter P = [] := by
      rw [hP, hs, List.filter_eq_nil_iff]
      intro x _ h
      cases h
    unfold frees
    rw [if_neg (by rw [hs]; decide), e]
    rfl
/-- What the law's plan comes to. -/
def PlanIs (w w' : World) (s : ByteArray) (N : Nat) (l : List Ob) (so : List Ob) (v1 v2 : Value) : Prop :=
  OwnS w.heap.size w' v1 (frees s (takenOf s l) (min (N - so.length) 16)) ∧
  OwnS w.heap.size w' v2 (sortS ((l.filter (isFailed s)).map (·.name)) ++ (so.take (min (so.length - N) 16)).map (·.name))
set_option maxHeartbeats 16000000 in
theorem lplan_any (w : World) (X : Array Value) (o : Ob) (N : Nat) (q : Option Addr) (n c : Nat) (l : List Obv) (so : List Ob) (hv : ObjV w X o) (hN : o.w.rep = (N : Int)) (hN1 : N ≤ 1000000000) (hs : o.name.size ≤ maxLen) (hn : n = l.length) (hr : RowR 47 encOb w q l)
    (hok : ∀ x ∈ l, ObjV w x.1.1 x.2) (hf : Fine (l.map (·.2))) (hlen : n ≤ 60) (hT : Tab w) (hso : so.Pairwise ltO) (hpm : ((l.map (·.2)).filter (isLive o.name)).Perm so) :
    Calls Tryd.prog 8 #[.agg X, .slice q n c] w fun e w' => (∃ v1 v2, e = .returned (.tuple #[v1, v2]) ∧ Hid (PlanIs w w' o.name N (l.map (·.2)) so v1 v2)) ∧ Below w.heap.size w w' := by
  have mixed : Tryd.prog.follows .mixedOrders = true := by kernel_rfl
  obtain ⟨B, hB⟩ : ∃ B, B = w.heap.size := ⟨_, rfl⟩
  obtain ⟨w1, hw1⟩ : ∃ W, W = w.alloc (.cells X OT) := ⟨_, rfl⟩
  have G1 : Gr w w1 := hw1 ▸ (Gr.refl w).alloc _
  have b1 : w1.heap[B]? = some (.cells X OT (0, 0)) := by rw [hw1, hB]; exact heap_alloc_new w _
  obtain ⟨s, hsn⟩ : ∃ a, a = o.name := ⟨_, rfl⟩
  have HBl : Hid (B < w1.heap.size) := (Array.getElem?_eq_some_iff.1 b1).1
  have E1 : Hid (w1.cell? ⟨B, 1, none⟩ = some (.string s)) := by show _ = _; rw [hsn]; exact (cell_of_block b1 1).trans hv.2.1.2.1
  have E3 : Hid (w1.cell? ⟨B, 3, none⟩ = some (.int .i64 (N : Int))) := by show _ = _; rw [← hN]; exact (cell_of_block b1 3).trans hv.2.2.1.1
  have HW : Hid (w.alloc (.cells X OT) = w1 ∧ w.heap.size = B) := ⟨hw1.symm, hB.symm⟩
  have HGW := Lib.hid G1.below
  have zz : Hid (w.heap.size ≤ w1.heap.size) := G1.below.size
  rw [← hsn] at hpm ⊢
  have HS : Hid (s.size ≤ maxLen) := by rw [hsn]; exact hs
  have HH := Lib.hid (And.intro (hr.below G1.below) (And.intro (fun x hx => (hok x hx).below G1.below : ∀ x ∈ l, ObjV w1 x.1.1 x.2) (And.intro hf (And.intro hn (var_belowT hT G1.below)))))
  have HSO := Lib.hid (And.intro hso hpm)
  clear hv hN hB hw1 G1 b1 hr hok hn hT hs hsn hso hpm hf
  go_enter Tryd.func8, Tryd.ntmps8
  go_upto_region 1 with fail
  rw [HW.out.1, HW.out.2]
  go_wp2_with fail
  go_loopg [6, 7, 28] n (fun g v6 v7 vi wr => ∃ j : Nat, vi = .int .i64 (j : Int) ∧ j ≤ n ∧ n - j ≤ g ∧ Hid (OwnO w1.heap.size wr v6 ((l.take j).filter (fun x => isLive s x.2))) ∧ Hid (OwnO w1.heap.size wr v7 ((l.take j).filter (fun x => isFailed s x.2))) ∧ Hid (∀ k, v6.ownBlock = some k → v7.ownBlock ≠ some k) ∧ Hid (Below w1.heap.size w1 wr))
  case atStart => exact ⟨0, rfl, Nat.zero_le _, by omega, OwnO.nil _ _, OwnO.nil _ _, (by show ∀ k : Nat, (Value.slice none 0 0).ownBlock = some k → (Value.slice none 0 0).ownBlock ≠ some k; intro k e; simp [Value.ownBlock] at e), Below.refl _ _⟩
  case round =>
    obtain ⟨j, rfl, h1, h2, H6, H7, HD, HB⟩ := hrel
    by_cases hlt : j < n
    · obtain ⟨hr, hok, hf, hn, hT⟩ := HH.out
      obtain ⟨x, hx⟩ : ∃ x, l[j]? = some x := ⟨l[j]'(by omega), List.getElem?_eq_getElem (by omega)⟩
      obtain ⟨b, off, rfl, _, _⟩ := hr j x hx
      obtain ⟨hbl, hra⟩ := rangeAt_obs hr hx
      have LD := Lib.hid (load_at (x := x) (rangeAt_below hra HB.out hbl))
      have okv := hok x (List.mem_of_getElem? hx)
      have hpod := hf.pod x.2 (List.mem_map.2 ⟨x, List.mem_of_getElem? hx, rfl⟩)
      obtain ⟨X', hX⟩ : ∃ X, X = x.1.1 := ⟨_, rfl⟩
      rw [← hX] at LD okv
      have ON := Lib.hid (objV_one okv)
      obtain ⟨th, inn, el⟩ := el_new wr X' okv.1
      have TH := Lib.hid th
      have IN := Lib.hid inn
      obtain ⟨w3, hw3⟩ : ∃ W', W' = (wr.alloc (.cells zerC OT)).setCells wr.heap.size 0 X'.toList := ⟨_, rfl⟩
      obtain ⟨O, hO⟩ : ∃ A, A = wr.heap.size := ⟨_, rfl⟩
      have HW3 : Hid ((wr.alloc (.cells zerC OT)).setCells wr.heap.size 0 X'.toList = w3 ∧ wr.heap.size = O) := ⟨hw3.symm, hO.symm⟩
      rw [← hw3, ← hO] at el
      obtain ⟨ow, how⟩ : ∃ a, a = x.2.p.own := ⟨_, rfl⟩
      obtain ⟨ph, hph⟩ : ∃ a, a = x.2.p.ph := ⟨_, rfl⟩
      have d10 : w3.cell? ⟨O, 10, none⟩ = some (.string ow) := by rw [how]; exact (cell_of_block el.blk 10).trans okv.2.2.2.1.1
      have d12 : w3.cell? ⟨O, 12, none⟩ = some (.int .i64 ph) := by rw [hph]; exact (cell_of_block el.blk 12).trans okv.2.2.2.1.2.2.1
      have lo3 : Below w1.heap.size w1 w3 := HB.out.trans (el.low.mono HB.out.size)
      have e1 : w3.cell? ⟨B, 1, none⟩ = some (.string s) := (lo3.cell (p := ⟨B, 1, none⟩) HBl.out).trans E1.out
      have B3 := Lib.hid lo3
      have LV := Lib.hid (load_ob el.blk okv.1)
      have L3 := Lib.hid el.low
      obtain ⟨w4, hw4⟩ : ∃ w4, w4 = w3.alloc (.cells X' OT) := ⟨_, rfl⟩
      obtain ⟨M, hM⟩ : ∃ M, M = w3.heap.size := ⟨_, rfl⟩
      have HW4 : Hid (w3.alloc (.cells X' OT) = w4 ∧ w3.heap.size = M) := ⟨hw4.symm, hM.symm⟩
      have b4 : Below w3.heap.size w3 w4 := by rw [hw4]; exact ((Gr.refl w3).alloc _).below
      have NEW : Hid (w4.heap[M]? = some (.cells x.1.1 OT (0, 0))) := by show _ = _; rw [hw4, hM, ← hX]; exact heap_alloc_new w3 _
      have lo4 : Below wr.heap.size wr w4 := el.low.trans (b4.mono el.low.size)
      have XS : Hid (X'.size = 47) := okv.1
      have HB4 := Lib.hid (HB.out.trans (lo4.mono HB.out.size))
      have L4 := Lib.hid lo4
      have BS : Hid (w1.heap.size ≤ w4.heap.size) := HB4.out.size
      have TL := Lib.hid (take_filter (p := fun x => isLive s x.2) hx)
      have TF := Lib.hid (take_filter (p := fun x => isFailed s x.2) hx)
      have LE : Hid (∀ p : Obv → Bool, ((l.take j).filter p).length + 1 ≤ 1000000) := fun p => by
        have h1 := List.length_filter_le p (l.take j)
        rw [List.length_take] at h1
        omega
      have CS : Hid (isLive s x.2 = ((ow.toList == s.toList) && !(decide (ph = 3))) ∧ isFailed s x.2 = ((ow.toList == s.toList) && decide (ph = 3))) := by
        show _ ∧ _
        unfold isLive isFailed isOf
        rw [hpod, Bool.true_and, ← how, ← hph]
        exact ⟨rfl, rfl⟩
      clear hr hok hf hn hT hx hbl hra okv hX th inn el hw3 hO lo3 hw4 hM b4 lo4 hpod how hph HB
      go_upto_region 5 with (first | (refine wpList_load_by (by kernel_rfl) OT _ rfl (.pointer (some ⟨b, off + j * 47, none⟩)) (.agg X') (by first | rfl | (simp; done)) LD.out ?_) | (refine wpList_store_mid rfl _ _ _ rfl wr.heap.size 0 X' (by rfl) (by rfl) TH.out IN.out ON.out ?_; rw [HW3.out.1, HW3.out.2]))
      clear TH IN ON HW3 LD
      by_cases hos : ow = s
      · have t1 : (ow.toList == s.toList) = true := by rw [hos]; simp
        by_cases hp3 : ph = 3
        · have HL : Hid (isLive s x.2 = false ∧ isFailed s x.2 = true) := by rw [CS.out.1, CS.out.2, t1, hp3]; exact ⟨rfl, rfl⟩
          subst hp3
          have F6 : Hid (OwnO w1.heap.size w4 u6 ((l.take (j + 1)).filter (fun x => isLive s x.2))) := by
            show OwnO _ _ _ _
            rw [TL.out, HL.out.1, if_neg (by decide), List.append_nil]
            exact H6.out.below L4.out
          have F7 := Lib.hid (H7.out.below L4.out)
          have TF2 : Hid ((l.take (j + 1)).filter (fun x => isFailed s x.2) = (l.take j).filter (fun x => isFailed s x.2) ++ [x]) := by
            show _ = _
            rw [TF.out, HL.out.2, if_pos rfl]
          clear HL CS TL TF hos H6 H7
          go_wp2_with (first
            | (refine wpList_load_by (by kernel_rfl) OT _ rfl (.pointer (some ⟨O, 0, none⟩)) (.agg X') (by kernel_rfl) LV.out ?_)
            | (refine Ld.wpList_build (by kernel_rfl) 45 OT _ rfl (.agg zerC) 47 X' (by rfl) XS.out (by decide) (by decide) Tryd.underlying45 (by kernel_rfl) ?_; rw [HW4.out.1, HW4.out.2])
            | (at_builtin; refine wpList_append_ob rfl _ _ rfl w1.heap.size u7 _ (by rfl) F7.out M x (by rfl) NEW.out (LE.out _) BS.out ?_; intro v8 w8 ho8 hg8 ha8))
          have FIN : Hid (OwnO w1.heap.size w8 u6 ((l.take (j + 1)).filter (fun x => isLive s x.2))) ∧ Hid (OwnO w1.heap.size w8 v8 ((l.take (j + 1)).filter (fun x => isFailed s x.2))) ∧ Hid (∀ k, u6.ownBlock = some k → v8.ownBlock ≠ some k) ∧ Hid (Below w1.heap.size w1 w8) := by
            refine ⟨F6.out.grown hg8 (fun k e e2 => HD.out k e2 e), by show OwnO _ _ _ _; rw [TF2.out]; exact ho8, fun k e e2 => ?_, HB4.out.grown hg8 BS.out (fun k e => (F7.out.lt k e).1)⟩
            rcases ha8 with h | h
            · rw [h] at e2; exact HD.out k e e2
            · rw [h] at e2
              have := (F6.out.lt k e).2
              have := Option.some.inj e2
              omega
          obtain ⟨G6, G7, GD, GB⟩ := FIN
          clear ho8 hg8 ha8 F6 F7 TF2 HB4 L4 BS NEW HW4 LV LE B3 L3 HD d10 d12 e1
          go_wp2_with fail
          go_roundg (n - (j + 1))
          case measure => omega
          case rel => exact ⟨j + 1, by push_cast; rfl, by omega, by omega, G6, G7, GD, GB⟩
        · have t2 : (ph == 3) = false := by rw [beq_eq_false_iff_ne]; exact hp3
          have HL : Hid (isLive s x.2 = true ∧ isFailed s x.2 = false) := by rw [CS.out.1, CS.out.2, t1, decide_eq_false hp3]; exact ⟨rfl, rfl⟩
          have F7 : Hid (OwnO w1.heap.size w4 u7 ((l.take (j + 1)).filter (fun x => isFailed s x.2))) := by
            show OwnO _ _ _ _
            rw [TF.out, HL.out.2, if_neg (by decide), List.append_nil]
            exact H7.out.below L4.out
          have F6 := Lib.hid (H6.out.below L4.out)
          have TF2 : Hid ((l.take (j + 1)).filter (fun x => isLive s x.2) = (l.take j).filter (fun x => isLive s x.2) ++ [x]) := by
            show _ = _
            rw [TL.out, HL.out.1, if_pos rfl]
          clear HL CS TL TF hos H6 H7 hp3
          go_wp2_with (first
            | (refine wpList_load_by (by kernel_rfl) OT _ rfl (.pointer (some ⟨O, 0, none⟩)) (.agg X') (by kernel_rfl) LV.out ?_)
            | (refine Ld.wpList_build (by kernel_rfl) 45 OT _ rfl (.agg zerC) 47 X' (by rfl) XS.out (by decide) (by decide) Tryd.underlying45 (by kernel_rfl) ?_; rw [HW4.out.1, HW4.out.2])
            | (at_builtin; refine wpList_append_ob rfl _ _ rfl w1.heap.size u6 _ (by rfl) F6.out M x (by rfl) NEW.out (LE.out _) BS.out ?_; intro v8 w8 ho8 hg8 ha8))
          have FIN : Hid (OwnO w1.heap.size w8 v8 ((l.take (j + 1)).filter (fun x => isLive s x.2))) ∧ Hid (OwnO w1.heap.size w8 u7 ((l.take (j + 1)).filter (fun x => isFailed s x.2))) ∧ Hid (∀ k, v8.ownBlock = some k → u7.ownBlock ≠ some k) ∧ Hid (Below w1.heap.size w1 w8) := by
            refine ⟨by show OwnO _ _ _ _; rw [TF2.out]; exact ho8, F7.out.grown hg8 (fun k e e2 => HD.out k e e2), fun k e e2 => ?_, HB4.out.grown hg8 BS.out (fun k e => (F6.out.lt k e).1)⟩
            rcases ha8 with h | h
            · rw [h] at e; exact HD.out k e e2
            · rw [h] at e
              have := (F7.out.lt k e2).2
              have := Option.some.inj e
              omega
          obtain ⟨G6, G7, GD, GB⟩ := FIN
          clear ho8 hg8 ha8 F6 F7 TF2 HB4 L4 BS NEW HW4 LV LE B3 L3 HD d10 d12 e1
          go_wp2_with fail
          go_roundg (n - (j + 1))
          case measure => omega
          case rel => exact ⟨j + 1, by push_cast; rfl, by omega, by omega, G6, G7, GD, GB⟩
      · have t1 : (ow.toList == s.toList) = false := by rw [byte_beq]; exact decide_eq_false hos
        have HL : Hid (isLive s x.2 = false ∧ isFailed s x.2 = false) := by rw [CS.out.1, CS.out.2, t1]; exact ⟨rfl, rfl⟩
        have G6 : Hid (OwnO w1.heap.size w3 u6 ((l.take (j + 1)).filter (fun x => isLive s x.2))) := by
          show OwnO _ _ _ _
          rw [TL.out, HL.out.1, if_neg (by decide), List.append_nil]
          exact H6.out.below L3.out
        have G7 : Hid (OwnO w1.heap.size w3 u7 ((l.take (j + 1)).filter (fun x => isFailed s x.2))) := by
          show OwnO _ _ _ _
          rw [TF.out, HL.out.2, if_neg (by decide), List.append_nil]
          exact H7.out.below L3.out
        clear HL CS TL TF hos H6 H7 HB4 L4 BS NEW HW4 LV LE L3 d12
        go_wp2
        go_roundg (n - (j + 1))
        case measure => omega
        case rel => exact ⟨j + 1, by push_cast; rfl, by omega, by omega, G6, G7, HD, B3⟩
    · obtain rfl : j = n := by omega
      obtain ⟨wp, rfl⟩ : ∃ W, W = wr := ⟨wr, rfl⟩
      obtain ⟨L6, hL6⟩ : ∃ L, L = l.filter (fun x => isLive s x.2) := ⟨_, rfl⟩
      obtain ⟨L7, hL7⟩ : ∃ L, L = l.filter (fun x => isFailed s x.2) := ⟨_, rfl⟩
      have htk : l.take j = l := List.take_of_length_le (by have := HH.out.2.2.2.1; omega)
      have h6 := H6.out
      have h7 := H7.out
      rw [htk, ← hL6] at h6
      rw [htk, ← hL7] at h7
      obtain ⟨q6, c6, rfl, r6⟩ := h6.slc
      obtain ⟨q7, c7, rfl, r7⟩ := h7.slc
      obtain ⟨m6, hm6⟩ : ∃ m, m = L6.length := ⟨_, rfl⟩
      obtain ⟨m7, hm7⟩ : ∃ m, m = L7.length := ⟨_, rfl⟩
      rw [← hm6, ← hm7]
      have m6n : m6 ≤ 60 := by have := List.length_filter_le (fun x : Obv => isLive s x.2) l; rw [hm6, hL6]; have := HH.out.2.2.2.1; omega
      have m7n : m7 ≤ 60 := by have := List.length_filter_le (fun x : Obv => isFailed s x.2) l; rw [hm7, hL7]; have := HH.out.2.2.2.1; omega
      have e6 : L6.map (·.2) = (l.map (·.2)).filter (isLive s) := by rw [hL6, List.filter_map]; rfl
      have e7 : L7.map (·.2) = (l.map (·.2)).filter (isFailed s) := by rw [hL7, List.filter_map]; rfl
      have hlp : Below w1.heap.size w1 wp := HB.out
      have okl : ∀ x ∈ l, ObjV wp x.1.1 x.2 := fun x hx => (HH.out.2.1 x hx).below hlp
      have ok6 : ∀ x ∈ L6, ObjV wp x.1.1 x.2 := fun x hx => okl x (by rw [hL6] at hx; exact (List.mem_filter.1 hx).1)
      have ok7 : ∀ x ∈ L7, ObjV wp x.1.1 x.2 := fun x hx => okl x (by rw [hL7] at hx; exact (List.mem_filter.1 hx).1)
      have HP := Lib.hid (And.intro hlp (And.intro r6 (And.intro r7 (And.intro ok6 (And.intro ok7 (And.intro hm6 (And.intro hm7 (And.intro e6 e7))))))))
      have EP1 : wp.cell? ⟨B, 1, none⟩ = some (.string s) := (hlp.cell (p := ⟨B, 1, none⟩) HBl.out).trans E1.out
      have EP3 : wp.cell? ⟨B, 3, none⟩ = some (.int .i64 (N : Int)) := (hlp.cell (p := ⟨B, 3, none⟩) HBl.out).trans E3.out
      have HPC := Lib.hid (And.intro EP1 (And.intro EP3 (show B < wp.heap.size from Nat.lt_of_lt_of_le HBl.out hlp.size)))
      obtain ⟨F, hF⟩ : ∃ F, F = sortS (((l.map (·.2)).filter (isFailed s)).map (·.name)) := ⟨_, rfl⟩
      have hFl : F.length = m7 := by rw [hF, sortS_len, List.length_map, ← e7, List.length_map, hm7]
      have HFF := Lib.hid (And.intro hF hFl)
      clear hL6 hL7 htk h6 h7 r6 r7 hm6 hm7 e6 e7 hlp okl ok6 ok7 hF hFl EP1 EP3 H6 H7 HD HB
      go_wp2_with fail
      go_loopg [11, 61] m7 (fun g v11 vi wr => ∃ i : Nat, vi = .int .i64 (i : Int) ∧ i ≤ m7 ∧ m7 - i ≤ g ∧ (∃ q c, v11 = .slice q i c) ∧ Hid (OwnS wp.heap.size wr v11 (F.take i)) ∧ Hid (Below wp.heap.size wp wr))
      case atStart => exact ⟨0, rfl, Nat.zero_le _, by omega, ⟨none, 0, rfl⟩, (by show OwnS _ _ _ _; rw [List.take_zero]; exact OwnS.nil _ _), Below.refl _ _⟩
      case round =>
        obtain ⟨i, rfl, hi1, hi2, ⟨q11, c11, rfl⟩, HR, HBR⟩ := hrel
        by_cases hlt2 : i < m7
        · obtain ⟨wo, rfl⟩ : ∃ W, W = wr := ⟨wr, rfl⟩
          have hzo := HBR.out.size
          have R7 := Lib.hid (HP.out.2.2.1.below HBR.out)
          have RS : Hid (∃ c, (Value.slice q11 i c11) = .slice q11 i c ∧ (q11 = none → c = 0 ∧ F.take i = []) ∧ SRow wo q11 (F.take i) ∧ i = (F.take i).length) := by
            obtain ⟨qq, cc, e, h1, h2⟩ := HR.out.slc
            have hl : (F.take i).length = i := by rw [List.length_take]; have := HFF.out.2; omega
            rw [hl] at e
            simp only [Value.slice.injEq] at e
            obtain ⟨rfl, _, rfl⟩ := e
            exact ⟨_, rfl, h1, h2, hl.symm⟩
          go_wp2_with fail
          go_loopg [12, 65] m7 (fun g v12 vk wr => ∃ (k : Nat) (bs : ByteArray), vk = .int .i64 (k : Int) ∧ v12 = .string bs ∧ k ≤ m7 ∧ m7 - k ≤ g ∧ Hid (Best (bys (F.take i)) (bys ((L7.take k).map (·.2.name))) bs.data.toList) ∧ Hid (Below wo.heap.size wo wr))
          case atStart => exact ⟨0, ⟨#[]⟩, rfl, rfl, Nat.zero_le _, by omega, Best.start _, Below.refl _ _⟩
          case round =>
            obtain ⟨k, bs, rfl, rfl, hk1, hk2, HBE, HBB⟩ := hrel
            by_cases hlt3 : k < m7
            · obtain ⟨y, hy⟩ : ∃ y, L7[k]? = some y := ⟨L7[k]'(by have := HP.out.2.2.2.2.2.2.1; omega), List.getElem?_eq_getElem (by have := HP.out.2.2.2.2.2.2.1; omega)⟩
              have r7 := R7.out
              obtain ⟨b, off, rfl, _, _⟩ := r7 k y hy
              obtain ⟨hbl, hra⟩ := rangeAt_obs r7 hy
              have LD := Lib.hid (load_at (x := y) (rangeAt_below hra HBB.out hbl))
              have okv := HP.out.2.2.2.2.1 y (List.mem_of_getElem? hy)
              obtain ⟨X', hX⟩ : ∃ X, X = y.1.1 := ⟨_, rfl⟩
              rw [← hX] at LD okv
              have ON := Lib.hid (objV_one okv)
              obtain ⟨th, inn, el⟩ := el_new wr X' okv.1
              have TH := Lib.hid th
              have IN := Lib.hid inn
              obtain ⟨w3, hw3⟩ : ∃ W', W' = (wr.alloc (.cells zerC OT)).setCells wr.heap.size 0 X'.toList := ⟨_, rfl⟩
              obtain ⟨O, hO⟩ : ∃ A, A = wr.heap.size := ⟨_, rfl⟩
              have HW3 : Hid ((wr.alloc (.cells zerC OT)).setCells wr.heap.size 0 X'.toList = w3 ∧ wr.heap.size = O) := ⟨hw3.symm, hO.symm⟩
              rw [← hw3, ← hO] at el
              obtain ⟨nm, hnm⟩ : ∃ a, a = y.2.name := ⟨_, rfl⟩
              have d1 : w3.cell? ⟨O, 1, none⟩ = some (.string nm) := by rw [hnm]; exact (cell_of_block el.blk 1).trans okv.2.1.2.1
              have B3 : Hid (Below wo.heap.size wo w3) := HBB.out.trans (el.low.mono HBB.out.size)
              obtain ⟨ib, hib⟩ : ∃ ib : Bool, ib = true ↔ nm ∈ F.take i := ⟨decide (nm.data.toList ∈ bys (F.take i)), by
                rw [decide_eq_true_eq]
                constructor
                · intro h
                  obtain ⟨z, hz, e⟩ := List.mem_map.1 h
                  rw [← bys_inj e]; exact hz
                · exact fun h => List.mem_map.2 ⟨nm, h, rfl⟩⟩
              have CI := Lib.hid (in_any w3 q11 i c11 (F.take i) nm ib RS.out.choose_spec.2.2.2 hib (RS.out.choose_spec.2.2.1.below B3.out) (by omega))
              have hmy : y.2 ∈ (l.map (·.2)).filter (isFailed s) := by rw [← HP.out.2.2.2.2.2.2.2.2]; exact List.mem_map.2 ⟨y, List.mem_of_getElem? hy, rfl⟩
              have hne : ∀ z ∈ bys ((L7.take k).map (·.2.name)), z ≠ [] := fun z hz => by
                obtain ⟨u, hu, rfl⟩ := List.mem_map.1 hz
                obtain ⟨v, hv, rfl⟩ := List.mem_map.1 hu
                refine HH.out.2.2.1.nm v.2 ?_
                have : v.2 ∈ (l.map (·.2)).filter (isFailed s) := by rw [← HP.out.2.2.2.2.2.2.2.2]; exact List.mem_map.2 ⟨v, List.mem_of_mem_take hv, rfl⟩
                exact (List.mem_filter.1 this).1
              have ST := Best.step HBE.out (x := nm.data.toList) (by rw [hnm]; exact HH.out.2.2.1.nm y.2 (List.mem_filter.1 hmy).1) hne
              have eT : bys ((L7.take (k + 1)).map (·.2.name)) = bys ((L7.take k).map (·.2.name)) ++ [nm.data.toList] := by
                rw [List.take_add_one, hy, List.map_append, bys, List.map_append, hnm]
                rfl
              rw [← eT] at ST
              have HST := Lib.hid ST
              have mem_by : nm.data.toList ∈ bys (F.take i) ↔ ib = true := by
                rw [hib]
                constructor
                · intro h
                  obtain ⟨z, hz, e⟩ := List.mem_map.1 h
                  rw [← bys_inj e]; exact hz
                · exact fun h => List.mem_map.2 ⟨nm, h, rfl⟩
              have HM := Lib.hid mem_by
              clear r7 hbl hra okv hX th inn el hw3 hO hnm hib hmy hne ST eT mem_by hy HBE HBB
              go_upto_region 17 with (first | (refine wpList_load_by (by kernel_rfl) OT _ rfl (.pointer (some ⟨b, off + k * 47, none⟩)) (.agg X') (by first | rfl | (simp; done)) LD.out ?_) | (refine wpList_store_mid rfl _ _ _ rfl wr.heap.size 0 X' (by rfl) (by rfl) TH.out IN.out ON.out ?_; rw [HW3.out.1, HW3.out.2]))
              clear TH IN ON HW3 LD
              go_wp2_with fail
              refine CI.out.mono ?_
              rintro e w4 ⟨rfl, rfl⟩
              cases ib with
              | true =>
                have F1 : Hid (Best (bys (F.take i)) (bys ((L7.take (k + 1)).map (·.2.name))) bs.data.toList) := by
                  have := HST.out
                  unfold bestStep at this
                  rwa [if_neg (fun e => e.1 (HM.out.2 rfl))] at this
                clear CI HST HM d1
                go_wp2
                go_roundg (m7 - (k + 1))
                case measure => omega
                case rel => exact ⟨k + 1, bs, by push_cast; rfl, rfl, by omega, by omega, F1, B3⟩
              | false =>
                have hnot : nm.data.toList ∉ bys (F.take i) := fun e => by have := HM.out.1 e; cases this
                by_cases hbs : bs.size = 0
                · have t1 : (bs.toList == ([] : List UInt8)) = true := by rw [empty_test]; exact decide_eq_true hbs
                  have F1 : Hid (Best (bys (F.take i)) (bys ((L7.take (k + 1)).map (·.2.name))) nm.data.toList) := by
                    have := HST.out
                    unfold bestStep at this
                    rwa [if_pos ⟨hnot, .inl (by rw [empty_of hbs])⟩] at this
                  clear CI HST HM hnot hbs
                  go_wp2
                  go_roundg (m7 - (k + 1))
                  case measure => omega
                  case rel => exact ⟨k + 1, nm, by push_cast; rfl, rfl, by omega, by omega, F1, B3⟩
                · have t1 : (bs.toList == ([] : List UInt8)) = false := bne_empty hbs
                  have hb0 : bs.data.toList ≠ [] := fun e => hbs (by have := congrArg List.length e; simpa using this)
                  by_cases hl : nm.data.toList < bs.data.toList
                  · have t2 : Op.bytesLess nm.toList bs.toList = true := by rw [bytesLess_eq, Lib.toList_data, Lib.toList_data]; exact decide_eq_true hl
                    have F1 : Hid (Best (bys (F.take i)) (bys ((L7.take (k + 1)).map (·.2.name))) nm.data.toList) := by
                      have := HST.out
                      unfold bestStep at this
                      rwa [if_pos ⟨hnot, .inr hl⟩] at this
                    clear CI HST HM hnot hbs hb0 hl
                    go_wp2
                    go_roundg (m7 - (k + 1))
                    case measure => omega
                    case rel => exact ⟨k + 1, nm, by push_cast; rfl, rfl, by omega, by omega, F1, B3⟩
                  · have t2 : Op.bytesLess nm.toList bs.toList = false := by rw [bytesLess_eq, Lib.toList_data, Lib.toList_data]; exact decide_eq_false hl
                    have F1 : Hid (Best (bys (F.take i)) (bys ((L7.take (k + 1)).map (·.2.name))) bs.data.toList) := by
                      have := HST.out
                      unfold bestStep at this
                      rwa [if_neg (by rintro ⟨_, e | e⟩; exact hb0 e; exact hl e)] at this
                    clear CI HST HM hnot hbs hb0 hl
                    go_wp2
                    go_roundg (m7 - (k + 1))
                    case measure => omega
                    case rel => exact ⟨k + 1, bs, by push_cast; rfl, rfl, by omega, by omega, F1, B3⟩
            · obtain rfl : k = m7 := by omega
              have BSF : Hid (F[i]? = some bs) := by
                show _ = _
                have hb := HBE.out
                have et : L7.take k = L7 := List.take_of_length_le (by have := HP.out.2.2.2.2.2.2.1; omega)
                rw [et] at hb
                have hl : i < F.length := by have := HFF.out.2; omega
                obtain ⟨z, hz⟩ : ∃ z, F[i]? = some z := ⟨F[i], List.getElem?_eq_getElem hl⟩
                have hu : (((l.map (·.2)).filter (isFailed s)).map (·.name)).Pairwise (· ≠ ·) := by
                  rw [List.pairwise_map]
                  exact unlike_filter HH.out.2.2.1.un _
                have hst := sortS_strict hu
                rw [← HFF.out.1] at hst
                have eN : bys (L7.map (·.2.name)) = bys (((l.map (·.2)).filter (isFailed s)).map (·.name)) := by
                  rw [← HP.out.2.2.2.2.2.2.2.2, List.map_map]; rfl
                have hperm : (bys (L7.map (·.2.name))).Perm (bys F) := by
                  rw [eN, HFF.out.1]
                  exact ((sortS_perm _).symm).map _
                have hz2 : (bys F)[i]? = some z.data.toList := by unfold bys; rw [List.getElem?_map, hz]; rfl
                have hb2 : Best ((bys F).take i) (bys (L7.map (·.2.name))) bs.data.toList := by
                  have : bys (F.take i) = (bys F).take i := by unfold bys; rw [List.map_take]
                  rw [← this]; exact hb
                have := Best.done hperm hst hz2 hb2
                rw [hz, bys_inj this]
              clear HBE
              obtain ⟨wi, rfl⟩ : ∃ W, W = wr := ⟨wr, rfl⟩
              obtain ⟨w4, hw4⟩ : ∃ w4, w4 = wi.alloc (.cells #[.string bs] StT) := ⟨_, rfl⟩
              obtain ⟨M, hM⟩ : ∃ M, M = wi.heap.size := ⟨_, rfl⟩
              have HW4 : Hid (wi.alloc (.cells #[.string bs] StT) = w4 ∧ wi.heap.size = M) := ⟨hw4.symm, hM.symm⟩
              have b4 : Below wi.heap.size wi w4 := by rw [hw4]; exact ((Gr.refl wi).alloc _).below
              have NEW : Hid (SRow w4 (some ⟨M, 0, none⟩) [bs]) := by rw [hw4, hM]; exact one_new wi bs
              have lo4 : Below wo.heap.size wo w4 := HBB.out.trans (b4.mono HBB.out.size)
              have OW := Lib.hid (HR.out.below lo4)
              have HB4 := Lib.hid (HBR.out.trans (lo4.mono hzo))
              have BS4 : Hid (wp.heap.size ≤ w4.heap.size) := HB4.out.size
              have LE : Hid ((F.take i).length + [bs].length ≤ 1000000) := by show _ ≤ _; rw [List.length_take, List.length_singleton]; omega
              clear hw4 hM b4 lo4 HBB
              go_wp2_with (at_builtin; rw [HW4.out.1, HW4.out.2]; refine wpList_append_strs rfl _ _ rfl wp.heap.size (.slice q11 i c11) (F.take i) rfl OW.out (some ⟨M, 0, none⟩) 1 1 [bs] (by rfl) rfl NEW.out (fun e => by cases e) LE.out BS4.out ?_; intro v7 w7 ho7 hg7 ha7)
              have FIN : Hid (OwnS wp.heap.size w7 v7 (F.take (i + 1))) ∧ Hid (Below wp.heap.size wp w7) ∧ (∃ q c, v7 = .slice q (i + 1) c) := by
                have e : F.take (i + 1) = F.take i ++ [bs] := by rw [List.take_add_one, BSF.out]; rfl
                refine ⟨by rw [e]; exact ho7, HB4.out.grown hg7 BS4.out (fun k e => (OW.out.lt k e).1), ?_⟩
                obtain ⟨q, c, e2, _⟩ := ho7.slc
                refine ⟨q, c, ?_⟩
                rw [e2, ← e, List.length_take]
                have := HFF.out.2
                congr 1
                omega
              obtain ⟨F1, F2, q8, c8, rfl⟩ := FIN
              clear ho7 hg7 ha7 OW NEW HW4 LE BSF RS R7
              go_wp2_with fail
              go_roundg (k - (i + 1))
              case measure => omega
              case rel => exact ⟨i + 1, by push_cast; rfl, by omega, by omega, ⟨q8, c8, rfl⟩, F1, F2⟩
        · obtain rfl : i = m7 := by omega
          obtain ⟨wq, rfl⟩ : ∃ W, W = wr := ⟨wr, rfl⟩
          have eF : F.take i = F := List.take_of_length_le (by have := HFF.out.2; omega)
          have hrq := HR.out
          rw [eF] at hrq
          obtain ⟨w2, hw2⟩ : ∃ W, W = wq.alloc (.cells #[] StT) := ⟨_, rfl⟩
          obtain ⟨g0, hg0⟩ : ∃ g, g = wq.heap.size := ⟨_, rfl⟩
          have HW2 : Hid (wq.alloc (.cells #[] StT) = w2 ∧ wq.heap.size = g0) := ⟨hw2.symm, hg0.symm⟩
          have b2 : Below wq.heap.size wq w2 := by rw [hw2]; exact ((Gr.refl wq).alloc _).below
          have OG0 : Hid (OwnS wq.heap.size w2 (.slice (some ⟨g0, 0, none⟩) 0 0) []) := by
            rw [hw2, hg0]
            exact World.ownsRow_made wq #[] 0 (Nat.le_refl _) (by unfold maxLen; omega) rfl
          obtain ⟨qr, cr, er, nr, sr⟩ := hrq.slc
          have SR11 : Hid (SRow w2 q11 F ∧ (q11 = none → c11 = 0 ∧ F = []) ∧ i = F.length) := by
            have hl : F.length = i := HFF.out.2
            rw [hl] at er
            simp only [Value.slice.injEq] at er
            obtain ⟨rfl, _, rfl⟩ := er
            exact ⟨sr.below b2, nr, hl.symm⟩
          have HR11 := Lib.hid hrq
          have LB2 := Lib.hid b2
          have LE0 : Hid (([] : List ByteArray).length + F.length ≤ 1000000) := by show _ ≤ _; have := HFF.out.2; rw [List.length_nil]; omega
          have ZQ : Hid (wq.heap.size ≤ w2.heap.size) := b2.size
          clear eF hrq hw2 hg0 b2 er nr sr HR
          go_wp2_with (at_builtin; rw [HW2.out.1, HW2.out.2]; refine wpList_append_strs rfl _ _ rfl wq.heap.size (.slice (some ⟨g0, 0, none⟩) 0 0) [] rfl OG0.out q11 i c11 F (by rfl) SR11.out.2.2 SR11.out.1 SR11.out.2.1 LE0.out ZQ.out ?_; intro v15 w7 ho15 hg15 ha15)
          obtain ⟨q15, c15, e15, n15, s15⟩ := ho15.slc
          rw [List.nil_append] at ho15 e15 n15 s15
          have hFl2 : F.length = i := HFF.out.2
          rw [hFl2] at e15
          subst e15
          have B7 : Below wp.heap.size wp w7 := (HBR.out.trans (LB2.out.mono HBR.out.size)).grown hg15 (by have := HBR.out.size; have := LB2.out.size; omega) (fun k e => by have := OG0.out.lt k e; have := HBR.out.size; omega)
          have g11 : OwnS wp.heap.size w7 (.slice q11 i c11) F := by
            have h1 := HR11.out.below LB2.out
            refine World.ownsRow.kept h1 hg15 ?_
            cases hv : (Value.slice q11 i c11).ownBlock with
            | none => exact .inl rfl
            | some bb => exact .inr (fun e => by
                have h2 := HR11.out.lt bb hv
                have h3 := OG0.out.lt bb e.symm
                omega)
          have dj : ∀ k, (Value.slice q11 i c11).ownBlock = some k → (Value.slice q15 i c15).ownBlock ≠ some k := fun k e e2 => by
            have h2 := HR11.out.lt k e
            rcases ha15 with h | h
            · rw [h] at e2
              have h3 := OG0.out.lt k e2
              omega
            · rw [h] at e2
              have h3 := Option.some.inj e2
              have := ZQ.out
              omega
          have G11 := Lib.hid g11
          have G15 : Hid (OwnS wp.heap.size w7 (.slice q15 i c15) F) := ho15.mono (by have := HBR.out.size; omega)
          have DJ := Lib.hid dj
          have HB7 := Lib.hid B7
          obtain ⟨so', hso'⟩ : ∃ t, t = so := ⟨_, rfl⟩
          have hsl : so.length = m6 := by
            have h1 := HSO.out.2.length_eq
            have h2 := congrArg List.length HP.out.2.2.2.2.2.2.2.1
            rw [List.length_map] at h2
            have := HP.out.2.2.2.2.2.1
            omega
          have HSL := Lib.hid hsl
          clear ho15 hg15 ha15 n15 s15 hFl2 B7 g11 dj HR11 OG0 SR11 HW2 LB2 LE0 ZQ HBR hso' so' hsl
          go_loopg [11, 16] 20 (fun g v11 v16 wr => ∃ tc z r : Nat, v16 = .int .i64 (z : Int) ∧ z + tc = m6 ∧ Hid (r = i + tc) ∧ r ≤ 76 ∧ tc ≤ min (m6 - N) 16 ∧ 20 - tc ≤ g ∧ (∃ q c, v11 = .slice q r c) ∧ Hid (OwnS wp.heap.size wr v11 (F ++ (so.take tc).map (·.name))) ∧ Hid (OwnS wp.heap.size wr (.slice q15 i c15) F) ∧ Hid (∀ k, v11.ownBlock = some k → (Value.slice q15 i c15).ownBlock ≠ some k) ∧ Hid (Below wp.heap.size wp wr))
          case atStart => exact ⟨0, m6, i, rfl, rfl, rfl, by omega, Nat.zero_le _, by omega, ⟨q11, c11, rfl⟩, (by show OwnS _ _ _ _; rw [List.take_zero, List.map_nil, List.append_nil]; exact G11.out), G15.out, DJ.out, HB7.out⟩
          case round =>
            clear G11 G15 DJ HB7
            obtain ⟨tc, z, r, rfl, hz, hr, hr76, htc, hg4, ⟨qv, cv, rfl⟩, HR, HG, HDJ, HBR⟩ := hrel
            have c3 : wr.cell? ⟨B, 3, none⟩ = some (.int .i64 (N : Int)) := (HBR.out.cell (p := ⟨B, 3, none⟩) HPC.out.2.2).trans HPC.out.2.1
            obtain ⟨cb, hcb⟩ : ∃ cb, cb = (decide (N < z) && decide (tc < 16)) := ⟨_, rfl⟩
            have HCB := Lib.hid hcb
            clear hcb
            obtain ⟨wz, rfl⟩ : ∃ W, W = wr := ⟨wr, rfl⟩
            go_upto_region 24 with fail
            go_cut [108] from 97 to 108 (fun v wx => v = .bool cb ∧ wx = wz)
            case first =>
              by_cases hnz : N < z
              · have t1 : decide ((z : Int) > (N : Int)) = true := decide_eq_true (by omega)
                have es : (m6 : Int) - (z : Int) = (tc : Int) := by omega
                have ew : IntKind.i64.wrap (tc : Int) = (tc : Int) := by rw [IntKind.wrap_i64]; omega
                have t2 : decide ((tc : Int) < 16) = decide (tc < 16) := by rw [Bool.eq_iff_iff, decide_eq_true_eq, decide_eq_true_eq]; omega
                have HE : Hid (cb = decide (tc < 16)) := by show _ = _; rw [HCB.out, decide_eq_true hnz, Bool.true_and]
                go_wp2
                go_meet
                case rel => exact ⟨by rw [HE.out], rfl⟩
              · have t1 : decide ((z : Int) > (N : Int)) = false := decide_eq_false (by omega)
                have HE : Hid (cb = false) := by show _ = _; rw [HCB.out, decide_eq_false hnz, Bool.false_and]
                have hzle : z ≤ N := by omega
                clear hnz
                go_wp2
                go_meet
                case rel => exact ⟨by rw [HE.out], rfl⟩
            case rest =>
              obtain ⟨rfl, hwx⟩ := hcut
              have hwy := hwx.symm
              clear hwx
              subst hwy
              cases cb with
              | true =>
                obtain ⟨hz1, htc1⟩ : N < z ∧ tc < 16 := by
                  have := HCB.out
                  symm at this
                  rwa [Bool.and_eq_true, decide_eq_true_eq, decide_eq_true_eq] at this
                obtain ⟨wo, rfl⟩ : ∃ W, W = wz := ⟨wz, rfl⟩
                have hzo := HBR.out.size
                have R6 := Lib.hid (HP.out.2.1.below HBR.out)
                have RS : Hid (r = (F ++ (so.take tc).map (·.name)).length ∧ SRow wo qv (F ++ (so.take tc).map (·.name))) := by
                  obtain ⟨qq, cc, e, h1, h2⟩ := HR.out.slc
                  have hl : (F ++ (so.take tc).map (·.name)).length = r := by rw [List.length_append, List.length_map, List.length_take]; have := HFF.out.2; have := HSL.out; have := hr.out; omega
                  rw [hl] at e
                  simp only [Value.slice.injEq] at e
                  obtain ⟨rfl, _, rfl⟩ := e
                  exact ⟨hl.symm, h2⟩
                go_wp2_with fail
                go_loopg [17, 113] m6 (fun g v17 vk wr => ∃ (k : Nat) (bb : Int), vk = .int .i64 (k : Int) ∧ v17 = .int .i64 bb ∧ k ≤ m6 ∧ m6 - k ≤ g ∧ -1 ≤ bb ∧ bb < (m6 : Int) ∧ Hid (BestAt ltO (· ∈ so.take tc) (L6.map (·.2)) k bb) ∧ Hid (Below wo.heap.size wo wr))
                case atStart => exact ⟨0, -1, rfl, rfl, Nat.zero_le _, by omega, by omega, by omega, BestAt.start _ _ _, Below.refl _ _⟩
                case round =>
                 obtain ⟨k, bb, rfl, rfl, hk1, hk2, hb1, hb2, HBE, HBB⟩ := hrel
                 by_cases hlt3 : k < m6
                 · obtain ⟨y, hy⟩ : ∃ y, L6[k]? = some y := ⟨L6[k]'(by have := HP.out.2.2.2.2.2.1; omega), List.getElem?_eq_getElem (by have := HP.out.2.2.2.2.2.1; omega)⟩
                   have r6 := R6.out
                   obtain ⟨b, off, rfl, _, _⟩ := r6 k y hy
                   obtain ⟨hbl, hra⟩ := rangeAt_obs r6 hy
                   have LD := Lib.hid (load_at (x := y) (rangeAt_below hra HBB.out hbl))
                   have okv := HP.out.2.2.2.1 y (List.mem_of_getElem? hy)
                   obtain ⟨X', hX⟩ : ∃ X, X = y.1.1 := ⟨_, rfl⟩
                   rw [← hX] at LD okv
                   have ON := Lib.hid (objV_one okv)
                   obtain ⟨th, inn, el⟩ := el_new wr X' okv.1
                   have TH := Lib.hid th
                   have IN := Lib.hid inn
                   obtain ⟨w3, hw3⟩ : ∃ W', W' = (wr.alloc (.cells zerC OT)).setCells wr.heap.size 0 X'.toList := ⟨_, rfl⟩
                   obtain ⟨O, hO⟩ : ∃ A, A = wr.heap.size := ⟨_, rfl⟩
                   have HW3 : Hid ((wr.alloc (.cells zerC OT)).setCells wr.heap.size 0 X'.toList = w3 ∧ wr.heap.size = O) := ⟨hw3.symm, hO.symm⟩
                   rw [← hw3, ← hO] at el
                   obtain ⟨nm, hnm⟩ : ∃ a, a = y.2.name := ⟨_, rfl⟩
                   have hOl : O < w3.heap.size := (Array.getElem?_eq_some_iff.1 el.blk).1
                   have KN : Hid (∀ ws : World, Below w3.heap.size w3 ws → ws.cell? ⟨O, 1, none⟩ = some (.string nm)) := fun ws h => by
                     refine (h.cell (p := ⟨O, 1, none⟩) hOl).trans ?_
                     rw [hnm]
                     exact (cell_of_block el.blk 1).trans okv.2.1.2.1
                   have KO : Hid (∀ ws : World, Below w3.heap.size w3 ws → ws.rangeAt O 0 X'.toList) := fun ws h => rangeAt_block ((h.block O hOl).trans el.blk)
                   have lo3 : Below wo.heap.size wo w3 := HBB.out.trans (el.low.mono HBB.out.size)
                   have B3 := Lib.hid lo3
                   have BW : Hid (∀ ws : World, Below w3.heap.size w3 ws → Below wo.heap.size wo ws) := fun ws h => lo3.trans (h.mono lo3.size)
                   have hmy : y.2 ∈ (l.map (·.2)).filter (isLive s) := by rw [← HP.out.2.2.2.2.2.2.2.1]; exact List.mem_map.2 ⟨y, List.mem_of_getElem? hy, rfl⟩
                   obtain ⟨hml, hlv⟩ := List.mem_filter.1 hmy
                   obtain ⟨ib, hib⟩ : ∃ ib : Bool, ib = true ↔ y.2 ∈ so.take tc := by
                     by_cases h : y.2 ∈ so.take tc
                     · exact ⟨true, by simp [h]⟩
                     · exact ⟨false, by simp [h]⟩
                   have hib2 : ib = true ↔ nm ∈ F ++ (so.take tc).map (·.name) := by
                     rw [hib, hnm, HFF.out.1]
                     exact (gone_iff HH.out.2.2.1.un (fun x hx => List.mem_filter.1 (HSO.out.2.mem_iff.2 hx)) hml hlv tc).symm
                   have CI := Lib.hid (fun ws (h : Below w3.heap.size w3 ws) => in_any ws qv r cv (F ++ (so.take tc).map (·.name)) nm ib RS.out.1 hib2 (RS.out.2.below (lo3.trans (h.mono lo3.size))) (by omega))
                   have hyO : (L6.map (·.2))[k]? = some y.2 := by rw [List.getElem?_map, hy]; rfl
                   have HY := Lib.hid (And.intro hyO (And.intro hib (And.intro (okv : ObjV wp X' y.2) (And.intro hX hml))))
                   have hu := Tryd.underlying44
                   have hiX : (Tryd.prog.info? OT).map (·.size) = some X'.toList.length := by rw [Array.length_toList, okv.1]; exact info_ob47
                   have S0 : Hid (Below w3.heap.size w3 w3.drew) := ((Gr.refl w3).drewN 1).below
                   clear hra okv hX th inn el hw3 hO hnm hOl lo3 hmy hlv hib hib2 hyO hy HBB
                   go_upto_region 30 with (first | (refine wpList_load_by (by kernel_rfl) OT _ rfl (.pointer (some ⟨b, off + k * 47, none⟩)) (.agg X') (by first | rfl | (simp; done)) LD.out ?_) | (refine wpList_store_mid rfl _ _ _ rfl wr.heap.size 0 X' (by rfl) (by rfl) TH.out IN.out ON.out ?_; rw [HW3.out.1, HW3.out.2]))
                   clear TH IN ON HW3 LD
                   have HBA := Lib.hid (And.intro HBE.out (And.intro hb1 hb2))
                   cases ib with
                   | true =>
                     clear HBE
                     refine wp_region_held_drew (S := fun ws => Below w3.heap.size w3 ws) mixed S0.out (fun hS => ?_)
                     refine wpAnyH_takeD (i := 0) (d := 118) (v := .slice qv r cv) _ rfl rfl (by kernel_rfl) (by kernel_rfl) (by kernel_rfl) (fun _ _ _ h => h) (Or.inl ⟨by kernel_rfl, fun ws hSw => by first | (go_simp; done) | (go_simp; with_reducible rfl) | (go_simp; rfl)⟩) hS ?_
                     simp only [Act.put, List.setIfInBounds_toArray, List.set_cons_zero, List.set_cons_succ]
                     refine wpAnyH_takeD (i := 1) (d := 119) (v := .pointer (some ⟨O, 1, none⟩)) _ rfl rfl (by kernel_rfl) (by kernel_rfl) (by kernel_rfl) (fun _ _ _ h => h) (Or.inl ⟨by kernel_rfl, fun ws hSw => by first | (go_simp; done) | (go_simp; with_reducible rfl) | (go_simp; rfl)⟩) hS ?_
                     simp only [Act.put, List.setIfInBounds_toArray, List.set_cons_zero, List.set_cons_succ]
                     refine wpAnyH_takeD (i := 2) (d := 120) (v := .string nm) _ rfl rfl (by kernel_rfl) (by kernel_rfl) (by kernel_rfl) (fun _ _ _ h => h) (Or.inl ⟨by kernel_rfl, fun ws hSw => by have q := KN.out ws hSw; first | (go_simp; done) | (go_simp; with_reducible rfl) | (go_simp; rfl)⟩) hS ?_
                     simp only [Act.put, List.setIfInBounds_toArray, List.set_cons_zero, List.set_cons_succ]
                     refine wpAnyH_ready (rs := [3]) (by kernel_rfl) (by simp) ?_
                     refine AllReadyH.cons rfl (fun K hK => ?_) AllReadyH.nil
                     go_simp
                     refine (CI.out _ hS).mono ?_
                     rintro e w4 ⟨rfl, h4⟩
                     have h5 := h4.symm
                     subst h5
                     refine hK _ _ hS (fun hS => ?_)
                     try simp only [Act.put, List.setIfInBounds_toArray, List.set_cons_zero, List.set_cons_succ]
                     refine wpAnyH_takeD (i := 4) (d := 122) (v := .bool false) _ rfl rfl (by kernel_rfl) (by kernel_rfl) (by kernel_rfl) (fun _ _ _ h => h) (Or.inl ⟨by kernel_rfl, fun ws hSw => by first | (go_simp; done) | (go_simp; with_reducible rfl) | (go_simp; rfl)⟩) hS ?_
                     simp only [Act.put, List.setIfInBounds_toArray, List.set_cons_zero, List.set_cons_succ]
                     refine wpAnyH_takeD (i := 5) (d := 123) (v := .bool false) _ rfl rfl (by kernel_rfl) (by kernel_rfl) (by kernel_rfl) (fun _ _ _ h => h) (Or.inl ⟨by kernel_rfl, fun ws hSw => by first | (go_simp; done) | (go_simp; with_reducible rfl) | (go_simp; rfl)⟩) hS ?_
                     simp only [Act.put, List.setIfInBounds_toArray, List.set_cons_zero, List.set_cons_succ]
                     refine wpAnyH_takeD (i := 6) (d := 124) (v := undef) _ rfl rfl (by kernel_rfl) (by kernel_rfl) (by kernel_rfl) (fun _ _ _ h => h) (Or.inr ⟨by kernel_rfl, rfl⟩) hS ?_
                     simp only [Act.put, List.setIfInBounds_toArray, List.set_cons_zero, List.set_cons_succ]
                     refine wpAnyH_takeD (i := 7) (d := 125) (v := undef) _ rfl rfl (by kernel_rfl) (by kernel_rfl) (by kernel_rfl) (fun _ _ _ h => h) (Or.inr ⟨by kernel_rfl, rfl⟩) hS ?_
                     simp only [Act.put, List.setIfInBounds_toArray, List.set_cons_zero, List.set_cons_succ]
                     refine wpAnyH_takeD (i := 8) (d := 126) (v := undef) _ rfl rfl (by kernel_rfl) (by kernel_rfl) (by kernel_rfl) (fun _ _ _ h => h) (Or.inr ⟨by kernel_rfl, rfl⟩) hS ?_
                     simp only [Act.put, List.setIfInBounds_toArray, List.set_cons_zero, List.set_cons_succ]
                     refine wpAnyH_takeD (i := 9) (d := 127) (v := undef) _ rfl rfl (by kernel_rfl) (by kernel_rfl) (by kernel_rfl) (fun _ _ _ h => h) (Or.inr ⟨by kernel_rfl, rfl⟩) hS ?_
                     simp only [Act.put, List.setIfInBounds_toArray, List.set_cons_zero, List.set_cons_succ]
                     refine wpAnyH_takeD (i := 10) (d := 128) (v := undef) _ rfl rfl (by kernel_rfl) (by kernel_rfl) (by kernel_rfl) (fun _ _ _ h => h) (Or.inr ⟨by kernel_rfl, rfl⟩) hS ?_
                     simp only [Act.put, List.setIfInBounds_toArray, List.set_cons_zero, List.set_cons_succ]
                     refine wpAnyH_takeD (i := 11) (d := 129) (v := undef) _ rfl rfl (by kernel_rfl) (by kernel_rfl) (by kernel_rfl) (fun _ _ _ h => h) (Or.inr ⟨by kernel_rfl, rfl⟩) hS ?_
                     simp only [Act.put, List.setIfInBounds_toArray, List.set_cons_zero, List.set_cons_succ]
                     refine wpAnyH_takeD (i := 12) (d := 130) (v := undef) _ rfl rfl (by kernel_rfl) (by kernel_rfl) (by kernel_rfl) (fun _ _ _ h => h) (Or.inr ⟨by kernel_rfl, rfl⟩) hS ?_
                     simp only [Act.put, List.setIfInBounds_toArray, List.set_cons_zero, List.set_cons_succ]
                     refine wpAnyH_takeD (i := 13) (d := 131) (v := undef) _ rfl rfl (by kernel_rfl) (by kernel_rfl) (by kernel_rfl) (fun _ _ _ h => h) (Or.inr ⟨by kernel_rfl, rfl⟩) hS ?_
                     simp only [Act.put, List.setIfInBounds_toArray, List.set_cons_zero, List.set_cons_succ]
                     refine wpAnyH_takeD (i := 14) (d := 132) (v := undef) _ rfl rfl (by kernel_rfl) (by kernel_rfl) (by kernel_rfl) (fun _ _ _ h => h) (Or.inr ⟨by kernel_rfl, rfl⟩) hS ?_
                     simp only [Act.put, List.setIfInBounds_toArray, List.set_cons_zero, List.set_cons_succ]
                     refine wpAnyH_takeD (i := 15) (d := 133) (v := undef) _ rfl rfl (by kernel_rfl) (by kernel_rfl) (by kernel_rfl) (fun _ _ _ h => h) (Or.inr ⟨by kernel_rfl, rfl⟩) hS ?_
                     simp only [Act.put, List.setIfInBounds_toArray, List.set_cons_zero, List.set_cons_succ]
                     refine wpAnyH_takeD (i := 16) (d := 134) (v := .bool false) _ rfl rfl (by kernel_rfl) (by kernel_rfl) (by kernel_rfl) (fun _ _ _ h => h) (Or.inl ⟨by kernel_rfl, fun ws hSw => by first | (go_simp; done) | (go_simp; with_reducible rfl) | (go_simp; rfl)⟩) hS ?_
                     simp only [Act.put, List.setIfInBounds_toArray, List.set_cons_zero, List.set_cons_succ]
                     refine wpAnyH_done (by kernel_rfl) ?_ _
                     have F1 : Hid (BestAt ltO (· ∈ so.take tc) (L6.map (·.2)) (k + 1) bb) := BestAt.skip HBA.out.1 HY.out.1 (.inl (HY.out.2.1.1 rfl))
                     have F2 := Lib.hid (BW.out _ hS)
                     clear CI HY KN KO hS S0 BW r6 B3 hml hbl
                     go_wp2
                     go_roundg (m6 - (k + 1))
                     case measure => omega
                     case rel => exact ⟨k + 1, bb, by push_cast; rfl, rfl, by omega, by omega, hb1, hb2, F1, F2⟩
                   | false =>
                     have hnot : y.2 ∉ so.take tc := fun e => by have := HY.out.2.1.2 e; cases this
                     by_cases hneg : bb < 0
                     · have hbb : bb = -1 := by omega
                       subst hbb
                       have t5 : decide ((-1 : Int) < 0) = true := rfl
                       clear HBE
                       refine wp_region_held_drew (S := fun ws => Below w3.heap.size w3 ws) mixed S0.out (fun hS => ?_)
                       refine wpAnyH_takeD (i := 0) (d := 118) (v := .slice qv r cv) _ rfl rfl (by kernel_rfl) (by kernel_rfl) (by kernel_rfl) (fun _ _ _ h => h) (Or.inl ⟨by kernel_rfl, fun ws hSw => by first | (go_simp; done) | (go_simp; with_reducible rfl) | (go_simp; rfl)⟩) hS ?_
                       simp only [Act.put, List.setIfInBounds_toArray, List.set_cons_zero, List.set_cons_succ]
                       refine wpAnyH_takeD (i := 1) (d := 119) (v := .pointer (some ⟨O, 1, none⟩)) _ rfl rfl (by kernel_rfl) (by kernel_rfl) (by kernel_rfl) (fun _ _ _ h => h) (Or.inl ⟨by kernel_rfl, fun ws hSw => by first | (go_simp; done) | (go_simp; with_reducible rfl) | (go_simp; rfl)⟩) hS ?_
                       simp only [Act.put, List.setIfInBounds_toArray, List.set_cons_zero, List.set_cons_succ]
                       refine wpAnyH_takeD (i := 2) (d := 120) (v := .string nm) _ rfl rfl (by kernel_rfl) (by kernel_rfl) (by kernel_rfl) (fun _ _ _ h => h) (Or.inl ⟨by kernel_rfl, fun ws hSw => by have q := KN.out ws hSw; first | (go_simp; done) | (go_simp; with_reducible rfl) | (go_simp; rfl)⟩) hS ?_
                       simp only [Act.put, List.setIfInBounds_toArray, List.set_cons_zero, List.set_cons_succ]
                       refine wpAnyH_ready (rs := [3]) (by kernel_rfl) (by simp) ?_
                       refine AllReadyH.cons rfl (fun K hK => ?_) AllReadyH.nil
                       go_simp
                       refine (CI.out _ hS).mono ?_
                       rintro e w4 ⟨rfl, h4⟩
                       have h5 := h4.symm
                       subst h5
                       refine hK _ _ hS (fun hS => ?_)
                       try simp only [Act.put, List.setIfInBounds_toArray, List.set_cons_zero, List.set_cons_succ]
                       refine wpAnyH_takeD (i := 4) (d := 122) (v := .bool true) _ rfl rfl (by kernel_rfl) (by kernel_rfl) (by kernel_rfl) (fun _ _ _ h => h) (Or.inl ⟨by kernel_rfl, fun ws hSw => by first | (go_simp; done) | (go_simp; with_reducible rfl) | (go_simp; rfl)⟩) hS ?_
                       simp only [Act.put, List.setIfInBounds_toArray, List.set_cons_zero, List.set_cons_succ]
                       refine wpAnyH_takeD (i := 5) (d := 123) (v := .bool true) _ rfl rfl (by kernel_rfl) (by kernel_rfl) (by kernel_rfl) (fun _ _ _ h => h) (Or.inl ⟨by kernel_rfl, fun ws hSw => by first | (go_simp; done) | (go_simp; with_reducible rfl) | (go_simp; rfl)⟩) hS ?_
                       simp only [Act.put, List.setIfInBounds_toArray, List.set_cons_zero, List.set_cons_succ]
                       refine wpAnyH_takeD (i := 6) (d := 124) (v := .int .i64 (-1)) _ rfl rfl (by kernel_rfl) (by kernel_rfl) (by kernel_rfl) (fun _ _ _ h => h) (Or.inl ⟨by kernel_rfl, fun ws hSw => by first | (go_simp; done) | (go_simp; with_reducible rfl) | (go_simp; rfl)⟩) hS ?_
                       simp only [Act.put, List.setIfInBounds_toArray, List.set_cons_zero, List.set_cons_succ]
                       refine wpAnyH_takeD (i := 7) (d := 125) (v := .bool true) _ rfl rfl (by kernel_rfl) (by kernel_rfl) (by kernel_rfl) (fun _ _ _ h => h) (Or.inl ⟨by kernel_rfl, fun ws hSw => by first | (go_simp; done) | (go_simp; with_reducible rfl) | (go_simp; rfl)⟩) hS ?_
                       simp only [Act.put, List.setIfInBounds_toArray, List.set_cons_zero, List.set_cons_succ]
                       refine wpAnyH_takeD (i := 8) (d := 126) (v := .bool true) _ rfl rfl (by kernel_rfl) (by kernel_rfl) (by kernel_rfl) (fun _ _ _ h => h) (Or.inl ⟨by kernel_rfl, fun ws hSw => by first | (go_simp; done) | (go_simp; with_reducible rfl) | (go_simp; rfl)⟩) hS ?_
                       simp only [Act.put, List.setIfInBounds_toArray, List.set_cons_zero, List.set_cons_succ]
                       refine wpAnyH_takeD (i := 9) (d := 127) (v := undef) _ rfl rfl (by kernel_rfl) (by kernel_rfl) (by kernel_rfl) (fun _ _ _ h => h) (Or.inr ⟨by kernel_rfl, rfl⟩) hS ?_
                       simp only [Act.put, List.setIfInBounds_toArray, List.set_cons_zero, List.set_cons_succ]
                       refine wpAnyH_takeD (i := 10) (d := 128) (v := undef) _ rfl rfl (by kernel_rfl) (by kernel_rfl) (by kernel_rfl) (fun _ _ _ h => h) (Or.inr ⟨by kernel_rfl, rfl⟩) hS ?_
                       simp only [Act.put, List.setIfInBounds_toArray, List.set_cons_zero, List.set_cons_succ]
                       refine wpAnyH_takeD (i := 11) (d := 129) (v := undef) _ rfl rfl (by kernel_rfl) (by kernel_rfl) (by kernel_rfl) (fun _ _ _ h => h) (Or.inr ⟨by kernel_rfl, rfl⟩) hS ?_
                       simp only [Act.put, List.setIfInBounds_toArray, List.set_cons_zero, List.set_cons_succ]
                       refine wpAnyH_takeD (i := 12) (d := 130) (v := undef) _ rfl rfl (by kernel_rfl) (by kernel_rfl) (by kernel_rfl) (fun _ _ _ h => h) (Or.inr ⟨by kernel_rfl, rfl⟩) hS ?_
                       simp only [Act.put, List.setIfInBounds_toArray, List.set_cons_zero, List.set_cons_succ]
                       refine wpAnyH_takeD (i := 13) (d := 131) (v := undef) _ rfl rfl (by kernel_rfl) (by kernel_rfl) (by kernel_rfl) (fun _ _ _ h => h) (Or.inr ⟨by kernel_rfl, rfl⟩) hS ?_
                       simp only [Act.put, List.setIfInBounds_toArray, List.set_cons_zero, List.set_cons_succ]
                       refine wpAnyH_takeD (i := 14) (d := 132) (v := undef) _ rfl rfl (by kernel_rfl) (by kernel_rfl) (by kernel_rfl) (fun _ _ _ h => h) (Or.inr ⟨by kernel_rfl, rfl⟩) hS ?_
                       simp only [Act.put, List.setIfInBounds_toArray, List.set_cons_zero, List.set_cons_succ]
                       refine wpAnyH_takeD (i := 15) (d := 133) (v := .bool true) _ rfl rfl (by kernel_rfl) (by kernel_rfl) (by kernel_rfl) (fun _ _ _ h => h) (Or.inl ⟨by kernel_rfl, fun ws hSw => by first | (go_simp; done) | (go_simp; with_reducible rfl) | (go_simp; rfl)⟩) hS ?_
                       simp only [Act.put, List.setIfInBounds_toArray, List.set_cons_zero, List.set_cons_succ]
                       refine wpAnyH_takeD (i := 16) (d := 134) (v := .bool true) _ rfl rfl (by kernel_rfl) (by kernel_rfl) (by kernel_rfl) (fun _ _ _ h => h) (Or.inl ⟨by kernel_rfl, fun ws hSw => by first | (go_simp; done) | (go_simp; with_reducible rfl) | (go_simp; rfl)⟩) hS ?_
                       simp only [Act.put, List.setIfInBounds_toArray, List.set_cons_zero, List.set_cons_succ]
                       refine wpAnyH_done (by kernel_rfl) ?_ _
                       have F1 : Hid (BestAt ltO (· ∈ so.take tc) (L6.map (·.2)) (k + 1) (k : Int)) := BestAt.take ltO_irr ltO_tr HBA.out.1 HY.out.1 hnot (.inl rfl)
                       have F2 := Lib.hid (BW.out _ hS)
                       clear CI HY KN KO hS S0 BW r6 B3 hml hbl hnot HBA t5 hneg hb1 hb2
                       go_wp2
                       go_roundg (m6 - (k + 1))
                       case measure => omega
                       case rel => exact ⟨k + 1, (k : Int), by push_cast; rfl, rfl, by omega, by omega, by omega, by omega, F1, F2⟩
                     · obtain ⟨kb, hkb⟩ : ∃ kb : Nat, bb = (kb : Int) := ⟨bb.toNat, by omega⟩
                       subst hkb
                       have t5 : decide ((kb : Int) < 0) = false := decide_eq_false hneg
                       obtain ⟨y2, hy2⟩ : ∃ y2, L6[kb]? = some y2 := ⟨L6[kb]'(by have := HP.out.2.2.2.2.2.1; omega), List.getElem?_eq_getElem (by have := HP.out.2.2.2.2.2.1; omega)⟩
                       obtain ⟨hbl2, hra2⟩ := rangeAt_obs r6 hy2
                       have okv2 := HP.out.2.2.2.1 y2 (List.mem_of_getElem? hy2)
                       obtain ⟨Y', hY⟩ : ∃ X, X = y2.1.1 := ⟨_, rfl⟩
                       have KB : Hid (∀ ws : World, Below w3.heap.size w3 ws → ws.rangeAt b (off + kb * 47) Y'.toList) := fun ws h => by
                         rw [hY]
                         exact rangeAt_below hra2 (BW.out ws h) hbl2
                       have hiY : (Tryd.prog.info? OT).map (·.size) = some Y'.toList.length := by rw [Array.length_toList, hY, okv2.1]; exact info_ob47
                       have hm2 : y2.2 ∈ l.map (·.2) := by
                         have : y2.2 ∈ (l.map (·.2)).filter (isLive s) := by rw [← HP.out.2.2.2.2.2.2.2.1]; exact List.mem_map.2 ⟨y2, List.mem_of_getElem? hy2, rfl⟩
                         exact (List.mem_filter.1 this).1
                       obtain ⟨rs, hrs⟩ : ∃ rs : Bool, rs = true ↔ ltO y.2 y2.2 := by
                         rcases Classical.em (ltO y.2 y2.2) with h | h
                         · exact ⟨true, by simp [h]⟩
                         · exact ⟨false, by simp [h]⟩
                       have CSN := Lib.hid (fun ws (h : Below w3.heap.size w3 ws) => sooner_any ws X' Y' y.2 y2.2 rs (HY.out.2.2.1.below (HBR.out.trans ((BW.out ws h).mono hzo))) (by rw [hY]; exact okv2.below (HBR.out.trans ((BW.out ws h).mono hzo))) (HH.out.2.2.1.ph y.2 HY.out.2.2.2.2) (HH.out.2.2.1.ph y2.2 hm2) hrs)
                       have HKB : Hid (∀ ws : World, Below w3.heap.size w3 ws → (0 : Int) ≤ (kb : Int) ∧ (kb : Int) < (m6 : Int)) := fun ws h => ⟨by omega, by omega⟩
                       have hk0 : (0 : Int) ≤ (kb : Int) := by omega
                       have hk6 : (kb : Int) < (m6 : Int) := by omega
                       have hyO2 : (L6.map (·.2))[kb]? = some y2.2 := by rw [List.getElem?_map, hy2]; rfl
                       have HY2 := Lib.hid (And.intro hyO2 hrs)
                       clear hbl2 hra2 okv2 hY hm2 hrs hyO2 hy2 HBE
                       refine wp_region_held_drew (S := fun ws => Below w3.heap.size w3 ws) mixed S0.out (fun hS => ?_)
                       refine wpAnyH_takeD (i := 0) (d := 118) (v := .slice qv r cv) _ rfl rfl (by kernel_rfl) (by kernel_rfl) (by kernel_rfl) (fun _ _ _ h => h) (Or.inl ⟨by kernel_rfl, fun ws hSw => by first | (go_simp; done) | (go_simp; with_reducible rfl) | (go_simp; rfl)⟩) hS ?_
                       simp only [Act.put, List.setIfInBounds_toArray, List.set_cons_zero, List.set_cons_succ]
                       refine wpAnyH_takeD (i := 1) (d := 119) (v := .pointer (some ⟨O, 1, none⟩)) _ rfl rfl (by kernel_rfl) (by kernel_rfl) (by kernel_rfl) (fun _ _ _ h => h) (Or.inl ⟨by kernel_rfl, fun ws hSw => by first | (go_simp; done) | (go_simp; with_reducible rfl) | (go_simp; rfl)⟩) hS ?_
                       simp only [Act.put, List.setIfInBounds_toArray, List.set_cons_zero, List.set_cons_succ]
                       refine wpAnyH_takeD (i := 2) (d := 120) (v := .string nm) _ rfl rfl (by kernel_rfl) (by kernel_rfl) (by kernel_rfl) (fun _ _ _ h => h) (Or.inl ⟨by kernel_rfl, fun ws hSw => by have q := KN.out ws hSw; first | (go_simp; done) | (go_simp; with_reducible rfl) | (go_simp; rfl)⟩) hS ?_
                       simp only [Act.put, List.setIfInBounds_toArray, List.set_cons_zero, List.set_cons_succ]
                       refine wpAnyH_ready (rs := [3]) (by kernel_rfl) (by simp) ?_
                       refine AllReadyH.cons rfl (fun K hK => ?_) AllReadyH.nil
                       go_simp
                       refine (CI.out _ hS).mono ?_
                       rintro e w4 ⟨rfl, h4⟩
                       have h5 := h4.symm
                       subst h5
                       refine hK _ _ hS (fun hS => ?_)
                       try simp only [Act.put, List.setIfInBounds_toArray, List.set_cons_zero, List.set_cons_succ]
                       refine wpAnyH_takeD (i := 4) (d := 122) (v := .bool true) _ rfl rfl (by kernel_rfl) (by kernel_rfl) (by kernel_rfl) (fun _ _ _ h => h) (Or.inl ⟨by kernel_rfl, fun ws hSw => by first | (go_simp; done) | (go_simp; with_reducible rfl) | (go_simp; rfl)⟩) hS ?_
                       simp only [Act.put, List.setIfInBounds_toArray, List.set_cons_zero, List.set_cons_succ]
                       refine wpAnyH_takeD (i := 5) (d := 123) (v := .bool true) _ rfl rfl (by kernel_rfl) (by kernel_rfl) (by kernel_rfl) (fun _ _ _ h => h) (Or.inl ⟨by kernel_rfl, fun ws hSw => by first | (go_simp; done) | (go_simp; with_reducible rfl) | (go_simp; rfl)⟩) hS ?_
                       simp only [Act.put, List.setIfInBounds_toArray, List.set_cons_zero, List.set_cons_succ]
                       refine wpAnyH_takeD (i := 6) (d := 124) (v := .int .i64 (kb : Int)) _ rfl rfl (by kernel_rfl) (by kernel_rfl) (by kernel_rfl) (fun _ _ _ h => h) (Or.inl ⟨by kernel_rfl, fun ws hSw => by first | (go_simp; done) | (go_simp; with_reducible rfl) | (go_simp; rfl)⟩) hS ?_
                       simp only [Act.put, List.setIfInBounds_toArray, List.set_cons_zero, List.set_cons_succ]
                       refine wpAnyH_takeD (i := 7) (d := 125) (v := .bool false) _ rfl rfl (by kernel_rfl) (by kernel_rfl) (by kernel_rfl) (fun _ _ _ h => h) (Or.inl ⟨by kernel_rfl, fun ws hSw => by first | (go_simp; done) | (go_simp; with_reducible rfl) | (go_simp; rfl)⟩) hS ?_
                       simp only [Act.put, List.setIfInBounds_toArray, List.set_cons_zero, List.set_cons_succ]
                       refine wpAnyH_takeD (i := 8) (d := 126) (v := .bool false) _ rfl rfl (by kernel_rfl) (by kernel_rfl) (by kernel_rfl) (fun _ _ _ h => h) (Or.inl ⟨by kernel_rfl, fun ws hSw => by first | (go_simp; done) | (go_simp; with_reducible rfl) | (go_simp; rfl)⟩) hS ?_
                       simp only [Act.put, List.setIfInBounds_toArray, List.set_cons_zero, List.set_cons_succ]
                       refine wpAnyH_takeD (i := 9) (d := 127) (v := .agg X'.toList.toArray) _ rfl rfl (by kernel_rfl) (by kernel_rfl) (by kernel_rfl) (fun _ _ _ h => h) (yieldsIf_load_mid (by kernel_rfl) _ _ rfl O 0 (by kernel_rfl) X'.toList _ (fun ws hSw => KO.out ws hSw) hu rfl hiX) hS ?_
                       simp only [Act.put, List.setIfInBounds_toArray, List.set_cons_zero, List.set_cons_succ]
                       refine wpAnyH_takeD (i := 10) (d := 128) (v := .slice (some ⟨b, off, none⟩) m6 c6) _ rfl rfl (by kernel_rfl) (by kernel_rfl) (by kernel_rfl) (fun _ _ _ h => h) (Or.inl ⟨by kernel_rfl, fun ws hSw => by first | (go_simp; done) | (go_simp; with_reducible rfl) | (go_simp; rfl)⟩) hS ?_
                       simp only [Act.put, List.setIfInBounds_toArray, List.set_cons_zero, List.set_cons_succ]
                       refine wpAnyH_takeD (i := 11) (d := 129) (v := .int .i64 (kb : Int)) _ rfl rfl (by kernel_rfl) (by kernel_rfl) (by kernel_rfl) (fun _ _ _ h => h) (Or.inl ⟨by kernel_rfl, fun ws hSw => by first | (go_simp; done) | (go_simp; with_reducible rfl) | (go_simp; rfl)⟩) hS ?_
                       simp only [Act.put, List.setIfInBounds_toArray, List.set_cons_zero, List.set_cons_succ]
                       refine wpAnyH_takeD (i := 12) (d := 130) (v := .pointer (some ⟨b, off + kb * 47, none⟩)) _ rfl rfl (by kernel_rfl) (by kernel_rfl) (by kernel_rfl) (fun _ _ _ h => h) (Or.inl ⟨by kernel_rfl, fun ws hSw => by have q := HKB.out ws hSw; first | (go_simp; done) | (go_simp; with_reducible rfl) | (go_simp; rfl) | (go_simp; intro hlt; exfalso; omega) | (go_simp; omega)⟩) hS ?_
                       simp only [Act.put, List.setIfInBounds_toArray, List.set_cons_zero, List.set_cons_succ]
                       refine wpAnyH_takeD (i := 13) (d := 131) (v := .agg Y'.toList.toArray) _ rfl rfl (by kernel_rfl) (by kernel_rfl) (by kernel_rfl) (fun _ _ _ h => h) (yieldsIf_load_mid (by kernel_rfl) _ _ rfl b (off+kb*47) (by kernel_rfl) Y'.toList _ (fun ws hSw => KB.out ws hSw) hu rfl hiY) hS ?_
                       simp only [Act.put, List.setIfInBounds_toArray, List.set_cons_zero, List.set_cons_succ]
                       refine wpAnyH_ready (rs := [14]) (by kernel_rfl) (by simp) ?_
                       refine AllReadyH.cons rfl (fun K hK => ?_) AllReadyH.nil
                       go_simp
                       refine (CSN.out _ hS).mono ?_
                       rintro e w5 ⟨rfl, g5⟩
                       refine hK _ _ (hS.trans (g5.below.mono hS.size)) (fun hS => ?_)
                       clear g5
                       try simp only [Act.put, List.setIfInBounds_toArray, List.set_cons_zero, List.set_cons_succ]
                       refine wpAnyH_takeD (i := 15) (d := 133) (v := .bool rs) _ rfl rfl (by kernel_rfl) (by kernel_rfl) (by kernel_rfl) (fun _ _ _ h => h) (Or.inl ⟨by kernel_rfl, fun ws hSw => by first | (go_simp; done) | (go_simp; with_reducible rfl) | (go_simp; rfl)⟩) hS ?_
                       simp only [Act.put, List.setIfInBounds_toArray, List.set_cons_zero, List.set_cons_succ]
                       refine wpAnyH_takeD (i := 16) (d := 134) (v := .bool rs) _ rfl rfl (by kernel_rfl) (by kernel_rfl) (by kernel_rfl) (fun _ _ _ h => h) (Or.inl ⟨by kernel_rfl, fun ws hSw => by first | (go_simp; done) | (go_simp; with_reducible rfl) | (go_simp; rfl)⟩) hS ?_
                       simp only [Act.put, List.setIfInBounds_toArray, List.set_cons_zero, List.set_cons_succ]
                       refine wpAnyH_done (by kernel_rfl) ?_ _
                       have F2 := Lib.hid (BW.out _ hS)
                       cases rs with
                       | true =>
                         have F1 : Hid (BestAt ltO (· ∈ so.take tc) (L6.map (·.2)) (k + 1) (k : Int)) := BestAt.take ltO_irr ltO_tr HBA.out.1 HY.out.1 hnot (.inr ⟨kb, y2.2, rfl, HY2.out.1, HY2.out.2.1 rfl⟩)
                         clear CI CSN HY HY2 KN KO KB hS S0 BW r6 B3 hml hbl hnot HBA t5 hneg hb1 hb2 HKB
                         go_wp2
                         go_roundg (m6 - (k + 1))
                         case measure => omega
                         case rel => exact ⟨k + 1, (k : Int), by push_cast; rfl, rfl, by omega, by omega, by omega, by omega, F1, F2⟩
                       | false =>
                         have F1 : Hid (BestAt ltO (· ∈ so.take tc) (L6.map (·.2)) (k + 1) (kb : Int)) := BestAt.skip HBA.out.1 HY.out.1 (.inr ⟨kb, y2.2, rfl, HY2.out.1, fun e => by have := HY2.out.2.2 e; cases this⟩)
                         clear CI CSN HY HY2 KN KO KB hS S0 BW r6 B3 hml hbl hnot HBA t5 hneg HKB
                         go_wp2
                         go_roundg (m6 - (k + 1))
                         case measure => omega
                         case rel => exact ⟨k + 1, (kb : Int), by push_cast; rfl, rfl, by omega, by omega, by omega, by omega, F1, F2⟩
                 · obtain rfl : k = m6 := by omega
                   obtain ⟨yk, hyk⟩ : ∃ yk, so[tc]? = some yk := ⟨so[tc]'(by have := HSL.out; omega), List.getElem?_eq_getElem (by have := HSL.out; omega)⟩
                   have hbd := HBE.out
                   have hlen6 : (L6.map (·.2)).length = k := by rw [List.length_map]; have := HP.out.2.2.2.2.2.1; omega
                   have hperm6 : (L6.map (·.2)).Perm so := by rw [HP.out.2.2.2.2.2.2.2.1]; exact HSO.out.2
                   obtain ⟨kb, ekb, hkb⟩ := BestAt.done ltO_irr hperm6 HSO.out.1 hyk (by rw [hlen6]; exact hbd)
                   subst ekb
                   obtain ⟨y, hy⟩ : ∃ y, L6[kb]? = some y := by
                     rw [List.getElem?_map, Option.map_eq_some_iff] at hkb
                     obtain ⟨y, h, _⟩ := hkb
                     exact ⟨y, h⟩
                   have eyk : y.2 = yk := by
                     rw [List.getElem?_map, hy] at hkb
                     exact Option.some.inj hkb
                   have r6 := R6.out
                   obtain ⟨b, off, rfl, _, hcy⟩ := r6 kb y hy
                   obtain ⟨hbl, _⟩ := rangeAt_obs r6 hy
                   have okv := HP.out.2.2.2.1 y (List.mem_of_getElem? hy)
                   obtain ⟨nm, hnm⟩ : ∃ a, a = y.2.name := ⟨_, rfl⟩
                   obtain ⟨wi, rfl⟩ : ∃ W, W = wr := ⟨wr, rfl⟩
                   have cnm : wi.cell? ⟨b, off + kb * 47 + 1, none⟩ = some (.string nm) := by
                     refine (HBB.out.cell (p := ⟨b, off + kb * 47 + 1, none⟩) hbl).trans ?_
                     refine hcy 1 _ ?_
                     rw [hnm]
                     show y.1.1.toList[1]? = _
                     rw [Array.getElem?_toList]
                     exact okv.2.1.2.1
                   obtain ⟨w4, hw4⟩ : ∃ w4, w4 = wi.alloc (.cells #[.string nm] StT) := ⟨_, rfl⟩
                   obtain ⟨M, hM⟩ : ∃ M, M = wi.heap.size := ⟨_, rfl⟩
                   have HW4 : Hid (wi.alloc (.cells #[.string nm] StT) = w4 ∧ wi.heap.size = M) := ⟨hw4.symm, hM.symm⟩
                   have b4 : Below wi.heap.size wi w4 := by rw [hw4]; exact ((Gr.refl wi).alloc _).below
                   have NEW : Hid (SRow w4 (some ⟨M, 0, none⟩) [nm]) := by rw [hw4, hM]; exact one_new wi nm
                   have lo4 : Below wo.heap.size wo w4 := HBB.out.trans (b4.mono HBB.out.size)
                   have OW := Lib.hid (HR.out.below lo4)
                   have OG : Hid (OwnS wp.heap.size w4 (.slice q15 i c15) F) := HG.out.below lo4
                   have HB4 := Lib.hid (HBR.out.trans (lo4.mono hzo))
                   have BS4 : Hid (wp.heap.size ≤ w4.heap.size) := HB4.out.size
                   have LE : Hid ((F ++ (so.take tc).map (·.name)).length + [nm].length ≤ 1000000) := by show _ ≤ _; have := RS.out.1; rw [List.length_singleton]; omega
                   have HYK : Hid (so[tc]? = some yk ∧ nm = yk.name ∧ r = (F ++ (so.take tc).map (·.name)).length) := ⟨hyk, by rw [hnm, eyk], RS.out.1⟩
                   have hk0 : (0 : Int) ≤ (kb : Int) := by omega
                   clear hyk hbd hlen6 hperm6 hkb hy eyk r6 hcy hbl okv hnm hw4 hM b4 lo4 HBB HBE R6 RS HR HG
                   go_wp2_with (at_builtin; rw [HW4.out.1, HW4.out.2]; refine wpList_append_strs rfl _ _ rfl wp.heap.size (.slice qv r cv) (F ++ (so.take tc).map (·.name)) rfl OW.out (some ⟨M, 0, none⟩) 1 1 [nm] (by rfl) rfl NEW.out (fun e => by cases e) LE.out BS4.out ?_; intro v7 w7 ho7 hg7 ha7)
                   have FIN : Hid (OwnS wp.heap.size w7 v7 (F ++ (so.take (tc + 1)).map (·.name))) ∧ Hid (OwnS wp.heap.size w7 (.slice q15 i c15) F) ∧ Hid (∀ k, v7.ownBlock = some k → (Value.slice q15 i c15).ownBlock ≠ some k) ∧ Hid (Below wp.heap.size wp w7) ∧ (∃ q c, v7 = .slice q (r + 1) c) := by
                     have e : F ++ (so.take (tc + 1)).map (·.name) = F ++ (so.take tc).map (·.name) ++ [nm] := by rw [List.take_add_one, HYK.out.1, List.map_append, ← List.append_assoc, HYK.out.2.1]; rfl
                     refine ⟨by rw [e]; exact ho7, ?_, ?_, HB4.out.grown hg7 BS4.out (fun k e => (OW.out.lt k e).1), ?_⟩
                     · refine World.ownsRow.kept OG.out hg7 ?_
                       cases hv : (Value.slice q15 i c15).ownBlock with
                       | none => exact .inl rfl
                       | some bb => exact .inr (fun e => HDJ.out bb e.symm hv)
                     · show ∀ k : Nat, v7.ownBlock = some k → (Value.slice q15 i c15).ownBlock ≠ some k
                       intro k2 e1 e2
                       rcases ha7 with h | h
                       · rw [h] at e1; exact HDJ.out k2 e1 e2
                       · rw [h] at e1
                         have h1 := Option.some.inj e1
                         have h2 := OG.out.lt k2 e2
                         omega
                     · obtain ⟨q, c, e2, _⟩ := ho7.slc
                       refine ⟨q, c, ?_⟩
                       rw [e2, List.length_append, ← HYK.out.2.2]
                       rfl
                   obtain ⟨F1, F2, F3, F4, q8, c8, rfl⟩ := FIN
                   have hz2 : IntKind.i64.wrap ((z : Int) - 1) = (z : Int) - 1 := by rw [IntKind.wrap_i64]; omega
                   have HR1 : Hid (r + 1 = i + (tc + 1)) := by show _ = _; have := hr.out; omega
                   clear ho7 hg7 ha7 OW OG NEW HW4 LE HYK HB4 BS4 HDJ HBR hr cnm
                   go_wp2_with fail
                   go_roundg (20 - (tc + 1))
                   case measure => omega
                   case rel => exact ⟨tc + 1, z - 1, r + 1, by push_cast [show 1 ≤ z by omega]; rfl, by omega, HR1, (by have := HR1.out; omega), by omega, by omega, ⟨q8, c8, rfl⟩, F1, F2, F3, F4⟩
              | false =>
                have htc2 : tc = min (m6 - N) 16 := by
                  have := HCB.out
                  symm at this
                  rw [Bool.and_eq_false_iff, decide_eq_false_iff_not, decide_eq_false_iff_not] at this
                  omega
                obtain ⟨T, hTT⟩ : ∃ T, T = takenOf s (l.map (·.2)) := ⟨_, rfl⟩
                have HTT := Lib.hid hTT
                obtain ⟨P, hPP⟩ : ∃ P : Nat → Bool, P = fun k => okNm s && fr s T k := ⟨_, rfl⟩
                have HPP := Lib.hid hPP
                obtain ⟨mm, hmm⟩ : ∃ mm, mm = min (N - m6) 16 := ⟨_, rfl⟩
                have HMM := Lib.hid hmm
                have hmm16 : mm ≤ 16 := by omega
                have RG : Hid (i = F.length ∧ SRow wz q15 F) := by
                  obtain ⟨qq, cc, e, h1, h2⟩ := HG.out.slc
                  have hl : F.length = i := HFF.out.2
                  rw [hl] at e
                  simp only [Value.slice.injEq] at e
                  obtain ⟨rfl, _, rfl⟩ := e
                  exact ⟨hl.symm, h2⟩
                have hi60 : i ≤ 60 := by omega
                have HZB : Hid (B < wz.heap.size) := Nat.lt_of_lt_of_le HPC.out.2.2 HBR.out.size
                have C1Z : Hid (wz.cell? ⟨B, 1, none⟩ = some (.string s)) := (HBR.out.cell (p := ⟨B, 1, none⟩) HPC.out.2.2).trans HPC.out.1
                have C3Z : Hid (wz.cell? ⟨B, 3, none⟩ = some (.int .i64 (N : Int))) := c3
                have LZ : Hid (Below w1.heap.size w1 wz) := HP.out.1.trans (HBR.out.mono HP.out.1.size)
                have TZ : Hid (Tab wz) := var_belowT HH.out.2.2.2.2 LZ.out
                have RLZ : Hid (RowR 47 encOb wz q l) := HH.out.1.below LZ.out
                have HTC := Lib.hid htc2
                clear hTT hPP c3 htc2 hmm
                go_wp2_with fail
                go_loopg [10, 20] 10001 (fun g v10 v20 wr => ∃ kk r6 : Nat, v20 = .int .i64 (kk : Int) ∧ kk ≤ 10000 ∧ 10001 - kk ≤ g ∧ r6 ≤ mm ∧ (∃ q c, v10 = .slice q r6 c) ∧ Hid (((List.range kk).filter P).length = r6) ∧ Hid (OwnS wz.heap.size wr v10 (((List.range kk).filter P).map (pname s))) ∧ Hid (Below wz.heap.size wz wr))
                case atStart => exact ⟨0, 0, rfl, by omega, by omega, Nat.zero_le _, ⟨none, 0, rfl⟩, rfl, OwnS.nil _ _, Below.refl _ _⟩
                case round =>
                  obtain ⟨kk, r6, rfl, hkk, hg6, hr6, ⟨q10, c10, rfl⟩, HLN, HC, HBX⟩ := hrel
                  obtain ⟨wx, rfl⟩ : ∃ W, W = wr := ⟨wr, rfl⟩
                  have c3 : wx.cell? ⟨B, 3, none⟩ = some (.int .i64 (N : Int)) := (HBX.out.cell (p := ⟨B, 3, none⟩) HZB.out).trans C3Z.out
                  obtain ⟨cb, hcb⟩ : ∃ cb, cb = (decide (kk < 10000) && decide (r6 < 16) && decide (m6 + r6 < N)) := ⟨_, rfl⟩
                  have HCB2 := Lib.hid hcb
                  clear hcb
                  go_upto_region 35 with fail
                  go_cut [162] from 145 to 162 (fun v wy => v = .bool cb ∧ wy = wx)
                  case first =>
                    have es : (m6 : Int) + (r6 : Int) = ((m6 + r6 : Nat) : Int) := by omega
                    have ew : IntKind.i64.wrap ((m6 : Int) + (r6 : Int)) = (m6 : Int) + (r6 : Int) := by rw [IntKind.wrap_i64]; omega
                    by_cases h1 : kk < 10000
                    · have t1 : decide ((kk : Int) < 10000) = true := decide_eq_true (by omega)
                      by_cases h2 : r6 < 16
                      · have t2 : decide ((r6 : Int) < 16) = true := decide_eq_true (by omega)
                        have HE : Hid (cb = decide ((m6 : Int) + (r6 : Int) < (N : Int))) := by
                          show _ = _
                          rw [HCB2.out, decide_eq_true h1, decide_eq_true h2, Bool.true_and, Bool.true_and, Bool.eq_iff_iff, decide_eq_true_eq, decide_eq_true_eq]
                          omega
                        clear es
                        go_wp2
                        go_meet
                        case rel => exact ⟨by rw [HE.out], rfl⟩
                      · have t2 : decide ((r6 : Int) < 16) = false := decide_eq_false (by omega)
                        have HE : Hid (cb = false) := by show _ = _; rw [HCB2.out, decide_eq_false h2, Bool.and_false, Bool.false_and]
                        clear es
                        go_wp2
                        go_meet
                        case rel => exact ⟨by rw [HE.out], rfl⟩
                    · have t1 : decide ((kk : Int) < 10000) = false := decide_eq_false (by omega)
                      have HE : Hid (cb = false) := by show _ = _; rw [HCB2.out, decide_eq_false h1, Bool.false_and, Bool.false_and]
                      clear es
                      go_wp2
                      go_meet
                      case rel => exact ⟨by rw [HE.out], rfl⟩
                  case rest =>
                    obtain ⟨rfl, hwx⟩ := hcut
                    have hwy := hwx.symm
                    clear hwx
                    subst hwy
                    cases cb with
                    | false =>
                      have FIN : Hid (PlanIs w wx s N (l.map (·.2)) so (.slice q10 r6 c10) (.slice qv r cv) ∧ Below w.heap.size w wx) := by
                        have z1 : w.heap.size ≤ w1.heap.size := zz.out
                        have z2 : w1.heap.size ≤ wz.heap.size := LZ.out.size
                        have z3 : w1.heap.size ≤ wp.heap.size := HP.out.1.size
                        refine ⟨⟨?_, ?_⟩, HGW.out.trans ((LZ.out.trans (HBX.out.mono z2)).mono z1)⟩
                        · have e : min (N - so.length) 16 = mm := by rw [HSL.out, HMM.out]
                          have hx : kk = 10000 ∨ ((List.range kk).filter P).length = mm := by
                            have h := HCB2.out
                            symm at h
                            rw [Bool.and_eq_false_iff, Bool.and_eq_false_iff, decide_eq_false_iff_not, decide_eq_false_iff_not, decide_eq_false_iff_not] at h
                            have := HLN.out
                            have := HMM.out
                            omega
                          rw [e, ← HTT.out, frees_P HPP.out hkk (by rw [HLN.out]; exact hr6) hx]
                          exact HC.out.mono (by omega)
                        · have e : min (so.length - N) 16 = tc := by rw [HSL.out, HTC.out]
                          rw [e, ← HFF.out.1]
                          exact (HR.out.below HBX.out).mono (by omega)
                      clear HC HLN HR HG HBX HBR HCB2 HCB HDJ RLZ RG c3
                      go_wp2
                      go_ret2
                      exact ⟨⟨_, _, rfl, FIN.out.1⟩, FIN.out.2⟩
                    | true =>
                      obtain ⟨⟨hk1, hk2⟩, hk3⟩ : (kk < 10000 ∧ r6 < 16) ∧ m6 + r6 < N := by
                        have h := HCB2.out
                        symm at h
                        rw [Bool.and_eq_true, Bool.and_eq_true, decide_eq_true_eq, decide_eq_true_eq, decide_eq_true_eq] at h
                        exact h
                      have hr7 : r6 + 1 ≤ mm := by have := HMM.out; omega
                      have LX : Below w1.heap.size w1 wx := LZ.out.trans (HBX.out.mono LZ.out.size)
                      have e1 : wx.cell? ⟨B, 1, none⟩ = some (.string s) := (HBX.out.cell (p := ⟨B, 1, none⟩) HZB.out).trans C1Z.out
                      obtain ⟨nmv, en, hpv, hpn⟩ : ∃ (nmv : ByteArray) (en : Int), podV s kk = .tuple #[.string nmv, .int .i64 en] ∧ ((okNm s = true ∧ nmv = pname s kk ∧ en = 0) ∨ (okNm s = false ∧ en = 6)) := by
                        unfold podV
                        cases h : okNm s with
                        | true => exact ⟨_, _, rfl, .inl ⟨rfl, rfl, rfl⟩⟩
                        | false => exact ⟨_, _, rfl, .inr ⟨rfl, rfl⟩⟩
                      have CN := Lib.hid (nth_name wx s kk hk1 (by have := HS.out; unfold maxLen at this; omega) (var_belowT TZ.out HBX.out))
                      rw [hpv] at CN
                      have HPN := Lib.hid hpn
                      obtain ⟨tk0, htk0⟩ : ∃ tk, tk = (en != 0) := ⟨_, rfl⟩
                      have HTK0 : Hid (tk0 = true ↔ okNm s = false) := by
                        show _ ↔ _
                        rw [htk0]
                        rcases hpn with ⟨h1, _, h3⟩ | ⟨h1, h3⟩
                        · rw [h1, h3]; simp
                        · rw [h1, h3]; simp
                      have hte := htk0.symm
                      clear hpv hpn htk0 c3 hk3
                      go_wp2_with fail
                      refine CN.out.mono ?_
                      rintro e wn ⟨rfl, bn⟩
                      have HBN := Lib.hid (HBX.out.trans (bn.mono HBX.out.size))
                      have HCN := Lib.hid (HC.out.below bn)
                      have RLN := Lib.hid (RLZ.out.below HBN.out)
                      have RGN : Hid (SRow wn q15 F) := RG.out.2.below HBN.out
                      have OKL : Hid (∀ x ∈ l, ObjV wn x.1.1 x.2) := fun x hx => (HH.out.2.1 x hx).below (LZ.out.trans (HBN.out.mono LZ.out.size))
                      have hjn : j = l.length := HH.out.2.2.2.1
                      have HJ := Lib.hid hjn
                      clear bn e1 CN HC hjn LX
                      go_wp2_with fail
                      go_loopg [23, 176] j (fun g v23 vk wr => ∃ (k : Nat) (tk : Bool), vk = .int .i64 (k : Int) ∧ v23 = .bool tk ∧ k ≤ j ∧ j - k ≤ g ∧ Hid (tk = true ↔ (okNm s = false ∨ ∃ x ∈ (l.take k).map (·.2), x.name = nmv ∧ nmv ∉ F)) ∧ Hid (Below wn.heap.size wn wr))
                      case atStart =>
                        refine ⟨0, tk0, rfl, rfl, Nat.zero_le _, by omega, ?_, Below.refl _ _⟩
                        show _ ↔ _
                        rw [HTK0.out]
                        constructor
                        · exact fun h => .inl h
                        · rintro (h | ⟨x, hx, _⟩)
                          · exact h
                          · simp at hx
                      case round =>
                        obtain ⟨k, tk, rfl, rfl, hk4, hk5, HTK, HBB⟩ := hrel
                        by_cases hlt7 : k < j
                        · obtain ⟨y, hy⟩ : ∃ y, l[k]? = some y := ⟨l[k]'(by have := HJ.out; omega), List.getElem?_eq_getElem (by have := HJ.out; omega)⟩
                          have rl := RLN.out
                          obtain ⟨b, off, rfl, _, _⟩ := rl k y hy
                          obtain ⟨hbl, hra⟩ := rangeAt_obs rl hy
                          have LD := Lib.hid (load_at (x := y) (rangeAt_below hra HBB.out hbl))
                          have okv := OKL.out y (List.mem_of_getElem? hy)
                          obtain ⟨X', hX⟩ : ∃ X, X = y.1.1 := ⟨_, rfl⟩
                          rw [← hX] at LD okv
                          have ON := Lib.hid (objV_one okv)
                          obtain ⟨th, inn, el⟩ := el_new wr X' okv.1
                          have TH := Lib.hid th
                          have IN := Lib.hid inn
                          obtain ⟨w3, hw3⟩ : ∃ W', W' = (wr.alloc (.cells zerC OT)).setCells wr.heap.size 0 X'.toList := ⟨_, rfl⟩
                          obtain ⟨O, hO⟩ : ∃ A, A = wr.heap.size := ⟨_, rfl⟩
                          have HW3 : Hid ((wr.alloc (.cells zerC OT)).setCells wr.heap.size 0 X'.toList = w3 ∧ wr.heap.size = O) := ⟨hw3.symm, hO.symm⟩
                          rw [← hw3, ← hO] at el
                          obtain ⟨nm, hnm⟩ : ∃ a, a = y.2.name := ⟨_, rfl⟩
                          have d1 : w3.cell? ⟨O, 1, none⟩ = some (.string nm) := by rw [hnm]; exact (cell_of_block el.blk 1).trans okv.2.1.2.1
                          have B3 : Hid (Below wn.heap.size wn w3) := HBB.out.trans (el.low.mono HBB.out.size)
                          obtain ⟨ib, hib⟩ : ∃ ib : Bool, ib = true ↔ nmv ∈ F := by
                            rcases Classical.em (nmv ∈ F) with h | h
                            · exact ⟨true, by simp [h]⟩
                            · exact ⟨false, by simp [h]⟩
                          have CI := Lib.hid (in_any w3 q15 i c15 F nmv ib RG.out.1 hib (RGN.out.below B3.out) (by omega))
                          have NX : Hid (∀ tk2 : Bool, (tk2 = true ↔ (tk = true ∨ (nm = nmv ∧ ib = false))) → (tk2 = true ↔ (okNm s = false ∨ ∃ x ∈ (l.take (k + 1)).map (·.2), x.name = nmv ∧ nmv ∉ F))) := fun tk2 h => by
                            rw [h, HTK.out, List.take_add_one, hy]
                            constructor
                            · rintro ((h1 | ⟨x, hx, h2⟩) | ⟨h1, h2⟩)
                              · exact .inl h1
                              · exact .inr ⟨x, by rw [List.map_append]; exact List.mem_append_left _ hx, h2⟩
                              · refine .inr ⟨y.2, by rw [List.map_append]; exact List.mem_append_right _ (by simp), by rw [← hnm]; exact h1, fun e => ?_⟩
                                rw [hib.2 e] at h2
                                cases h2
                            · rintro (h1 | ⟨x, hx, h2, h3⟩)
                              · exact .inl (.inl h1)
                              · rw [List.map_append] at hx
                                rcases List.mem_append.1 hx with hx | hx
                                · exact .inl (.inr ⟨x, hx, h2, h3⟩)
                                · simp at hx
                                  subst hx
                                  refine .inr ⟨by rw [hnm]; exact h2, ?_⟩
                                  cases ib with
                                  | false => rfl
                                  | true => exact absurd (hib.1 rfl) h3
                          clear rl hbl hra okv hX th inn el hw3 hO hnm hib hy HTK HBB
                          go_upto_region 42 with (first | (refine wpList_load_by (by kernel_rfl) OT _ rfl (.pointer (some ⟨b, off + k * 47, none⟩)) (.agg X') (by first | rfl | (simp; done)) LD.out ?_) | (refine wpList_store_mid rfl _ _ _ rfl wr.heap.size 0 X' (by rfl) (by rfl) TH.out IN.out ON.out ?_; rw [HW3.out.1, HW3.out.2]))
                          clear TH IN ON HW3 LD
                          cases tk with
                          | true =>
                            have F1 := Lib.hid ((NX.out true (by simp)).1 rfl)
                            clear NX CI d1
                            go_wp2
                            go_roundg (j - (k + 1))
                            case measure => omega
                            case rel => exact ⟨k + 1, true, by push_cast; rfl, rfl, by omega, by omega, ⟨fun _ => F1.out, fun _ => rfl⟩, B3⟩
                          | false =>
                            by_cases hnn : nm = nmv
                            · have t2 : (nm.toList == nmv.toList) = true := by rw [hnn]; simp
                              have F1 := Lib.hid (NX.out (!ib) (by cases ib <;> simp [hnn]))
                              clear NX hnn
                              go_wp2_with fail
                              refine CI.out.mono ?_
                              rintro e w4 ⟨rfl, rfl⟩
                              clear CI d1
                              go_wp2
                              go_roundg (j - (k + 1))
                              case measure => omega
                              case rel => exact ⟨k + 1, (!ib), by push_cast; rfl, rfl, by omega, by omega, F1, B3⟩
                            · have t2 : (nm.toList == nmv.toList) = false := by rw [byte_beq]; exact decide_eq_false hnn
                              have F1 := Lib.hid (NX.out false (by simp [hnn]))
                              clear NX hnn CI
                              go_wp2
                              go_roundg (j - (k + 1))
                              case measure => omega
                              case rel => exact ⟨k + 1, false, by push_cast; rfl, rfl, by omega, by omega, F1, B3⟩
                        · have hkj : k = j := by omega
                          have HPK : Hid (tk = !(P kk)) := by
                            show _ = _
                            have h := HTK.out
                            have et : l.take k = l := List.take_of_length_le (by have := HJ.out; omega)
                            rw [et] at h
                            have h2 := taken_iff (l := l.map (·.2)) HH.out.2.2.1.un HH.out.2.2.1.pod (s := s) (nm := nmv)
                            rw [← HFF.out.1, ← HTT.out] at h2
                            rw [← h2] at h
                            have hpk : P kk = (okNm s && fr s T kk) := by rw [HPP.out]
                            rw [hpk]
                            rcases HPN.out with ⟨g1, g2, _⟩ | ⟨g1, _⟩
                            · rw [g1] at h ⊢
                              unfold fr
                              rw [← g2]
                              rw [Bool.eq_iff_iff, h]
                              simp
                            · rw [g1] at h ⊢
                              rw [Bool.eq_iff_iff, h]
                              simp
                          have HNXT := Lib.hid (filter_next (p := P) (k := kk))
                          obtain ⟨wi, rfl⟩ : ∃ W, W = wr := ⟨wr, rfl⟩
                          have HBI := Lib.hid (HBN.out.trans (HBB.out.mono HBN.out.size))
                          have HCI := Lib.hid (HCN.out.below HBB.out)
                          clear HTK hkj RLN RGN OKL HBB HCN HBN
                          cases tk with
                          | true =>
                            have HPF : Hid (P kk = false) := by have := HPK.out; show _ = _; cases h : P kk with
                              | false => rfl
                              | true => rw [h] at this; cases this
                            have F1 : Hid (((List.range (kk + 1)).filter P).length = r6) := by show _ = _; rw [HNXT.out, HPF.out, if_neg (by decide), List.append_nil]; exact HLN.out
                            have F2 : Hid (OwnS wz.heap.size wi (.slice q10 r6 c10) (((List.range (kk + 1)).filter P).map (pname s))) := by show OwnS _ _ _ _; rw [HNXT.out, HPF.out, if_neg (by decide), List.append_nil]; exact HCI.out
                            clear HPF HPK HNXT HCI HLN HPN HTK0
                            go_wp2
                            go_roundg (10001 - (kk + 1))
                            case measure => omega
                            case rel => exact ⟨kk + 1, r6, by push_cast; rfl, by omega, by omega, by omega, ⟨q10, c10, rfl⟩, F1, F2, HBI⟩
                          | false =>
                            have HPT : Hid (P kk = true ∧ nmv = pname s kk) := by
                              have h : P kk = true := by have := HPK.out; cases h : P kk with
                                | true => rfl
                                | false => rw [h] at this; cases this
                              refine ⟨h, ?_⟩
                              rcases HPN.out with ⟨g1, g2, _⟩ | ⟨g1, _⟩
                              · exact g2
                              · rw [HPP.out, g1] at h
                                cases h
                            obtain ⟨w4, hw4⟩ : ∃ w4, w4 = wi.alloc (.cells #[.string nmv] StT) := ⟨_, rfl⟩
                            obtain ⟨M, hM⟩ : ∃ M, M = wi.heap.size := ⟨_, rfl⟩
                            have HW4 : Hid (wi.alloc (.cells #[.string nmv] StT) = w4 ∧ wi.heap.size = M) := ⟨hw4.symm, hM.symm⟩
                            have b4 : Below wi.heap.size wi w4 := by rw [hw4]; exact ((Gr.refl wi).alloc _).below
                            have NEW : Hid (SRow w4 (some ⟨M, 0, none⟩) [nmv]) := by rw [hw4, hM]; exact one_new wi nmv
                            have OW := Lib.hid (HCI.out.below b4)
                            have HB4 := Lib.hid (HBI.out.trans (b4.mono HBI.out.size))
                            have BS4 : Hid (wz.heap.size ≤ w4.heap.size) := HB4.out.size
                            have LE : Hid ((((List.range kk).filter P).map (pname s)).length + [nmv].length ≤ 1000000) := by show _ ≤ _; rw [List.length_map, HLN.out, List.length_singleton]; omega
                            clear hw4 hM b4 HBI HCI HPK HTK0
                            go_wp2_with (at_builtin; rw [HW4.out.1, HW4.out.2]; refine wpList_append_strs rfl _ _ rfl wz.heap.size (.slice q10 r6 c10) (((List.range kk).filter P).map (pname s)) rfl OW.out (some ⟨M, 0, none⟩) 1 1 [nmv] (by rfl) rfl NEW.out (fun e => by cases e) LE.out BS4.out ?_; intro v7 w7 ho7 hg7 ha7)
                            have FIN : Hid (((List.range (kk + 1)).filter P).length = r6 + 1) ∧ Hid (OwnS wz.heap.size w7 v7 (((List.range (kk + 1)).filter P).map (pname s))) ∧ Hid (Below wz.heap.size wz w7) ∧ (∃ q c, v7 = .slice q (r6 + 1) c) := by
                              have e : (List.range (kk + 1)).filter P = (List.range kk).filter P ++ [kk] := by rw [HNXT.out, HPT.out.1, if_pos rfl]
                              refine ⟨by show _ = _; rw [e, List.length_append, HLN.out]; rfl, by show OwnS _ _ _ _; rw [e, List.map_append]; show OwnS _ _ _ (_ ++ [pname s kk]); rw [← HPT.out.2]; exact ho7, HB4.out.grown hg7 BS4.out (fun k e => (OW.out.lt k e).1), ?_⟩
                              obtain ⟨q, c, e2, _⟩ := ho7.slc
                              refine ⟨q, c, ?_⟩
                              rw [e2, List.length_append, List.length_map, HLN.out]
                              rfl
                            obtain ⟨F1, F2, F3, q8, c8, rfl⟩ := FIN
                            clear ho7 hg7 ha7 OW NEW HW4 LE HB4 BS4 HPT HNXT HLN HPN
                            go_wp2_with fail
                            go_roundg (10001 - (kk + 1))
                            case measure => omega
                            case rel => exact ⟨kk + 1, r6 + 1, by push_cast; rfl, by omega, by omega, by omega, ⟨q8, c8, rfl⟩, F1, F2, F3⟩
end Go.Proofs.YtbkoepghmcdnhaaDoor.Rp
