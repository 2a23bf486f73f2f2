/- Layer 16 (replica): the names that a pass over a workload would create and delete (replica.Plan). -/
import Derived.Test.YtbkoepghmcdnhaaDoorPk4
import Derived.Test.YtbkoepghmcdnhaaDoorPk2
namespace Go.Proofs.YtbkoepghmcdnhaaDoor.Rp
open Go.RowKit Go.Shelf Go.Lib Go.Sort Go.Deep
open Go.Joins (cell_of_block unfrozen_of_block block_setCell)
open Go.Proofs.YtbkoepghmcdnhaaDoor.Ow Go.Proofs.YtbkoepghmcdnhaaDoor.Vi
set_option linter.unusedVariables false
set_option linter.unusedSimpArgs false
set_option maxRecDepth 20000

theorem Row.rr {N : Nat} {w : World} {q : Option Addr} {n c : Nat} {l : List Obv} (h : Row N w (.slice q n c) l) : RowR 47 encOb w q l := by
  intro j x hx
  obtain ⟨g, e, h1, h2, h3⟩ := Row.at h hx
  refine ⟨g, 0, e, h2, fun t v hv => ?_⟩
  rw [Nat.zero_add]
  exact h3 t v hv
theorem plan_other (w : World) (X : Array Value) (o : Ob) (v : Value) (hv : ObjV w X o) (hk : o.kind ≠ 0) :
    Calls Tryd.prog 7 #[.agg X, v] w fun e w' => e = .returned (.tuple #[.slice none 0 0, .slice none 0 0]) ∧ Below w.heap.size w w' := by
  obtain ⟨B, hB⟩ : ∃ B, B = w.heap.size := ⟨_, rfl⟩
  obtain ⟨w1, hw1⟩ : ∃ W, W = w.alloc (.cells X OT) := ⟨_, rfl⟩
  have G1 : Gr w w1 := hw1 ▸ (Gr.refl w).alloc _
  have b1 : w1.heap[B]? = some (.cells X OT (0, 0)) := by rw [hw1, hB]; exact heap_alloc_new w _
  obtain ⟨kd, hkd⟩ : ∃ a, a = o.kind := ⟨_, rfl⟩
  have d0 : w1.cell? ⟨B, 0, none⟩ = some (.int .i64 kd) := by rw [hkd]; exact (cell_of_block b1 0).trans hv.2.1.1
  have t1 : (kd != 0) = true := by rw [hkd]; exact bne_iff_ne.2 hk
  have HW : Hid (w.alloc (.cells X OT) = w1 ∧ w.heap.size = B) := ⟨hw1.symm, hB.symm⟩
  have HG := Lib.hid G1
  clear hv hk hB hw1 G1 b1 hkd
  go_enter Tryd.func7, Tryd.ntmps7
  go_upto_region 1 with fail
  rw [HW.out.1, HW.out.2]
  go_wp2
  go_ret2
  exact ⟨rfl, HG.out.below⟩
/-- What a plan says of a workload of so many replicas, and a row. -/
def Planned (w w' : World) (s : ByteArray) (N : Nat) (l : List Obv) (v1 v2 : Value) : Prop :=
  ∃ p t : List El, Sorted t ∧ Same1 p t ∧ p.map (·.1.2) = (l.map (·.2)).filter (isLive s) ∧
    OwnS w.heap.size w' v1 (frees s (takenOf s (l.map (·.2))) (min (N - t.length) 16)) ∧
    OwnS w.heap.size w' v2 (sortS (((l.map (·.2)).filter (isFailed s)).map (·.name)) ++ (t.take (min (t.length - N) 16)).map (·.1.2.name))
theorem strs_nm (t : List El) : strs (t.map (·.1.2.name)) = nmV t := by unfold strs nmV; rw [List.map_map]; rfl
set_option maxHeartbeats 8000000 in
theorem plan_any (w : World) (X : Array Value) (o : Ob) (N : Nat) (q : Option Addr) (n c : Nat) (l : List Obv) (hv : ObjV w X o) (hk : o.kind = 0) (hN : o.w.rep = (N : Int)) (hN1 : N ≤ 1000000000) (hs : o.name.size ≤ maxLen) (hn : n = l.length) (hr : RowR 47 encOb w q l)
    (hok : ∀ x ∈ l, ObjV w x.1.1 x.2 ∧ NilO x.1.1 ∧ FitO x.2 ∧ x.2.name.size ≤ maxLen) (hlen : n ≤ 1000) (hT : Tab w) :
    Calls Tryd.prog 7 #[.agg X, .slice q n c] w fun e w' => (∃ v1 v2, e = .returned (.tuple #[v1, v2]) ∧ Hid (Planned w w' o.name N l v1 v2)) ∧ Below w.heap.size w w' := by
  obtain ⟨B, hB⟩ : ∃ B, B = w.heap.size := ⟨_, rfl⟩
  obtain ⟨w1, hw1⟩ : ∃ W, W = w.alloc (.cells X OT) := ⟨_, rfl⟩
  have G1 : Gr w w1 := hw1 ▸ (Gr.refl w).alloc _
  have b1 : w1.heap[B]? = some (.cells X OT (0, 0)) := by rw [hw1, hB]; exact heap_alloc_new w _
  obtain ⟨s, hsn⟩ : ∃ a, a = o.name := ⟨_, rfl⟩
  have d0 : w1.cell? ⟨B, 0, none⟩ = some (.int .i64 0) := by rw [← hk]; exact (cell_of_block b1 0).trans hv.2.1.1
  have d1 : Hid (w1.cell? ⟨B, 1, none⟩ = some (.string s)) := by show _ = _; rw [hsn]; exact (cell_of_block b1 1).trans hv.2.1.2.1
  have d3 : Hid (w1.cell? ⟨B, 3, none⟩ = some (.int .i64 (N : Int))) := by show _ = _; rw [← hN]; exact (cell_of_block b1 3).trans hv.2.2.1.1
  have HBl : Hid (B < w1.heap.size) := (Array.getElem?_eq_some_iff.1 b1).1
  have HW : Hid (w.alloc (.cells X OT) = w1 ∧ w.heap.size = B) := ⟨hw1.symm, hB.symm⟩
  have HG := Lib.hid G1.below
  have zz := G1.below.size
  have CL := Lib.hid (live_any w w1 G1.below q c l s hr (fun x hx => ⟨(hok x hx).1, (hok x hx).2.1, (hok x hx).2.2.1⟩) (by omega))
  rw [← hn] at CL
  have HH := Lib.hid (And.intro hr (And.intro hok (And.intro hn (And.intro hT hs))))
  rw [← hsn] at HH ⊢
  have d1' := d1.out
  clear hv hk hN hB hw1 G1 b1 hr hok hn hT hs hsn
  go_enter Tryd.func7, Tryd.ntmps7
  go_upto_region 1 with fail
  rw [HW.out.1, HW.out.2]
  go_wp2_with fail
  refine CL.out.mono ?_
  rintro e w2 ⟨⟨q1, c1, l1, q2, c2, l2, rfl, r1, r2, e1, e2⟩, b2⟩
  obtain ⟨m1, hm1⟩ : ∃ m, m = l1.length := ⟨_, rfl⟩
  obtain ⟨m2, hm2⟩ : ∃ m, m = l2.length := ⟨_, rfl⟩
  have hm1n : m1 ≤ 1000 := by
    have h1 := congrArg List.length e1
    have h2 := List.length_filter_le (isLive s) (l.map (·.2))
    simp only [List.length_map] at h1 h2
    have := HH.out.2.2.1
    omega
  have hm2n : m2 ≤ 1000 := by
    have h1 := congrArg List.length e2
    have h2 := List.length_filter_le (isFailed s) (l.map (·.2))
    simp only [List.length_map] at h1 h2
    have := HH.out.2.2.1
    omega
  rw [← hm1] at r1
  rw [← hm2] at r2
  rw [← hm1, ← hm2]
  have HB2 := Lib.hid (HG.out.trans (b2.mono zz))
  have fromL : ∀ x : Ob, x ∈ l.map (·.2) → FitO x ∧ x.name.size ≤ maxLen := fun x hx => by
    obtain ⟨y, hy, rfl⟩ := List.mem_map.1 hx
    exact ⟨(HH.out.2.1 y hy).2.2.1, (HH.out.2.1 y hy).2.2.2⟩
  have ok1 : ∀ x ∈ l1, ObjV w2 x.1.1 x.2 ∧ NilO x.1.1 ∧ FitO x.2 := fun x hx => by
    have hx2 : x.2 ∈ l.map (·.2) := by
      have : x.2 ∈ l1.map (·.2) := List.mem_map.2 ⟨x, hx, rfl⟩
      rw [e1] at this
      exact (List.mem_filter.1 this).1
    exact ⟨(r1.firm x hx).obj.1, (r1.firm x hx).obj.2, (fromL x.2 hx2).1⟩
  have ok2 : ∀ x ∈ l2, ObjV w2 x.1.1 x.2 := fun x hx => (r2.firm x hx).obj.1
  have R1 := Lib.hid (And.intro (Row.rr r1) (And.intro ok1 (And.intro e1 hm1)))
  have R2 := Lib.hid (And.intro (Row.rr r2) (And.intro ok2 (And.intro e2 hm2)))
  have bl2 : B < w2.heap.size := Nat.lt_of_lt_of_le HBl.out b2.size
  have d1 : w2.cell? ⟨B, 1, none⟩ = some (.string s) := (b2.cell (p := ⟨B, 1, none⟩) HBl.out).trans d1.out
  have d3 : w2.cell? ⟨B, 3, none⟩ = some (.int .i64 (N : Int)) := (b2.cell (p := ⟨B, 3, none⟩) HBl.out).trans d3.out
  obtain ⟨K, hK⟩ : ∃ K : Int, K = min ((N : Int) - (m1 : Int)) 16 := ⟨_, rfl⟩
  obtain ⟨J, hJ⟩ : ∃ J : Int, J = min ((m1 : Int) - (N : Int)) 16 := ⟨_, rfl⟩
  have CF := Lib.hid (fun wx (b : Below w2.heap.size w2 wx) => free_any wx s q n c l K HH.out.2.2.1 (HH.out.1.below (HB2.out.trans (b.mono HB2.out.size))) (fun x hx => ⟨(HH.out.2.1 x hx).1.below (HB2.out.trans (b.mono HB2.out.size)), (HH.out.2.1 x hx).2.2.2⟩) (by omega) HH.out.2.2.2.2 (HH.out.2.2.2.1.below (HB2.out.trans (b.mono HB2.out.size))) (by omega))
  have HKJ := Lib.hid (And.intro hK hJ)
  have hmx : max (N : Int) 0 = (N : Int) := by omega
  have w1s : IntKind.i64.wrap ((N : Int) - (m1 : Int)) = (N : Int) - (m1 : Int) := by rw [IntKind.wrap_i64]; omega
  have w2s : IntKind.i64.wrap ((m1 : Int) - (N : Int)) = (m1 : Int) - (N : Int) := by rw [IntKind.wrap_i64]; omega
  have hK' := hK.symm
  have hJ' := hJ.symm
  clear hK hJ r1 r2 e1 e2 hm1 hm2 ok1 ok2 fromL b2 CL
  go_wp2_with fail
  refine (CF.out w2 (Below.refl _ _)).mono ?_
  rintro e w3 ⟨⟨v3, rfl, ho3⟩, b3⟩
  have HF3 := Lib.hid (And.intro ho3 b3)
  have CR := Lib.hid (rising_any w3 q2 m2 c2 l2 R2.out.2.2.2 (R2.out.1.below b3) (fun x hx => (R2.out.2.1 x hx).below b3) (by omega))
  clear ho3 CF d1 d3
  go_wp2_with fail
  refine CR.out.mono ?_
  rintro e w4 ⟨⟨v4, rfl, ho4⟩, b4⟩
  have low4 : Below w2.heap.size w2 w4 := b3.trans (b4.mono b3.size)
  have CP := Lib.hid (pick_any w2 w4 low4 q1 c1 l1 J R1.out.1 R1.out.2.1 (by have := R1.out.2.2.2; omega))
  rw [← R1.out.2.2.2] at CP
  have HF4 := Lib.hid (And.intro ho4 (And.intro b4 low4))
  clear ho4 b3 b4 low4 CR
  go_wp2_with fail
  refine CP.out.mono ?_
  rintro e w5 ⟨⟨q5, c5, m5, rfl, hp5⟩, b5⟩
  obtain ⟨p, t, st, sm, hpm, hm5, ho5⟩ := hp5.out
  have HO5 : Hid (OwnS w4.heap.size w5 (.slice q5 m5 c5) ((t.take J.toNat).map (·.1.2.name))) := by
    show _ = _ ∧ _
    rw [strs_nm, List.length_map, ← hm5]
    exact ho5
  have HF5 := Lib.hid (And.intro st (And.intro sm (And.intro hpm (And.intro hm5 b5))))
  clear st sm hpm hm5 ho5 b5 hp5 CP
  obtain ⟨qa, ca, rfl, na, sa⟩ := HF4.out.1.out.slc
  obtain ⟨qb, cb, eb, nb, sb⟩ := HO5.out.slc
  have HA := Lib.hid (And.intro na (And.intro (sa.below HF5.out.2.2.2.2) (And.intro nb (And.intro sb eb))))
  obtain ⟨la, hla⟩ : ∃ a, a = (sortS (l2.map (·.2.name))).length := ⟨_, rfl⟩
  rw [← hla]
  clear na sa nb sb eb
  have hm5b : m5 = ((t.take J.toNat).map (·.1.2.name)).length := by rw [List.length_map]; exact HF5.out.2.2.2.1
  obtain ⟨w6, hw6⟩ : ∃ W, W = w5.alloc (.cells #[.slice qa la ca, .slice q5 m5 c5] SlS) := ⟨_, rfl⟩
  have b6 : Below w5.heap.size w5 w6 := by rw [hw6]; exact ((Gr.refl w5).alloc _).below
  obtain ⟨M, hM⟩ : ∃ M, M = w5.heap.size := ⟨_, rfl⟩
  have SR : SRows w6 M 0 [(qa, ca, sortS (l2.map (·.2.name))), (q5, c5, (t.take J.toNat).map (·.1.2.name))] := by
    obtain ⟨na, sa, nb, sb, eb⟩ := HA.out
    simp only [Value.slice.injEq] at eb
    obtain ⟨e1, e2, e3⟩ := eb
    subst e1
    subst e3
    refine ⟨by rw [hw6, hM]; simp, fun j r hj => ?_⟩
    match j, hj with
    | 0, hj =>
      obtain rfl := Option.some.inj hj
      exact ⟨by rw [hw6, hM, hla]; simp, sa.below b6, na⟩
    | 1, hj =>
      obtain rfl := Option.some.inj hj
      exact ⟨by rw [hw6, hM]; simp [hm5b], sb.below b6, nb⟩
    | j + 2, hj => simp at hj
  have eC : catS [(qa, ca, sortS (l2.map (·.2.name))), (q5, c5, (t.take J.toNat).map (·.1.2.name))] = sortS (l2.map (·.2.name)) ++ (t.take J.toNat).map (·.1.2.name) := by simp [catS]
  have htl : t.length = m1 := by
    obtain ⟨st, sm, hpm, hm5, b5⟩ := HF5.out
    have h1 := congrArg List.length hpm
    have h2 : (l1.map (·.2)).filter isPod = l1.map (·.2) := by
      rw [List.filter_eq_self, R1.out.2.2.1]
      intro x hx
      have := (List.mem_filter.1 hx).2
      unfold isLive isOf at this
      rw [Bool.and_eq_true, Bool.and_eq_true] at this
      exact this.1.1
    rw [h2, List.length_map, List.length_map] at h1
    have := sm.1.length_eq
    have := R1.out.2.2.2
    omega
  have CC := concat_strs w6 M 0 _ SR (by rw [eC, List.length_append, sortS_len, List.length_map, List.length_map, List.length_take]; have := R2.out.2.2.2; omega) (by simp)
  rw [eC] at CC
  have CC2 : Hid (Calls Tryd.prog 19 #[.slice (some ⟨M, 0, none⟩) 2 2] w6 fun e w' => ∃ v, e = .returned v ∧ OwnS w6.heap.size w' v (sortS (l2.map (·.2.name)) ++ (t.take J.toNat).map (·.1.2.name)) ∧ Below w6.heap.size w6 w') := CC
  have HW6 : Hid (w5.alloc (.cells #[.slice qa la ca, .slice q5 m5 c5] SlS) = w6 ∧ w5.heap.size = M) := ⟨hw6.symm, hM.symm⟩
  have FIN : Hid (∀ v w7, OwnS w6.heap.size w7 v (sortS (l2.map (·.2.name)) ++ (t.take J.toNat).map (·.1.2.name)) → Below w6.heap.size w6 w7 → Planned w w7 s N l v3 v ∧ Below w.heap.size w w7) := by
    intro v w7 ho7 b7
    obtain ⟨st, sm, hpm, hm5, b5⟩ := HF5.out
    obtain ⟨ho4, b4, low4⟩ := HF4.out
    obtain ⟨ho3, b3⟩ := HF3.out
    have z2 := HB2.out.size
    have z4 := low4.size
    have z5 := b5.size
    have z6 := b6.size
    have l37 : Below w3.heap.size w3 w7 := b4.trans ((b5.trans ((b6.trans (b7.mono z6)).mono z5)).mono b4.size)
    have h2 : (l1.map (·.2)).filter isPod = l1.map (·.2) := by
      rw [List.filter_eq_self, R1.out.2.2.1]
      intro x hx
      have := (List.mem_filter.1 hx).2
      unfold isLive isOf at this
      rw [Bool.and_eq_true, Bool.and_eq_true] at this
      exact this.1.1
    have eK : K.toNat = min (N - t.length) 16 := by rw [HKJ.out.1, htl]; omega
    have eJ : J.toNat = min (t.length - N) 16 := by rw [HKJ.out.2, htl]; omega
    have eF : l2.map (·.2.name) = ((l.map (·.2)).filter (isFailed s)).map (·.name) := by rw [← R2.out.2.2.1, List.map_map]; rfl
    refine ⟨⟨p, t, st, sm, by rw [hpm, h2, R1.out.2.2.1], ?_, ?_⟩, HB2.out.trans ((b3.trans (l37.mono b3.size)).mono z2)⟩
    · have := ho3.out.below l37
      rw [eK] at this
      exact this.mono z2
    · rw [← eF, ← eJ]
      exact ho7.mono (by omega)
  clear hla hm5b hw6 b6 hM SR eC htl CC HA
  go_wp2_with fail
  rw [HW6.out.1, HW6.out.2]
  refine CC2.out.mono ?_
  rintro e w7 ⟨v7, rfl, ho7, b7⟩
  obtain ⟨F1, F2⟩ := FIN.out v7 w7 ho7 b7
  have F1 := Lib.hid F1
  have F2 := Lib.hid F2
  clear ho7 b7 FIN CC2 HW6 HF5 HF4 HF3 R1 R2 HO5 HB2
  go_wp2
  go_ret2
  exact ⟨⟨_, _, rfl, F1⟩, F2.out⟩
end Go.Proofs.YtbkoepghmcdnhaaDoor.Rp
/- Layer 15 (victim): the chapter's example. -/
namespace Go.Proofs.YtbkoepghmcdnhaaDoor.Vi
open Go.RowKit Go.Shelf Go.Lib Go.Sort Go.Deep
open Go.Joins (cell_of_block unfrozen_of_block block_setCell)
open Go.Proofs.YtbkoepghmcdnhaaDoor.Ow
set_option linter.unusedVariables false
set_option linter.unusedSimpArgs false
set_option maxRecDepth 20000

/-- The example's pods. -/
def exP (ph : Int) : Array Value := #[.string { data := #[] }, .string { data := #[] }, .int .i64 ph, .int .i64 0, .int .i64 0, .int .i64 0, .slice none 0 0, .slice none 0 0, .slice none 0 0, .int .i64 0]
def exC (nm : ByteArray) (ph : Int) : Array Value := #[.int .i64 1, .string nm, .int .u64 0, .int .i64 0, .int .i64 0, .int .i64 0, .slice none 0 0, .slice none 0 0, .slice none 0 0, .int .i64 0, .string { data := #[] }, .string { data := #[] }, .int .i64 ph, .int .i64 0, .int .i64 0, .int .i64 0, .slice none 0 0, .slice none 0 0, .slice none 0 0, .int .i64 0, .string { data := #[] }, .int .i64 0, .int .i64 0, .slice none 0 0, .slice none 0 0, .int .i64 0, .bool false, .int .i64 0, .int .i64 0, .int .i64 0, .int .i64 0, .int .i64 0, .slice none 0 0, .slice none 0 0, .int .i64 0, .string { data := #[] }, .int .i64 0, .int .i64 0, .slice none 0 0, .int .i64 0, .int .i64 0, .int .i64 0, .slice none 0 0, .int .i64 0, .int .i64 0, .slice none 0 0, .slice none 0 0]
def exO (nm : ByteArray) (ph : Int) : Ob := { zerO with kind := 1, name := nm, p := { zerO.p with ph := ph } }
theorem ex_size (nm : ByteArray) (ph : Int) : (exC nm ph).size = 47 := rfl
theorem ex_obj (w : World) (nm : ByteArray) (ph : Int) : ObjV w (exC nm ph) (exO nm ph) := by
  have rL : SlR 2 encL w (some (.slice none 0 0)) [] := ⟨none, 0, rfl, RowR.nil _ _ _ _⟩
  have rR : SlR 3 encR w (some (.slice none 0 0)) [] := ⟨none, 0, rfl, RowR.nil _ _ _ _⟩
  have rM : SlR 3 encM w (some (.slice none 0 0)) [] := ⟨none, 0, rfl, RowR.nil _ _ _ _⟩
  have rP : SlR 3 encP w (some (.slice none 0 0)) [] := ⟨none, 0, rfl, RowR.nil _ _ _ _⟩
  have rS : SlR 3 encS w (some (.slice none 0 0)) [] := ⟨none, 0, rfl, RowR.nil _ _ _ _⟩
  exact ⟨rfl, ⟨rfl, rfl, rfl, (by decide : (0 : Nat) < 18446744073709551616)⟩, ⟨rfl, rfl, rfl, rL, rR, rL, rfl⟩, ⟨rfl, rfl, rfl, rfl, rfl, rfl, rL, rR, rL, rfl⟩, ⟨rfl, rfl, rfl, rL, rL, rfl, rfl⟩, ⟨rfl, rfl, rfl, rfl, rfl, rL, rL, rfl⟩, ⟨rfl, rfl, rfl, rM, rfl, rfl, rfl, rP, rfl, rfl, rP, rS⟩⟩
theorem ex_one (nm : ByteArray) (ph : Int) : (exC nm ph).all (·.oneCell') = true := objV_one (ex_obj default nm ph)
theorem ex_nil (nm : ByteArray) (ph : Int) : NilO (exC nm ph) := by
  intro i n c hi hc
  simp only [rowsIx, List.mem_cons, List.not_mem_nil, or_false] at hi
  rcases hi with rfl | rfl | rfl | rfl | rfl | rfl | rfl | rfl | rfl | rfl | rfl | rfl | rfl | rfl
  all_goals (cases hc; rfl)
theorem ex_fit (nm : ByteArray) (ph : Int) : FitO (exO nm ph) := ⟨by show (0 : Nat) * 32 ≤ 140737488351232; decide, by show (0 : Nat) * 24 ≤ 140737488351232; decide, by show (0 : Nat) * 24 ≤ 140737488351232; decide, by show (0 : Nat) * 24 ≤ 140737488351232; decide⟩
def exA : Obv := (⟨exC { data := #[97] } 2, ex_size _ _, ex_one _ _⟩, exO { data := #[97] } 2)
def exB : Obv := (⟨exC { data := #[98] } 0, ex_size _ _, ex_one _ _⟩, exO { data := #[98] } 0)
/-- What is known to run, in a plain region. -/
theorem wpList_known {P : Program} {ops : Array Oper} {rest : List Oper} {o : Oper} {a : Act} {w w' : World} {v : Value} {Q : Exit → Act → World → Prop} (hw : Region.wanted o (yielded ops a.tmps) = true) (hr : (execOp a.eval o).run P w = .ok (.value v) w') (h : wpList P ops Q rest (a.put o.dst v) w') : wpList P ops Q (o :: rest) a w := by
  refine wpList_step fun K hK => ?_
  rw [if_pos hw]
  unfold Oper.wp
  rw [hr]
  exact hK _ _ h
theorem run_built {T : TypeId} {o : Oper} {ev : Operand → Value} {parts : Array (Nat × Operand)} {l : List (Nat × Value)} {C : Array Value} (ho : o.op = .build T parts) (hp : (parts.map fun (i, x) => (i, ev x)).toList = l) (hc : Tryd.prog.built T l = some C) (w : World) :
    (execOp ev o).run Tryd.prog w = .ok (.value (.agg C)) w := by
  rw [← hp] at hc
  unfold execOp
  simp only [ho, Sem.run_bind, run_build w _ _ _ hc, Result.andThen_ok]
  rfl
theorem built_p (ph : Int) : Tryd.prog.built 31 [(2, .int .i64 ph)] = some (exP ph) := by kernel_rfl
theorem built_o (nm : ByteArray) (ph : Int) : Tryd.prog.built OT [(0, .int .i64 1), (1, .string nm), (4, .agg (exP ph))] = some (exC nm ph) := by kernel_rfl
theorem two {α : Type} {l : List α} (h : l.length = 2) : ∃ a b, l = [a, b] := by
  match l, h with
  | [a, b], _ => exact ⟨a, b, rfl⟩
/-- Of the example's two pods the pending one goes first. -/
theorem ex_first {p s : List El} (hs : Sorted s) (sm : Same1 p s) (hp : p.map (·.1.2) = [exO { data := #[97] } 2, exO { data := #[98] } 0]) : ∃ y, s.take 1 = [y] ∧ y.1.2.name = { data := #[98] } := by
  have hl : s.length = 2 := by
    have h1 := congrArg List.length hp
    have h2 := sm.1.length_eq
    simp at h1
    omega
  have hlp : p.length = 2 := by
    have h1 := congrArg List.length hp
    simpa using h1
  obtain ⟨pa, pb, rfl⟩ := two hlp
  obtain ⟨x, y, rfl⟩ := two hl
  simp only [List.map_cons, List.map_nil, List.cons.injEq, and_true] at hp
  obtain ⟨ha, hb⟩ := hp
  have lba : lt pb pa := by
    have e1 : pb.1.2.p.ph = 0 := by rw [hb]; rfl
    have e2 : pa.1.2.p.ph = 2 := by rw [ha]; rfl
    exact lt_iff.2 (.inl (by rw [e1, e2]; decide))
  have mx : x ∈ [pa, pb] := sm.1.mem_iff.2 (by simp)
  have mb : pb ∈ [x, y] := sm.1.mem_iff.1 (by simp)
  simp only [List.mem_cons, List.not_mem_nil, or_false] at mx mb
  have hxy : ¬ lt y x := by
    have := List.pairwise_cons.1 hs
    exact this.1 y (by simp)
  refine ⟨x, rfl, ?_⟩
  rcases mx with rfl | rfl
  · rcases mb with h | h
    · exfalso
      rw [h] at lba
      exact lt_irr _ lba
    · rw [← h] at hxy
      exact absurd lba hxy
  · rw [hb]
    rfl
/-- A slice literal of two whole structs, at the list of a plain region's operations. -/
theorem wpList_build2 {P : Program} {ops : Array Oper} {rest : List Oper} {o : Oper} {a : Act} {w : World} {Q : Exit → Act → World → Prop} (hw : Region.wanted o (yielded ops a.tmps) = true) (t e : TypeId) (x y : Operand) (ho : o.op = .buildSlice t 2 #[(0, x), (1, y)]) (z : Value) (s : Nat) (X Y : Array Value) (hx : a.eval x = .agg X) (hy : a.eval y = .agg Y) (hX : X.size = s) (hY : Y.size = s) (h0 : 0 < s) (h1 : s ≤ 1000000)
    (hu : P.underlying t = some (.slice e)) (hinfo : (P.info? e).map (fun i => (i.zero, i.size)) = some (some z, s)) (k : wpList P ops Q rest (a.put o.dst (.slice (some ⟨w.heap.size, 0, none⟩) 2 2)) (w.alloc (.cells (X ++ Y) e))) : wpList P ops Q (o :: rest) a w := by
  refine wpList_step fun K hK => ?_
  rw [if_pos hw]
  cases hie : P.info? e with
  | none => rw [hie] at hinfo; cases hinfo
  | some i =>
    rw [hie] at hinfo
    simp only [Option.map_some, Option.some.injEq, Prod.mk.injEq] at hinfo
    obtain ⟨hz, hs⟩ := hinfo
    refine wp_buildSlice t e 2 _ ho (X ++ Y) i z hu hie hz (by rw [hs]; omega) (by rw [hs]; omega) ?_ (hK _ _ k)
    have hc : (Value.agg X).cells = X := rfl
    have hc2 : (Value.agg Y).cells = Y := rfl
    have := Great.fill_whole h0 [Value.agg X, Value.agg Y] ((Array.range (2 * i.size)).map (z.cells[· % z.cells.size]!)) (fun v hv => by
      simp only [List.mem_cons, List.not_mem_nil, or_false] at hv
      rcases hv with rfl | rfl
      · rw [hc]; exact hX
      · rw [hc2]; exact hY) (by simp [hs])
    rw [hs] at this ⊢
    have e : (X.toList ++ Y.toList).toArray = X ++ Y := by
      apply Array.toList_inj.1
      simp
    simp [hx, hy, hc, hc2] at this ⊢
    rw [this, e]
end Go.Proofs.YtbkoepghmcdnhaaDoor.Vi
