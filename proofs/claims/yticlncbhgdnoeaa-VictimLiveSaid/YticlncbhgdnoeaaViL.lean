/- Layer 15 (victim): the chapter's example. -/
import Derived.Test.YticlncbhgdnoeaaViG
namespace Go.Proofs.Yticlncbhgdnoeaa.Vi
open Go.RowKit Go.Shelf Go.Lib Go.Sort Go.Deep
open Go.Joins (cell_of_block unfrozen_of_block block_setCell)
open Go.Proofs.Yticlncbhgdnoeaa.Ow
set_option linter.unusedVariables false
set_option linter.unusedSimpArgs false
set_option maxRecDepth 20000

/-- The example's pods. -/
def exP (ph : Int) : Array Value := #[.string { data := #[] }, .string { data := #[] }, .int .i64 ph, .int .i64 0, .int .i64 0, .int .i64 0, .slice none 0 0, .slice none 0 0, .slice none 0 0, .int .i64 0]
def exC (nm : ByteArray) (ph : Int) : Array Value := #[.int .i64 1, .string nm, .int .u64 0, .int .i64 0, .int .i64 0, .int .i64 0, .slice none 0 0, .slice none 0 0, .slice none 0 0, .int .i64 0, .string { data := #[] }, .string { data := #[] }, .int .i64 ph, .int .i64 0, .int .i64 0, .int .i64 0, .slice none 0 0, .slice none 0 0, .slice none 0 0, .int .i64 0, .string { data := #[] }, .int .i64 0, .int .i64 0, .slice none 0 0, .slice none 0 0, .int .i64 0, .bool false, .int .i64 0, .int .i64 0, .int .i64 0, .int .i64 0, .int .i64 0, .slice none 0 0, .slice none 0 0, .int .i64 0, .string { data := #[] }, .int .i64 0, .int .i64 0, .slice none 0 0, .int .i64 0, .int .i64 0, .int .i64 0, .slice none 0 0, .int .i64 0, .int .i64 0, .slice none 0 0, .slice none 0 0]
def exO (nm : ByteArray) (ph : Int) : Ob := { zerO with kind := 1, name := nm, p := { zerO.p with ph := ph } }
theorem ex_size (nm : ByteArray) (ph : Int) : (exC nm ph).size = 47 := rfl
theorem ex_obj (w : World) (nm : ByteArray) (ph : Int) : ObjV w (exC nm ph) (exO nm ph) := by
  have rL : SlR 2 encL w (some (.slice none 0 0)) [] := ⟨none, 0, rfl, RowR.nil _ _ _ _⟩
  have rR : SlR 3 encR w (some (.slice none 0 0)) [] := ⟨none, 0, rfl, RowR.nil _ _ _ _⟩
  have rM : SlR 3 encM w (some (.slice none 0 0)) [] := ⟨none, 0, rfl, RowR.nil _ _ _ _⟩
  have rP : SlR 3 encP w (some (.slice none 0 0)) [] := ⟨none, 0, rfl, RowR.nil _ _ _ _⟩
  have rS : SlR 3 encS w (some (.slice none 0 0)) [] := ⟨none, 0, rfl, RowR.nil _ _ _ _⟩
  exact ⟨rfl, ⟨rfl, rfl, rfl, (by decide : (0 : Nat) < 18446744073709551616)⟩, ⟨rfl, rfl, rfl, rL, rR, rL, rfl⟩, ⟨rfl, rfl, rfl, rfl, rfl, rfl, rL, rR, rL, rfl⟩, ⟨rfl, rfl, rfl, rL, rL, rfl, rfl⟩, ⟨rfl, rfl, rfl, rfl, rfl, rL, rL, rfl⟩, ⟨rfl, rfl, rfl, rM, rfl, rfl, rfl, rP, rfl, rfl, rP, rS⟩⟩
theorem ex_one (nm : ByteArray) (ph : Int) : (exC nm ph).all (·.oneCell') = true := objV_one (ex_obj default nm ph)
theorem ex_nil (nm : ByteArray) (ph : Int) : NilO (exC nm ph) := by
  intro i n c hi hc
  simp only [rowsIx, List.mem_cons, List.not_mem_nil, or_false] at hi
  rcases hi with rfl | rfl | rfl | rfl | rfl | rfl | rfl | rfl | rfl | rfl | rfl | rfl | rfl | rfl
  all_goals (cases hc; rfl)
theorem ex_fit (nm : ByteArray) (ph : Int) : FitO (exO nm ph) := ⟨by show (0 : Nat) * 32 ≤ 140737488351232; decide, by show (0 : Nat) * 24 ≤ 140737488351232; decide, by show (0 : Nat) * 24 ≤ 140737488351232; decide, by show (0 : Nat) * 24 ≤ 140737488351232; decide⟩
def exA : Obv := (⟨exC { data := #[97] } 2, ex_size _ _, ex_one _ _⟩, exO { data := #[97] } 2)
def exB : Obv := (⟨exC { data := #[98] } 0, ex_size _ _, ex_one _ _⟩, exO { data := #[98] } 0)
/-- What is known to run, in a plain region. -/
theorem wpList_known {P : Program} {ops : Array Oper} {rest : List Oper} {o : Oper} {a : Act} {w w' : World} {v : Value} {Q : Exit → Act → World → Prop} (hw : Region.wanted o (yielded ops a.tmps) = true) (hr : (execOp a.eval o).run P w = .ok (.value v) w') (h : wpList P ops Q rest (a.put o.dst v) w') : wpList P ops Q (o :: rest) a w := by
  refine wpList_step fun K hK => ?_
  rw [if_pos hw]
  unfold Oper.wp
  rw [hr]
  exact hK _ _ h
theorem run_built {T : TypeId} {o : Oper} {ev : Operand → Value} {parts : Array (Nat × Operand)} {l : List (Nat × Value)} {C : Array Value} (ho : o.op = .build T parts) (hp : (parts.map fun (i, x) => (i, ev x)).toList = l) (hc : Try.prog.built T l = some C) (w : World) :
    (execOp ev o).run Try.prog w = .ok (.value (.agg C)) w := by
  rw [← hp] at hc
  unfold execOp
  simp only [ho, Sem.run_bind, run_build w _ _ _ hc, Result.andThen_ok]
  rfl
theorem built_p (ph : Int) : Try.prog.built 35 [(2, .int .i64 ph)] = some (exP ph) := by kernel_rfl
theorem built_o (nm : ByteArray) (ph : Int) : Try.prog.built OT [(0, .int .i64 1), (1, .string nm), (4, .agg (exP ph))] = some (exC nm ph) := by kernel_rfl
theorem two {α : Type} {l : List α} (h : l.length = 2) : ∃ a b, l = [a, b] := by
  match l, h with
  | [a, b], _ => exact ⟨a, b, rfl⟩
/-- Of the example's two pods the pending one goes first. -/
theorem ex_first {p s : List El} (hs : Sorted s) (sm : Same1 p s) (hp : p.map (·.1.2) = [exO { data := #[97] } 2, exO { data := #[98] } 0]) : ∃ y, s.take 1 = [y] ∧ y.1.2.name = { data := #[98] } := by
  have hl : s.length = 2 := by
    have h1 := congrArg List.length hp
    have h2 := sm.1.length_eq
    simp at h1
    omega
  have hlp : p.length = 2 := by
    have h1 := congrArg List.length hp
    simpa using h1
  obtain ⟨pa, pb, rfl⟩ := two hlp
  obtain ⟨x, y, rfl⟩ := two hl
  simp only [List.map_cons, List.map_nil, List.cons.injEq, and_true] at hp
  obtain ⟨ha, hb⟩ := hp
  have lba : lt pb pa := by
    have e1 : pb.1.2.p.ph = 0 := by rw [hb]; rfl
    have e2 : pa.1.2.p.ph = 2 := by rw [ha]; rfl
    exact lt_iff.2 (.inl (by rw [e1, e2]; decide))
  have mx : x ∈ [pa, pb] := sm.1.mem_iff.2 (by simp)
  have mb : pb ∈ [x, y] := sm.1.mem_iff.1 (by simp)
  simp only [List.mem_cons, List.not_mem_nil, or_false] at mx mb
  have hxy : ¬ lt y x := by
    have := List.pairwise_cons.1 hs
    exact this.1 y (by simp)
  refine ⟨x, rfl, ?_⟩
  rcases mx with rfl | rfl
  · rcases mb with h | h
    · exfalso
      rw [h] at lba
      exact lt_irr _ lba
    · rw [← h] at hxy
      exact absurd lba hxy
  · rw [hb]
    rfl
/-- A slice literal of two whole structs, at the list of a plain region's operations. -/
theorem wpList_build2 {P : Program} {ops : Array Oper} {rest : List Oper} {o : Oper} {a : Act} {w : World} {Q : Exit → Act → World → Prop} (hw : Region.wanted o (yielded ops a.tmps) = true) (t e : TypeId) (x y : Operand) (ho : o.op = .buildSlice t 2 #[(0, x), (1, y)]) (z : Value) (s : Nat) (X Y : Array Value) (hx : a.eval x = .agg X) (hy : a.eval y = .agg Y) (hX : X.size = s) (hY : Y.size = s) (h0 : 0 < s) (h1 : s ≤ 1000000)
    (hu : P.underlying t = some (.slice e)) (hinfo : (P.info? e).map (fun i => (i.zero, i.size)) = some (some z, s)) (k : wpList P ops Q rest (a.put o.dst (.slice (some ⟨w.heap.size, 0, none⟩) 2 2)) (w.alloc (.cells (X ++ Y) e))) : wpList P ops Q (o :: rest) a w := by
  refine wpList_step fun K hK => ?_
  rw [if_pos hw]
  cases hie : P.info? e with
  | none => rw [hie] at hinfo; cases hinfo
  | some i =>
    rw [hie] at hinfo
    simp only [Option.map_some, Option.some.injEq, Prod.mk.injEq] at hinfo
    obtain ⟨hz, hs⟩ := hinfo
    refine wp_buildSlice t e 2 _ ho (X ++ Y) i z hu hie hz (by rw [hs]; omega) (by rw [hs]; omega) ?_ (hK _ _ k)
    have hc : (Value.agg X).cells = X := rfl
    have hc2 : (Value.agg Y).cells = Y := rfl
    have := Great.fill_whole h0 [Value.agg X, Value.agg Y] ((Array.range (2 * i.size)).map (z.cells[· % z.cells.size]!)) (fun v hv => by
      simp only [List.mem_cons, List.not_mem_nil, or_false] at hv
      rcases hv with rfl | rfl
      · rw [hc]; exact hX
      · rw [hc2]; exact hY) (by simp [hs])
    rw [hs] at this ⊢
    have e : (X.toList ++ Y.toList).toArray = X ++ Y := by
      apply Array.toList_inj.1
      simp
    simp [hx, hy, hc, hc2] at this ⊢
    rw [this, e]
set_option maxHeartbeats 4000000 in
theorem vlives (w : World) : Calls Try.prog 4 #[] w fun e w' => e = .returned (.bool true) ∧ Below w.heap.size w w' := by
  obtain ⟨CA, hCA⟩ : ∃ C, C = exC { data := #[97] } 2 := ⟨_, rfl⟩
  obtain ⟨CB, hCB⟩ : ∃ C, C = exC { data := #[98] } 0 := ⟨_, rfl⟩
  have sA : CA.size = 47 := by rw [hCA]; rfl
  have sB : CB.size = 47 := by rw [hCB]; rfl
  obtain ⟨B, hB⟩ : ∃ B, B = w.heap.size := ⟨_, rfl⟩
  obtain ⟨wa, hwa⟩ : ∃ W, W = (w.alloc (.cells zerC OT)).setCells B 0 CA.toList := ⟨_, rfl⟩
  obtain ⟨B', hB'⟩ : ∃ B', B' = wa.heap.size := ⟨_, rfl⟩
  obtain ⟨wb, hwb⟩ : ∃ W, W = (wa.alloc (.cells zerC OT)).setCells B' 0 CB.toList := ⟨_, rfl⟩
  have z0 : (w.alloc (.cells zerC OT)).heap[B]? = some (.cells zerC OT (0, 0)) := by rw [hB]; exact heap_alloc_new w _
  have z1 : (wa.alloc (.cells zerC OT)).heap[B']? = some (.cells zerC OT (0, 0)) := by rw [hB']; exact heap_alloc_new wa _
  have ba : Below B w wa := by rw [hwa]; exact Ld.below_setCells _ _ _ (Nat.le_refl _) (by rw [hB]; exact ((Gr.refl w).alloc _).below)
  have bb : Below B' wa wb := by rw [hwb]; exact Ld.below_setCells _ _ _ (Nat.le_refl _) (by rw [hB']; exact ((Gr.refl wa).alloc _).below)
  have oa : wa.heap[B]? = some (.cells CA OT (0, 0)) := by rw [hwa]; exact Ld.laid z0 (by rw [sA]; rfl)
  have ob : wb.heap[B']? = some (.cells CB OT (0, 0)) := by rw [hwb]; exact Ld.laid z1 (by rw [sB]; rfl)
  have hBB : B < B' := by rw [hB']; exact (Array.getElem?_eq_some_iff.1 oa).1
  have oa' : wb.heap[B]? = some (.cells CA OT (0, 0)) := (bb.block B hBB).trans oa
  have TA : Hid ((w.alloc (.cells zerC OT)).there w.heap.size 0 CA.size) := by rw [← hB]; exact Ld.there_block z0 (n := CA.size) (by rw [sA]; rfl)
  have TB : Hid ((wa.alloc (.cells zerC OT)).there wa.heap.size 0 CB.size) := by rw [← hB']; exact Ld.there_block z1 (n := CB.size) (by rw [sB]; rfl)
  have IA : Hid ((Try.prog.info? OT).map (·.size) = some CA.size) := by show _ = _; rw [sA]; exact info_ob47
  have IB : Hid ((Try.prog.info? OT).map (·.size) = some CB.size) := by show _ = _; rw [sB]; exact info_ob47
  have OA : Hid (CA.all (·.oneCell') = true) := by show _ = _; rw [hCA]; exact ex_one _ _
  have OB : Hid (CB.all (·.oneCell') = true) := by show _ = _; rw [hCB]; exact ex_one _ _
  have LA := Lib.hid (load_ob oa' sA)
  have LB := Lib.hid (load_ob ob sB)
  have BP2 := Lib.hid (built_p 2)
  have BP0 := Lib.hid (built_p 0)
  have BA : Hid (Try.prog.built OT [(0, .int .i64 1), (1, .string { data := #[97] }), (4, .agg (exP 2))] = some CA) := by show _ = _; rw [hCA]; exact built_o _ _
  have BB : Hid (Try.prog.built OT [(0, .int .i64 1), (1, .string { data := #[98] }), (4, .agg (exP 0))] = some CB) := by show _ = _; rw [hCB]; exact built_o _ _
  have SA := Lib.hid sA
  have SB := Lib.hid sB
  obtain ⟨wc, hwc⟩ : ∃ W, W = wb.alloc (.cells (CA ++ CB) OT) := ⟨_, rfl⟩
  obtain ⟨M, hM⟩ : ∃ M, M = wb.heap.size := ⟨_, rfl⟩
  have bc : Below M wb wc := by rw [hwc, hM]; exact ((Gr.refl wb).alloc _).below
  have oc : wc.heap[M]? = some (.cells (CA ++ CB) OT (0, 0)) := by rw [hwc, hM]; exact heap_alloc_new wb _
  have row : RowR 47 encOb wc (some ⟨M, 0, none⟩) [exA, exB] := by
    intro j x hj
    refine ⟨M, 0, rfl, (Array.getElem?_eq_some_iff.1 oc).1, fun t v hv => ?_⟩
    rw [cell_of_block oc]
    have ht : t < 47 := by rw [← lenOb x]; exact (List.getElem?_eq_some_iff.1 hv).1
    match j, hj with
    | 0, hj =>
      cases hj
      rw [show 0 + 0 * 47 + t = t by omega, Array.getElem?_append_left (by omega), hCA, ← Array.getElem?_toList]
      exact hv
    | 1, hj =>
      cases hj
      rw [Array.getElem?_append_right (by omega), sA, show 0 + 1 * 47 + t - 47 = t by omega, hCB, ← Array.getElem?_toList]
      exact hv
    | n + 2, hj => simp at hj
  have ok : ∀ x ∈ [exA, exB], ObjV wc x.1.1 x.2 ∧ NilO x.1.1 ∧ FitO x.2 := by
    intro x hx
    simp only [List.mem_cons, List.not_mem_nil, or_false] at hx
    rcases hx with rfl | rfl
    · exact ⟨ex_obj _ _ _, ex_nil _ _, ex_fit _ _⟩
    · exact ⟨ex_obj _ _ _, ex_nil _ _, ex_fit _ _⟩
  have CP := Lib.hid (pick_any wc wc (Below.refl _ _) (some ⟨M, 0, none⟩) 2 [exA, exB] 1 row ok (by decide))
  have low : Hid (Below w.heap.size w wc) := by
    rw [hB] at ba
    rw [hB'] at bb
    rw [hM] at bc
    have s1 := ba.size
    exact (ba.trans (bb.mono s1)).trans (bc.mono (Nat.le_trans s1 bb.size))
  have HA : Hid ((w.alloc (.cells zerC OT)).setCells w.heap.size 0 CA.toList = wa ∧ w.heap.size = B) := ⟨by rw [hwa, hB], hB.symm⟩
  have HB : Hid ((wa.alloc (.cells zerC OT)).setCells wa.heap.size 0 CB.toList = wb ∧ wa.heap.size = B') := ⟨by rw [hwb, hB'], hB'.symm⟩
  have HC : Hid (wb.alloc (.cells (CA ++ CB) OT) = wc ∧ wb.heap.size = M) := ⟨hwc.symm, hM.symm⟩
  clear hwa hwb hwc hM hB hB' z0 z1 ba bb oa ob hBB oa' bc oc row ok sA sB hCA hCB
  go_enter Try.func4, Try.ntmps4
  go_upto_region 2 with (first | (refine wpList_known (by kernel_rfl) (run_built rfl (by kernel_rfl) BP2.out _) ?_) | (refine wpList_known (by kernel_rfl) (run_built rfl (by kernel_rfl) BA.out _) ?_) | (refine wpList_store_mid rfl _ _ _ rfl w.heap.size 0 CA (by rfl) (by rfl) TA.out IA.out OA.out ?_; rw [HA.out.1, HA.out.2]))
  clear TA IA OA BP2 BA
  go_upto_region 3 with (first | (refine wpList_known (by kernel_rfl) (run_built rfl (by kernel_rfl) BP0.out _) ?_) | (refine wpList_known (by kernel_rfl) (run_built rfl (by kernel_rfl) BB.out _) ?_) | (refine wpList_store_mid rfl _ _ _ rfl wa.heap.size 0 CB (by rfl) (by rfl) TB.out IB.out OB.out ?_; rw [HB.out.1, HB.out.2]))
  clear TB IB OB BP0 BB
  go_wp2_with (first | (refine wpList_load_by (by kernel_rfl) OT _ rfl (.pointer (some ⟨B, 0, none⟩)) (.agg CA) (by rfl) LA.out ?_) | (refine wpList_load_by (by kernel_rfl) OT _ rfl (.pointer (some ⟨B', 0, none⟩)) (.agg CB) (by rfl) LB.out ?_) | (refine wpList_build2 (by kernel_rfl) 22 OT _ _ rfl (.agg zerC) 47 CA CB (by rfl) (by rfl) SA.out SB.out (by decide) (by decide) Try.underlying22 (by kernel_rfl) ?_; rw [HC.out.1, HC.out.2]))
  refine CP.out.mono ?_
  rintro e w5 ⟨⟨q5, c5, m5, rfl, HP⟩, b5⟩
  obtain ⟨p, s, ss, sm, hp, hm, ho⟩ := HP.out
  obtain ⟨y, hy1, hy2⟩ := ex_first ss sm (by rw [hp]; rfl)
  rw [show (1 : Int).toNat = 1 from rfl, hy1] at hm ho
  obtain rfl : m5 = 1 := hm
  have d5 : ∃ g, q5 = some ⟨g, 0, none⟩ ∧ w5.cell? ⟨g, 0, none⟩ = some (.string { data := #[98] }) := by
    rcases ho.2 with ⟨e, e0⟩ | ⟨g, cap, cur, e, hb, hg, hc, hm, hsz, htk⟩
    · omega
    · simp only [Value.slice.injEq] at e
      refine ⟨g, e.1, ?_⟩
      rw [cell_of_block hg]
      have : (cur.toList.take 1)[0]? = some (.string { data := #[98] }) := by rw [show 1 = 1 * 1 from rfl, htk]; simp [nmV, hy2]
      rw [List.getElem?_take_of_lt (by decide), Array.getElem?_toList] at this
      exact this
  obtain ⟨g5, rfl, d5⟩ := d5
  have FIN := Lib.hid (low.out.trans (b5.mono low.out.size))
  clear HP ss sm hp ho hy1 hy2 b5 LA LB CP low
  go_wp2
  go_ret
  exact ⟨rfl, FIN.out⟩
end Go.Proofs.Yticlncbhgdnoeaa.Vi
