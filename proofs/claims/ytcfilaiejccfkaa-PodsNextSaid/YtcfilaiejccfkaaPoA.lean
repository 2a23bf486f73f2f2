/- Pods: a pod's cells; a pod as an object by itself; pods.renew. -/
import Derived.Test.YtcfilaiejccfkaaVaU
import Derived.Test.YtcfilaiejccfkaaVaDp
import Derived.Test.YtcfilaiejccfkaaLoads
import Derived.Laws.Tables
import Derived.Deep.DeepCutAuto
import Derived.BigQuiet
namespace Go.Proofs.Ytcfilaiejccfkaa.Po
open Go.RowKit Go.Shelf Go.Lib Go.Sort Go.Deep
open Go.Joins (cell_of_block unfrozen_of_block block_setCell)
set_option linter.unusedVariables false
set_option linter.unusedSimpArgs false
set_option maxRecDepth 20000

abbrev PT : TypeId := 28
abbrev OT : TypeId := 46
/-- The cells of a pod. -/
def PdS (w : World) (P : Array Value) (x : Pd) : Prop :=
  P.size = 10 ∧ P[0]? = some (.string x.own) ∧ P[1]? = some (.string x.node) ∧ P[2]? = some (.int .i64 x.ph) ∧ P[3]? = some (.int .i64 x.since) ∧ P[4]? = some (.int .i64 x.cpu) ∧ P[5]? = some (.int .i64 x.mem) ∧
  SlR 2 encL w P[6]? x.lab ∧ SlR 3 encR w P[7]? x.sel ∧ SlR 2 encL w P[8]? x.tol ∧ P[9]? = some (.int .i64 x.warm)
theorem PdS.below {w w' : World} {P : Array Value} {x : Pd} (h : PdS w P x) (hb : Below w.heap.size w w') : PdS w' P x := by
  obtain ⟨a0, a1, a2, a3, a4, a5, a6, a7, a8, a9, a10⟩ := h
  exact ⟨a0, a1, a2, a3, a4, a5, a6, a7.below hb, a8.below hb, a9.below hb, a10⟩
def NilP (P : Array Value) : Prop := ∀ i n c, i ∈ ([6, 7, 8] : List Nat) → P[i]? = some (.slice none n c) → c = 0
/-- Its rows lie in memory from N on. -/
def OwnP (N : Nat) (w : World) (x : Pd) (P : Array Value) : Prop := OwnC N w 58 2 encL P 6 x.lab ∧ OwnC N w 60 3 encR P 7 x.sel ∧ OwnC N w 58 2 encL P 8 x.tol
theorem OwnP.keep {N : Nat} {w w' : World} {x : Pd} {P : Array Value} (h : OwnP N w x P) (hw : ∀ g, N ≤ g → g < w.heap.size → w'.heap[g]? = w.heap[g]?) : OwnP N w' x P := ⟨h.1.keep hw rfl, h.2.1.keep hw rfl, h.2.2.keep hw rfl⟩
theorem OwnP.less {M N : Nat} {w : World} {x : Pd} {P : Array Value} (h : OwnP N w x P) (hm : M ≤ N) : OwnP M w x P := ⟨h.1.less hm, h.2.1.less hm, h.2.2.less hm⟩
theorem OwnP.nil {N : Nat} {w : World} {x : Pd} {P : Array Value} (h : OwnP N w x P) : NilP P := by
  intro i n c hi hc
  simp only [List.mem_cons, List.not_mem_nil, or_false] at hi
  rcases hi with rfl | rfl | rfl
  · exact OwnC.nil lenL h.1 n c hc
  · exact OwnC.nil lenR h.2.1 n c hc
  · exact OwnC.nil lenL h.2.2 n c hc
/-- It reads so wherever its rows are. -/
theorem PdS.own {N : Nat} {w0 w : World} {x : Pd} {P : Array Value} (h : PdS w0 P x) (o : OwnP N w x P) : PdS w P x := by
  obtain ⟨a0, a1, a2, a3, a4, a5, a6, a7, a8, a9, a10⟩ := h
  exact ⟨a0, a1, a2, a3, a4, a5, a6, OwnC.slr lenL o.1, OwnC.slr lenR o.2.1, OwnC.slr lenL o.2.2, a10⟩
theorem arr10 {D : Array Value} (h : D.size = 10) : ∃ d0 d1 d2 d3 d4 d5 d6 d7 d8 d9, D = #[d0, d1, d2, d3, d4, d5, d6, d7, d8, d9] := by
  obtain ⟨l⟩ := D
  match l, h with
  | [d0, d1, d2, d3, d4, d5, d6, d7, d8, d9], _ => exact ⟨d0, d1, d2, d3, d4, d5, d6, d7, d8, d9, rfl⟩
theorem PdS.one {w : World} {P : Array Value} {x : Pd} (h : PdS w P x) : P.all (·.oneCell') = true := by
  obtain ⟨a0, a1, a2, a3, a4, a5, a6, ⟨q7, c7, a7, _⟩, ⟨q8, c8, a8, _⟩, ⟨q9, c9, a9, _⟩, a10⟩ := h
  obtain ⟨d0, d1, d2, d3, d4, d5, d6, d7, d8, d9, rfl⟩ := arr10 a0
  simp at a1 a2 a3 a4 a5 a6 a7 a8 a9 a10
  subst a1 a2 a3 a4 a5 a6 a7 a8 a9 a10
  kernel_rfl
/-- An object that is but a pod. -/
def podC (k : Int) (nm : ByteArray) (v : Int) (P : Array Value) : Array Value := #[.int .i64 k, .string nm, .int .u64 v] ++ (zerC.extract 3 10 ++ P ++ zerC.extract 20 47)
def podO (k : Int) (nm : ByteArray) (v : Nat) (x : Pd) : Ob := ⟨k, nm, v, zerO.w, x, zerO.n, zerO.g, zerO.h⟩
theorem podC_lit (k : Int) (nm : ByteArray) (v : Int) (d0 d1 d2 d3 d4 d5 d6 d7 d8 d9 : Value) : podC k nm v #[d0, d1, d2, d3, d4, d5, d6, d7, d8, d9] = #[.int .i64 k, .string nm, .int .u64 v, .int .i64 0, .int .i64 0, .int .i64 0, .slice none 0 0, .slice none 0 0, .slice none 0 0, .int .i64 0, d0, d1, d2, d3, d4, d5, d6, d7, d8, d9, .string { data := #[] }, .int .i64 0, .int .i64 0, .slice none 0 0, .slice none 0 0, .int .i64 0, .bool false, .int .i64 0, .int .i64 0, .int .i64 0, .int .i64 0, .int .i64 0, .slice none 0 0, .slice none 0 0, .int .i64 0, .string { data := #[] }, .int .i64 0, .int .i64 0, .slice none 0 0, .int .i64 0, .int .i64 0, .int .i64 0, .slice none 0 0, .int .i64 0, .int .i64 0, .slice none 0 0, .slice none 0 0] := by kernel_rfl
theorem built0 {P : Array Value} (h : P.size = 10) : Try.prog.built OT [(4, .agg P)] = some (podC 0 ⟨#[]⟩ 0 P) := by
  obtain ⟨d0, d1, d2, d3, d4, d5, d6, d7, d8, d9, rfl⟩ := arr10 h
  kernel_rfl
theorem built1 {P : Array Value} (h : P.size = 10) : Try.prog.built OT [(0, .int .i64 1), (4, .agg P)] = some (podC 1 ⟨#[]⟩ 0 P) := by
  obtain ⟨d0, d1, d2, d3, d4, d5, d6, d7, d8, d9, rfl⟩ := arr10 h
  kernel_rfl
theorem built2 (nm : ByteArray) {P : Array Value} (h : P.size = 10) : Try.prog.built OT [(0, .int .i64 1), (1, .string nm), (4, .agg P)] = some (podC 1 nm 0 P) := by
  obtain ⟨d0, d1, d2, d3, d4, d5, d6, d7, d8, d9, rfl⟩ := arr10 h
  kernel_rfl
theorem obj_pod {w : World} {P : Array Value} {x : Pd} (h : PdS w P x) (k : Int) (nm : ByteArray) (v : Nat) (hv : v < 18446744073709551616) : ObjV w (podC k nm v P) (podO k nm v x) := by
  obtain ⟨a0, a1, a2, a3, a4, a5, a6, a7, a8, a9, a10⟩ := h
  obtain ⟨d0, d1, d2, d3, d4, d5, d6, d7, d8, d9, rfl⟩ := arr10 a0
  rw [podC_lit]
  have rL : SlR 2 encL w (some (.slice none 0 0)) [] := ⟨none, 0, rfl, RowR.nil _ _ _ _⟩
  have rR : SlR 3 encR w (some (.slice none 0 0)) [] := ⟨none, 0, rfl, RowR.nil _ _ _ _⟩
  have rM : SlR 3 encM w (some (.slice none 0 0)) [] := ⟨none, 0, rfl, RowR.nil _ _ _ _⟩
  have rP : SlR 3 encP w (some (.slice none 0 0)) [] := ⟨none, 0, rfl, RowR.nil _ _ _ _⟩
  have rS : SlR 3 encS w (some (.slice none 0 0)) [] := ⟨none, 0, rfl, RowR.nil _ _ _ _⟩
  exact ⟨rfl, ⟨rfl, rfl, rfl, hv⟩, ⟨rfl, rfl, rfl, rL, rR, rL, rfl⟩, ⟨a1, a2, a3, a4, a5, a6, a7, a8, a9, a10⟩, ⟨rfl, rfl, rfl, rL, rL, rfl, rfl⟩, ⟨rfl, rfl, rfl, rfl, rfl, rL, rL, rfl⟩, ⟨rfl, rfl, rfl, rM, rfl, rfl, rfl, rP, rfl, rfl, rP, rS⟩⟩
theorem nil_pod {P : Array Value} (hs : P.size = 10) (h : NilP P) (k : Int) (nm : ByteArray) (v : Int) : NilO (podC k nm v P) := by
  obtain ⟨d0, d1, d2, d3, d4, d5, d6, d7, d8, d9, rfl⟩ := arr10 hs
  rw [podC_lit]
  intro i n c hi hc
  simp only [rowsIx, List.mem_cons, List.not_mem_nil, or_false] at hi
  rcases hi with rfl | rfl | rfl | rfl | rfl | rfl | rfl | rfl | rfl | rfl | rfl | rfl | rfl | rfl
  · cases hc; rfl
  · cases hc; rfl
  · cases hc; rfl
  · exact h 6 n c (by decide) hc
  · exact h 7 n c (by decide) hc
  · exact h 8 n c (by decide) hc
  all_goals (cases hc; rfl)
theorem small_pod {x : Pd} (h : x.lab.length ≤ 1000 ∧ x.sel.length ≤ 1000 ∧ x.tol.length ≤ 1000) (k : Int) (nm : ByteArray) (v : Nat) : SmallO (podO k nm v x) :=
  ⟨Nat.zero_le _, Nat.zero_le _, Nat.zero_le _, h.1, h.2.1, h.2.2, Nat.zero_le _, Nat.zero_le _, Nat.zero_le _, Nat.zero_le _, Nat.zero_le _, Nat.zero_le _, Nat.zero_le _, Nat.zero_le _⟩
/-- The pod of an object. -/
theorem ext10 {cs : Array Value} (hs : cs.size = 47) (i : Nat) (hi : i < 10) : (cs.extract 10 20)[i]? = cs[10 + i]? := by
  rw [Array.getElem?_extract, if_pos (by omega)]
theorem ext_size {cs : Array Value} (hs : cs.size = 47) : (cs.extract 10 20).size = 10 := by simp; omega
theorem ext_pd {w : World} {cs : Array Value} {o : Ob} (hv : ObjV w cs o) : PdS w (cs.extract 10 20) o.p := by
  obtain ⟨hsz, _, _, ⟨c0, c1, c2, c3, c4, c5, c6, c7, c8, c9⟩, _⟩ := hv
  refine ⟨ext_size hsz, ?_, ?_, ?_, ?_, ?_, ?_, ?_, ?_, ?_, ?_⟩ <;> rw [ext10 hsz _ (by decide)] <;> assumption
theorem ext_nil {cs : Array Value} (hsz : cs.size = 47) (hn : NilO cs) : NilP (cs.extract 10 20) := by
  intro i n c hi h
  simp only [List.mem_cons, List.not_mem_nil, or_false] at hi
  rcases hi with rfl | rfl | rfl <;> rw [ext10 hsz _ (by decide)] at h
  · exact hn 16 n c (by decide) h
  · exact hn 17 n c (by decide) h
  · exact hn 18 n c (by decide) h
theorem ext_own {N : Nat} {w : World} {cs : Array Value} {o : Ob} (hsz : cs.size = 47) (h : ∀ i ∈ rowsIx, OwnAt N w o cs i) : OwnP N w o.p (cs.extract 10 20) := by
  have h6 : OwnC N w 58 2 encL cs 16 o.p.lab := h 16 (by decide)
  have h7 : OwnC N w 60 3 encR cs 17 o.p.sel := h 17 (by decide)
  have h8 : OwnC N w 58 2 encL cs 18 o.p.tol := h 18 (by decide)
  obtain ⟨v6, e6, o6⟩ := h6
  obtain ⟨v7, e7, o7⟩ := h7
  obtain ⟨v8, e8, o8⟩ := h8
  exact ⟨⟨v6, by rw [ext10 hsz _ (by decide)]; exact e6, o6⟩, ⟨v7, by rw [ext10 hsz _ (by decide)]; exact e7, o7⟩, ⟨v8, by rw [ext10 hsz _ (by decide)]; exact e8, o8⟩⟩
theorem ext_range {w : World} {b : Nat} {cs : Array Value} {T : TypeId} {fz : Nat × Nat} (hsz : cs.size = 47) (h : w.heap[b]? = some (.cells cs T fz)) : w.rangeAt b 10 (cs.extract 10 20).toList := fun j v hv => by
  have hj : j < 10 := by
    have := (List.getElem?_eq_some_iff.1 hv).1
    rw [Array.length_toList, ext_size hsz] at this
    exact this
  rw [Array.getElem?_toList, ext10 hsz j hj] at hv
  rw [cell_of_block h]
  exact hv
theorem info_pt : (Try.prog.info? PT).map (·.size) = some 10 := by kernel_rfl
theorem load_pd {w : World} {b : Nat} {P : Array Value} {T : TypeId} {fz : Nat × Nat} (h : w.heap[b]? = some (.cells P T fz)) (hs : P.size = 10) : (Instr.loadAt PT (.pointer (some ⟨b, 0, none⟩))).run Try.prog w = .ok (.agg P) w := by
  have h1 := run_loadAt_mid (P := Try.prog) w b 0 PT P.toList _ (Ld.rangeAt_block h) Try.underlying28 rfl (by rw [Array.length_toList, hs]; exact info_pt)
  simpa using h1
theorem load_in {w : World} {b : Nat} {cs : Array Value} {T : TypeId} {fz : Nat × Nat} (h : w.heap[b]? = some (.cells cs T fz)) (hs : cs.size = 47) : (Instr.loadAt PT (.pointer (some ⟨b, 10, none⟩))).run Try.prog w = .ok (.agg (cs.extract 10 20)) w := by
  have h1 := run_loadAt_mid (P := Try.prog) w b 10 PT (cs.extract 10 20).toList _ (ext_range hs h) Try.underlying28 rfl (by rw [Array.length_toList, ext_size hs]; exact info_pt)
  rwa [Array.toArray_toList] at h1
theorem field_pod (D : Array Value) (w : World) : (Instr.field OT (.agg D) 4).run Try.prog w = .ok (.agg (D.extract 10 20)) w := by kernel_rfl
/-- What is known to run, in a plain region. -/
theorem wpList_known {P : Program} {ops : Array Oper} {rest : List Oper} {o : Oper} {a : Act} {w w' : World} {v : Value} {Q : Exit → Act → World → Prop} (hw : Region.wanted o (yielded ops a.tmps) = true) (hr : (execOp a.eval o).run P w = .ok (.value v) w') (h : wpList P ops Q rest (a.put o.dst v) w') : wpList P ops Q (o :: rest) a w := by
  refine wpList_step fun K hK => ?_
  rw [if_pos hw]
  unfold Oper.wp
  rw [hr]
  exact hK _ _ h
theorem run_built {o : Oper} {ev : Operand → Value} {parts : Array (Nat × Operand)} {l : List (Nat × Value)} {C : Array Value} (ho : o.op = .build OT parts) (hp : (parts.map fun (i, x) => (i, ev x)).toList = l) (hc : Try.prog.built OT l = some C) (w : World) :
    (execOp ev o).run Try.prog w = .ok (.value (.agg C)) w := by
  rw [← hp] at hc
  unfold execOp
  simp only [ho, Sem.run_bind, run_build w _ _ _ hc, Result.andThen_ok]
  rfl
abbrev zerP : Array Value := #[.string { data := #[] }, .string { data := #[] }, .int .i64 0, .int .i64 0, .int .i64 0, .int .i64 0, .slice none 0 0, .slice none 0 0, .slice none 0 0, .int .i64 0]

set_option maxHeartbeats 4000000 in
theorem renew_any (w0 : World) (P0 : Array Value) (x : Pd) (hv : PdS w0 P0 x) (hn : NilP P0) (hs : x.lab.length ≤ 1000 ∧ x.sel.length ≤ 1000 ∧ x.tol.length ≤ 1000) :
    Calls Try.prog 15 #[.agg P0] w0 fun e w' => (∃ P, e = .returned (.agg P) ∧ PdS w' P x ∧ OwnP w0.heap.size w' x P) ∧ Below w0.heap.size w0 w' := by
  obtain ⟨B, hB⟩ : ∃ B, B = w0.heap.size := ⟨_, rfl⟩
  obtain ⟨w, hw⟩ : ∃ W, W = (w0.alloc (.cells P0 PT)).alloc (.cells zerP PT) := ⟨_, rfl⟩
  have G0 : Gr w0 w := hw ▸ ((Gr.refl w0).alloc _).alloc _
  have b0 : w.heap[B]? = some (.cells P0 PT (0, 0)) := by
    rw [hw, hB, ((Gr.refl (w0.alloc (.cells P0 PT))).alloc _).heap (by simp)]
    exact heap_alloc_new w0 _
  have b1 : w.heap[B + 1]? = some (.cells zerP PT (0, 0)) := by
    rw [hw, hB]
    have := heap_alloc_new (w0.alloc (.cells P0 PT)) (.cells zerP PT)
    simpa using this
  have hws : w.heap.size = B + 2 := by rw [hw, hB]; simp
  have LO := Lib.hid (load_pd b0 hv.1)
  have RB := Lib.hid (built0 hv.1)
  have HO : Hid (ObjV w (podC 0 ⟨#[]⟩ 0 P0) (podO 0 ⟨#[]⟩ 0 x)) := obj_pod (hv.below G0.below) 0 ⟨#[]⟩ 0 (by decide)
  have CC := Lib.hid (clone_any w (podC 0 ⟨#[]⟩ 0 P0) (podO 0 ⟨#[]⟩ 0 x) HO.out (nil_pod hv.1 hn _ _ _) (small_pod hs _ _ _))
  have HW := Lib.hid (And.intro hw (And.intro hB (And.intro hws (And.intro b1 G0))))
  obtain ⟨PC, hPC⟩ : ∃ C, C = podC 0 ⟨#[]⟩ 0 P0 := ⟨_, rfl⟩
  rw [← hPC] at RB CC HO
  clear hv hn hs hw hB hws b0 b1 G0 hPC
  go_enter Try.func15, Try.ntmps15
  go_upto_region 1 with fail
  rw [← HW.out.1, ← HW.out.2.1]
  go_wp2_with (first | (refine wpList_load_by (by kernel_rfl) PT _ rfl (.pointer (some ⟨B, 0, none⟩)) (.agg P0) (by kernel_rfl) LO.out ?_) | (refine wpList_known (by kernel_rfl) (run_built rfl (by kernel_rfl) RB.out _) ?_))
  refine CC.out.mono ?_
  rintro e m ⟨⟨D, rfl, hcs, hco, hci⟩, hb⟩
  have hws := HW.out.2.2.1
  have ov : ObjV m D (podO 0 ⟨#[]⟩ 0 x) := dup_obj HO.out hcs hco hci
  have hD : D.size = 47 := ov.1
  have pd : PdS m (D.extract 10 20) x := ext_pd ov
  have po : OwnP w.heap.size m x (D.extract 10 20) := ext_own (o := podO 0 ⟨#[]⟩ 0 x) hD hci
  obtain ⟨P, hP⟩ : ∃ P, P = D.extract 10 20 := ⟨_, rfl⟩
  have fp : ∀ ws : World, (Instr.field OT (.agg D) 4).run Try.prog ws = .ok (.agg P) ws := fun ws => hP ▸ field_pod D ws
  rw [← hP] at pd po
  have bm1 : m.heap[B + 1]? = some (.cells zerP PT (0, 0)) := (hb.block (B + 1) (by omega)).trans HW.out.2.2.2.1
  have TH := Lib.hid (Ld.there_block bm1 (n := P.size) (by rw [pd.1]; rfl))
  have IN : Hid ((Try.prog.info? PT).map (·.size) = some P.size) := by show _ = _; rw [pd.1]; exact info_pt
  have ON := Lib.hid pd.one
  have EB : Hid ((m.setCells (B + 1) 0 P.toList).heap[B + 1]? = some (.cells P PT (0, 0))) := Ld.laid bm1 (by rw [pd.1]; rfl)
  have EF : Hid ((∃ P', Ending.returned (.agg P) = .returned (.agg P') ∧ PdS (m.setCells (B + 1) 0 P.toList) P' x ∧ OwnP w0.heap.size (m.setCells (B + 1) 0 P.toList) x P') ∧ Below w0.heap.size w0 (m.setCells (B + 1) 0 P.toList)) := by
    have k : OwnP w.heap.size (m.setCells (B + 1) 0 P.toList) x P := po.keep (fun g h1 h2 => setCells_out _ _ _ _ _ (by omega))
    have hB := HW.out.2.1
    refine ⟨⟨P, rfl, pd.own k, k.less (by omega)⟩, ?_⟩
    have G0 := HW.out.2.2.2.2
    exact Ld.below_setCells _ _ _ (by omega) (G0.below.trans (hb.mono G0.size))
  clear hcs hco hci hb ov hD pd po hP bm1 hws HO CC LO RB
  go_wp2_with (refine wpList_store_mid rfl _ _ _ rfl (B + 1) 0 P (by rfl) (by rfl) TH.out IN.out ON.out ?_)
  refine bodyPost_ret (results_cell_row rfl _ _ (B + 1) PT P (0, 0) _ (by rfl) EB.out Try.underlying28 rfl IN.out) rfl ?_
  exact EF.out
end Go.Proofs.Ytcfilaiejccfkaa.Po
