/- Pods: a pod's cells; a pod as an object by itself; pods.renew. -/
import Derived.Test.YtcfilaiejccfkaaVaU
import Derived.Test.YtcfilaiejccfkaaVaDp
import Derived.Test.YtcfilaiejccfkaaLoads
import Derived.Laws.Tables
import Derived.Deep.DeepCutAuto
import Derived.BigQuiet
namespace Go.Proofs.Ytcfilaiejccfkaa.Po
open Go.RowKit Go.Shelf Go.Lib Go.Sort Go.Deep
open Go.Joins (cell_of_block unfrozen_of_block block_setCell)
set_option linter.unusedVariables false
set_option linter.unusedSimpArgs false
set_option maxRecDepth 20000

abbrev PT : TypeId := 28
abbrev OT : TypeId := 46
/-- The cells of a pod. -/
def PdS (w : World) (P : Array Value) (x : Pd) : Prop :=
  P.size = 10 ∧ P[0]? = some (.string x.own) ∧ P[1]? = some (.string x.node) ∧ P[2]? = some (.int .i64 x.ph) ∧ P[3]? = some (.int .i64 x.since) ∧ P[4]? = some (.int .i64 x.cpu) ∧ P[5]? = some (.int .i64 x.mem) ∧
  SlR 2 encL w P[6]? x.lab ∧ SlR 3 encR w P[7]? x.sel ∧ SlR 2 encL w P[8]? x.tol ∧ P[9]? = some (.int .i64 x.warm)
theorem PdS.below {w w' : World} {P : Array Value} {x : Pd} (h : PdS w P x) (hb : Below w.heap.size w w') : PdS w' P x := by
  obtain ⟨a0, a1, a2, a3, a4, a5, a6, a7, a8, a9, a10⟩ := h
  exact ⟨a0, a1, a2, a3, a4, a5, a6, a7.below hb, a8.below hb, a9.below hb, a10⟩
def NilP (P : Array Value) : Prop := ∀ i n c, i ∈ ([6, 7, 8] : List Nat) → P[i]? = some (.slice none n c) → c = 0
/-- Its rows lie in memory from N on. -/
def OwnP (N : Nat) (w : World) (x : Pd) (P : Array Value) : Prop := OwnC N w 58 2 encL P 6 x.lab ∧ OwnC N w 60 3 encR P 7 x.sel ∧ OwnC N w 58 2 encL P 8 x.tol
theorem OwnP.keep {N : Nat} {w w' : World} {x : Pd} {P : Array Value} (h : OwnP N w x P) (hw : ∀ g, N ≤ g → g < w.heap.size → w'.heap[g]? = w.heap[g]?) : OwnP N w' x P := ⟨h.1.keep hw rfl, h.2.1.keep hw rfl, h.2.2.keep hw rfl⟩
theorem OwnP.less {M N : Nat} {w : World} {x : Pd} {P : Array Value} (h : OwnP N w x P) (hm : M ≤ N) : OwnP M w x P := ⟨h.1.less hm, h.2.1.less hm, h.2.2.less hm⟩
theorem OwnP.nil {N : Nat} {w : World} {x : Pd} {P : Array Value} (h : OwnP N w x P) : NilP P := by
  intro i n c hi hc
  simp only [List.mem_cons, List.not_mem_nil, or_false] at hi
  rcases hi with rfl | rfl | rfl
  · exact OwnC.nil lenL h.1 n c hc
  · exact OwnC.nil lenR h.2.1 n c hc
  · exact OwnC.nil lenL h.2.2 n c hc
/-- It reads so wherever its rows are. -/
theorem PdS.own {N : Nat} {w0 w : World} {x : Pd} {P : Array Value} (h : PdS w0 P x) (o : OwnP N w x P) : PdS w P x := by
  obtain ⟨a0, a1, a2, a3, a4, a5, a6, a7, a8, a9, a10⟩ := h
  exact ⟨a0, a1, a2, a3, a4, a5, a6, OwnC.slr lenL o.1, OwnC.slr lenR o.2.1, OwnC.slr lenL o.2.2, a10⟩
theorem arr10 {D : Array Value} (h : D.size = 10) : ∃ d0 d1 d2 d3 d4 d5 d6 d7 d8 d9, D = #[d0, d1, d2, d3, d4, d5, d6, d7, d8, d9] := by
  obtain ⟨l⟩ := D
  match l, h with
  | [d0, d1, d2, d3, d4, d5, d6, d7, d8, d9], _ => exact ⟨d0, d1, d2, d3, d4, d5, d6, d7, d8, d9, rfl⟩
theorem PdS.one {w : World} {P : Array Value} {x : Pd} (h : PdS w P x) : P.all (·.oneCell') = true := by
  obtain ⟨a0, a1, a2, a3, a4, a5, a6, ⟨q7, c7, a7, _⟩, ⟨q8, c8, a8, _⟩, ⟨q9, c9, a9, _⟩, a10⟩ := h
  obtain ⟨d0, d1, d2, d3, d4, d5, d6, d7, d8, d9, rfl⟩ := arr10 a0
  simp at a1 a2 a3 a4 a5 a6 a7 a8 a9 a10
  subst a1 a2 a3 a4 a5 a6 a7 a8 a9 a10
  kernel_rfl
/-- An object that is but a pod. -/
def podC (k : Int) (nm : ByteArray) (v : Int) (P : Array Value) : Array Value := #[.int .i64 k, .string nm, .int .u64 v] ++ (zerC.extract 3 10 ++ P ++ zerC.extract 20 47)
def podO (k : Int) (nm : ByteArray) (v : Nat) (x : Pd) : Ob := ⟨k, nm, v, zerO.w, x, zerO.n, zerO.g, zerO.h⟩
theorem podC_lit (k : Int) (nm : ByteArray) (v : Int) (d0 d1 d2 d3 d4 d5 d6 d7 d8 d9 : Value) : podC k nm v #[d0, d1, d2, d3, d4, d5, d6, d7, d8, d9] = #[.int .i64 k, .string nm, .int .u64 v, .int .i64 0, .int .i64 0, .int .i64 0, .slice none 0 0, .slice none 0 0, .slice none 0 0, .int .i64 0, d0, d1, d2, d3, d4, d5, d6, d7, d8, d9, .string { data := #[] }, .int .i64 0, .int .i64 0, .slice none 0 0, .slice none 0 0, .int .i64 0, .bool false, .int .i64 0, .int .i64 0, .int .i64 0, .int .i64 0, .int .i64 0, .slice none 0 0, .slice none 0 0, .int .i64 0, .string { data := #[] }, .int .i64 0, .int .i64 0, .slice none 0 0, .int .i64 0, .int .i64 0, .int .i64 0, .slice none 0 0, .int .i64 0, .int .i64 0, .slice none 0 0, .slice none 0 0] := by kernel_rfl
theorem built0 {P : Array Value} (h : P.size = 10) : Try.prog.built OT [(4, .agg P)] = some (podC 0 ⟨#[]⟩ 0 P) := by
  obtain ⟨d0, d1, d2, d3, d4, d5, d6, d7, d8, d9, rfl⟩ := arr10 h
  kernel_rfl
theorem built1 {P : Array Value} (h : P.size = 10) : Try.prog.built OT [(0, .int .i64 1), (4, .agg P)] = some (podC 1 ⟨#[]⟩ 0 P) := by
  obtain ⟨d0, d1, d2, d3, d4, d5, d6, d7, d8, d9, rfl⟩ := arr10 h
  kernel_rfl
theorem built2 (nm : ByteArray) {P : Array Value} (h : P.size = 10) : Try.prog.built OT [(0, .int .i64 1), (1, .string nm), (4, .agg P)] = some (podC 1 nm 0 P) := by
  obtain ⟨d0, d1, d2, d3, d4, d5, d6, d7, d8, d9, rfl⟩ := arr10 h
  kernel_rfl
theorem obj_pod {w : World} {P : Array Value} {x : Pd} (h : PdS w P x) (k : Int) (nm : ByteArray) (v : Nat) (hv : v < 18446744073709551616) : ObjV w (podC k nm v P) (podO k nm v x) := by
  obtain ⟨a0, a1, a2, a3, a4, a5, a6, a7, a8, a9, a10⟩ := h
  obtain ⟨d0, d1, d2, d3, d4, d5, d6, d7, d8, d9, rfl⟩ := arr10 a0
  rw [podC_lit]
  have rL : SlR 2 encL w (some (.slice none 0 0)) [] := ⟨none, 0, rfl, RowR.nil _ _ _ _⟩
  have rR : SlR 3 encR w (some (.slice none 0 0)) [] := ⟨none, 0, rfl, RowR.nil _ _ _ _⟩
  have rM : SlR 3 encM w (some (.slice none 0 0)) [] := ⟨none, 0, rfl, RowR.nil _ _ _ _⟩
  have rP : SlR 3 encP w (some (.slice none 0 0)) [] := ⟨none, 0, rfl, RowR.nil _ _ _ _⟩
  have rS : SlR 3 encS w (some (.slice none 0 0)) [] := ⟨none, 0, rfl, RowR.nil _ _ _ _⟩
  exact ⟨rfl, ⟨rfl, rfl, rfl, hv⟩, ⟨rfl, rfl, rfl, rL, rR, rL, rfl⟩, ⟨a1, a2, a3, a4, a5, a6, a7, a8, a9, a10⟩, ⟨rfl, rfl, rfl, rL, rL, rfl, rfl⟩, ⟨rfl, rfl, rfl, rfl, rfl, rL, rL, rfl⟩, ⟨rfl, rfl, rfl, rM, rfl, rfl, rfl, rP, rfl, rfl, rP, rS⟩⟩
theorem nil_pod {P : Array Value} (hs : P.size = 10) (h : NilP P) (k : Int) (nm : ByteArray) (v : Int) : NilO (podC k nm v P) := by
  obtain ⟨d0, d1, d2, d3, d4, d5, d6, d7, d8, d9, rfl⟩ := arr10 hs
  rw [podC_lit]
  intro i n c hi hc
  simp only [rowsIx, List.mem_cons, List.not_mem_nil, or_false] at hi
  rcases hi with rfl | rfl | rfl | rfl | rfl | rfl | rfl | rfl | rfl | rfl | rfl | rfl | rfl | rfl
  · cases hc; rfl
  · cases hc; rfl
  · cases hc; rfl
  · exact h 6 n c (by decide) hc
  · exact h 7 n c (by decide) hc
  · exact h 8 n c (by decide) hc
  all_goals (cases hc; rfl)
theorem small_pod {x : Pd} (h : x.lab.length ≤ 1000 ∧ x.sel.length ≤ 1000 ∧ x.tol.length ≤ 1000) (k : Int) (nm : ByteArray) (v : Nat) : SmallO (podO k nm v x) :=
  ⟨Nat.zero_le _, Nat.zero_le _, Nat.zero_le _, h.1, h.2.1, h.2.2, Nat.zero_le _, Nat.zero_le _, Nat.zero_le _, Nat.zero_le _, Nat.zero_le _, Nat.zero_le _, Nat.zero_le _, Nat.zero_le _⟩
/-- The pod of an object. -/
theorem ext10 {cs : Array Value} (hs : cs.size = 47) (i : Nat) (hi : i < 10) : (cs.extract 10 20)[i]? = cs[10 + i]? := by
  rw [Array.getElem?_extract, if_pos (by omega)]
theorem ext_size {cs : Array Value} (hs : cs.size = 47) : (cs.extract 10 20).size = 10 := by simp; omega
theorem ext_pd {w : World} {cs : Array Value} {o : Ob} (hv : ObjV w cs o) : PdS w (cs.extract 10 20) o.p := by
  obtain ⟨hsz, _, _, ⟨c0, c1, c2, c3, c4, c5, c6, c7, c8, c9⟩, _⟩ := hv
  refine ⟨ext_size hsz, ?_, ?_, ?_, ?_, ?_, ?_, ?_, ?_, ?_, ?_⟩ <;> rw [ext10 hsz _ (by decide)] <;> assumption
theorem ext_nil {cs : Array Value} (hsz : cs.size = 47) (hn : NilO cs) : NilP (cs.extract 10 20) := by
  intro i n c hi h
  simp only [List.mem_cons, List.not_mem_nil, or_false] at hi
  rcases hi with rfl | rfl | rfl <;> rw [ext10 hsz _ (by decide)] at h
  · exact hn 16 n c (by decide) h
  · exact hn 17 n c (by decide) h
  · exact hn 18 n c (by decide) h
theorem ext_own {N : Nat} {w : World} {cs : Array Value} {o : Ob} (hsz : cs.size = 47) (h : ∀ i ∈ rowsIx, OwnAt N w o cs i) : OwnP N w o.p (cs.extract 10 20) := by
  have h6 : OwnC N w 58 2 encL cs 16 o.p.lab := h 16 (by decide)
  have h7 : OwnC N w 60 3 encR cs 17 o.p.sel := h 17 (by decide)
  have h8 : OwnC N w 58 2 encL cs 18 o.p.tol := h 18 (by decide)
  obtain ⟨v6, e6, o6⟩ := h6
  obtain ⟨v7, e7, o7⟩ := h7
  obtain ⟨v8, e8, o8⟩ := h8
  exact ⟨⟨v6, by rw [ext10 hsz _ (by decide)]; exact e6, o6⟩, ⟨v7, by rw [ext10 hsz _ (by decide)]; exact e7, o7⟩, ⟨v8, by rw [ext10 hsz _ (by decide)]; exact e8, o8⟩⟩
theorem ext_range {w : World} {b : Nat} {cs : Array Value} {T : TypeId} {fz : Nat × Nat} (hsz : cs.size = 47) (h : w.heap[b]? = some (.cells cs T fz)) : w.rangeAt b 10 (cs.extract 10 20).toList := fun j v hv => by
  have hj : j < 10 := by
    have := (List.getElem?_eq_some_iff.1 hv).1
    rw [Array.length_toList, ext_size hsz] at this
    exact this
  rw [Array.getElem?_toList, ext10 hsz j hj] at hv
  rw [cell_of_block h]
  exact hv
theorem info_pt : (Try.prog.info? PT).map (·.size) = some 10 := by kernel_rfl
theorem load_pd {w : World} {b : Nat} {P : Array Value} {T : TypeId} {fz : Nat × Nat} (h : w.heap[b]? = some (.cells P T fz)) (hs : P.size = 10) : (Instr.loadAt PT (.pointer (some ⟨b, 0, none⟩))).run Try.prog w = .ok (.agg P) w := by
  have h1 := run_loadAt_mid (P := Try.prog) w b 0 PT P.toList _ (Ld.rangeAt_block h) Try.underlying28 rfl (by rw [Array.length_toList, hs]; exact info_pt)
  simpa using h1
theorem load_in {w : World} {b : Nat} {cs : Array Value} {T : TypeId} {fz : Nat × Nat} (h : w.heap[b]? = some (.cells cs T fz)) (hs : cs.size = 47) : (Instr.loadAt PT (.pointer (some ⟨b, 10, none⟩))).run Try.prog w = .ok (.agg (cs.extract 10 20)) w := by
  have h1 := run_loadAt_mid (P := Try.prog) w b 10 PT (cs.extract 10 20).toList _ (ext_range hs h) Try.underlying28 rfl (by rw [Array.length_toList, ext_size hs]; exact info_pt)
  rwa [Array.toArray_toList] at h1
theorem field_pod (D : Array Value) (w : World) : (Instr.field OT (.agg D) 4).run Try.prog w = .ok (.agg (D.extract 10 20)) w := by kernel_rfl
/-- What is known to run, in a plain region. -/
theorem wpList_known {P : Program} {ops : Array Oper} {rest : List Oper} {o : Oper} {a : Act} {w w' : World} {v : Value} {Q : Exit → Act → World → Prop} (hw : Region.wanted o (yielded ops a.tmps) = true) (hr : (execOp a.eval o).run P w = .ok (.value v) w') (h : wpList P ops Q rest (a.put o.dst v) w') : wpList P ops Q (o :: rest) a w := by
  refine wpList_step fun K hK => ?_
  rw [if_pos hw]
  unfold Oper.wp
  rw [hr]
  exact hK _ _ h
theorem run_built {o : Oper} {ev : Operand → Value} {parts : Array (Nat × Operand)} {l : List (Nat × Value)} {C : Array Value} (ho : o.op = .build OT parts) (hp : (parts.map fun (i, x) => (i, ev x)).toList = l) (hc : Try.prog.built OT l = some C) (w : World) :
    (execOp ev o).run Try.prog w = .ok (.value (.agg C)) w := by
  rw [← hp] at hc
  unfold execOp
  simp only [ho, Sem.run_bind, run_build w _ _ _ hc, Result.andThen_ok]
  rfl
abbrev zerP : Array Value := #[.string { data := #[] }, .string { data := #[] }, .int .i64 0, .int .i64 0, .int .i64 0, .int .i64 0, .slice none 0 0, .slice none 0 0, .slice none 0 0, .int .i64 0]

set_option maxHeartbeats 4000000 in
theorem renew_any (w0 : World) (P0 : Array Value) (x : Pd) (hv : PdS w0 P0 x) (hn : NilP P0) (hs : x.lab.length ≤ 1000 ∧ x.sel.length ≤ 1000 ∧ x.tol.length ≤ 1000) :
    Calls Try.prog 15 #[.agg P0] w0 fun e w' => (∃ P, e = .returned (.agg P) ∧ PdS w' P x ∧ OwnP w0.heap.size w' x P) ∧ Below w0.heap.size w0 w' := by
  obtain ⟨B, hB⟩ : ∃ B, B = w0.heap.size := ⟨_, rfl⟩
  obtain ⟨w, hw⟩ : ∃ W, W = (w0.alloc (.cells P0 PT)).alloc (.cells zerP PT) := ⟨_, rfl⟩
  have G0 : Gr w0 w := hw ▸ ((Gr.refl w0).alloc _).alloc _
  have b0 : w.heap[B]? = some (.cells P0 PT (0, 0)) := by
    rw [hw, hB, ((Gr.refl (w0.alloc (.cells P0 PT))).alloc _).heap (by simp)]
    exact heap_alloc_new w0 _
  have b1 : w.heap[B + 1]? = some (.cells zerP PT (0, 0)) := by
    rw [hw, hB]
    have := heap_alloc_new (w0.alloc (.cells P0 PT)) (.cells zerP PT)
    simpa using this
  have hws : w.heap.size = B + 2 := by rw [hw, hB]; simp
  have LO := Lib.hid (load_pd b0 hv.1)
  have RB := Lib.hid (built0 hv.1)
  have HO : Hid (ObjV w (podC 0 ⟨#[]⟩ 0 P0) (podO 0 ⟨#[]⟩ 0 x)) := obj_pod (hv.below G0.below) 0 ⟨#[]⟩ 0 (by decide)
  have CC := Lib.hid (clone_any w (podC 0 ⟨#[]⟩ 0 P0) (podO 0 ⟨#[]⟩ 0 x) HO.out (nil_pod hv.1 hn _ _ _) (small_pod hs _ _ _))
  have HW := Lib.hid (And.intro hw (And.intro hB (And.intro hws (And.intro b1 G0))))
  obtain ⟨PC, hPC⟩ : ∃ C, C = podC 0 ⟨#[]⟩ 0 P0 := ⟨_, rfl⟩
  rw [← hPC] at RB CC HO
  clear hv hn hs hw hB hws b0 b1 G0 hPC
  go_enter Try.func15, Try.ntmps15
  go_upto_region 1 with fail
  rw [← HW.out.1, ← HW.out.2.1]
  go_wp2_with (first | (refine wpList_load_by (by kernel_rfl) PT _ rfl (.pointer (some ⟨B, 0, none⟩)) (.agg P0) (by kernel_rfl) LO.out ?_) | (refine wpList_known (by kernel_rfl) (run_built rfl (by kernel_rfl) RB.out _) ?_))
  refine CC.out.mono ?_
  rintro e m ⟨⟨D, rfl, hcs, hco, hci⟩, hb⟩
  have hws := HW.out.2.2.1
  have ov : ObjV m D (podO 0 ⟨#[]⟩ 0 x) := dup_obj HO.out hcs hco hci
  have hD : D.size = 47 := ov.1
  have pd : PdS m (D.extract 10 20) x := ext_pd ov
  have po : OwnP w.heap.size m x (D.extract 10 20) := ext_own (o := podO 0 ⟨#[]⟩ 0 x) hD hci
  obtain ⟨P, hP⟩ : ∃ P, P = D.extract 10 20 := ⟨_, rfl⟩
  have fp : ∀ ws : World, (Instr.field OT (.agg D) 4).run Try.prog ws = .ok (.agg P) ws := fun ws => hP ▸ field_pod D ws
  rw [← hP] at pd po
  have bm1 : m.heap[B + 1]? = some (.cells zerP PT (0, 0)) := (hb.block (B + 1) (by omega)).trans HW.out.2.2.2.1
  have TH := Lib.hid (Ld.there_block bm1 (n := P.size) (by rw [pd.1]; rfl))
  have IN : Hid ((Try.prog.info? PT).map (·.size) = some P.size) := by show _ = _; rw [pd.1]; exact info_pt
  have ON := Lib.hid pd.one
  have EB : Hid ((m.setCells (B + 1) 0 P.toList).heap[B + 1]? = some (.cells P PT (0, 0))) := Ld.laid bm1 (by rw [pd.1]; rfl)
  have EF : Hid ((∃ P', Ending.returned (.agg P) = .returned (.agg P') ∧ PdS (m.setCells (B + 1) 0 P.toList) P' x ∧ OwnP w0.heap.size (m.setCells (B + 1) 0 P.toList) x P') ∧ Below w0.heap.size w0 (m.setCells (B + 1) 0 P.toList)) := by
    have k : OwnP w.heap.size (m.setCells (B + 1) 0 P.toList) x P := po.keep (fun g h1 h2 => setCells_out _ _ _ _ _ (by omega))
    have hB := HW.out.2.1
    refine ⟨⟨P, rfl, pd.own k, k.less (by omega)⟩, ?_⟩
    have G0 := HW.out.2.2.2.2
    exact Ld.below_setCells _ _ _ (by omega) (G0.below.trans (hb.mono G0.size))
  clear hcs hco hci hb ov hD pd po hP bm1 hws HO CC LO RB
  go_wp2_with (refine wpList_store_mid rfl _ _ _ rfl (B + 1) 0 P (by rfl) (by rfl) TH.out IN.out ON.out ?_)
  refine bodyPost_ret (results_cell_row rfl _ _ (B + 1) PT P (0, 0) _ (by rfl) EB.out Try.underlying28 rfl IN.out) rfl ?_
  exact EF.out
end Go.Proofs.Ytcfilaiejccfkaa.Po
/- Pods: warmed; Next: how a pod gets on; the law's next; the chapter's example. -/
namespace Go.Proofs.Ytcfilaiejccfkaa.Po
open Go.RowKit Go.Shelf Go.Lib Go.Sort Go.Deep
open Go.Joins (cell_of_block unfrozen_of_block block_setCell)
set_option linter.unusedVariables false
set_option linter.unusedSimpArgs false
set_option maxRecDepth 20000

/-- Ticks that may be. -/
def Tk (x : Pd) : Prop := 0 ≤ x.since ∧ x.since ≤ 4611686018427387904 ∧ 0 ≤ x.warm ∧ x.warm ≤ 1800
def setPh (x : Pd) (a b : Int) : Pd := { x with ph := a, since := b }
/-- How a pod gets on. -/
def nxt (x : Pd) (now : Int) (there : Bool) : Pd :=
  if x.ph = 3 then x else if x.node.size ≠ 0 ∧ there = false then setPh x 3 now else if x.ph = 1 ∧ x.since + x.warm ≤ now then setPh x 2 (x.since + x.warm) else x
theorem nxt_rows (x : Pd) (now : Int) (there : Bool) : (nxt x now there).lab = x.lab ∧ (nxt x now there).sel = x.sel ∧ (nxt x now there).tol = x.tol ∧ (nxt x now there).warm = x.warm ∧ (nxt x now there).node = x.node ∧ (nxt x now there).own = x.own := by
  unfold nxt
  split
  · exact ⟨rfl, rfl, rfl, rfl, rfl, rfl⟩
  · split
    · exact ⟨rfl, rfl, rfl, rfl, rfl, rfl⟩
    · split <;> exact ⟨rfl, rfl, rfl, rfl, rfl, rfl⟩
theorem nxt_tk {x : Pd} (h : Tk x) {now : Int} (h0 : 0 ≤ now) (h1 : now ≤ 4611686018427387904) (there : Bool) : Tk (nxt x now there) := by
  unfold nxt
  unfold Tk at h
  split
  · exact h
  · split
    · exact ⟨h0, h1, h.2.2.1, h.2.2.2⟩
    · split
      · rename_i hh
        exact ⟨by show 0 ≤ x.since + x.warm; omega, by show x.since + x.warm ≤ _; omega, h.2.2.1, h.2.2.2⟩
      · exact h
/-- Behind that it stays. -/
theorem nxt_again (x : Pd) (now : Int) (there : Bool) : nxt (nxt x now there) now there = nxt x now there := by
  by_cases h3 : x.ph = 3
  · have e : nxt x now there = x := if_pos h3
    rw [e, e]
  · by_cases hn : x.node.size ≠ 0 ∧ there = false
    · have e : nxt x now there = setPh x 3 now := (if_neg h3).trans (if_pos hn)
      rw [e]
      exact if_pos rfl
    · by_cases hb : x.ph = 1 ∧ x.since + x.warm ≤ now
      · have e : nxt x now there = setPh x 2 (x.since + x.warm) := (if_neg h3).trans ((if_neg hn).trans (if_pos hb))
        rw [e]
        exact (if_neg (by show ¬ (2 : Int) = 3; decide)).trans ((if_neg hn).trans (if_neg (by show ¬ ((2 : Int) = 1 ∧ _); omega)))
      · have e : nxt x now there = x := (if_neg h3).trans ((if_neg hn).trans (if_neg hb))
        rw [e, e]
theorem set_pd {w : World} {P : Array Value} {x : Pd} (h : PdS w P x) (a b : Int) : PdS w ((P.setIfInBounds 2 (.int .i64 a)).setIfInBounds 3 (.int .i64 b)) (setPh x a b) := by
  obtain ⟨a0, a1, a2, a3, a4, a5, a6, a7, a8, a9, a10⟩ := h
  obtain ⟨d0, d1, d2, d3, d4, d5, d6, d7, d8, d9, rfl⟩ := arr10 a0
  exact ⟨rfl, a1, a2, rfl, rfl, a5, a6, a7, a8, a9, a10⟩
theorem set_own {N : Nat} {w : World} {P : Array Value} {x : Pd} (h : OwnP N w x P) (a b : Int) : OwnP N w (setPh x a b) ((P.setIfInBounds 2 (.int .i64 a)).setIfInBounds 3 (.int .i64 b)) := by
  have ne : ∀ i, 3 < i → ((P.setIfInBounds 2 (.int .i64 a)).setIfInBounds 3 (.int .i64 b))[i]? = P[i]? := fun i hi => by
    rw [Array.getElem?_setIfInBounds_ne (by omega), Array.getElem?_setIfInBounds_ne (by omega)]
  exact ⟨h.1.keep (fun _ _ _ => rfl) (ne 6 (by decide)), h.2.1.keep (fun _ _ _ => rfl) (ne 7 (by decide)), h.2.2.keep (fun _ _ _ => rfl) (ne 8 (by decide))⟩

set_option maxHeartbeats 2000000 in
theorem warmed_any (w : World) (P : Array Value) (x : Pd) (now : Int) (hv : PdS w P x) (ht : Tk x) :
    Calls Try.prog 16 #[.agg P, .int .i64 now] w fun e w' => e = .returned (.tuple #[.int .i64 (x.since + x.warm), .bool (decide (x.since + x.warm ≤ now))]) ∧ Gr w w' := by
  obtain ⟨h1, h2, h3, h4⟩ := ht
  have b : (w.alloc (.cells P PT)).heap[w.heap.size]? = some (.cells P PT (0, 0)) := heap_alloc_new w _
  have c3 : (w.alloc (.cells P PT)).cell? ⟨w.heap.size, 3, none⟩ = some (.int .i64 x.since) := by rw [cell_of_block b]; exact hv.2.2.2.2.1
  have c9 : (w.alloc (.cells P PT)).cell? ⟨w.heap.size, 9, none⟩ = some (.int .i64 x.warm) := by rw [cell_of_block b]; exact hv.2.2.2.2.2.2.2.2.2.2
  have G := Lib.hid ((Gr.refl w).alloc (.cells P PT))
  generalize x.since = s at *
  generalize x.warm = m at *
  obtain ⟨E, hE⟩ : ∃ E, E = s + m := ⟨_, rfl⟩
  have e1 : IntKind.i64.wrap (s + m) = E := by rw [hE, IntKind.wrap_i64]; omega
  have t2 : decide (E < s) = false := decide_eq_false (by omega)
  have t3 : decide (m < 0) = false := decide_eq_false (by omega)
  rw [← hE]
  obtain ⟨d, hd⟩ : ∃ d, decide (E ≤ now) = d := ⟨_, rfl⟩
  rw [hd]
  by_cases hm : 0 < m
  · have t1 : decide (0 < m) = true := decide_eq_true hm
    clear hv h1 h2 h3 h4 b hE hm
    go_enter Try.func16, Try.ntmps16
    go_wp2
    go_ret2
    exact ⟨rfl, G.out⟩
  · have t1 : decide (0 < m) = false := decide_eq_false hm
    clear hv h1 h2 h3 h4 b hE hm
    go_enter Try.func16, Try.ntmps16
    go_wp2
    go_ret2
    exact ⟨rfl, G.out⟩

/-- What a walk of Next ends with. -/
theorem next_end {w0 w3 : World} {B : Nat} {P : Array Value} {y : Pd} (hB : B = w0.heap.size) (b : w3.heap[B]? = some (.cells P PT (0, 0))) (b1 : w3.heap[B + 1]? = some (.cells zerP PT (0, 0))) (v : PdS w3 P y) (o : OwnP (B + 2) w3 y P) (low : Below w0.heap.size w0 w3) :
    Hid ((Instr.loadAt PT (.pointer (some ⟨B, 0, none⟩))).run Try.prog w3 = .ok (.agg P) w3) ∧ Hid (w3.there (B + 1) 0 P.size) ∧ Hid ((Try.prog.info? PT).map (·.size) = some P.size) ∧ Hid (P.all (·.oneCell') = true) ∧
    Hid ((w3.setCells (B + 1) 0 P.toList).heap[B + 1]? = some (.cells P PT (0, 0))) ∧ Hid ((∃ P', Ending.returned (.agg P) = .returned (.agg P') ∧ PdS (w3.setCells (B + 1) 0 P.toList) P' y ∧ OwnP w0.heap.size (w3.setCells (B + 1) 0 P.toList) y P') ∧ Below w0.heap.size w0 (w3.setCells (B + 1) 0 P.toList)) := by
  have k : OwnP (B + 2) (w3.setCells (B + 1) 0 P.toList) y P := o.keep (fun g h1 h2 => setCells_out _ _ _ _ _ (by omega))
  exact ⟨load_pd b v.1, Ld.there_block b1 (by rw [v.1]; rfl), by show _ = _; rw [v.1]; exact info_pt, v.one, Ld.laid b1 (by rw [v.1]; rfl), ⟨P, rfl, v.own k, k.less (by omega)⟩, Ld.below_setCells _ _ _ (by omega) low⟩

set_option maxHeartbeats 8000000 in
theorem next_any (w0 : World) (P0 : Array Value) (x : Pd) (now : Int) (there : Bool) (hv : PdS w0 P0 x) (hn : NilP P0) (hs : x.lab.length ≤ 1000 ∧ x.sel.length ≤ 1000 ∧ x.tol.length ≤ 1000) (ht : Tk x) :
    Calls Try.prog 7 #[.agg P0, .int .i64 now, .bool there] w0 fun e w' => (∃ P, e = .returned (.agg P) ∧ PdS w' P (nxt x now there) ∧ OwnP w0.heap.size w' (nxt x now there) P) ∧ Below w0.heap.size w0 w' := by
  obtain ⟨B, hB⟩ : ∃ B, B = w0.heap.size := ⟨_, rfl⟩
  obtain ⟨w, hw⟩ : ∃ W, W = (w0.alloc (.cells P0 PT)).alloc (.cells zerP PT) := ⟨_, rfl⟩
  have G0 : Gr w0 w := hw ▸ ((Gr.refl w0).alloc _).alloc _
  have b0 : w.heap[B]? = some (.cells P0 PT (0, 0)) := by
    rw [hw, hB, ((Gr.refl (w0.alloc (.cells P0 PT))).alloc _).heap (by simp)]
    exact heap_alloc_new w0 _
  have b1 : w.heap[B + 1]? = some (.cells zerP PT (0, 0)) := by
    rw [hw, hB]
    have := heap_alloc_new (w0.alloc (.cells P0 PT)) (.cells zerP PT)
    simpa using this
  have hws : w.heap.size = B + 2 := by rw [hw, hB]; simp
  have LO := Lib.hid (load_pd b0 hv.1)
  have CR := Lib.hid (renew_any w P0 x (hv.below G0.below) hn hs)
  have HW := Lib.hid (And.intro hw (And.intro hB (And.intro hws (And.intro b0 (And.intro b1 (And.intro G0 (And.intro hv.1 ht)))))))
  clear hv hn hs ht hw hB hws b0 b1 G0
  go_enter Try.func7, Try.ntmps7
  go_upto_region 1 with fail
  rw [← HW.out.1, ← HW.out.2.1]
  go_wp2_with (refine wpList_load_by (by kernel_rfl) PT _ rfl (.pointer (some ⟨B, 0, none⟩)) (.agg P0) (by kernel_rfl) LO.out ?_)
  refine CR.out.mono ?_
  rintro e m ⟨⟨P, rfl, pd, po⟩, hb⟩
  obtain ⟨hw, hB, hws, b0, b1, G0, hz, ht⟩ := HW.out
  have bm0 : m.heap[B]? = some (.cells P0 PT (0, 0)) := (hb.block B (by omega)).trans b0
  have bm1 : m.heap[B + 1]? = some (.cells zerP PT (0, 0)) := (hb.block (B + 1) (by omega)).trans b1
  have TH := Lib.hid (Ld.there_block bm0 (n := P.size) (by rw [pd.1, hz]))
  have IN : Hid ((Try.prog.info? PT).map (·.size) = some P.size) := by show _ = _; rw [pd.1]; exact info_pt
  have ON := Lib.hid pd.one
  obtain ⟨n, hn⟩ : ∃ n, n = m.setCells B 0 P.toList := ⟨_, rfl⟩
  have nB : n.heap[B]? = some (.cells P PT (0, 0)) := by rw [hn]; exact Ld.laid bm0 (by rw [pd.1, hz])
  have nB1 : n.heap[B + 1]? = some (.cells zerP PT (0, 0)) := by rw [hn, setCells_out _ _ _ _ _ (by omega)]; exact bm1
  have nO : OwnP (B + 2) n x P := by
    have := po.keep (w' := n) (fun g h1 h2 => by rw [hn]; exact setCells_out _ _ _ _ _ (by omega))
    rwa [hws] at this
  have nV : PdS n P x := pd.own nO
  have nL : Below w0.heap.size w0 n := by
    rw [hn]
    exact Ld.below_setCells _ _ _ (by omega) (G0.below.trans (hb.mono G0.size))
  have LN := Lib.hid (load_pd nB nV.1)
  have CW := Lib.hid (warmed_any n P x now nV ht)
  have HN := Lib.hid (And.intro hn (And.intro hB (And.intro nB (And.intro nB1 (And.intro nO (And.intro nV nL))))))
  clear hw hB hws b0 b1 G0 hz ht bm0 bm1 hn nB nB1 nO nV nL pd po hb CR LO
  go_upto_region 2 with (refine wpList_store_mid rfl _ _ _ rfl B 0 P (by rfl) (by rfl) TH.out IN.out ON.out ?_)
  rw [← HN.out.1]
  clear TH IN ON HW
  go_wp2_with (refine wpList_load_by (by kernel_rfl) PT _ rfl (.pointer (some ⟨B, 0, none⟩)) (.agg P) (by kernel_rfl) LN.out ?_)
  refine CW.out.mono ?_
  rintro e w2 ⟨rfl, g2⟩
  obtain ⟨hn, hB, nB, nB1, nO, nV, nL⟩ := HN.out
  have hlt : B < n.heap.size := (Array.getElem?_eq_some_iff.1 nB).1
  have hlt1 : B + 1 < n.heap.size := (Array.getElem?_eq_some_iff.1 nB1).1
  have B2 : w2.heap[B]? = some (.cells P PT (0, 0)) := (g2.heap hlt).trans nB
  have B21 : w2.heap[B + 1]? = some (.cells zerP PT (0, 0)) := (g2.heap hlt1).trans nB1
  have O2 : OwnP (B + 2) w2 x P := nO.keep (fun g h1 h2 => g2.heap h2)
  have V2 : PdS w2 P x := nV.own O2
  have L2 : Below w0.heap.size w0 w2 := nL.trans (g2.below.mono nL.size)
  have c1 : w2.cell? ⟨B, 1, none⟩ = some (.string x.node) := by rw [cell_of_block B2]; exact V2.2.2.1
  have c2 : w2.cell? ⟨B, 2, none⟩ = some (.int .i64 x.ph) := by rw [cell_of_block B2]; exact V2.2.2.2.1
  have c3 : w2.cell? ⟨B, 3, none⟩ = some (.int .i64 x.since) := by rw [cell_of_block B2]; exact V2.2.2.2.2.1
  have u2 := unfrozen_of_block B2 2
  have u3 := unfrozen_of_block B2 3
  have H2 := Lib.hid (And.intro hB (And.intro B2 (And.intro B21 (And.intro O2 (And.intro V2 L2)))))
  clear hn hB nB nB1 nO nV nL hlt hlt1 B2 B21 O2 V2 L2 g2 HN CW LN
  have stay : nxt x now there = x → Hid ((Instr.loadAt PT (.pointer (some ⟨B, 0, none⟩))).run Try.prog w2 = .ok (.agg P) w2) ∧ Hid (w2.there (B + 1) 0 P.size) ∧ Hid ((Try.prog.info? PT).map (·.size) = some P.size) ∧ Hid (P.all (·.oneCell') = true) ∧ Hid ((w2.setCells (B + 1) 0 P.toList).heap[B + 1]? = some (.cells P PT (0, 0))) ∧ Hid ((∃ P', Ending.returned (.agg P) = .returned (.agg P') ∧ PdS (w2.setCells (B + 1) 0 P.toList) P' (nxt x now there) ∧ OwnP w0.heap.size (w2.setCells (B + 1) 0 P.toList) (nxt x now there) P') ∧ Below w0.heap.size w0 (w2.setCells (B + 1) 0 P.toList)) := fun e => by
    rw [e]
    obtain ⟨hB, B2, B21, O2, V2, L2⟩ := H2.out
    exact next_end hB B2 B21 V2 O2 L2
  have turn : ∀ a b, nxt x now there = setPh x a b → ∃ w3 Q, w3 = (w2.setCell ⟨B, 2, none⟩ (.int .i64 a)).setCell ⟨B, 3, none⟩ (.int .i64 b) ∧ Hid ((Instr.loadAt PT (.pointer (some ⟨B, 0, none⟩))).run Try.prog w3 = .ok (.agg Q) w3) ∧ Hid (w3.there (B + 1) 0 Q.size) ∧ Hid ((Try.prog.info? PT).map (·.size) = some Q.size) ∧ Hid (Q.all (·.oneCell') = true) ∧ Hid ((w3.setCells (B + 1) 0 Q.toList).heap[B + 1]? = some (.cells Q PT (0, 0))) ∧ Hid ((∃ P', Ending.returned (.agg Q) = .returned (.agg P') ∧ PdS (w3.setCells (B + 1) 0 Q.toList) P' (nxt x now there) ∧ OwnP w0.heap.size (w3.setCells (B + 1) 0 Q.toList) (nxt x now there) P') ∧ Below w0.heap.size w0 (w3.setCells (B + 1) 0 Q.toList)) := fun a b e => by
    rw [e]
    obtain ⟨hB, B2, B21, O2, V2, L2⟩ := H2.out
    have out : ∀ g, g ≠ B → ((w2.setCell ⟨B, 2, none⟩ (.int .i64 a)).setCell ⟨B, 3, none⟩ (.int .i64 b)).heap[g]? = w2.heap[g]? := fun g hg => by
      rw [Below.heap_setCell _ _ _ _ (by show g ≠ B; exact hg), Below.heap_setCell _ _ _ _ (by show g ≠ B; exact hg)]
    have O3 := set_own (O2.keep (w' := (w2.setCell ⟨B, 2, none⟩ (.int .i64 a)).setCell ⟨B, 3, none⟩ (.int .i64 b)) (fun g h1 h2 => out g (by omega))) a b
    have V3 := (set_pd V2 a b).own O3
    refine ⟨_, _, rfl, next_end hB (block_setCell (block_setCell B2 _) _) ((out _ (by omega)).trans B21) V3 O3 ?_⟩
    have xx := ((Xb.refl B w2).setCell 2 (.int .i64 a)).setCell 3 (.int .i64 b)
    exact L2.trans (xx.below (by omega) L2.size)
  have ST := Lib.hid stay
  have TN := Lib.hid turn
  clear stay turn
  obtain ⟨E, hE⟩ : ∃ E, E = x.since + x.warm := ⟨_, rfl⟩
  have HE := Lib.hid hE
  obtain ⟨d, hd⟩ : ∃ d, decide (x.since + x.warm ≤ now) = d := ⟨_, rfl⟩
  have HD := Lib.hid hd
  rw [← hE] at hd ⊢
  rw [hd]
  clear hE hd
  by_cases h3 : x.ph = 3
  · have t1 : (x.ph == 3) = true := by simp [h3]
    obtain ⟨LD, TH, IN, ON, EB, EF⟩ := ST.out (if_pos h3)
    clear ST TN H2 HE HD h3
    go_wp2_with (first | (refine wpList_load_by (by kernel_rfl) PT _ rfl (.pointer (some ⟨B, 0, none⟩)) (.agg P) (by kernel_rfl) LD.out ?_) | (refine wpList_store_mid rfl _ _ _ rfl (B + 1) 0 P (by rfl) (by rfl) TH.out IN.out ON.out ?_))
    refine bodyPost_ret (results_cell_row rfl _ _ (B + 1) PT P (0, 0) _ (by rfl) EB.out Try.underlying28 rfl IN.out) rfl ?_
    exact EF.out
  · have t1 : (x.ph == 3) = false := by simp [h3]
    by_cases hz : x.node.size = 0
    · have en := empty_of hz
      rw [en] at c1
      have hneg : ¬ (x.node.size ≠ 0 ∧ there = false) := fun h => h.1 hz
      by_cases h1 : x.ph = 1
      · have t2 : (x.ph == 1) = true := by simp [h1]
        cases d with
        | true =>
          obtain ⟨w3, Q, hw3, LD, TH, IN, ON, EB, EF⟩ := TN.out (2) (x.since + x.warm) ((if_neg h3).trans ((if_neg hneg).trans (if_pos ⟨h1, of_decide_eq_true HD.out⟩)))
          rw [← HE.out] at hw3
          have HW3 := Lib.hid hw3
          clear hw3 ST TN H2 HE HD h1 h3 hneg hz en
          go_upto_region 8 with fail
          rw [← HW3.out]
          go_wp2_with (first | (refine wpList_load_by (by kernel_rfl) PT _ rfl (.pointer (some ⟨B, 0, none⟩)) (.agg Q) (by kernel_rfl) LD.out ?_) | (refine wpList_store_mid rfl _ _ _ rfl (B + 1) 0 Q (by rfl) (by rfl) TH.out IN.out ON.out ?_))
          refine bodyPost_ret (results_cell_row rfl _ _ (B + 1) PT Q (0, 0) _ (by rfl) EB.out Try.underlying28 rfl IN.out) rfl ?_
          exact EF.out
        | false =>
          obtain ⟨LD, TH, IN, ON, EB, EF⟩ := ST.out ((if_neg h3).trans ((if_neg hneg).trans (if_neg (fun h => of_decide_eq_false HD.out h.2))))
          clear ST TN H2 HE HD h1 h3 hneg hz en
          go_wp2_with (first | (refine wpList_load_by (by kernel_rfl) PT _ rfl (.pointer (some ⟨B, 0, none⟩)) (.agg P) (by kernel_rfl) LD.out ?_) | (refine wpList_store_mid rfl _ _ _ rfl (B + 1) 0 P (by rfl) (by rfl) TH.out IN.out ON.out ?_))
          refine bodyPost_ret (results_cell_row rfl _ _ (B + 1) PT P (0, 0) _ (by rfl) EB.out Try.underlying28 rfl IN.out) rfl ?_
          exact EF.out
      · have t2 : (x.ph == 1) = false := by simp [h1]
        obtain ⟨LD, TH, IN, ON, EB, EF⟩ := ST.out ((if_neg h3).trans ((if_neg hneg).trans (if_neg (fun h => h1 h.1))))
        clear ST TN H2 HE HD h1 h3 hneg hz en
        go_wp2_with (first | (refine wpList_load_by (by kernel_rfl) PT _ rfl (.pointer (some ⟨B, 0, none⟩)) (.agg P) (by kernel_rfl) LD.out ?_) | (refine wpList_store_mid rfl _ _ _ rfl (B + 1) 0 P (by rfl) (by rfl) TH.out IN.out ON.out ?_))
        refine bodyPost_ret (results_cell_row rfl _ _ (B + 1) PT P (0, 0) _ (by rfl) EB.out Try.underlying28 rfl IN.out) rfl ?_
        exact EF.out
    · have tn := bne_empty hz
      cases there with
      | false =>
        obtain ⟨w3, Q, hw3, LD, TH, IN, ON, EB, EF⟩ := TN.out (3) (now) ((if_neg h3).trans (if_pos ⟨hz, rfl⟩))
        have HW3 := Lib.hid hw3
        clear hw3 ST TN H2 HE HD h3 hz
        go_upto_region 8 with fail
        rw [← HW3.out]
        go_wp2_with (first | (refine wpList_load_by (by kernel_rfl) PT _ rfl (.pointer (some ⟨B, 0, none⟩)) (.agg Q) (by kernel_rfl) LD.out ?_) | (refine wpList_store_mid rfl _ _ _ rfl (B + 1) 0 Q (by rfl) (by rfl) TH.out IN.out ON.out ?_))
        refine bodyPost_ret (results_cell_row rfl _ _ (B + 1) PT Q (0, 0) _ (by rfl) EB.out Try.underlying28 rfl IN.out) rfl ?_
        exact EF.out
      | true =>
        have hneg : ¬ (x.node.size ≠ 0 ∧ true = false) := fun h => by cases h.2
        by_cases h1 : x.ph = 1
        · have t2 : (x.ph == 1) = true := by simp [h1]
          cases d with
          | true =>
            obtain ⟨w3, Q, hw3, LD, TH, IN, ON, EB, EF⟩ := TN.out (2) (x.since + x.warm) ((if_neg h3).trans ((if_neg hneg).trans (if_pos ⟨h1, of_decide_eq_true HD.out⟩)))
            rw [← HE.out] at hw3
            have HW3 := Lib.hid hw3
            clear hw3 ST TN H2 HE HD h1 h3 hneg hz
            go_upto_region 8 with fail
            rw [← HW3.out]
            go_wp2_with (first | (refine wpList_load_by (by kernel_rfl) PT _ rfl (.pointer (some ⟨B, 0, none⟩)) (.agg Q) (by kernel_rfl) LD.out ?_) | (refine wpList_store_mid rfl _ _ _ rfl (B + 1) 0 Q (by rfl) (by rfl) TH.out IN.out ON.out ?_))
            refine bodyPost_ret (results_cell_row rfl _ _ (B + 1) PT Q (0, 0) _ (by rfl) EB.out Try.underlying28 rfl IN.out) rfl ?_
            exact EF.out
          | false =>
            obtain ⟨LD, TH, IN, ON, EB, EF⟩ := ST.out ((if_neg h3).trans ((if_neg hneg).trans (if_neg (fun h => of_decide_eq_false HD.out h.2))))
            clear ST TN H2 HE HD h1 h3 hneg hz
            go_wp2_with (first | (refine wpList_load_by (by kernel_rfl) PT _ rfl (.pointer (some ⟨B, 0, none⟩)) (.agg P) (by kernel_rfl) LD.out ?_) | (refine wpList_store_mid rfl _ _ _ rfl (B + 1) 0 P (by rfl) (by rfl) TH.out IN.out ON.out ?_))
            refine bodyPost_ret (results_cell_row rfl _ _ (B + 1) PT P (0, 0) _ (by rfl) EB.out Try.underlying28 rfl IN.out) rfl ?_
            exact EF.out
        · have t2 : (x.ph == 1) = false := by simp [h1]
          obtain ⟨LD, TH, IN, ON, EB, EF⟩ := ST.out ((if_neg h3).trans ((if_neg hneg).trans (if_neg (fun h => h1 h.1))))
          clear ST TN H2 HE HD h1 h3 hneg hz
          go_wp2_with (first | (refine wpList_load_by (by kernel_rfl) PT _ rfl (.pointer (some ⟨B, 0, none⟩)) (.agg P) (by kernel_rfl) LD.out ?_) | (refine wpList_store_mid rfl _ _ _ rfl (B + 1) 0 P (by rfl) (by rfl) TH.out IN.out ON.out ?_))
          refine bodyPost_ret (results_cell_row rfl _ _ (B + 1) PT P (0, 0) _ (by rfl) EB.out Try.underlying28 rfl IN.out) rfl ?_
          exact EF.out
end Go.Proofs.Ytcfilaiejccfkaa.Po
