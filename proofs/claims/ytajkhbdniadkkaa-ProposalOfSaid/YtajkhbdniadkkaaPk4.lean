/- Parts of an object, for whatever layer: its pod, its node; an object of a row, stored where a call has made room. -/
import Derived.Test.YtajkhbdniadkkaaPk3
import Derived.Test.YtajkhbdniadkkaaLoads
import Derived.StillTailTactics
namespace Go.Proofs.Ytajkhbdniadkkaa.Ow
open Go.RowKit Go.Shelf Go.Lib Go.Sort Go.Deep
open Go.Joins (cell_of_block unfrozen_of_block block_setCell)
set_option linter.unusedVariables false
set_option linter.unusedSimpArgs false
set_option maxRecDepth 20000

abbrev PTy : TypeId := 86
abbrev NTy : TypeId := 88
abbrev OTy : TypeId := 99
/-- The cells of a pod. -/
def PdS (w : World) (P : Array Value) (x : Pd) : Prop :=
  P.size = 10 ∧ P[0]? = some (.string x.own) ∧ P[1]? = some (.string x.node) ∧ P[2]? = some (.int .i64 x.ph) ∧ P[3]? = some (.int .i64 x.since) ∧ P[4]? = some (.int .i64 x.cpu) ∧ P[5]? = some (.int .i64 x.mem) ∧
  SlR 2 encL w P[6]? x.lab ∧ SlR 3 encR w P[7]? x.sel ∧ SlR 2 encL w P[8]? x.tol ∧ P[9]? = some (.int .i64 x.warm)
theorem PdS.below {w w' : World} {P : Array Value} {x : Pd} (h : PdS w P x) (hb : Below w.heap.size w w') : PdS w' P x := by
  obtain ⟨a0, a1, a2, a3, a4, a5, a6, a7, a8, a9, a10⟩ := h
  exact ⟨a0, a1, a2, a3, a4, a5, a6, a7.below hb, a8.below hb, a9.below hb, a10⟩
theorem arr10 {D : Array Value} (h : D.size = 10) : ∃ d0 d1 d2 d3 d4 d5 d6 d7 d8 d9, D = #[d0, d1, d2, d3, d4, d5, d6, d7, d8, d9] := by
  obtain ⟨l⟩ := D
  match l, h with
  | [d0, d1, d2, d3, d4, d5, d6, d7, d8, d9], _ => exact ⟨d0, d1, d2, d3, d4, d5, d6, d7, d8, d9, rfl⟩
/-- .. written out. -/
theorem PdS.lit {w : World} {P : Array Value} {x : Pd} (h : PdS w P x) : ∃ q1 c1 q2 c2 q3 c3, P = #[.string x.own, .string x.node, .int .i64 x.ph, .int .i64 x.since, .int .i64 x.cpu, .int .i64 x.mem, .slice q1 x.lab.length c1, .slice q2 x.sel.length c2, .slice q3 x.tol.length c3, .int .i64 x.warm] ∧ RowR 2 encL w q1 x.lab ∧ RowR 3 encR w q2 x.sel ∧ RowR 2 encL w q3 x.tol := by
  obtain ⟨a0, a1, a2, a3, a4, a5, a6, ⟨q7, c7, a7, r7⟩, ⟨q8, c8, a8, r8⟩, ⟨q9, c9, a9, r9⟩, a10⟩ := h
  obtain ⟨d0, d1, d2, d3, d4, d5, d6, d7, d8, d9, rfl⟩ := arr10 a0
  simp at a1 a2 a3 a4 a5 a6 a7 a8 a9 a10
  subst a1 a2 a3 a4 a5 a6 a7 a8 a9 a10
  exact ⟨q7, c7, q8, c8, q9, c9, rfl, r7, r8, r9⟩
theorem PdS.one {w : World} {P : Array Value} {x : Pd} (h : PdS w P x) : P.all (·.oneCell') = true := by
  obtain ⟨q1, c1, q2, c2, q3, c3, rfl, _⟩ := h.lit
  kernel_rfl
theorem ext10 {cs : Array Value} (hs : cs.size = 47) (i : Nat) (hi : i < 10) : (cs.extract 10 20)[i]? = cs[10 + i]? := by
  rw [Array.getElem?_extract, if_pos (by omega)]
theorem ext_size {cs : Array Value} (hs : cs.size = 47) : (cs.extract 10 20).size = 10 := by simp; omega
theorem ext_pd {w : World} {cs : Array Value} {o : Ob} (hv : ObjV w cs o) : PdS w (cs.extract 10 20) o.p := by
  obtain ⟨hsz, _, _, ⟨c0, c1, c2, c3, c4, c5, c6, c7, c8, c9⟩, _⟩ := hv
  refine ⟨ext_size hsz, ?_, ?_, ?_, ?_, ?_, ?_, ?_, ?_, ?_, ?_⟩ <;> rw [ext10 hsz _ (by decide)] <;> assumption
theorem ext_range {w : World} {b : Nat} {cs : Array Value} {T : TypeId} {fz : Nat × Nat} (hsz : cs.size = 47) (h : w.heap[b]? = some (.cells cs T fz)) : w.rangeAt b 10 (cs.extract 10 20).toList := fun j v hv => by
  have hj : j < 10 := by
    have := (List.getElem?_eq_some_iff.1 hv).1
    rw [Array.length_toList, ext_size hsz] at this
    exact this
  rw [Array.getElem?_toList, ext10 hsz j hj] at hv
  rw [cell_of_block h]
  exact hv
theorem info_pt : (Try.prog.info? PTy).map (·.size) = some 10 := by kernel_rfl
theorem load_pd {w : World} {b : Nat} {P : Array Value} {T : TypeId} {fz : Nat × Nat} (h : w.heap[b]? = some (.cells P T fz)) (hs : P.size = 10) : (Instr.loadAt PTy (.pointer (some ⟨b, 0, none⟩))).run Try.prog w = .ok (.agg P) w := by
  have h1 := run_loadAt_mid (P := Try.prog) w b 0 PTy P.toList _ (Ld.rangeAt_block h) Try.underlying86 rfl (by rw [Array.length_toList, hs]; exact info_pt)
  simpa using h1
theorem load_in {w : World} {b : Nat} {cs : Array Value} {T : TypeId} {fz : Nat × Nat} (h : w.heap[b]? = some (.cells cs T fz)) (hs : cs.size = 47) : (Instr.loadAt PTy (.pointer (some ⟨b, 10, none⟩))).run Try.prog w = .ok (.agg (cs.extract 10 20)) w := by
  have h1 := run_loadAt_mid (P := Try.prog) w b 10 PTy (cs.extract 10 20).toList _ (ext_range hs h) Try.underlying86 rfl (by rw [Array.length_toList, ext_size hs]; exact info_pt)
  rwa [Array.toArray_toList] at h1
abbrev zerPd : Array Value := #[.string { data := #[] }, .string { data := #[] }, .int .i64 0, .int .i64 0, .int .i64 0, .int .i64 0, .slice none 0 0, .slice none 0 0, .slice none 0 0, .int .i64 0]
/-- The cells of a node. -/
def NdS (w : World) (P : Array Value) (x : Nd) : Prop :=
  P.size = 7 ∧ P[0]? = some (.string x.grp) ∧ P[1]? = some (.int .i64 x.cpu) ∧ P[2]? = some (.int .i64 x.mem) ∧ SlR 2 encL w P[3]? x.lab ∧ SlR 2 encL w P[4]? x.tnt ∧ P[5]? = some (.int .i64 x.since) ∧ P[6]? = some (.bool x.closed)
theorem NdS.below {w w' : World} {P : Array Value} {x : Nd} (h : NdS w P x) (hb : Below w.heap.size w w') : NdS w' P x := by
  obtain ⟨a0, a1, a2, a3, a4, a5, a6, a7⟩ := h
  exact ⟨a0, a1, a2, a3, a4.below hb, a5.below hb, a6, a7⟩
theorem arr7 {D : Array Value} (h : D.size = 7) : ∃ d0 d1 d2 d3 d4 d5 d6, D = #[d0, d1, d2, d3, d4, d5, d6] := by
  obtain ⟨l⟩ := D
  match l, h with
  | [d0, d1, d2, d3, d4, d5, d6], _ => exact ⟨d0, d1, d2, d3, d4, d5, d6, rfl⟩
theorem NdS.lit {w : World} {P : Array Value} {x : Nd} (h : NdS w P x) : ∃ q1 c1 q2 c2, P = #[.string x.grp, .int .i64 x.cpu, .int .i64 x.mem, .slice q1 x.lab.length c1, .slice q2 x.tnt.length c2, .int .i64 x.since, .bool x.closed] ∧ RowR 2 encL w q1 x.lab ∧ RowR 2 encL w q2 x.tnt := by
  obtain ⟨a0, a1, a2, a3, ⟨q4, c4, a4, r4⟩, ⟨q5, c5, a5, r5⟩, a6, a7⟩ := h
  obtain ⟨d0, d1, d2, d3, d4, d5, d6, rfl⟩ := arr7 a0
  simp at a1 a2 a3 a4 a5 a6 a7
  subst a1 a2 a3 a4 a5 a6 a7
  exact ⟨q4, c4, q5, c5, rfl, r4, r5⟩
theorem ext7 {cs : Array Value} (hs : cs.size = 47) (i : Nat) (hi : i < 7) : (cs.extract 20 27)[i]? = cs[20 + i]? := by
  rw [Array.getElem?_extract, if_pos (by omega)]
theorem ext_size7 {cs : Array Value} (hs : cs.size = 47) : (cs.extract 20 27).size = 7 := by simp; omega
theorem ext_nd {w : World} {cs : Array Value} {o : Ob} (hv : ObjV w cs o) : NdS w (cs.extract 20 27) o.n := by
  obtain ⟨hsz, _, _, _, ⟨c0, c1, c2, c3, c4, c5, c6⟩, _⟩ := hv
  refine ⟨ext_size7 hsz, ?_, ?_, ?_, ?_, ?_, ?_, ?_⟩ <;> rw [ext7 hsz _ (by decide)] <;> assumption
theorem ext_range7 {w : World} {b : Nat} {cs : Array Value} {T : TypeId} {fz : Nat × Nat} (hsz : cs.size = 47) (h : w.heap[b]? = some (.cells cs T fz)) : w.rangeAt b 20 (cs.extract 20 27).toList := fun j v hv => by
  have hj : j < 7 := by
    have := (List.getElem?_eq_some_iff.1 hv).1
    rw [Array.length_toList, ext_size7 hsz] at this
    exact this
  rw [Array.getElem?_toList, ext7 hsz j hj] at hv
  rw [cell_of_block h]
  exact hv
theorem info_nt : (Try.prog.info? NTy).map (·.size) = some 7 := by kernel_rfl
theorem load_nin {w : World} {b : Nat} {cs : Array Value} {T : TypeId} {fz : Nat × Nat} (h : w.heap[b]? = some (.cells cs T fz)) (hs : cs.size = 47) : (Instr.loadAt NTy (.pointer (some ⟨b, 20, none⟩))).run Try.prog w = .ok (.agg (cs.extract 20 27)) w := by
  have h1 := run_loadAt_mid (P := Try.prog) w b 20 NTy (cs.extract 20 27).toList _ (ext_range7 hs h) Try.underlying88 rfl (by rw [Array.length_toList, ext_size7 hs]; exact info_nt)
  rwa [Array.toArray_toList] at h1
/-- An object of a row, stored where the call has made room. -/
structure ElAt (w3 wr : World) (O : Nat) (X : Array Value) : Prop where
  blk : w3.heap[O]? = some (.cells X OTy (0, 0))
  low : Below wr.heap.size wr w3
  at_ : O = wr.heap.size
theorem el_new (wr : World) (X : Array Value) (hX : X.size = 47) : (wr.alloc (.cells zerC OTy)).there wr.heap.size 0 X.size ∧ (Try.prog.info? OTy).map (·.size) = some X.size ∧ ElAt ((wr.alloc (.cells zerC OTy)).setCells wr.heap.size 0 X.toList) wr wr.heap.size X := by
  have z0 : (wr.alloc (.cells zerC OTy)).heap[wr.heap.size]? = some (.cells zerC OTy (0, 0)) := heap_alloc_new wr _
  exact ⟨Ld.there_block z0 (n := X.size) (by rw [hX]; rfl), by rw [hX]; exact info_ob47, Ld.laid z0 (by rw [hX]; rfl), Ld.below_setCells _ _ _ (Nat.le_refl _) (((Gr.refl wr).alloc _).below), rfl⟩
/-- A whole struct of whatever type, stored where the call has made room. -/
theorem cell_new (wr : World) (T : TypeId) (Z P : Array Value) (h : Z.size = P.size) : (wr.alloc (.cells Z T)).there wr.heap.size 0 P.size ∧ ((wr.alloc (.cells Z T)).setCells wr.heap.size 0 P.toList).heap[wr.heap.size]? = some (.cells P T (0, 0)) ∧ Below wr.heap.size wr ((wr.alloc (.cells Z T)).setCells wr.heap.size 0 P.toList) := by
  have z0 : (wr.alloc (.cells Z T)).heap[wr.heap.size]? = some (.cells Z T (0, 0)) := heap_alloc_new wr _
  exact ⟨Ld.there_block z0 h.symm, Ld.laid z0 h, Ld.below_setCells _ _ _ (Nat.le_refl _) (((Gr.refl wr).alloc _).below)⟩
/-! ### rows of a call's own -/
theorem slc_own {w : World} {N : Nat} {E : TypeId} {k n : Nat} {v : Value} {xs : List Value} (h : w.ownsRow N E k v n xs) : ∃ q c, v = .slice q n c := by
  obtain ⟨_, h⟩ := h
  rcases h with ⟨rfl, hn⟩ | ⟨g, c, cur, rfl, _⟩
  · subst hn; exact ⟨none, 0, rfl⟩
  · exact ⟨_, _, rfl⟩
theorem below_own {N n k : Nat} {w w' : World} {E : TypeId} {v : Value} {xs : List Value} (h : w.ownsRow N E k v n xs) (b : Below w.heap.size w w') : w'.ownsRow N E k v n xs := own_stays h fun g _ hg => b.block g hg
theorem lt_own {N n k : Nat} {w : World} {E : TypeId} {v : Value} {xs : List Value} (h : w.ownsRow N E k v n xs) {g : Nat} (hg : v.ownBlock = some g) : N ≤ g ∧ g < w.heap.size := by
  rcases h.2 with ⟨rfl, _⟩ | ⟨g', cap, cur, rfl, hb, hh, _⟩
  · simp [Value.ownBlock] at hg
  · simp [Value.ownBlock] at hg
    subst hg
    exact ⟨hb, (Array.getElem?_eq_some_iff.1 hh).1⟩
/-- What is known to run, in a plain region. -/
theorem step_known {P : Program} {ops : Array Oper} {rest : List Oper} {o : Oper} {a : Act} {w w' : World} {v : Value} {Q : Exit → Act → World → Prop} (hw : Region.wanted o (yielded ops a.tmps) = true) (hr : (execOp a.eval o).run P w = .ok (.value v) w') (h : wpList P ops Q rest (a.put o.dst v) w') : wpList P ops Q (o :: rest) a w := by
  refine wpList_step fun K hK => ?_
  rw [if_pos hw]
  unfold Oper.wp
  rw [hr]
  exact hK _ _ h
theorem built_run {T : TypeId} {o : Oper} {ev : Operand → Value} {parts : Array (Nat × Operand)} {l : List (Nat × Value)} {C : Array Value} (ho : o.op = .build T parts) (hp : (parts.map fun (i, x) => (i, ev x)).toList = l) (hc : Try.prog.built T l = some C) (w : World) :
    (execOp ev o).run Try.prog w = .ok (.value (.agg C)) w := by
  rw [← hp] at hc
  unfold execOp
  simp only [ho, Sem.run_bind, run_build w _ _ _ hc, Result.andThen_ok]
  rfl
end Go.Proofs.Ytajkhbdniadkkaa.Ow
/- Layer 20: the small functions of package proposal: whether a metric and numbers can be; whether a use can; nearness; a goal; what a load needs. -/
namespace Go.Proofs.Ytajkhbdniadkkaa.Pp
open Go.RowKit Go.Shelf Go.Lib Go.Sort Go.Deep
open Go.Joins (cell_of_block unfrozen_of_block block_setCell)
open Go.Proofs.Ytajkhbdniadkkaa.Ow
set_option linter.unusedVariables false
set_option linter.unusedSimpArgs false
set_option maxRecDepth 20000

abbrev MT : TypeId := 24
abbrev LT : TypeId := 74
abbrev UT : TypeId := 52

/-- What a pod uses. -/
structure Ut where
  pod : ByteArray
  rd : Bool
  hs : Bool
  ask : Int
  use : Int
def utA (x : Ut) : Array Value := #[.string x.pod, .bool x.rd, .bool x.hs, .int .i64 x.ask, .int .i64 x.use]
def encT (x : Ut) : List Value := (utA x).toList
/-- A metric's cells; a load's. -/
def metC (k : Int) (s : ByteArray) (t : Int) : Array Value := #[.int .i64 k, .string s, .int .i64 t]
def loadC (u g n : Int) : Array Value := #[.int .i64 u, .int .i64 g, .int .i64 n]

def okQ (m : Int) : Bool := decide (0 ≤ m ∧ m ≤ 9007199254740992)
theorem qright_any (m : Int) (w : World) : Calls Try.prog 19 #[.int .i64 m] w fun e w' => e = .returned (.bool (okQ m)) ∧ w = w' := by
  unfold okQ
  by_cases h : 0 ≤ m ∧ m ≤ 9007199254740992
  · rw [decide_eq_true h]; exact right_yes m w h.1 h.2
  · rw [decide_eq_false h]; exact right_no m w (by omega)

/-- May a metric of this Target, so many replicas and this tolerance be? -/
def rightB (t r x : Int) : Bool := decide (0 ≤ r) && (decide (r ≤ 1000000) && (decide (0 ≤ x) && (decide (x ≤ 1000) && (okQ t && !(t == 0)))))
set_option maxHeartbeats 2000000 in
theorem pp_right (w : World) (k : Int) (s : ByteArray) (t r x : Int) :
    Calls Try.prog 18 #[.agg (metC k s t), .int .i64 r, .int .i64 x] w fun e w' => e = .returned (.bool (rightB t r x)) ∧ Below w.heap.size w w' := by
  have G := Lib.hid ((Gr.refl w).alloc (.cells #[.int .i64 k, .string s, .int .i64 t] MT)).below
  have HO : Hid (rightB t r x = (decide (0 ≤ r) && (decide (r ≤ 1000000) && (decide (0 ≤ x) && (decide (x ≤ 1000) && (okQ t && !(t == 0))))))) := rfl
  have C := Lib.hid (fun W => qright_any t W)
  generalize hq : okQ t = q at HO C
  clear hq
  show Calls Try.prog 18 #[.agg #[.int .i64 k, .string s, .int .i64 t], .int .i64 r, .int .i64 x] w _
  cases t1 : decide (0 ≤ r) with
  | false =>
    rw [t1] at HO
    go_enter Try.func18, Try.ntmps18
    go_wp2
    go_ret
    exact ⟨by rw [HO.out]; rfl, G.out⟩
  | true =>
  cases t2 : decide (r ≤ 1000000) with
  | false =>
    rw [t1, t2] at HO
    go_enter Try.func18, Try.ntmps18
    go_wp2
    go_ret
    exact ⟨by rw [HO.out]; rfl, G.out⟩
  | true =>
  cases t3 : decide (0 ≤ x) with
  | false =>
    rw [t1, t2, t3] at HO
    go_enter Try.func18, Try.ntmps18
    go_wp2
    go_ret
    exact ⟨by rw [HO.out]; rfl, G.out⟩
  | true =>
  cases t4 : decide (x ≤ 1000) with
  | false =>
    rw [t1, t2, t3, t4] at HO
    go_enter Try.func18, Try.ntmps18
    go_wp2
    go_ret
    exact ⟨by rw [HO.out]; rfl, G.out⟩
  | true =>
  rw [t1, t2, t3, t4] at HO
  cases q with
  | false =>
    go_enter Try.func18, Try.ntmps18
    go_wp2_with fail
    refine (C.out _).mono ?_
    rintro e w1 ⟨rfl, rfl⟩
    go_wp2
    go_ret
    exact ⟨by rw [HO.out]; rfl, G.out⟩
  | true =>
    cases t5 : (t == 0) with
    | false =>
      rw [t5] at HO
      have t6 : (t != 0) = !false := by rw [bne, t5]
      have t6 : (t != 0) = true := t6
      go_enter Try.func18, Try.ntmps18
      go_wp2_with fail
      refine (C.out _).mono ?_
      rintro e w1 ⟨rfl, rfl⟩
      go_wp2
      go_ret
      exact ⟨by rw [HO.out]; rfl, G.out⟩
    | true =>
      rw [t5] at HO
      have t6 : (t != 0) = !true := by rw [bne, t5]
      have t6 : (t != 0) = false := t6
      go_enter Try.func18, Try.ntmps18
      go_wp2_with fail
      refine (C.out _).mono ?_
      rintro e w1 ⟨rfl, rfl⟩
      go_wp2
      go_ret
      exact ⟨by rw [HO.out]; rfl, G.out⟩
theorem rightB_iff {t r x : Int} : rightB t r x = true ↔ (0 ≤ r ∧ r ≤ 1000000) ∧ (0 ≤ x ∧ x ≤ 1000) ∧ (0 < t ∧ t ≤ 9007199254740992) := by
  unfold rightB okQ
  simp only [Bool.and_eq_true, decide_eq_true_eq, Bool.not_eq_true', beq_eq_false_iff_ne]
  omega

/-- Is a use none that can be? -/
def offB (a u : Int) : Bool := !okQ a || !okQ u
set_option maxHeartbeats 2000000 in
theorem pp_off (w : World) (s : ByteArray) (p h : Bool) (a u : Int) :
    Calls Try.prog 32 #[.agg #[.string s, .bool p, .bool h, .int .i64 a, .int .i64 u]] w fun e w' => e = .returned (.bool (offB a u)) ∧ Gr w w' := by
  have G := Lib.hid ((Gr.refl w).alloc (.cells #[.string s, .bool p, .bool h, .int .i64 a, .int .i64 u] UT))
  have HO : Hid (offB a u = (!okQ a || !okQ u)) := rfl
  have C := Lib.hid (fun W => qright_any a W)
  have D := Lib.hid (fun W => qright_any u W)
  generalize okQ a = b0 at HO C
  generalize okQ u = b1 at HO D
  cases b0 with
  | false =>
    go_enter Try.func32, Try.ntmps32
    go_wp2_with fail
    refine (C.out _).mono ?_
    rintro e w1 ⟨rfl, rfl⟩
    go_wp2
    go_ret
    exact ⟨by rw [HO.out]; rfl, G.out⟩
  | true =>
    go_enter Try.func32, Try.ntmps32
    go_wp2_with fail
    refine (C.out _).mono ?_
    rintro e w1 ⟨rfl, rfl⟩
    go_wp2_with fail
    refine (D.out _).mono ?_
    rintro e w1 ⟨rfl, rfl⟩
    cases b1 <;>
    · go_wp2
      go_ret
      exact ⟨by rw [HO.out]; rfl, G.out⟩

/-- Is a use near a goal? None is near a goal of 0. -/
def nearB (u g x : Nat) : Bool := decide (0 < g) && decide (apart u g * 1000 ≤ g * x)
theorem ret_b {p q : Bool} (h : p = q) : Ending.returned (.bool p) = .returned (.bool q) := by rw [h]
set_option maxHeartbeats 2000000 in
theorem pp_near (u g x : Nat) (w : World) (hu : u ≤ 9007199254740992) (hg : g ≤ 9007199254740992) (hx : x ≤ 1000) :
    Calls Try.prog 20 #[.int .i64 (u : Int), .int .i64 (g : Int), .int .i64 (x : Int)] w fun e w' => e = .returned (.bool (nearB u g x)) ∧ Below w.heap.size w w' := by
  rcases Nat.eq_zero_or_pos g with h0 | h0
  · have HO : Hid (nearB u g x = false) := by show _ = _; unfold nearB; rw [h0]; rfl
    have C : Hid (∀ W, Calls Try.prog 44 #[.int .i64 (u : Int), .int .i64 (g : Int), .int .i64 (x : Int)] W fun e w' => e = .returned (.tuple #[.bool false, .int .i64 5]) ∧ W = w') := fun W => by
      rw [h0]
      exact near_zero (u : Int) (x : Int) W (by omega) (by omega) ⟨by omega, by omega⟩
    clear h0 hu hg hx
    go_enter Try.func20, Try.ntmps20
    go_wp2_with fail
    refine (C.out _).mono ?_
    rintro e w1 ⟨rfl, rfl⟩
    go_wp2
    go_ret
    exact ⟨by rw [HO.out]; rfl, Below.refl _ _⟩
  · have HO : Hid (nearB u g x = decide (apart u g * 1000 ≤ g * x)) := by show _ = _; unfold nearB; rw [decide_eq_true h0]; rfl
    have C := Lib.hid (fun W => near_ok u g x W hu hg h0 hx)
    generalize decide (apart u g * 1000 ≤ g * x) = b at HO C
    clear h0 hu hg hx
    go_enter Try.func20, Try.ntmps20
    go_wp2_with fail
    refine (C.out _).mono ?_
    rintro e w1 ⟨rfl, b1⟩
    have B1 := Lib.hid b1
    clear b1
    cases b <;>
    · go_wp2
      go_ret
      exact ⟨by rw [HO.out]; rfl, B1.out⟩

/-- The goal of a pod that asks for so much. -/
def goalN (k : Int) (t a : Nat) : Nat := if k = 0 then a * t / 1000 else t
/-- A number of thousandths as it is told: none that is too great. -/
def capV (n : Nat) : Int := if n ≤ 9007199254740992 then (n : Int) else 0
def capE (n : Nat) : Int := if n ≤ 9007199254740992 then 0 else 3
theorem capV_in {n : Nat} (h : n ≤ 9007199254740992) : capV n = (n : Int) ∧ capE n = 0 := ⟨if_pos h, if_pos h⟩
theorem capV_over {n : Nat} (h : 9007199254740992 < n) : capV n = 0 ∧ capE n = 3 := ⟨if_neg (by omega), if_neg (by omega)⟩
set_option maxHeartbeats 2000000 in
theorem pp_goal (w : World) (k : Int) (s : ByteArray) (t a : Nat) (ht : t ≤ 9007199254740992) (ha : a ≤ 9007199254740992) :
    Calls Try.prog 79 #[.agg (metC k s (t : Int)), .int .i64 (a : Int)] w fun e w' => e = .returned (.tuple #[.int .i64 (capV (goalN k t a)), .int .i64 (capE (goalN k t a))]) ∧ Below w.heap.size w w' := by
  show Calls Try.prog 79 #[.agg #[.int .i64 k, .string s, .int .i64 (t : Int)], .int .i64 (a : Int)] w _
  have G := Lib.hid ((Gr.refl w).alloc (.cells #[.int .i64 k, .string s, .int .i64 (t : Int)] MT))
  by_cases hk : k = 0
  · have tk : (k == 0) = true := by rw [hk]; rfl
    have tk2 : (k != 0) = false := by rw [hk]; rfl
    obtain ⟨n, hn⟩ : ∃ n, n = a * t / 1000 := ⟨_, rfl⟩
    have eg : goalN k t a = n := by rw [hn]; exact if_pos hk
    rw [eg]
    have m := fun W : World => muldiv_any a t 1000 false W (by omega) (by omega) (by decide)
    have hw : mdWant a t 1000 false = n := by rw [mdWant_down, hn]
    have c1 : IntKind.u64.wrap (t : Int) = (t : Int) := by rw [IntKind.wrap_u64]; omega
    have c2 : IntKind.u64.wrap (a : Int) = (a : Int) := by rw [IntKind.wrap_u64]; omega
    rcases Nat.lt_or_ge n 18446744073709551616 with h | h
    · obtain ⟨k1, k2⟩ := muldiv_ok (up := false) (by decide) hw h
      rw [k1, k2] at m
      have M := Lib.hid m
      clear m k1 k2 hw hn eg ht ha hk
      rcases Nat.lt_or_ge 9007199254740992 n with g | g
      · rw [(capV_over g).1, (capV_over g).2]
        have t1 : decide ((9007199254740992 : Int) < (n : Int)) = true := by simp; omega
        clear g h
        go_enter Try.func79, Try.ntmps79
        go_wp2_with fail
        refine (M.out _).mono ?_
        rintro e w1 ⟨rfl, h1⟩
        go_wp2
        go_ret2
        exact ⟨rfl, G.out.below.trans (h1.mono G.out.size)⟩
      · rw [(capV_in g).1, (capV_in g).2]
        have t1 : decide ((9007199254740992 : Int) < (n : Int)) = false := by simp; omega
        have c3 : IntKind.i64.wrap (n : Int) = (n : Int) := by rw [IntKind.wrap_i64]; omega
        clear g h
        go_enter Try.func79, Try.ntmps79
        go_wp2_with fail
        refine (M.out _).mono ?_
        rintro e w1 ⟨rfl, h1⟩
        go_wp2
        go_ret2
        exact ⟨rfl, G.out.below.trans (h1.mono G.out.size)⟩
    · obtain ⟨k1, k2⟩ := muldiv_over (a := a) (b := t) (up := false) (y := 1000) (by decide) (by rw [hw]; exact h)
      rw [k1, k2] at m
      have M := Lib.hid m
      have g : 9007199254740992 < n := by omega
      rw [(capV_over g).1, (capV_over g).2]
      clear m k1 k2 hw hn eg ht ha hk g h
      go_enter Try.func79, Try.ntmps79
      go_wp2_with fail
      refine (M.out _).mono ?_
      rintro e w1 ⟨rfl, h1⟩
      go_wp2
      go_ret2
      exact ⟨rfl, G.out.below.trans (h1.mono G.out.size)⟩
  · have tk : (k == 0) = false := by simpa using hk
    have tk2 : (k != 0) = true := by simpa using hk
    have eg : goalN k t a = t := if_neg hk
    rw [eg, (capV_in ht).1, (capV_in ht).2]
    clear eg ht ha
    go_enter Try.func79, Try.ntmps79
    go_wp2
    go_ret2
    exact ⟨rfl, G.out.below⟩

/-- What a load needs. -/
def needN (n u g : Nat) : Nat := min (upDiv n u g) 1000000
set_option maxHeartbeats 2000000 in
theorem pp_need (w : World) (n u g : Nat) (hn : n ≤ 9007199254740992) (hu : u ≤ 9007199254740992) (hg : g ≤ 9007199254740992) (h0 : 0 < g) :
    Calls Try.prog 36 #[.agg (loadC (u : Int) (g : Int) (n : Int))] w fun e w' => e = .returned (.int .i64 (needN n u g : Int)) ∧ Below w.heap.size w w' := by
  show Calls Try.prog 36 #[.agg #[.int .i64 (u : Int), .int .i64 (g : Int), .int .i64 (n : Int)]] w _
  have G := Lib.hid ((Gr.refl w).alloc (.cells #[.int .i64 (u : Int), .int .i64 (g : Int), .int .i64 (n : Int)] LT))
  unfold needN
  obtain ⟨d, hd⟩ : ∃ d, d = upDiv n u g := ⟨_, rfl⟩
  rw [← hd]
  have m := fun W : World => muldiv_any n u g true W (by omega) (by omega) (by omega)
  have hw : mdWant n u g true = d := by rw [mdWant_up, hd]
  have c1 : IntKind.u64.wrap (n : Int) = (n : Int) := by rw [IntKind.wrap_u64]; omega
  have c2 : IntKind.u64.wrap (u : Int) = (u : Int) := by rw [IntKind.wrap_u64]; omega
  have c3 : IntKind.u64.wrap (g : Int) = (g : Int) := by rw [IntKind.wrap_u64]; omega
  rcases Nat.lt_or_ge d 18446744073709551616 with h | h
  · obtain ⟨k1, k2⟩ := muldiv_ok (up := true) h0 hw h
    rw [k1, k2] at m
    have M := Lib.hid m
    clear m k1 k2 hw hd hn hu hg h0
    rcases Nat.lt_or_ge 1000000 d with g' | g'
    · rw [Nat.min_eq_right (by omega)]
      have t1 : decide ((1000000 : Int) < (d : Int)) = true := by simp; omega
      clear g' h
      go_enter Try.func36, Try.ntmps36
      go_wp2_with fail
      refine (M.out _).mono ?_
      rintro e w1 ⟨rfl, h1⟩
      go_wp2
      go_ret
      exact ⟨rfl, G.out.below.trans (h1.mono G.out.size)⟩
    · rw [Nat.min_eq_left g']
      have t1 : decide ((1000000 : Int) < (d : Int)) = false := by simp; omega
      have c4 : IntKind.i64.wrap (d : Int) = (d : Int) := by rw [IntKind.wrap_i64]; omega
      clear g' h
      go_enter Try.func36, Try.ntmps36
      go_wp2_with fail
      refine (M.out _).mono ?_
      rintro e w1 ⟨rfl, h1⟩
      go_wp2
      go_ret
      exact ⟨rfl, G.out.below.trans (h1.mono G.out.size)⟩
  · obtain ⟨k1, k2⟩ := muldiv_over (a := n) (b := u) (up := true) h0 (by rw [hw]; exact h)
    rw [k1, k2] at m
    have M := Lib.hid m
    rw [Nat.min_eq_right (by omega)]
    clear m k1 k2 hw hd hn hu hg h0 h
    go_enter Try.func36, Try.ntmps36
    go_wp2_with fail
    refine (M.out _).mono ?_
    rintro e w1 ⟨rfl, h1⟩
    go_wp2
    go_ret
    exact ⟨rfl, G.out.below.trans (h1.mono G.out.size)⟩
end Go.Proofs.Ytajkhbdniadkkaa.Pp
/- Layer 20: rows of uses: is one none that can be; the goals of a row. -/
namespace Go.Proofs.Ytajkhbdniadkkaa.Pp
open Go.RowKit Go.Shelf Go.Lib Go.Sort Go.Deep
open Go.Joins (cell_of_block unfrozen_of_block block_setCell)
open Go.Proofs.Ytajkhbdniadkkaa.Ow Go.Proofs.Ytajkhbdniadkkaa.Ld
set_option linter.unusedVariables false
set_option linter.unusedSimpArgs false
set_option maxRecDepth 20000

abbrev zerU : Array Value := #[.string { data := #[] }, .bool false, .bool false, .int .i64 0, .int .i64 0]
theorem info_UT : ∃ i : TypeInfo, Try.prog.info? UT = some i ∧ i.zero = some (.agg zerU) ∧ i.size = 5 ∧ i.bytes ≤ 10000 := by
  have hinf : (Try.prog.info? UT).map (fun i => (i.zero, i.size, decide (i.bytes ≤ 10000))) = some (some (.agg zerU), 5, true) := by kernel_rfl
  cases hi : Try.prog.info? UT with
  | none => rw [hi] at hinf; cases hinf
  | some i =>
    rw [hi] at hinf
    simp only [Option.map_some, Option.some.injEq, Prod.mk.injEq] at hinf
    exact ⟨i, rfl, hinf.1, hinf.2.1, of_decide_eq_true hinf.2.2⟩
theorem encT_len (x : Ut) : (encT x).length = 5 := rfl
theorem utA_one (x : Ut) : ∀ v ∈ (utA x).toList, v.oneCell' = true := by
  intro v hv
  simp only [utA, List.mem_cons, List.not_mem_nil, or_false] at hv
  rcases hv with rfl | rfl | rfl | rfl | rfl <;> rfl
theorem utA_all (x : Ut) : (utA x).all (·.oneCell') = true := by simp [utA, Value.oneCell']
theorem load_ut {w : World} {g o : Nat} {X : Array Value} (h : w.rangeAt g o X.toList) (hs : X.size = 5) : (Instr.loadAt UT (.pointer (some ⟨g, o, none⟩))).run Try.prog w = .ok (.agg X) w := by
  have := run_loadAt_mid (P := Try.prog) w g o UT X.toList _ h Try.underlying52 rfl (by rw [Array.length_toList, hs]; kernel_rfl)
  rwa [Array.toArray_toList] at this
theorem rangeT {W w : World} {q : Option Addr} {l : List Ut} (h : RowR 5 encT W q l) {j : Nat} {x : Ut} (hx : l[j]? = some x) (low : Below W.heap.size W w) : ∃ b off, q = some ⟨b, off, none⟩ ∧ w.rangeAt b (off + j * 5) (utA x).toList := by
  obtain ⟨b, off, e, hb, hc⟩ := h.below low j x hx
  exact ⟨b, off, e, fun t v hv => hc t v hv⟩

def okU (x : Ut) : Bool := !offB x.ask x.use
theorem okU_iff {x : Ut} : okU x = true ↔ (0 ≤ x.ask ∧ x.ask ≤ 9007199254740992) ∧ (0 ≤ x.use ∧ x.use ≤ 9007199254740992) := by
  unfold okU offB okQ
  by_cases h : 0 ≤ x.ask ∧ x.ask ≤ 9007199254740992 <;> by_cases g : 0 ≤ x.use ∧ x.use ≤ 9007199254740992 <;> simp [h, g]
set_option maxHeartbeats 2000000 in
theorem off_index (w : World) (q : Option Addr) (c : Nat) (l : List Ut) (h : RowR 5 encT w q l) (hl : l.length ≤ 9223372036854775807) :
    Calls Try.prog 58 #[.slice q l.length c, .func (.func 32) #[] #[]] w fun e w' => ((∃ i : Nat, e = .returned (.int .i64 (i : Int)) ∧ l.all okU = false) ∨ (e = .returned (.int .i64 (-1)) ∧ l.all okU = true)) ∧ Gr w w' := by
  have HR := Lib.hid h
  have eg : ∀ args w, (callFunc 32 args).run Try.prog w = .ok (.enter 32 args) w := enters_of Try.func32 (by kernel_rfl) rfl
  clear h
  go_enter Try.func58, Try.ntmps58
  go_wp2_with fail
  go_loopg [8] l.length (fun g vi wr => ∃ (k : Nat), k ≤ l.length ∧ l.length - k ≤ g ∧ vi = .int .i64 (k : Int) ∧ Hid (∀ (j : Nat) (x : Ut), j < k → l[j]? = some x → okU x = true) ∧ Hid (Gr w wr))
  case atStart => exact ⟨0, Nat.zero_le _, by omega, rfl, fun j x h => absurd h (Nat.not_lt_zero _), Gr.refl _⟩
  case round =>
    obtain ⟨k, hk, hg, rfl, HP, HG⟩ := hrel
    by_cases hlt : k < l.length
    · obtain ⟨x, hx⟩ : ∃ x, l[k]? = some x := ⟨l[k], List.getElem?_eq_getElem hlt⟩
      obtain ⟨b, off, rfl, hb, hc⟩ := (HR.out.gr HG.out) k x hx
      have c1 := hc 0 _ rfl
      have c2 := hc 1 _ rfl
      have c3 := hc 2 _ rfl
      have c4 := hc 3 _ rfl
      have c5 := hc 4 _ rfl
      rw [Nat.add_zero] at c1
      have HX := Lib.hid hx
      obtain ⟨b1, hb1⟩ : ∃ b1, okU x = b1 := ⟨_, rfl⟩
      have HB1 := Lib.hid hb1
      obtain ⟨x1, x2, x3, x4, x5⟩ := x
      dsimp only at *
      have C := Lib.hid (fun (W : World) => pp_off W x1 x2 x3 x4 x5)
      have eb : offB x4 x5 = !b1 := by rw [← hb1]; exact (Bool.not_not _).symm
      rw [eb] at C
      clear hx hc hb1 eb
      cases b1 with
      | false =>
        go_wp2_with (go_at_fn 32; refine (C.out _).mono ?_; rintro e w1 ⟨rfl, g1⟩)
        go_ret
        exact ⟨.inl ⟨k, rfl, List.all_eq_false.2 ⟨_, List.mem_of_getElem? HX.out, by rw [HB1.out]; decide⟩⟩, HG.out.trans g1⟩
      | true =>
        have HP2 : Hid (∀ (j : Nat) (x : Ut), j < k + 1 → l[j]? = some x → okU x = true) := fun j x hj hx => by
          by_cases h : j = k
          · subst h
            rw [HX.out] at hx
            cases hx
            exact HB1.out
          · exact HP.out j x (by omega) hx
        go_wp2_with (go_at_fn 32; refine (C.out _).mono ?_; rintro e w1 ⟨rfl, g1⟩)
        go_roundg (l.length - (k + 1))
        case measure => omega
        case rel => exact ⟨k + 1, hlt, Nat.le_refl _, by go_num, HP2, HG.out.trans g1⟩
    · obtain rfl : k = l.length := by omega
      have HA : Hid (l.all okU = true) := List.all_eq_true.2 fun x hx => by
        obtain ⟨j, hj⟩ := List.getElem?_of_mem hx
        exact HP.out j x (List.getElem?_eq_some_iff.1 hj).1 hj
      go_wp2
      go_ret
      exact ⟨.inr ⟨rfl, HA.out⟩, HG.out⟩
theorem off_contains (w : World) (q : Option Addr) (c : Nat) (l : List Ut) (h : RowR 5 encT w q l) (hl : l.length ≤ 9223372036854775807) :
    Calls Try.prog 31 #[.slice q l.length c, .func (.func 32) #[] #[]] w fun e w' => e = .returned (.bool (!l.all okU)) ∧ Gr w w' := by
  have C := Lib.hid (off_index w q c l h hl)
  clear h
  go_enter Try.func31, Try.ntmps31
  go_wp2_with fail
  refine C.out.mono ?_
  rintro e w1 ⟨⟨i, rfl, h⟩ | ⟨rfl, h⟩, g1⟩
  · have H := Lib.hid h
    have t : (0 : Int) ≤ (i : Int) := by omega
    have G := Lib.hid g1
    clear h g1
    go_wp2
    go_ret
    exact ⟨by rw [H.out]; rfl, G.out⟩
  · have H := Lib.hid h
    have G := Lib.hid g1
    clear h g1
    go_wp2
    go_ret
    exact ⟨by rw [H.out]; rfl, G.out⟩

/-! ### goals -/
def sumG (k : Int) (t : Nat) (l : List Ut) : Nat := (l.map fun x => goalN k t x.ask.toNat).sum
theorem sumG_take (k : Int) (t : Nat) (l : List Ut) {j : Nat} {x : Ut} (hx : l[j]? = some x) : sumG k t (l.take (j + 1)) = sumG k t (l.take j) + goalN k t x.ask.toNat := by
  unfold sumG
  rw [List.take_add_one, hx, List.map_append, List.sum_append]
  simp
theorem sumG_le (k : Int) (t : Nat) (l : List Ut) (j : Nat) : sumG k t (l.take j) ≤ sumG k t l := by
  have : sumG k t l = sumG k t (l.take j) + sumG k t (l.drop j) := by
    unfold sumG
    rw [← List.sum_append, ← List.map_append, List.take_append_drop]
  omega
theorem use_new {wr : World} {b o : Nat} {x : Ut} (hra : wr.rangeAt b o (utA x).toList) :
    Hid ((Instr.loadAt UT (.pointer (some ⟨b, o, none⟩))).run Try.prog wr = .ok (.agg (utA x)) wr) ∧ Hid ((wr.alloc (.cells zerU UT)).there wr.heap.size 0 (utA x).size) ∧
    ∃ w3 O, Hid ((wr.alloc (.cells zerU UT)).setCells wr.heap.size 0 (utA x).toList = w3 ∧ wr.heap.size = O) ∧ w3.heap[O]? = some (.cells (utA x) UT (0, 0)) ∧ Below wr.heap.size wr w3 := by
  obtain ⟨th, eb, bl⟩ := cell_new wr UT zerU (utA x) rfl
  exact ⟨load_ut hra rfl, th, _, _, ⟨rfl, rfl⟩, eb, bl⟩

set_option maxHeartbeats 8000000 in
theorem pp_goals (w : World) (k : Int) (s : ByteArray) (t : Nat) (ht : t ≤ 9007199254740992) (q : Option Addr) (c : Nat) (l : List Ut) (hr : RowR 5 encT w q l) (hlen : l.length ≤ 1000000) (hok : ∀ x ∈ l, okU x = true) :
    Calls Try.prog 60 #[.agg (metC k s (t : Int)), .slice q l.length c] w fun e w' => e = .returned (.tuple #[.int .i64 (capV (sumG k t l)), .int .i64 (capE (sumG k t l))]) ∧ Below w.heap.size w w' := by
  obtain ⟨n, hn⟩ : ∃ n, n = l.length := ⟨_, rfl⟩
  rw [← hn] at hlen
  rw [← hn]
  obtain ⟨B, hB⟩ : ∃ B, B = w.heap.size := ⟨_, rfl⟩
  obtain ⟨M, hM⟩ : ∃ M, M = metC k s (t : Int) := ⟨_, rfl⟩
  rw [← hM]
  obtain ⟨wa, hwa⟩ : ∃ x, x = w.alloc (.cells M MT) := ⟨_, rfl⟩
  have Ba : Below w.heap.size w wa := by rw [hwa]; exact ((Gr.refl w).alloc _).below
  have y1 : wa.heap[B]? = some (.cells M MT (0, 0)) := by rw [hwa, hB]; exact heap_alloc_new w _
  have HW : Hid (w.alloc (.cells M MT) = wa ∧ w.heap.size = B) := ⟨hwa.symm, hB.symm⟩
  obtain ⟨T, hT⟩ : ∃ T, T = sumG k t l := ⟨_, rfl⟩
  rw [← hT]
  have HH := Lib.hid (And.intro hr (And.intro hn (And.intro hok (And.intro Ba (And.intro y1 (And.intro hM (And.intro ht hT)))))))
  clear hr hn hok hB hwa Ba y1 hM ht hT
  go_enter Try.func60, Try.ntmps60
  go_upto_region 1 with fail
  rw [HW.out.1, HW.out.2]
  go_wp2_with fail
  go_loopg [6, 13] n (fun g1 vs vi wr => ∃ j p : Nat, vi = .int .i64 (j : Int) ∧ j ≤ n ∧ n - j ≤ g1 ∧ vs = .int .i64 (p : Int) ∧ p ≤ 9007199254740992 ∧ Hid (p = sumG k t (l.take j)) ∧ Hid (Below wa.heap.size wa wr))
  case atStart => exact ⟨0, 0, rfl, Nat.zero_le _, by omega, rfl, by omega, rfl, Below.refl _ _⟩
  case round =>
    obtain ⟨j, p, rfl, h1, h2, rfl, hp, HP, HB⟩ := hrel
    by_cases hlt : j < n
    · obtain ⟨hr, hn, hok, Ba, y1, hM, ht, hT⟩ := HH.out
      obtain ⟨x, hx⟩ : ∃ x, l[j]? = some x := ⟨l[j]'(by omega), List.getElem?_eq_getElem (by omega)⟩
      have lowr : Below w.heap.size w wr := Ba.trans (HB.out.mono Ba.size)
      obtain ⟨b, off, rfl, hra⟩ := rangeT hr hx lowr
      obtain ⟨⟨a0, a1⟩, _⟩ := okU_iff.1 (hok x (List.mem_of_getElem? hx))
      obtain ⟨LD, TH, w3, O, HW3, eb, bl⟩ := use_new hra
      have IN : Hid ((Try.prog.info? UT).map (·.size) = some (utA x).size) := by show _ = _; kernel_rfl
      have ON := Lib.hid (utA_all x)
      obtain ⟨a, ha⟩ : ∃ a : Nat, x.ask = (a : Int) := ⟨x.ask.toNat, by omega⟩
      have d3 : w3.cell? ⟨O, 3, none⟩ = some (.int .i64 (a : Int)) := by rw [← ha]; exact (cell_of_block eb 3).trans rfl
      have B3 : Below wa.heap.size wa w3 := HB.out.trans (bl.mono HB.out.size)
      have y3 : w3.heap[B]? = some (.cells M MT (0, 0)) := (B3.block B (Array.getElem?_eq_some_iff.1 y1).1).trans y1
      have LM : Hid ((Instr.loadAt MT (.pointer (some ⟨B, 0, none⟩))).run Try.prog w3 = .ok (.agg M) w3) := by
        have h3 : M.toList.length = 3 := by rw [hM]; rfl
        have := run_loadAt_mid (P := Try.prog) w3 B 0 MT M.toList _ (Ld.rangeAt_block y3) Try.underlying24 rfl (by rw [h3]; kernel_rfl)
        rwa [Array.toArray_toList] at this
      have CG := Lib.hid (pp_goal w3 k s t a ht (by omega))
      rw [← hM] at CG
      obtain ⟨g, hg⟩ : ∃ g, g = goalN k t a := ⟨_, rfl⟩
      rw [← hg] at CG
      have TK : Hid (sumG k t (l.take (j + 1)) = p + g) := by
        show _ = _
        rw [sumG_take k t l hx, ha, Int.toNat_natCast, ← hg, HP.out]
      have TL : Hid (p + g ≤ T) := by
        show _ ≤ _
        have := sumG_le k t l (j + 1)
        rw [TK.out, ← hT] at this
        exact this
      obtain ⟨X, hX⟩ : ∃ X, X = utA x := ⟨_, rfl⟩
      rw [← hX] at LD TH HW3 IN ON
      have HX := Lib.hid (And.intro Ba (And.intro B3 eb))
      clear hr hn hok Ba y1 hM ht hT hx lowr hra a0 a1 ha y3 eb B3 bl hg hX
      go_upto_region 5 with (first | (refine wpList_load_by (by kernel_rfl) UT _ rfl (.pointer (some ⟨b, off + j * 5, none⟩)) (.agg X) (by rfl) LD.out ?_) | (refine wpList_store_mid rfl _ _ _ rfl wr.heap.size 0 X (by rfl) (by rfl) TH.out IN.out ON.out ?_; rw [HW3.out.1, HW3.out.2]))
      clear TH IN ON HW3 LD
      go_wp2_with (refine wpList_load_by (by kernel_rfl) MT _ rfl (.pointer (some ⟨B, 0, none⟩)) (.agg M) (by rfl) LM.out ?_)
      refine CG.out.mono ?_
      rintro e w4 ⟨rfl, b4⟩
      have B4 : Hid (Below wa.heap.size wa w4) := HX.out.2.1.trans (b4.mono HX.out.2.1.size)
      have BE : Hid (Below w.heap.size w w4) := HX.out.1.trans (B4.out.mono HX.out.1.size)
      clear b4 CG LM d3 HX
      by_cases hgo : 9007199254740992 < g
      · rw [(capV_over hgo).1, (capV_over hgo).2]
        have hTo : 9007199254740992 < T := by have := TL.out; omega
        have EQ := Lib.hid (capV_over hTo)
        clear hgo hTo
        go_wp2
        go_ret2
        exact ⟨by rw [EQ.out.1, EQ.out.2]; rfl, BE.out⟩
      · rw [(capV_in (by omega : g ≤ 9007199254740992)).1, (capV_in (by omega : g ≤ 9007199254740992)).2]
        by_cases hso : 9007199254740992 < p + g
        · have CA := Lib.hid (fun W => add_over (p : Int) (g : Int) W (by omega) (by omega) (by omega) (by omega) (by omega))
          have hTo : 9007199254740992 < T := by have := TL.out; omega
          have EQ := Lib.hid (capV_over hTo)
          clear hgo hTo hso hp
          go_wp2_with fail
          refine (CA.out _).mono ?_
          rintro e w5 ⟨rfl, rfl⟩
          go_wp2
          go_ret2
          exact ⟨by rw [EQ.out.1, EQ.out.2]; rfl, BE.out⟩
        · have CA := Lib.hid (fun W => add_within (p : Int) (g : Int) W (by omega) (by omega) (by omega) (by omega) (by omega))
          have ec : (p : Int) + (g : Int) = ((p + g : Nat) : Int) := by omega
          rw [ec] at CA
          have HS := Lib.hid (Nat.le_of_not_lt hso)
          clear hgo hso hp ec
          go_wp2_with fail
          refine (CA.out _).mono ?_
          rintro e w5 ⟨rfl, rfl⟩
          go_wp2
          go_roundg (n - (j + 1))
          case measure => omega
          case rel => exact ⟨j + 1, p + g, by push_cast; rfl, by omega, by omega, rfl, HS.out, TK.out.symm, B4.out⟩
    · obtain rfl : j = n := by omega
      have FIN : Hid (Below w.heap.size w wr) := HH.out.2.2.2.1.trans (HB.out.mono HH.out.2.2.2.1.size)
      have e : T = p := by
        obtain ⟨hr, hn, hok, Ba, y1, hM, ht, hT⟩ := HH.out
        have := HP.out
        rw [List.take_of_length_le (by omega)] at this
        rw [this, hT]
      subst e
      have EQ := Lib.hid (capV_in hp)
      clear HP HB HH
      go_wp2
      go_ret2
      exact ⟨by rw [EQ.out.1, EQ.out.2]; rfl, FIN.out⟩
end Go.Proofs.Ytajkhbdniadkkaa.Pp
