/- Pods: a workload's cells; a workload as an object by itself; pods.Made; the document's Same. -/
import Derived.Test.YtcfilaiejccfkaaPoC
import Derived.Test.YtcfilaiejccfkaaVaR
import Derived.Laws.StructEq
import Derived.Deep.QuietTactic
import Derived.BigQuiet
namespace Go.Proofs.Ytcfilaiejccfkaa.Po
open Go.RowKit Go.Shelf Go.Lib Go.Sort Go.Deep
open Go.Joins (cell_of_block unfrozen_of_block block_setCell)
set_option linter.unusedVariables false
set_option linter.unusedSimpArgs false
set_option maxRecDepth 20000

abbrev WT : TypeId := 33
/-- The cells of a workload. -/
def WlS (w : World) (P : Array Value) (x : Wl) : Prop :=
  P.size = 7 ∧ P[0]? = some (.int .i64 x.rep) ∧ P[1]? = some (.int .i64 x.cpu) ∧ P[2]? = some (.int .i64 x.mem) ∧ SlR 2 encL w P[3]? x.lab ∧ SlR 3 encR w P[4]? x.sel ∧ SlR 2 encL w P[5]? x.tol ∧ P[6]? = some (.int .i64 x.warm)
theorem WlS.below {w w' : World} {P : Array Value} {x : Wl} (h : WlS w P x) (hb : Below w.heap.size w w') : WlS w' P x := by
  obtain ⟨a0, a1, a2, a3, a4, a5, a6, a7⟩ := h
  exact ⟨a0, a1, a2, a3, a4.below hb, a5.below hb, a6.below hb, a7⟩
def NilW (P : Array Value) : Prop := ∀ i n c, i ∈ ([3, 4, 5] : List Nat) → P[i]? = some (.slice none n c) → c = 0
theorem arr7 {D : Array Value} (h : D.size = 7) : ∃ d0 d1 d2 d3 d4 d5 d6, D = #[d0, d1, d2, d3, d4, d5, d6] := by
  obtain ⟨l⟩ := D
  match l, h with
  | [d0, d1, d2, d3, d4, d5, d6], _ => exact ⟨d0, d1, d2, d3, d4, d5, d6, rfl⟩
/-- An object that is but a workload. -/
def wkC (nm : ByteArray) (P : Array Value) : Array Value := #[.int .i64 0, .string nm, .int .u64 0] ++ (P ++ zerC.extract 10 47)
def wkO (nm : ByteArray) (x : Wl) : Ob := ⟨0, nm, 0, x, zerO.p, zerO.n, zerO.g, zerO.h⟩
theorem wkC_lit (nm : ByteArray) (d0 d1 d2 d3 d4 d5 d6 : Value) : wkC nm #[d0, d1, d2, d3, d4, d5, d6] = #[.int .i64 0, .string nm, .int .u64 0, d0, d1, d2, d3, d4, d5, d6, .string { data := #[] }, .string { data := #[] }, .int .i64 0, .int .i64 0, .int .i64 0, .int .i64 0, .slice none 0 0, .slice none 0 0, .slice none 0 0, .int .i64 0, .string { data := #[] }, .int .i64 0, .int .i64 0, .slice none 0 0, .slice none 0 0, .int .i64 0, .bool false, .int .i64 0, .int .i64 0, .int .i64 0, .int .i64 0, .int .i64 0, .slice none 0 0, .slice none 0 0, .int .i64 0, .string { data := #[] }, .int .i64 0, .int .i64 0, .slice none 0 0, .int .i64 0, .int .i64 0, .int .i64 0, .slice none 0 0, .int .i64 0, .int .i64 0, .slice none 0 0, .slice none 0 0] := by kernel_rfl
theorem built3 (nm : ByteArray) {P : Array Value} (h : P.size = 7) : Try.prog.built OT [(0, .int .i64 0), (1, .string nm), (3, .agg P)] = some (wkC nm P) := by
  obtain ⟨d0, d1, d2, d3, d4, d5, d6, rfl⟩ := arr7 h
  kernel_rfl
theorem obj_wl {w : World} {P : Array Value} {x : Wl} (h : WlS w P x) (nm : ByteArray) : ObjV w (wkC nm P) (wkO nm x) := by
  obtain ⟨a0, a1, a2, a3, a4, a5, a6, a7⟩ := h
  obtain ⟨d0, d1, d2, d3, d4, d5, d6, rfl⟩ := arr7 a0
  rw [wkC_lit]
  have rL : SlR 2 encL w (some (.slice none 0 0)) [] := ⟨none, 0, rfl, RowR.nil _ _ _ _⟩
  have rR : SlR 3 encR w (some (.slice none 0 0)) [] := ⟨none, 0, rfl, RowR.nil _ _ _ _⟩
  have rM : SlR 3 encM w (some (.slice none 0 0)) [] := ⟨none, 0, rfl, RowR.nil _ _ _ _⟩
  have rP : SlR 3 encP w (some (.slice none 0 0)) [] := ⟨none, 0, rfl, RowR.nil _ _ _ _⟩
  have rS : SlR 3 encS w (some (.slice none 0 0)) [] := ⟨none, 0, rfl, RowR.nil _ _ _ _⟩
  exact ⟨rfl, ⟨rfl, rfl, rfl, show 0 < 18446744073709551616 by decide⟩, ⟨a1, a2, a3, a4, a5, a6, a7⟩, ⟨rfl, rfl, rfl, rfl, rfl, rfl, rL, rR, rL, rfl⟩, ⟨rfl, rfl, rfl, rL, rL, rfl, rfl⟩, ⟨rfl, rfl, rfl, rfl, rfl, rL, rL, rfl⟩, ⟨rfl, rfl, rfl, rM, rfl, rfl, rfl, rP, rfl, rfl, rP, rS⟩⟩
theorem info_wt : (Try.prog.info? WT).map (·.size) = some 7 := by kernel_rfl
theorem load_wl {w : World} {b : Nat} {P : Array Value} {T : TypeId} {fz : Nat × Nat} (h : w.heap[b]? = some (.cells P T fz)) (hs : P.size = 7) : (Instr.loadAt WT (.pointer (some ⟨b, 0, none⟩))).run Try.prog w = .ok (.agg P) w := by
  have h1 := run_loadAt_mid (P := Try.prog) w b 0 WT P.toList _ (Ld.rangeAt_block h) Try.underlying33 rfl (by rw [Array.length_toList, hs]; exact info_wt)
  simpa using h1
/-- A pod as a workload asks for it. -/
def mdP (x : Wl) (own : ByteArray) (now : Int) : Pd := ⟨own, ⟨#[]⟩, 0, now, x.cpu, x.mem, x.lab, x.sel, x.tol, x.warm⟩
/-- .. may be, where the workload may. -/
theorem rgt_made (x : Wl) (now : Int) (h : rgtE (wkO ⟨#[119]⟩ x) = 0) (h0 : 0 ≤ now) (h1 : now ≤ 4611686018427387904) : rgtE (podO 1 ⟨#[119, 45, 48, 48, 48, 48]⟩ 0 (mdP x ⟨#[119]⟩ now)) = 0 := by
  have hw : l_w (wkO ⟨#[119]⟩ x) = true := by
    unfold rgtE at h
    rw [if_neg (by show ¬ ((0 : Int) < 0 ∨ 4 < (0 : Int)); decide)] at h
    split at h
    · cases h
    · split at h
      · cases h
      · rename_i h3
        simp only [Bool.not_eq_false, Bool.and_eq_true] at h3
        exact h3.2
  have hq : wantsB x.cpu x.mem x.lab x.sel x.tol x.warm = true := by
    unfold l_w at hw
    simp only [Bool.and_eq_true] at hw
    exact hw.2
  unfold rgtE
  rw [if_neg (by show ¬ ((1 : Int) < 0 ∨ 4 < (1 : Int)); decide), if_neg (by show ¬ (nameB ⟨#[119, 45, 48, 48, 48, 48]⟩ = false); decide), if_neg]
  have he : empE (podO 1 ⟨#[119, 45, 48, 48, 48, 48]⟩ 0 (mdP x ⟨#[119]⟩ now)) = true := by
    show ((_ || false) && (_ || true) && (_ || false) && (_ || false) && (_ || false)) = true
    simp only [Bool.or_true, Bool.and_true, Bool.or_false]
    rfl
  rw [he, Bool.true_and, Bool.not_eq_false]
  show l_p _ = true
  unfold l_p
  show (nameB ⟨#[119]⟩ && mayB ⟨#[]⟩ && decide ((0 : Int) ≤ 0) && decide ((0 : Int) ≤ 3) && decide (0 ≤ now) && decide (now ≤ 4611686018427387904) && wantsB x.cpu x.mem x.lab x.sel x.tol x.warm && (((0 : Int) == 3) || (((0 : Int) == 0) == decide ((⟨#[]⟩ : ByteArray).size = 0)))) = true
  rw [hq, decide_eq_true h0, decide_eq_true h1]
  decide
theorem built_md (own : ByteArray) (now cpu mem : Int) (q4 q5 q6 : Option Addr) (n4 n5 n6 k4 k5 k6 : Nat) (warm : Int) : Try.prog.built PT [(0, .string own), (2, .int .i64 0), (3, .int .i64 now), (4, .agg #[.int .i64 cpu, .int .i64 mem]), (5, .slice q4 n4 k4), (6, .slice q5 n5 k5), (7, .slice q6 n6 k6), (8, .int .i64 warm)] = some #[.string own, .string { data := #[] }, .int .i64 0, .int .i64 now, .int .i64 cpu, .int .i64 mem, .slice q4 n4 k4, .slice q5 n5 k5, .slice q6 n6 k6, .int .i64 warm] := by kernel_rfl

set_option maxHeartbeats 4000000 in
theorem made_any (w0 : World) (P0 : Array Value) (x : Wl) (own : ByteArray) (now : Int) (hv : WlS w0 P0 x) (hn : NilW P0) (hs : x.lab.length ≤ 1000 ∧ x.sel.length ≤ 1000 ∧ x.tol.length ≤ 1000) :
    Calls Try.prog 13 #[.agg P0, .string own, .int .i64 now] w0 fun e w' => (∃ P, e = .returned (.agg P) ∧ PdS w' P (mdP x own now) ∧ OwnP w0.heap.size w' (mdP x own now) P) ∧ Below w0.heap.size w0 w' := by
  obtain ⟨B, hB⟩ : ∃ B, B = w0.heap.size := ⟨_, rfl⟩
  obtain ⟨w, hw⟩ : ∃ W, W = (w0.alloc (.cells P0 WT)).alloc (.cells zerP PT) := ⟨_, rfl⟩
  have G0 : Gr w0 w := hw ▸ ((Gr.refl w0).alloc _).alloc _
  have b0 : w.heap[B]? = some (.cells P0 WT (0, 0)) := by
    rw [hw, hB, ((Gr.refl (w0.alloc (.cells P0 WT))).alloc _).heap (by simp)]
    exact heap_alloc_new w0 _
  have b1 : w.heap[B + 1]? = some (.cells zerP PT (0, 0)) := by
    rw [hw, hB]
    have := heap_alloc_new (w0.alloc (.cells P0 WT)) (.cells zerP PT)
    simpa using this
  have hws : w.heap.size = B + 2 := by rw [hw, hB]; simp
  obtain ⟨a0, a1, a2, a3, ⟨q4, k4, a4, r4⟩, ⟨q5, k5, a5, r5⟩, ⟨q6, k6, a6, r6⟩, a7⟩ := hv.below G0.below
  have c1 : w.cell? ⟨B, 1, none⟩ = some (.int .i64 x.cpu) := (cell_of_block b0 1).trans a2
  have c2 : w.cell? ⟨B, 2, none⟩ = some (.int .i64 x.mem) := (cell_of_block b0 2).trans a3
  have c3 : w.cell? ⟨B, 3, none⟩ = some (.slice q4 x.lab.length k4) := (cell_of_block b0 3).trans a4
  have c4 : w.cell? ⟨B, 4, none⟩ = some (.slice q5 x.sel.length k5) := (cell_of_block b0 4).trans a5
  have c5 : w.cell? ⟨B, 5, none⟩ = some (.slice q6 x.tol.length k6) := (cell_of_block b0 5).trans a6
  have c6 : w.cell? ⟨B, 6, none⟩ = some (.int .i64 x.warm) := (cell_of_block b0 6).trans a7
  obtain ⟨MC, hMC⟩ : ∃ C : Array Value, C = #[.string own, .string { data := #[] }, .int .i64 0, .int .i64 now, .int .i64 x.cpu, .int .i64 x.mem, .slice q4 x.lab.length k4, .slice q5 x.sel.length k5, .slice q6 x.tol.length k6, .int .i64 x.warm] := ⟨_, rfl⟩
  have pm : PdS w MC (mdP x own now) := by
    rw [hMC]
    exact ⟨rfl, rfl, rfl, rfl, rfl, rfl, rfl, ⟨q4, k4, rfl, r4⟩, ⟨q5, k5, rfl, r5⟩, ⟨q6, k6, rfl, r6⟩, rfl⟩
  have nm : NilP MC := by
    rw [hMC]
    intro i n c hi hc
    simp only [List.mem_cons, List.not_mem_nil, or_false] at hi
    rcases hi with rfl | rfl | rfl
    · exact hn 3 n c (by decide) (a4.trans hc)
    · exact hn 4 n c (by decide) (a5.trans hc)
    · exact hn 5 n c (by decide) (a6.trans hc)
  have RB := Lib.hid (built_md own now x.cpu x.mem q4 q5 q6 x.lab.length x.sel.length x.tol.length k4 k5 k6 x.warm)
  rw [← hMC] at RB
  have CC := Lib.hid (renew_any w MC (mdP x own now) pm nm hs)
  have HW := Lib.hid (And.intro hw (And.intro hB (And.intro hws (And.intro b1 G0))))
  obtain ⟨y, hy⟩ : ∃ y, y = mdP x own now := ⟨_, rfl⟩
  rw [← hy] at CC ⊢
  clear hv hn hs hw hB hws b0 b1 G0 hMC pm nm a0 a1 a2 a3 a4 a5 a6 a7 r4 r5 r6 hy
  go_enter Try.func13, Try.ntmps13
  go_upto_region 1 with fail
  rw [← HW.out.1, ← HW.out.2.1]
  go_wp2_with (first | (refine wpList_known (by kernel_rfl) (run_builtP rfl (by kernel_rfl) RB.out _) ?_))
  refine CC.out.mono ?_
  rintro e m ⟨⟨P, rfl, pd, po⟩, hb⟩
  have hws := HW.out.2.2.1
  have bm1 : m.heap[B + 1]? = some (.cells zerP PT (0, 0)) := (hb.block (B + 1) (by omega)).trans HW.out.2.2.2.1
  have TH := Lib.hid (Ld.there_block bm1 (n := P.size) (by rw [pd.1]; rfl))
  have IN : Hid ((Try.prog.info? PT).map (·.size) = some P.size) := by show _ = _; rw [pd.1]; exact info_pt
  have ON := Lib.hid pd.one
  have EB : Hid ((m.setCells (B + 1) 0 P.toList).heap[B + 1]? = some (.cells P PT (0, 0))) := Ld.laid bm1 (by rw [pd.1]; rfl)
  have EF : Hid ((∃ P', Ending.returned (.agg P) = .returned (.agg P') ∧ PdS (m.setCells (B + 1) 0 P.toList) P' y ∧ OwnP w0.heap.size (m.setCells (B + 1) 0 P.toList) y P') ∧ Below w0.heap.size w0 (m.setCells (B + 1) 0 P.toList)) := by
    have k : OwnP w.heap.size (m.setCells (B + 1) 0 P.toList) y P := po.keep (fun g h1 h2 => setCells_out _ _ _ _ _ (by omega))
    have hB := HW.out.2.1
    refine ⟨⟨P, rfl, pd.own k, k.less (by omega)⟩, ?_⟩
    have G0 := HW.out.2.2.2.2
    exact Ld.below_setCells _ _ _ (by omega) (G0.below.trans (hb.mono G0.size))
  clear pd po hb bm1 hws CC RB
  go_wp2_with (refine wpList_store_mid rfl _ _ _ rfl (B + 1) 0 P (by rfl) (by rfl) TH.out IN.out ON.out ?_)
  refine bodyPost_ret (results_cell_row rfl _ _ (B + 1) PT P (0, 0) _ (by rfl) EB.out Try.underlying28 rfl IN.out) rfl ?_
  exact EF.out

/-! ### the document's Same of two rows that say the same -/
theorem neq_lab (x : Lab) (w : World) : (binOp .neq 58 (.agg #[.string x.1, .string x.2]) (.agg #[.string x.1, .string x.2])).run Try.prog w = .ok (.bool false) w := by
  have hS : Try.prog.underlying 58 = some (.struct (Try.prog.fieldsOf 58)) := by kernel_rfl
  have hp : Try.prog.stoodInHeld 58 = false := by kernel_rfl
  rw [run_neq_struct, show (10000 : Nat) = 9999 + 1 from rfl, run_equalIn_agg w 9999 58 _ _ hS hp]
  simp only [Program.fieldsOf, Try.underlying58]
  go_simp
theorem neq_ask (x : Int × Int) (w : World) : (binOp .neq 24 (.agg #[.int .i64 x.1, .int .i64 x.2]) (.agg #[.int .i64 x.1, .int .i64 x.2])).run Try.prog w = .ok (.bool false) w := by
  have hS : Try.prog.underlying 24 = some (.struct (Try.prog.fieldsOf 24)) := by kernel_rfl
  have hp : Try.prog.stoodInHeld 24 = false := by kernel_rfl
  rw [run_neq_struct, show (10000 : Nat) = 9999 + 1 from rfl, run_equalIn_agg w 9999 24 _ _ hS hp]
  simp only [Program.fieldsOf, Try.underlying24]
  go_simp

set_option maxHeartbeats 1000000 in
theorem same05_any (w : World) (q p : Option Addr) (c d : Nat) (l : List Lab) (ha : RowR 2 encL w q l) (hb : RowR 2 encL w p l) (hl : l.length ≤ 1000000) :
    Calls Try.prog 14 #[.slice q l.length c, .slice p l.length d] w fun e w' => e = .returned (.bool true) ∧ Below w.heap.size w w' := by
  have mixed : Try.prog.follows .mixedOrders = true := by kernel_rfl
  have HA := Lib.hid ha
  have HB := Lib.hid hb
  have HN := Lib.hid neq_lab
  have hg : Try.prog.eqGuardType Try.prog.depth 58 = false := by kernel_rfl
  clear ha hb
  go_enter Try.func14, Try.ntmps14
  go_wp2_with fail
  go_loopg [5, 13] l.length (fun g _ vk wr => ∃ k : Nat, vk = .int .i64 (k : Int) ∧ k ≤ l.length ∧ l.length - k ≤ g ∧ Hid (Below w.heap.size w wr))
  case atStart => exact ⟨0, rfl, Nat.zero_le _, Nat.le_refl _, Below.refl _ _⟩
  case round =>
    obtain ⟨k, rfl, hk, hgg, HW⟩ := hrel
    by_cases hlt : k < l.length
    · obtain ⟨x, hx⟩ : ∃ x, l[k]? = some x := ⟨l[k], List.getElem?_eq_getElem hlt⟩
      obtain ⟨b1, o1, rfl, h1, c0⟩ := (HA.out.below HW.out) k x hx
      obtain ⟨b2, o2, rfl, h2, d0⟩ := (HB.out.below HW.out) k x hx
      have c1 : wr.cell? ⟨b1, o1 + k * 2, none⟩ = some (.string x.1) := c0 0 _ rfl
      have c2 : wr.cell? ⟨b1, o1 + k * 2 + 1, none⟩ = some (.string x.2) := c0 1 _ rfl
      have d1 : wr.cell? ⟨b2, o2 + k * 2, none⟩ = some (.string x.1) := d0 0 _ rfl
      have d2 : wr.cell? ⟨b2, o2 + k * 2 + 1, none⟩ = some (.string x.2) := d0 1 _ rfl
      have hn := HN.out x
      clear hx c0 d0
      go_wp2_with fail
      go_quiet (fail)
      go_wp2_with fail
      go_roundg (l.length - (k + 1))
      case measure => omega
      case rel => exact ⟨k + 1, by go_num, hlt, Nat.le_refl _, HW.out.trans (((Gr.refl wr).drewN _).below.mono HW.out.size)⟩
    · obtain rfl : k = l.length := by omega
      go_wp2
      go_ret
      exact ⟨rfl, HW.out⟩
end Go.Proofs.Ytcfilaiejccfkaa.Po
