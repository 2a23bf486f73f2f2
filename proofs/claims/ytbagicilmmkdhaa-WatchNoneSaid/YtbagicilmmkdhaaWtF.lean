/- Events of one name, folded: the chapter's example. -/
import Derived.Test.YtbagicilmmkdhaaStO
import Derived.Laws.OwnMore
namespace Go.Proofs.Ytbagicilmmkdhaa
open Go.RowKit Go.Shelf Go.Lib Go.Sort
open Go.Maps (Keyed)
open Go.Joins (cell_of_block unfrozen_of_block block_setCell)
set_option linter.unusedVariables false
set_option linter.unusedSimpArgs false
set_option maxRecDepth 20000

abbrev HK : TypeId := 143
abbrev HT : TypeId := 141
theorem lawH : Keyed Try.prog HK := Keyed.of_law (deep_law_laid laidOut (m := 2) (by omega) (of_decide_eq_true (by kernel_rfl)) (by kernel_rfl) (by kernel_rfl))
theorem mapH : Try.prog.underlying HT = some (.map HK 3) := Try.underlying141
theorem key_atH {k : Int} {nm : ByteArray} (hk : I64 k) (hn : nm.size ≤ maxLen) : keyOf Try.prog HK (thing k nm) = some (kl k nm) := by
  have e1 : Try.prog.keyType HK = true := by kernel_rfl
  have e2 : (thing k nm).formed Try.prog HK = true := by
    simp [Value.formed, thing, Try.underlying143]
    kernel_rfl
  obtain ⟨fs, hfs⟩ : ∃ fs, Try.prog.underlying HK = some (.struct fs) := ⟨_, Try.underlying143⟩
  have e3 : Try.prog.keyLits (Try.prog.types.size + 1) HK [.int .i64 k, .string nm] = some [.int .i64 k, .string nm.data.toList] := by
    obtain ⟨m, hm⟩ : ∃ m, Try.prog.types.size = m + 1 := ⟨Try.prog.types.size - 1, by have : 0 < Try.prog.types.size := of_decide_eq_true (by kernel_rfl); omega⟩
    have c0 : Try.prog.cellsOf HK = 2 := by kernel_rfl
    have c1 : Try.prog.cellsOf 3 = 1 := by kernel_rfl
    have c2 : Try.prog.cellsOf 9 = 1 := by kernel_rfl
    rw [hm]
    simp [Program.keyLits, Try.underlying143, Try.underlying3, Try.underlying9, c0, c1, c2, i64_wf hk, hn]
  unfold keyOf
  rw [hfs]
  simp only
  rw [e1, e2]
  simp only [Bool.and_self, if_true]
  show Option.map _ (Try.prog.keyLits (Try.prog.types.size + 1) HK [.int .i64 k, .string nm]) = _
  rw [e3]
  rfl

/-- The block is a map of numbers that holds 'v' of the thing (k, nm). -/
structure CtIs (w : World) (mb n : Nat) (k : Int) (nm : ByteArray) (v : Option Int) : Prop where
  i64 : I64 k
  nam : nm.size ≤ maxLen
  own : ∃ D, w.ownsMap Try.prog HK hR mb n D ∧ Maps.has D (kl k nm) = v.isSome ∧ ∀ x, v = some x → D.atKey (kl k nm) (.held (.int .i64 0)) = .held (.int .i64 x)
theorem CtIs.stay {w w' : World} {mb n : Nat} {k : Int} {nm : ByteArray} {v : Option Int} (h : CtIs w mb n k nm v) (hb : w'.heap[mb]? = w.heap[mb]?) : CtIs w' mb n k nm v := by
  obtain ⟨a, b, D, ⟨es, c, h1, h2⟩, h3⟩ := h
  exact ⟨a, b, D, ⟨es, c, hb.trans h1, h2⟩, h3⟩
theorem CtIs.lt {w : World} {mb n : Nat} {k : Int} {nm : ByteArray} {v : Option Int} (h : CtIs w mb n k nm v) : mb < w.heap.size := by
  obtain ⟨_, _, D, ⟨es, c, h1, h2⟩, _⟩ := h
  exact (Array.getElem?_eq_some_iff.1 h1).1
theorem CtIs.made (w : World) {k : Int} {nm : ByteArray} (a : I64 k) (b : nm.size ≤ maxLen) : CtIs (w.alloc (.map #[] 0)) w.heap.size 0 k nm none :=
  ⟨a, b, _, World.ownsMap_made w _ _ _, rfl, fun x e => by cases e⟩
theorem CtIs.none_ {w : World} {mb n : Nat} {k : Int} {nm : ByteArray} (h : CtIs w mb n k nm none) : (Instr.lookup HT (.map (some mb)) (thing k nm) true).run Try.prog w = .ok (.tuple #[.int .i64 0, .bool false]) w := by
  obtain ⟨a, b, D, own, hh, _⟩ := h
  have hz : (zeroValue 3).run Try.prog w = .ok (.int .i64 0) w := by kernel_rfl
  obtain ⟨v, ps, hrun, hv⟩ := own.look_ok lawH mapH hz (zd := .held (.int .i64 0)) (zp := []) rfl (key_atH a b)
  have hh' : Maps.has D (kl k nm) = false := hh
  rw [hh'] at hrun
  rw [Maps.atKey_of_not_has hh'] at hv
  simp only [hR, Option.some.injEq, Prod.mk.injEq, DataW.held.injEq] at hv
  rw [hv.1] at hrun
  exact hrun
theorem CtIs.some_ {w : World} {mb n : Nat} {k : Int} {nm : ByteArray} {x : Int} (h : CtIs w mb n k nm (some x)) : (Instr.lookup HT (.map (some mb)) (thing k nm) true).run Try.prog w = .ok (.tuple #[.int .i64 x, .bool true]) w := by
  obtain ⟨a, b, D, own, hh, hx⟩ := h
  have hz : (zeroValue 3).run Try.prog w = .ok (.int .i64 0) w := by kernel_rfl
  obtain ⟨v, ps, hrun, hv⟩ := own.look_ok lawH mapH hz (zd := .held (.int .i64 0)) (zp := []) rfl (key_atH a b)
  have hh' : Maps.has D (kl k nm) = true := hh
  rw [hh'] at hrun
  rw [hx x rfl] at hv
  simp only [hR, Option.some.injEq, Prod.mk.injEq, DataW.held.injEq] at hv
  rw [hv.1] at hrun
  exact hrun
theorem CtIs.at_ {w : World} {mb n : Nat} {k : Int} {nm : ByteArray} {x : Int} (h : CtIs w mb n k nm (some x)) : (Instr.lookup HT (.map (some mb)) (thing k nm) false).run Try.prog w = .ok (.int .i64 x) w := by
  obtain ⟨a, b, D, own, hh, hx⟩ := h
  have hz : (zeroValue 3).run Try.prog w = .ok (.int .i64 0) w := by kernel_rfl
  obtain ⟨v, ps, hrun, hv⟩ := own.lookup lawH mapH hz (zd := .held (.int .i64 0)) (zp := []) rfl (key_atH a b)
  rw [hx x rfl] at hv
  simp only [hR, Option.some.injEq, Prod.mk.injEq, DataW.held.injEq] at hv
  rw [hv.1] at hrun
  exact hrun
theorem CtIs.set {w : World} {mb n : Nat} {k : Int} {nm : ByteArray} {v : Option Int} (h : CtIs w mb n k nm v) (hn : n < maxLen) (x : Int) :
    ∃ w', (Instr.mapUpdate HT (.map (some mb)) (thing k nm) (.int .i64 x)).run Try.prog w = .ok () w' ∧ CtIs w' mb (n + 1) k nm (some x) ∧ w.mapTurned w' mb := by
  obtain ⟨a, b, D, own, hh, hx⟩ := h
  obtain ⟨w', h1, h2, h3⟩ := own.store lawH mapH hn (key_atH a b) (val := .int .i64 x) (d := .held (.int .i64 x)) (ps := []) rfl
  have hm := (own.tidy lawH).isMap
  refine ⟨w', h1, ⟨a, b, _, h2, ?_, fun y e => ?_⟩, h3⟩
  · exact Maps.has_put_same hm (isKey _ _) _
  · cases e
    exact Maps.atKey_put_same hm (isKey _ _) _ _

theorem turned_chg9 {w w' : World} {mb : Nat} (h : w.mapTurned w' mb) : Chg [mb] w w' :=
  Chg.ofGrown (S := [mb]) h.grown (fun g e => .inl (by simp at e; simp [e]))
theorem together_one (w : World) : Calls Try.prog 60 #[.int .i64 0, .int .i64 1] w fun e w' => e = .returned (.tuple #[.int .i64 0, .bool true]) ∧ w' = w := by
  go_enter Try.func60, Try.ntmps60
  go_wp2
  refine bodyPost_ret (results_tmp2 rfl _ _ _) rfl ?_
  exact ⟨rfl, rfl⟩
theorem ins_oneE (q : Option Addr) (c : Nat) (fv : Value) (w : World) : Calls Try.prog 102 #[.slice q 1 c, .int .i64 0, .int .i64 1, fv] w fun e w' => e = .returned (.tuple #[]) ∧ w = w' := by
  go_enter Try.func102, Try.ntmps102
  go_wp2
  refine wp_loop_rounds 1 ?_
  rw [rounds_succ]
  go_wp2
  go_end0
  exact ⟨rfl, rfl⟩
theorem stable_oneE (q : Option Addr) (c : Nat) (fv : Value) (w : World) : Calls Try.prog 78 #[.slice q 1 c, .int .i64 1, fv] w fun e w' => e = .returned (.tuple #[]) ∧ w = w' := by
  have C := Lib.hid (fun W => ins_oneE q c fv W)
  go_enter Try.func78, Try.ntmps78
  go_wp2
  refine wp_loop_rounds 1 ?_
  rw [rounds_succ]
  go_wp2_with fail
  refine (C.out _).mono ?_
  rintro e w' ⟨rfl, rfl⟩
  go_wp2
  refine wp_loop_rounds 1 ?_
  rw [rounds_succ]
  go_wp2
  go_end0
  exact ⟨rfl, rfl⟩
theorem sortStable_oneE (q : Option Addr) (c : Nat) (fv : Value) (w : World) : Calls Try.prog 61 #[.slice q 1 c, fv] w fun e w' => e = .returned (.tuple #[]) ∧ w = w' := by
  have C := Lib.hid (fun W => stable_oneE q c fv W)
  go_enter Try.func61, Try.ntmps61
  go_wp2_with fail
  refine (C.out _).mono ?_
  rintro e w' ⟨rfl, rfl⟩
  go_wp2
  go_end0
  exact ⟨rfl, rfl⟩
def abW : Nat → Int | 0 => 0 | _ => 1
def abV : Nat → Nat | 0 => 1 | 1 => 2 | _ => 5
theorem i640 : I64 0 := by unfold I64; omega
theorem ev_info : ∃ ti : TypeInfo, Try.prog.info? ET = some ti ∧ ti.zero = some (.agg #[.int .i64 0, .int .i64 0, .string ⟨#[]⟩, .int .u64 0]) ∧ ti.size = 4 ∧ ti.bytes = 40 := by
  have hinf : (Try.prog.info? ET).map (fun i => (i.zero, i.size, i.bytes)) = some (some (.agg #[.int .i64 0, .int .i64 0, .string ⟨#[]⟩, .int .u64 0]), 4, 40) := by kernel_rfl
  cases hi : Try.prog.info? ET with
  | none => rw [hi] at hinf; cases hinf
  | some i =>
    rw [hi] at hinf
    simp only [Option.map_some, Option.some.injEq, Prod.mk.injEq] at hinf
    exact ⟨i, rfl, hinf.1, hinf.2.1, hinf.2.2⟩
set_option maxHeartbeats 8000000 in
theorem folded_abc (w : World) (g : Nat) (A : ByteArray) (hA : A.size ≤ maxLen) (hlt : g < w.heap.size)
    (hg : ∀ j, j < 3 → w.cell? ⟨g, j * 4, none⟩ = some (.int .i64 (abW j)) ∧ w.cell? ⟨g, j * 4 + 1, none⟩ = some (.int .i64 0) ∧ w.cell? ⟨g, j * 4 + 2, none⟩ = some (.string A) ∧ w.cell? ⟨g, j * 4 + 3, none⟩ = some (.int .u64 (abV j : Int))) :
    Calls Try.prog 40 #[.slice (some ⟨g, 0, none⟩) 3 3] w fun e w' => (∃ q c, e = .returned (.slice q 1 c) ∧ w'.ownsRow w.heap.size ET 4 (.slice q 1 c) 1 (encE ⟨0, 0, A, 5⟩)) ∧ Below w.heap.size w w' := by
  have mixed : Try.prog.follows .mixedOrders = true := by kernel_rfl
  have mk := @run_makeMap Try.prog
  obtain ⟨ti, hi, hz0, hz1, hz2⟩ := ev_info
  have hzi : (Try.prog.info? ET).map (fun i => (i.zero, i.size)) = some (some (.agg #[.int .i64 0, .int .i64 0, .string ⟨#[]⟩, .int .u64 0]), 4) := by kernel_rfl
  obtain ⟨M, hM⟩ : ∃ M, M = w.heap.size := ⟨_, rfl⟩
  obtain ⟨M2, hM2⟩ : ∃ M2, M2 = M + 1 := ⟨_, rfl⟩
  obtain ⟨w1, hw1⟩ : ∃ x, x = (w.alloc (.map #[] 0)).alloc (.map #[] 0) := ⟨_, rfl⟩
  have za : (w.alloc (.map #[] 0)).heap.size = M + 1 := by rw [hM]; simp
  have G1 : Gr w w1 := hw1 ▸ ((Gr.refl w).alloc _).alloc _
  have c1 : CtIs w1 M 0 0 A none := (hM ▸ CtIs.made w (k := 0) i640 hA).stay (by rw [hw1]; exact ((Gr.refl _).alloc _).heap (by rw [za]; omega))
  have c2 : CtIs w1 M2 0 0 A none := by
    have := CtIs.made (w.alloc (.map #[] 0)) (k := 0) (nm := A) i640 hA
    rwa [← hw1, za, ← hM2] at this
  have HW1 : Hid ((w.alloc (.map #[] 0)).alloc (.map #[] 0) = w1 ∧ w.heap.size = M ∧ M + 1 = M2) := ⟨hw1.symm, hM.symm, hM2.symm⟩
  have z1 : w1.heap.size = M + 2 := by rw [hw1, hM]; simp
  have HH := Lib.hid (And.intro G1 (And.intro c1 (And.intro c2 (And.intro z1 (And.intro hlt hg)))))
  have HA := Lib.hid hA
  clear hM hM2 hw1 za G1 c1 c2 z1 hlt hg hA
  go_enter Try.func40, Try.ntmps40
  go_upto_region 2 with fail
  rw [HW1.out.1, HW1.out.2.1, HW1.out.2.2]
  go_wp2_with fail
  go_loopg [20] 3 (fun gg vi wr => ∃ j : Nat, vi = .int .i64 (j : Int) ∧ j ≤ 3 ∧ 3 - j ≤ gg ∧ Hid (Chg [M, M2] w1 wr ∧ ∃ n1 n2, n1 ≤ j ∧ n2 ≤ j ∧ CtIs wr M n1 0 A (if j = 0 then none else some 0) ∧ CtIs wr M2 n2 0 A (if j = 0 then none else some ((j : Int) - 1))))
  case atStart => exact ⟨0, rfl, by omega, by omega, Chg.refl _ _, 0, 0, by omega, by omega, HH.out.2.1, HH.out.2.2.1⟩
  case round =>
    obtain ⟨j, rfl, h1, h2, HR⟩ := hrel
    by_cases hj : j < 3
    · obtain ⟨C, n1, n2, hn1, hn2, k1, k2⟩ := HR.out
      obtain ⟨G1, _, _, z1, hlt, hg⟩ := HH.out
      obtain ⟨_, hM, hM2⟩ := HW1.out
      have cc : ∀ t v, w.cell? ⟨g, t, none⟩ = some v → wr.cell? ⟨g, t, none⟩ = some v := fun t v h =>
        ((World.cell?_of_block (C.block g (by have := G1.below.size; omega) (by simp; omega))).trans (World.cell?_of_block (G1.heap hlt))).trans h
      obtain ⟨q0, q1, q2, q3⟩ := hg j hj
      obtain ⟨wa, hwa⟩ : ∃ x, x = abW j := ⟨_, rfl⟩
      obtain ⟨ve, hve⟩ : ∃ x, x = abV j := ⟨_, rfl⟩
      rw [← hwa] at q0
      rw [← hve] at q3
      have e0 := cc _ _ q0
      have e1 := cc _ _ q1
      have e2 := cc _ _ q2
      have e3 := cc _ _ q3
      obtain ⟨B, hB⟩ : ∃ B, B = wr.heap.size := ⟨_, rfl⟩
      obtain ⟨wb, hwb⟩ : ∃ x, x = (wr.alloc (.cells #[.int .i64 wa, .int .i64 0, .string A, .int .u64 (ve : Int)] ET)).alloc (.cells #[.int .i64 0, .string A] HK) := ⟨_, rfl⟩
      have Gb : Gr wr wb := hwb ▸ ((Gr.refl wr).alloc _).alloc _
      have zb : (wr.alloc (.cells #[.int .i64 wa, .int .i64 0, .string A, .int .u64 (ve : Int)] ET)).heap.size = B + 1 := by rw [hB]; simp
      have f1 : wb.heap[B + 1]? = some (.cells #[.int .i64 0, .string A] HK (0, 0)) := by rw [hwb, ← zb]; exact heap_alloc_new _ _
      have kb1 := k1.stay (Gb.heap k1.lt)
      have kb2 := k2.stay (Gb.heap k2.lt)
      have HWB : Hid ((wr.alloc (.cells #[.int .i64 wa, .int .i64 0, .string A, .int .u64 (ve : Int)] ET)).alloc (.cells #[.int .i64 0, .string A] HK) = wb ∧ wr.heap.size = B) := ⟨hwb.symm, hB.symm⟩
      have hMB : M < B ∧ M2 < B := by rw [hB]; exact ⟨k1.lt, k2.lt⟩
      have Cb : Chg [M, M2] w1 wb := C.trans (Chg.ofBelow Gb.below []) (by simp)
      by_cases h0 : j = 0
      · have kn : CtIs wb M n1 0 A none := by rw [if_pos h0] at kb1; exact kb1
        have r0 : (Instr.lookup HT (.map (some M)) (.agg #[.int .i64 0, .string A]) true).run Try.prog wb = .ok (.tuple #[.int .i64 0, .bool false]) wb := kn.none_
        obtain ⟨w4, u1, k4, t4⟩ := kb1.set (by unfold maxLen; omega) (j : Int)
        have C4 := turned_chg9 t4
        obtain ⟨w5, u2, k5, t5⟩ := (kb2.stay (C4.block M2 kb2.lt (by simp; omega))).set (by unfold maxLen; omega) (j : Int)
        have C5 := turned_chg9 t5
        have f4 : w4.heap[B + 1]? = some (.cells #[.int .i64 0, .string A] HK (0, 0)) := (C4.block (B + 1) (Array.getElem?_eq_some_iff.1 f1).1 (by simp; omega)).trans f1
        have d1 := cell_of_block f1 0
        have d2 := cell_of_block f1 1
        have d3 := cell_of_block f4 0
        have d4 := cell_of_block f4 1
        have v1 : (Instr.mapUpdate HT (.map (some M)) (.agg #[.int .i64 0, .string A]) (.int .i64 (j : Int))).run Try.prog wb = .ok () w4 := u1
        have v2 : (Instr.mapUpdate HT (.map (some M2)) (.agg #[.int .i64 0, .string A]) (.int .i64 (j : Int))).run Try.prog w4 = .ok () w5 := u2
        have RN : Hid (Chg [M, M2] w1 w5 ∧ ∃ n1 n2, n1 ≤ j + 1 ∧ n2 ≤ j + 1 ∧ CtIs w5 M n1 0 A (if j + 1 = 0 then none else some 0) ∧ CtIs w5 M2 n2 0 A (if j + 1 = 0 then none else some (((j + 1 : Nat) : Int) - 1))) := by
          refine ⟨(Cb.trans C4 (by simp)).trans C5 (by simp), n1 + 1, n2 + 1, by omega, by omega, ?_, ?_⟩
          · rw [if_neg (by omega)]
            have := k4.stay (C5.block M k4.lt (by simp; omega))
            rwa [show (j : Int) = 0 by omega] at this
          · rw [if_neg (by omega), show (((j + 1 : Nat) : Int) - 1) = (j : Int) by omega]
            exact k5
        clear HR C k1 k2 G1 z1 hlt hg hM hM2 cc q0 q1 q2 q3 hwa hve hB hwb Gb zb f1 kb1 kb2 hMB Cb kn u1 k4 t4 C4 u2 k5 t5 C5 f4 h0 hn1 hn2
        go_upto_region 6 with fail
        rw [HWB.out.1, HWB.out.2]
        go_upto_region 10 with fail
        go_wp2_with fail
        go_roundg (3 - (j + 1))
        case measure => omega
        case rel => exact ⟨j + 1, by push_cast; rfl, by omega, by omega, RN⟩
      · have kn : CtIs wb M n1 0 A (some 0) := by rw [if_neg h0] at kb1; exact kb1
        have r0 : (Instr.lookup HT (.map (some M)) (.agg #[.int .i64 0, .string A]) true).run Try.prog wb = .ok (.tuple #[.int .i64 0, .bool true]) wb := kn.some_
        obtain ⟨w5, u2, k5, t5⟩ := kb2.set (by unfold maxLen; omega) (j : Int)
        have C5 := turned_chg9 t5
        have d1 := cell_of_block f1 0
        have d2 := cell_of_block f1 1
        have v2 : (Instr.mapUpdate HT (.map (some M2)) (.agg #[.int .i64 0, .string A]) (.int .i64 (j : Int))).run Try.prog wb = .ok () w5 := u2
        have RN : Hid (Chg [M, M2] w1 w5 ∧ ∃ n1 n2, n1 ≤ j + 1 ∧ n2 ≤ j + 1 ∧ CtIs w5 M n1 0 A (if j + 1 = 0 then none else some 0) ∧ CtIs w5 M2 n2 0 A (if j + 1 = 0 then none else some (((j + 1 : Nat) : Int) - 1))) := by
          refine ⟨Cb.trans C5 (by simp), n1, n2 + 1, by omega, by omega, ?_, ?_⟩
          · rw [if_neg (by omega)]
            exact kn.stay (C5.block M kn.lt (by simp; omega))
          · rw [if_neg (by omega), show (((j + 1 : Nat) : Int) - 1) = (j : Int) by omega]
            exact k5
        clear HR C k1 k2 G1 z1 hlt hg hM hM2 cc q0 q1 q2 q3 hwa hve hB hwb Gb zb f1 kb1 kb2 hMB Cb kn u2 k5 t5 C5 h0 hn1 hn2
        go_upto_region 6 with fail
        rw [HWB.out.1, HWB.out.2]
        go_upto_region 10 with fail
        go_wp2_with fail
        go_roundg (3 - (j + 1))
        case measure => omega
        case rel => exact ⟨j + 1, by push_cast; rfl, by omega, by omega, RN⟩
    · have hj3 : j = 3 := by omega
      subst hj3
      have H3 : Hid (Chg [M, M2] w1 wr ∧ ∃ n1 n2, CtIs wr M n1 0 A (some 0) ∧ CtIs wr M2 n2 0 A (some 2)) := by
        obtain ⟨C, n1, n2, _, _, k1, k2⟩ := HR.out
        exact ⟨C, n1, n2, k1, k2⟩
      clear HR
      obtain ⟨wm, hwm⟩ : ∃ x, x = wr := ⟨_, rfl⟩
      rw [← hwm] at H3 ⊢
      clear hwm
      go_wp2_with fail
      go_loopg [47, 10] 3 (fun gg vi vf wr => ∃ j : Nat, vi = .int .i64 (j : Int) ∧ j ≤ 3 ∧ 3 - j ≤ gg ∧ ((j ≤ 2 ∧ vf = .slice none 0 0 ∧ Hid (Chg [] wm wr)) ∨ (j = 3 ∧ ∃ q c, vf = .slice q 1 c ∧ Hid (Chg [] wm wr ∧ wr.ownsRow wm.heap.size ET 4 (.slice q 1 c) 1 (encE ⟨0, 0, A, 5⟩)))))
      case atStart => exact ⟨0, rfl, by omega, by omega, .inl ⟨by omega, rfl, Chg.refl _ _⟩⟩
      case round =>
        obtain ⟨j, rfl, h1, h2, ⟨hj2, rfl, HC⟩ | ⟨rfl, q, c, rfl, HC⟩⟩ := hrel
        · obtain ⟨C, n1, n2, k1, k2⟩ := H3.out
          obtain ⟨G1, _, _, z1, hlt, hg⟩ := HH.out
          obtain ⟨_, hM, hM2⟩ := HW1.out
          have low : w1.heap.size ≤ wm.heap.size := C.size
          have cc : ∀ t v, w.cell? ⟨g, t, none⟩ = some v → wr.cell? ⟨g, t, none⟩ = some v := fun t v h =>
            (((World.cell?_of_block (HC.out.block g (by have := G1.below.size; omega) (by simp))).trans (World.cell?_of_block (C.block g (by have := G1.below.size; omega) (by simp; omega)))).trans (World.cell?_of_block (G1.heap hlt))).trans h
          obtain ⟨q0, q1, q2, q3⟩ := hg j (by omega)
          obtain ⟨wa, hwa⟩ : ∃ x, x = abW j := ⟨_, rfl⟩
          obtain ⟨ve, hve⟩ : ∃ x, x = abV j := ⟨_, rfl⟩
          rw [← hwa] at q0
          rw [← hve] at q3
          have e0 := cc _ _ q0
          have e1 := cc _ _ q1
          have e2 := cc _ _ q2
          have e3 := cc _ _ q3
          have g0 := cc _ _ (hg 0 (by omega)).1
          obtain ⟨B, hB⟩ : ∃ B, B = wr.heap.size := ⟨_, rfl⟩
          obtain ⟨wb, hwb⟩ : ∃ x, x = (wr.alloc (.cells #[.int .i64 wa, .int .i64 0, .string A, .int .u64 (ve : Int)] ET)).alloc (.cells #[.int .i64 0, .string A] HK) := ⟨_, rfl⟩
          have Gb : Gr wr wb := hwb ▸ ((Gr.refl wr).alloc _).alloc _
          have Ga : Gr (wr.alloc (.cells #[.int .i64 wa, .int .i64 0, .string A, .int .u64 (ve : Int)] ET)) wb := hwb ▸ (Gr.refl _).alloc _
          have zb : (wr.alloc (.cells #[.int .i64 wa, .int .i64 0, .string A, .int .u64 (ve : Int)] ET)).heap.size = B + 1 := by rw [hB]; simp
          have f0 : wb.heap[B]? = some (.cells #[.int .i64 wa, .int .i64 0, .string A, .int .u64 (ve : Int)] ET (0, 0)) := by
            rw [Ga.heap (by rw [zb]; omega), hB]
            exact heap_alloc_new _ _
          have f1 : wb.heap[B + 1]? = some (.cells #[.int .i64 0, .string A] HK (0, 0)) := by rw [hwb, ← zb]; exact heap_alloc_new _ _
          have lt1 := k1.lt
          have lt2 := k2.lt
          have kb1 := (k1.stay (HC.out.block M lt1 (by simp))).stay (Gb.heap (Nat.lt_of_lt_of_le lt1 HC.out.size))
          have kb2 := (k2.stay (HC.out.block M2 lt2 (by simp))).stay (Gb.heap (Nat.lt_of_lt_of_le lt2 HC.out.size))
          have HWB : Hid ((wr.alloc (.cells #[.int .i64 wa, .int .i64 0, .string A, .int .u64 (ve : Int)] ET)).alloc (.cells #[.int .i64 0, .string A] HK) = wb ∧ wr.heap.size = B) := ⟨hwb.symm, hB.symm⟩
          have Cb : Chg [] wm wb := HC.out.trans (Chg.ofBelow Gb.below []) (by simp)
          have hBm : wm.heap.size ≤ B := by rw [hB]; exact HC.out.size
          have hwb2 : wb.heap.size = B + 2 := by rw [hwb, hB]; simp
          have d1 := cell_of_block f1 0
          have d2 := cell_of_block f1 1
          have r0 : (Instr.lookup HT (.map (some M2)) (.agg #[.int .i64 0, .string A]) false).run Try.prog wb = .ok (.int .i64 2) wb := kb2.at_
          by_cases hj2' : j < 2
          · have t0 : ((2 : Int) != (j : Int)) = true := bne_iff_ne.2 (by omega)
            have CB := Lib.hid Cb
            clear HC C k1 k2 G1 z1 hlt hg hM hM2 low cc q0 q1 q2 q3 hwa hve hB hwb Gb Ga zb f0 f1 lt1 lt2 kb1 kb2 Cb hBm hwb2 g0
            go_upto_region 16 with fail
            rw [HWB.out.1, HWB.out.2]
            go_wp2_with fail
            go_roundg (3 - (j + 1))
            case measure => omega
            case rel => exact ⟨j + 1, by push_cast; rfl, by omega, by omega, .inl ⟨by omega, rfl, CB.out⟩⟩
          · have hje : j = 2 := by omega
            have t0 : ((2 : Int) != (j : Int)) = false := by rw [hje]; rfl
            have hwa1 : wa = 1 := by rw [hwa, hje]; rfl
            have hve5 : ve = 5 := by rw [hve, hje]; rfl
            subst hwa1
            have HV := Lib.hid hve5
            clear hwa hje hve5
            have KL : Hid (∀ ws : World, Below wb.heap.size wb ws → ws.rangeAt (B + 1) 0 [.int .i64 0, .string A]) := fun ws b => rangeAt_block (cs := #[.int .i64 0, .string A]) ((b.block (B + 1) (Array.getElem?_eq_some_iff.1 f1).1).trans f1)
            have KK : Hid (∀ ws : World, Below wb.heap.size wb ws → (Instr.lookup HT (.map (some M)) (.agg #[.int .i64 0, .string A]) false).run Try.prog ws = .ok (.int .i64 0) ws) := fun ws b => (kb1.stay (b.block M kb1.lt)).at_
            have lg : g < wb.heap.size := by have := G1.below.size; have := HC.out.size; omega
            have gB : wb.cell? ⟨g, 0, none⟩ = some (.int .i64 0) := by
              have h := (World.cell?_of_block (a := ⟨g, 0, none⟩) (Gb.heap (by have := G1.below.size; have := HC.out.size; show g < _; omega))).trans g0
              exact h
            have KG : Hid (∀ ws : World, Below wb.heap.size wb ws → ws.cell? ⟨g, 0, none⟩ = some (.int .i64 0)) := fun ws b => (World.cell?_of_block (b.block g lg)).trans gB
            have KB : Hid (∀ ws : World, Below wb.heap.size wb ws → ws.cell? ⟨B, 0, none⟩ = some (.int .i64 1)) := fun ws b => (World.cell?_of_block (b.block B (Array.getElem?_eq_some_iff.1 f0).1)).trans (cell_of_block f0 0)
            have hik : (Try.prog.info? HK).map (·.size) = some ([.int .i64 0, .string A] : List Value).length := by kernel_rfl
            have huk := Try.underlying143
            have GD : Hid (Below wb.heap.size wb wb.drew) := ((Gr.refl wb).drewN 1).below
            have HF := Lib.hid (And.intro f0 (And.intro Cb (And.intro hBm hwb2)))
            clear HC C k1 k2 G1 z1 hlt hg hM hM2 low cc q0 q1 q2 q3 hve hB hwb Gb Ga zb f0 f1 lt1 lt2 kb1 kb2 Cb hBm hwb2 g0 lg gB
            go_upto_region 16 with fail
            rw [HWB.out.1, HWB.out.2]
            go_upto_region 17 with fail
            refine wp_region_held_drew (S := fun ws => Below wb.heap.size wb ws) mixed GD.out (fun hS => ?_)
            refine wpAnyH_takeD (i := 0) (d := 63) (v := .slice (some ⟨g, 0, none⟩) 3 3) _ rfl rfl (by kernel_rfl) (by kernel_rfl) (by kernel_rfl) (fun _ _ _ h => h) (Or.inl ⟨by kernel_rfl, fun ws hSw => by first | (go_simp; done) | (go_simp; with_reducible rfl) | (go_simp; rfl)⟩) hS ?_
            simp only [Act.put, List.setIfInBounds_toArray, List.set_cons_zero, List.set_cons_succ]
            refine wpAnyH_takeD (i := 1) (d := 64) (v := .map (some M)) _ rfl rfl (by kernel_rfl) (by kernel_rfl) (by kernel_rfl) (fun _ _ _ h => h) (Or.inl ⟨by kernel_rfl, fun ws hSw => by first | (go_simp; done) | (go_simp; with_reducible rfl) | (go_simp; rfl)⟩) hS ?_
            simp only [Act.put, List.setIfInBounds_toArray, List.set_cons_zero, List.set_cons_succ]
            refine wpAnyH_takeD (i := 2) (d := 65) (v := .agg #[.int .i64 0, .string A]) _ rfl rfl (by kernel_rfl) (by kernel_rfl) (by kernel_rfl) (fun _ _ _ h => h) (yieldsIf_load_mid (by kernel_rfl) _ _ rfl (B + 1) 0 (by kernel_rfl) [.int .i64 0, .string A] _ (fun ws hSw => KL.out ws hSw) huk rfl hik) hS ?_
            simp only [Act.put, List.setIfInBounds_toArray, List.set_cons_zero, List.set_cons_succ]
            refine wpAnyH_takeD (i := 3) (d := 66) (v := .int .i64 0) _ rfl rfl (by kernel_rfl) (by kernel_rfl) (by kernel_rfl) (fun _ _ _ h => h) (Or.inl ⟨by kernel_rfl, fun ws hSw => by have q := KK.out ws hSw; first | (go_simp; done) | (go_simp; with_reducible rfl) | (go_simp; rfl)⟩) hS ?_
            simp only [Act.put, List.setIfInBounds_toArray, List.set_cons_zero, List.set_cons_succ]
            refine wpAnyH_takeD (i := 4) (d := 67) (v := .pointer (some ⟨g, 0, none⟩)) _ rfl rfl (by kernel_rfl) (by kernel_rfl) (by kernel_rfl) (fun _ _ _ h => h) (Or.inl ⟨by kernel_rfl, fun ws hSw => by first | (go_simp; done) | (go_simp; with_reducible rfl) | (go_simp; rfl)⟩) hS ?_
            simp only [Act.put, List.setIfInBounds_toArray, List.set_cons_zero, List.set_cons_succ]
            refine wpAnyH_takeD (i := 5) (d := 68) (v := .pointer (some ⟨g, 0, none⟩)) _ rfl rfl (by kernel_rfl) (by kernel_rfl) (by kernel_rfl) (fun _ _ _ h => h) (Or.inl ⟨by kernel_rfl, fun ws hSw => by first | (go_simp; done) | (go_simp; with_reducible rfl) | (go_simp; rfl)⟩) hS ?_
            simp only [Act.put, List.setIfInBounds_toArray, List.set_cons_zero, List.set_cons_succ]
            refine wpAnyH_takeD (i := 6) (d := 69) (v := .int .i64 0) _ rfl rfl (by kernel_rfl) (by kernel_rfl) (by kernel_rfl) (fun _ _ _ h => h) (Or.inl ⟨by kernel_rfl, fun ws hSw => by have q := KG.out ws hSw; first | (go_simp; done) | (go_simp; with_reducible rfl) | (go_simp; rfl)⟩) hS ?_
            simp only [Act.put, List.setIfInBounds_toArray, List.set_cons_zero, List.set_cons_succ]
            refine wpAnyH_takeD (i := 7) (d := 70) (v := .pointer (some ⟨B, 0, none⟩)) _ rfl rfl (by kernel_rfl) (by kernel_rfl) (by kernel_rfl) (fun _ _ _ h => h) (Or.inl ⟨by kernel_rfl, fun ws hSw => by first | (go_simp; done) | (go_simp; with_reducible rfl) | (go_simp; rfl)⟩) hS ?_
            simp only [Act.put, List.setIfInBounds_toArray, List.set_cons_zero, List.set_cons_succ]
            refine wpAnyH_takeD (i := 8) (d := 71) (v := .int .i64 1) _ rfl rfl (by kernel_rfl) (by kernel_rfl) (by kernel_rfl) (fun _ _ _ h => h) (Or.inl ⟨by kernel_rfl, fun ws hSw => by have q := KB.out ws hSw; first | (go_simp; done) | (go_simp; with_reducible rfl) | (go_simp; rfl)⟩) hS ?_
            simp only [Act.put, List.setIfInBounds_toArray, List.set_cons_zero, List.set_cons_succ]
            refine wpAnyH_ready (rs := [9]) (by kernel_rfl) (by simp) ?_
            refine AllReadyH.cons rfl (fun K hK => ?_) AllReadyH.nil
            go_simp
            refine (together_one _).mono ?_
            rintro e w' ⟨rfl, rfl⟩
            refine hK _ _ hS (fun hS => ?_)
            try simp only [Act.put, List.setIfInBounds_toArray, List.set_cons_zero, List.set_cons_succ]
            refine wpAnyH_takeD (i := 10) (d := 62) (v := .tuple #[.int .i64 0, .bool true]) _ rfl rfl (by kernel_rfl) (by kernel_rfl) (by kernel_rfl) (fun _ _ _ h => h) (Or.inl ⟨by kernel_rfl, fun ws hSw => by first | (go_simp; done) | (go_simp; with_reducible rfl) | (go_simp; rfl)⟩) hS ?_
            simp only [Act.put, List.setIfInBounds_toArray, List.set_cons_zero, List.set_cons_succ]
            refine wpAnyH_takeD (i := 11) (d := 73) (v := .int .i64 0) _ rfl rfl (by kernel_rfl) (by kernel_rfl) (by kernel_rfl) (fun _ _ _ h => h) (Or.inl ⟨by kernel_rfl, fun ws hSw => by first | (go_simp; done) | (go_simp; with_reducible rfl) | (go_simp; rfl)⟩) hS ?_
            simp only [Act.put, List.setIfInBounds_toArray, List.set_cons_zero, List.set_cons_succ]
            refine wpAnyH_takeD (i := 12) (d := 74) (v := .bool true) _ rfl rfl (by kernel_rfl) (by kernel_rfl) (by kernel_rfl) (fun _ _ _ h => h) (Or.inl ⟨by kernel_rfl, fun ws hSw => by first | (go_simp; done) | (go_simp; with_reducible rfl) | (go_simp; rfl)⟩) hS ?_
            simp only [Act.put, List.setIfInBounds_toArray, List.set_cons_zero, List.set_cons_succ]
            refine wpAnyH_takeD (i := 13) (d := 14) (v := .int .i64 0) _ rfl rfl (by kernel_rfl) (by kernel_rfl) (by kernel_rfl) (fun _ _ _ h => h) (Or.inl ⟨by kernel_rfl, fun ws hSw => by first | (go_simp; done) | (go_simp; with_reducible rfl) | (go_simp; rfl)⟩) hS ?_
            simp only [Act.put, List.setIfInBounds_toArray, List.set_cons_zero, List.set_cons_succ]
            refine wpAnyH_takeD (i := 14) (d := 15) (v := .bool true) _ rfl rfl (by kernel_rfl) (by kernel_rfl) (by kernel_rfl) (fun _ _ _ h => h) (Or.inl ⟨by kernel_rfl, fun ws hSw => by first | (go_simp; done) | (go_simp; with_reducible rfl) | (go_simp; rfl)⟩) hS ?_
            simp only [Act.put, List.setIfInBounds_toArray, List.set_cons_zero, List.set_cons_succ]
            refine wpAnyH_done (by kernel_rfl) ?_ _
            clear KL KK KG KB hik huk GD hS
            obtain ⟨f0, Cb, hBm, hwb2⟩ := HF.out
            obtain ⟨wc, hwc⟩ : ∃ x, x = (wb.drew).setCell ⟨B, 0, none⟩ (.int .i64 0) := ⟨_, rfl⟩
            have b0 : wc.heap[B]? = some (.cells #[.int .i64 0, .int .i64 0, .string A, .int .u64 (ve : Int)] ET (0, 0)) := by rw [hwc, block_setCell (w := wb.drew) f0]; rfl
            have Cc : Chg [] wm wc := by
              rw [hwc]
              exact (Cb.trans (Chg.ofBelow ((Gr.refl wb).drewN 1).below []) (by simp)).setCell 0 _ (.inr hBm)
            have s0 : wb.drew.cell? ⟨B, 0, none⟩ = some (.int .i64 1) := cell_of_block (w := wb.drew) f0 0
            have s1 : wb.drew.frozen? ⟨B, 0, none⟩ = false := unfrozen_of_block (w := wb.drew) f0 0
            have l0 := cell_of_block b0 0
            have l1 := cell_of_block b0 1
            have l2 := cell_of_block b0 2
            have l3 := cell_of_block b0 3
            have hzc : B < wc.heap.size := (Array.getElem?_eq_some_iff.1 b0).1
            obtain ⟨E, hE⟩ : ∃ E, E = wc.heap.size := ⟨_, rfl⟩
            obtain ⟨wd, hwd⟩ : ∃ x, x = wc.alloc (.cells #[.int .i64 0, .int .i64 0, .string A, .int .u64 (ve : Int)] ET) := ⟨_, rfl⟩
            have Gd : Gr wc wd := hwd ▸ (Gr.refl wc).alloc _
            have e0' : wd.heap[E]? = some (.cells #[.int .i64 0, .int .i64 0, .string A, .int .u64 (ve : Int)] ET (0, 0)) := by rw [hwd, hE]; exact heap_alloc_new _ _
            have news : Hid (∀ j u, (encE ⟨0, 0, A, ve⟩)[j]? = some u → wd.cell? ((⟨E, 0, none⟩ : Addr).add j) = some u) := fun j u hu => by
              rw [add_none', Nat.zero_add]
              exact (cell_of_block e0' j).trans (by rw [← hu, ← Array.getElem?_toList]; rfl)
            have own0 : Hid (wd.ownsRow wm.heap.size ET 4 (.slice none 0 0) 0 []) := World.ownsRow_nil _ _ _ _
            have HWC : Hid ((wb.setCell ⟨B, 0, none⟩ (.int .i64 0)).drew = wc ∧ wc.alloc (.cells #[.int .i64 0, .int .i64 0, .string A, .int .u64 (ve : Int)] ET) = wd ∧ wc.heap.size = E) := ⟨hwc.symm, hwd.symm, hE.symm⟩
            have hmd : wm.heap.size ≤ wd.heap.size := by have := Cc.size; have := Gd.below.size; omega
            have HD := Lib.hid (And.intro Cc Gd)
            clear f0 Cb hBm hwb2 hwc b0 Cc hE hwd Gd e0' hzc HF
            go_upto_region 20 with fail
            rw [HWC.out.1]
            go_wp2_with (first
              | (refine wpList_step fun K hK => ?_; refine step_build (by rfl) SlE ET _ rfl (.agg #[.int .i64 0, .int .i64 0, .string ⟨#[]⟩, .int .u64 0]) 4 #[.int .i64 0, .int .i64 0, .string A, .int .u64 (ve : Int)] (by rfl) rfl (by decide) (by decide) Try.underlying32 hzi ?_; refine hK _ _ ?_; rw [HWC.out.2.1, HWC.out.2.2])
              | (at_builtin; refine wpList_append_own_at wd rfl _ _ SlE rfl wm.heap.size ET ti _ 4 40 Try.underlying32 hi hz0 hz1 hz2 rfl (by decide) (.slice none 0 0) 0 [] (by rfl) own0.out ⟨E, 0, none⟩ 1 1 (encE ⟨0, 0, A, ve⟩) (by rfl) rfl news.out (oneE _) (by unfold maxLen; omega) (by omega) hmd ?_; intro v5 w5 ho5 hg5 hn5 ha5; obtain ⟨q5, c5, rfl⟩ := own_slice ho5))
            have FIN : Hid (Chg [] wm w5 ∧ w5.ownsRow wm.heap.size ET 4 (.slice q5 (0 + 1) c5) (0 + 1) (encE ⟨0, 0, A, 5⟩)) := by
              obtain ⟨Cc, Gd⟩ := HD.out
              have h5 : ve = 5 := HV.out
              refine ⟨(Cc.trans (Chg.ofBelow Gd.below []) (by simp)).trans (Chg.ofGrown hg5 (S := []) (fun k e => by simp [Value.ownBlock] at e)) (by simp), ?_⟩
              rw [h5] at ho5
              simpa using ho5
            rw [Nat.zero_add] at FIN
            clear ho5 hg5 hn5 ha5 news own0 HD HV
            go_wp2_with fail
            go_roundg (3 - (j + 1))
            case measure => omega
            case rel => exact ⟨j + 1, by push_cast; rfl, by omega, by omega, .inr ⟨by omega, q5, c5, rfl, FIN.out⟩⟩
        · have CS := Lib.hid (fun fv => sortStable_oneE q c fv wr)
          have FIN : Hid (wr.ownsRow w.heap.size ET 4 (.slice q 1 c) 1 (encE ⟨0, 0, A, 5⟩) ∧ Below w.heap.size w wr) := by
            obtain ⟨C, ho⟩ := HC.out
            obtain ⟨C0, _⟩ := H3.out
            obtain ⟨G1, _, _, z1, hlt, hg⟩ := HH.out
            obtain ⟨_, hM, hM2⟩ := HW1.out
            have b1 : Below w.heap.size w1 wm := C0.below (fun g hg => by simp at hg; omega) (G1.below.size)
            have b2 : Below w.heap.size wm wr := C.below (fun g hg => by simp at hg) (by have := C0.size; have := G1.below.size; omega)
            exact ⟨own_mono ho (by have := C0.size; have := G1.below.size; omega), (G1.below.trans b1).trans b2⟩
          clear HC H3 HH HW1
          go_wp2_with fail
          refine (CS.out _).mono ?_
          rintro e w' ⟨rfl, rfl⟩
          go_wp2
          go_ret
          exact ⟨⟨q, c, rfl, FIN.out.1⟩, FIN.out.2⟩

set_option maxHeartbeats 4000000 in
/-- The chapter's example. -/
theorem watch_lives (w : World) : Calls Try.prog 22 #[] w fun e w' => e = .returned (.bool true) ∧ Below w.heap.size w w' := by
  have mixed : Try.prog.follows .mixedOrders = true := by kernel_rfl
  obtain ⟨g, hg⟩ : ∃ g, g = w.heap.size := ⟨_, rfl⟩
  obtain ⟨A, hA⟩ : ∃ A : ByteArray, A = ⟨#[97]⟩ := ⟨_, rfl⟩
  obtain ⟨w1, hw1⟩ : ∃ x, x = w.alloc (.cells #[.int .i64 0, .int .i64 0, .string ⟨#[97]⟩, .int .u64 1, .int .i64 1, .int .i64 0, .string ⟨#[97]⟩, .int .u64 2, .int .i64 1, .int .i64 0, .string ⟨#[97]⟩, .int .u64 5] ET) := ⟨_, rfl⟩
  have G1 : Gr w w1 := hw1 ▸ (Gr.refl w).alloc _
  have b1 : w1.heap[g]? = some (.cells #[.int .i64 0, .int .i64 0, .string A, .int .u64 1, .int .i64 1, .int .i64 0, .string A, .int .u64 2, .int .i64 1, .int .i64 0, .string A, .int .u64 5] ET (0, 0)) := by rw [hw1, hg, hA]; exact heap_alloc_new w _
  have CF := Lib.hid (folded_abc w1 g A (by rw [hA]; decide) (Array.getElem?_eq_some_iff.1 b1).1 (fun j hj => by
    rcases (show j = 0 ∨ j = 1 ∨ j = 2 by omega) with rfl | rfl | rfl
    · exact ⟨cell_of_block b1 0, cell_of_block b1 1, cell_of_block b1 2, cell_of_block b1 3⟩
    · exact ⟨cell_of_block b1 4, cell_of_block b1 5, cell_of_block b1 6, cell_of_block b1 7⟩
    · exact ⟨cell_of_block b1 8, cell_of_block b1 9, cell_of_block b1 10, cell_of_block b1 11⟩))
  have HW : Hid (w.alloc (.cells #[.int .i64 0, .int .i64 0, .string ⟨#[97]⟩, .int .u64 1, .int .i64 1, .int .i64 0, .string ⟨#[97]⟩, .int .u64 2, .int .i64 1, .int .i64 0, .string ⟨#[97]⟩, .int .u64 5] ET) = w1 ∧ w.heap.size = g) := ⟨hw1.symm, hg.symm⟩
  have HA := Lib.hid hA
  have HG := Lib.hid G1
  clear hg hw1 G1 b1 hA
  go_enter Try.func22, Try.ntmps22
  go_wp2_with fail
  rw [HW.out.1, HW.out.2]
  refine CF.out.mono ?_
  rintro e w2 ⟨⟨q, c, rfl, own⟩, b2⟩
  obtain ⟨h, cap, cur, hq, hh⟩ : ∃ (h cap : Nat) (cur : Array Value), Value.slice q 1 c = .slice (some ⟨h, 0, none⟩) 1 cap ∧ w2.heap[h]? = some (.cells cur ET (0, 0)) := by
    rcases own.2 with ⟨_, h0⟩ | ⟨h, cap, cur, e1, e2, e3, _⟩
    · omega
    · exact ⟨h, cap, cur, e1, e3⟩
  cases hq
  have e0 : w2.cell? ⟨h, 0, none⟩ = some (.int .i64 0) := own.cells (g := h) rfl 0 _ rfl
  have e1 : w2.cell? ⟨h, 1, none⟩ = some (.int .i64 0) := own.cells (g := h) rfl 1 _ rfl
  have e2 : w2.cell? ⟨h, 2, none⟩ = some (.string ⟨#[97]⟩) := by have := own.cells (g := h) rfl 2 _ rfl; rw [HA.out] at this; exact this
  have e3 : w2.cell? ⟨h, 3, none⟩ = some (.int .u64 5) := own.cells (g := h) rfl 3 _ rfl
  have FIN : Hid (Below w.heap.size w w2) := HG.out.below.trans (b2.mono HG.out.below.size)
  clear own b2 hh CF HG
  go_wp2
  go_ret
  exact ⟨rfl, FIN.out⟩
end Go.Proofs.Ytbagicilmmkdhaa
