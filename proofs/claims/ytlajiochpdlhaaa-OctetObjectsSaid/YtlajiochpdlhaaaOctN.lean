/- Numbers through the course: of int. -/
import Derived.Test.YtlajiochpdlhaaaOctK
import Derived.StillTailTactics
namespace Go.Proofs.Ytlajiochpdlhaaa
open Go.RowKit Go.Shelf Go.Lib Go.Sort
open Go.Joins (cell_of_block unfrozen_of_block block_setCell)
set_option linter.unusedVariables false
set_option maxRecDepth 20000

theorem set_same {L : Array Value} {i : Nat} {v : Value} (h : L[i]? = some v) : L.setIfInBounds i v = L := by
  obtain ⟨hi, hv⟩ := Array.getElem?_eq_some_iff.1 h
  apply Array.ext
  · simp
  · intro k h1 h2
    rw [Array.getElem_setIfInBounds]
    split
    · rename_i e
      subst e
      exact hv.symm
    · rfl
/-- The pointers' block. -/
abbrev ptrs {α : Type} (O : Nat) (ps : List (Nat × α)) : Array Value := (ps.map fun p => Value.pointer (some ⟨O, p.1, none⟩)).toArray
theorem ptrs_at {α : Type} {O : Nat} {ps : List (Nat × α)} {j : Nat} {p : Nat × α} (h : ps[j]? = some p) : (ptrs O ps)[j]? = some (.pointer (some ⟨O, p.1, none⟩)) := by simp [ptrs, h]
theorem runF_step {α : Type} {f : St → α → St × α} {m : α → Value} {st : St} {L : Array Value} {ps : List (Nat × α)} {j : Nat} {p : Nat × α} (h : ps[j]? = some p) :
    runF f m st L (ps.drop j) = runF f m (f st p.2).1 (L.setIfInBounds p.1 (m (f st p.2).2)) (ps.drop (j + 1)) := by
  obtain ⟨hj, rfl⟩ := List.getElem?_eq_some_iff.1 h
  rw [List.drop_eq_getElem_cons hj, runF]
theorem rest_vals {α : Type} {m : α → Value} {L : Array Value} {ps : List (Nat × α)} {j : Nat} {p : Nat × α} (h : ps[j]? = some p) (hnd : (ps.map (·.1)).Nodup) (hv : ∀ q ∈ ps.drop j, L[q.1]? = some (m q.2)) (v : Value) :
    ∀ q ∈ ps.drop (j + 1), (L.setIfInBounds p.1 v)[q.1]? = some (m q.2) := by
  obtain ⟨hj, rfl⟩ := List.getElem?_eq_some_iff.1 h
  intro q hq
  have hq2 : q ∈ ps.drop j := by rw [List.drop_eq_getElem_cons hj]; exact List.mem_cons_of_mem _ hq
  have hne : ps[j].1 ≠ q.1 := by
    have h1 : ((ps.drop j).map (·.1)).Nodup := by
      rw [List.map_drop]
      exact hnd.sublist (List.drop_sublist _ _)
    rw [List.drop_eq_getElem_cons hj, List.map_cons, List.nodup_cons] at h1
    exact fun e => h1.1 (List.mem_map.2 ⟨q, hq, e.symm⟩)
  rw [Array.getElem?_setIfInBounds_ne hne]
  exact hv q hq2
theorem mem_drop_of {α : Type} {ps : List α} {j : Nat} {p : α} (h : ps[j]? = some p) : p ∈ ps.drop j := by
  obtain ⟨hj, rfl⟩ := List.getElem?_eq_some_iff.1 h
  rw [List.drop_eq_getElem_cons hj]
  exact List.mem_cons_self
/-- A block that is new at the start is as it was. -/
theorem blk_new {A C O D : Nat} {w w0 wr : World} {X : Obj} (hA : A < w.heap.size) (hC : C < w.heap.size) (hO : O < w.heap.size) (hD : D = w.heap.size) (hw0 : w0 = w.alloc X) (hy : ∀ b, yb w A = some b → b < w.heap.size) (m : Mv A C O w0 wr) : wr.heap[D]? = some X := by
  subst hw0 hD
  rw [m.blk _ (by simp) (by omega) (by omega) (by omega) (fun e => ?_)]
  · exact heap_alloc_new w X
  · rw [yb_block (((Gr.refl w).alloc X).heap hA)] at e
    have := hy _ e
    omega
theorem core_yb {N A C : Nat} {st : St} {w : World} (h : CoreSt N A C st w) : ∀ b, yb w A = some b → b < w.heap.size := by
  intro b hb
  obtain ⟨_, _, _, _, _, _, h7, _⟩ := h
  exact (h7 b hb).2.2

set_option maxHeartbeats 2000000 in
theorem numI_wr (w : World) (N A C O : Nat) (lg : Bool) (bs : List UInt8) (L : Array Value) (T : TypeId) (fz : Nat × Nat) (ps : List (Nat × Int)) (hc : CoreSt N A C (.wr lg bs) w) (ht : Tg A C O L T fz w) (hv : ∀ p ∈ ps, L[p.1]? = some ((Value.int .i64) p.2)) (hnd : (ps.map (·.1)).Nodup) (hlen : ps.length ≤ 100) (hl : bs.length + 256 * ps.length ≤ 1000000000) :
    Calls Try.prog 50 #[ptr C, .slice (some ⟨w.heap.size, 0, none⟩) ps.length ps.length] (w.alloc (.cells (ptrs O ps) 98)) fun e w' => e = .returned (.tuple #[]) ∧ Pst N A C O (runF numT (Value.int .i64) (.wr lg bs) L ps).1 (runF numT (Value.int .i64) (.wr lg bs) L ps).2 T fz w w' := by
  have mixed : Try.prog.follows .mixedOrders = true := by kernel_rfl
  obtain ⟨D, hD⟩ : ∃ D, D = w.heap.size := ⟨_, rfl⟩
  obtain ⟨w0, hw0⟩ : ∃ w0, w0 = w.alloc (.cells (ptrs O ps) 98) := ⟨_, rfl⟩
  have G0 : Gr w w0 := hw0 ▸ (Gr.refl w).alloc _
  rw [← hD, ← hw0]
  have BN : Hid (∀ wr, Mv A C O w0 wr → wr.heap[D]? = some (.cells (ptrs O ps) 98)) := fun wr m => blk_new hc.ltA hc.ltC ht.lt hD hw0 (core_yb hc) m
  have P0 : Hid (Pst N A C O (.wr lg bs) L T fz w w0) := (Pst.start hc ht).gr1 G0
  have HV := Lib.hid hv
  have HND := Lib.hid hnd
  clear hv hnd hc ht G0 hw0 hD
  go_enter Try.func50, Try.ntmps50
  go_wp2_with fail
  go_loopg [8] ps.length (fun g vi wr => ∃ (j : Nat) (lg' : Bool) (bs' : List UInt8) (L' : Array Value), j ≤ ps.length ∧ ps.length - j ≤ g ∧ vi = .int .i64 (j : Int) ∧ bs'.length + 256 * (ps.length - j) ≤ 1000000000 ∧ Hid (runF numT (Value.int .i64) (.wr lg' bs') L' (ps.drop j) = runF numT (Value.int .i64) (.wr lg bs) L ps) ∧ Hid (∀ p ∈ ps.drop j, L'[p.1]? = some ((Value.int .i64) p.2)) ∧ Hid (Pst N A C O (.wr lg' bs') L' T fz w wr) ∧ Hid (Mv A C O w0 wr))
  case atStart => exact ⟨0, lg, bs, L, Nat.zero_le _, by omega, rfl, by omega, rfl, HV.out, P0.out, Mv.refl _ _ _ _⟩
  case round =>
    obtain ⟨j, lg', bs', L', hj, hg, rfl, hb, HR, HV', HP, HM⟩ := hrel
    by_cases hlt : j < ps.length
    · obtain ⟨p, hp⟩ : ∃ p, ps[j]? = some p := ⟨ps[j], List.getElem?_eq_getElem hlt⟩
      have d1 : wr.cell? ⟨D, j, none⟩ = some (.pointer (some ⟨O, p.1, none⟩)) := by rw [cell_of_block (BN.out wr HM.out)]; exact ptrs_at hp
      have hx := HV'.out p (mem_drop_of hp)
      have HS := runF_step (f := numT) (m := (Value.int .i64)) (st := .wr lg' bs') (L := L') hp
      have HN := rest_vals (m := (Value.int .i64)) hp HND.out HV'.out ((Value.int .i64) (numT (.wr lg' bs') p.2).2)
      obtain ⟨i, x⟩ := p
      dsimp only at d1 hx HS HN
      have o1 : wr.cell? ⟨O, i, none⟩ = some ((Value.int .i64) x) := by rw [cell_of_block HP.out.2.1.1]; exact hx
      have c0 : wr.cell? ⟨C, 0, none⟩ = some (ptr A) := cell_of_block HP.out.1.2.2.2.2.2.2.2.1 0
      have c1 : wr.cell? ⟨C, 1, none⟩ = some (.pointer none) := cell_of_block HP.out.1.2.2.2.2.2.2.2.1 1
      have WC : Hid (∀ W, Gr wr W → Calls Try.prog 10 #[ptr A, .int .i64 x] W fun e w' => e = .returned (.tuple #[]) ∧ WrM w' N A (bs' ++ num x) ∧ Mv A A A W w') := fun W g => wint_ok W N A bs' x (HP.out.1.2.2.2.2.2.2.2.2.gr g) (Nat.le_trans HP.out.1.leN g.size) (by omega)
      have HH := Lib.hid (And.intro HS HN)
      have HX := Lib.hid hx
      clear hp hx HS HN HV'
      go_wp2_with fail
      go_still_tail 7, (by kernel_rfl)
      change wpList _ _ _ _ _ wr.drew
      have G2 : Hid (Gr wr wr.drew) := (Gr.refl wr).drew
      generalize wr.drew = w2 at *
      go_wp2_with fail
      refine (WC.out _ G2.out).mono ?_
      rintro e w3 ⟨rfl, k1, k2⟩
      have HP3 : Hid (Pst N A C O (.wr lg' (bs' ++ num x)) L' T fz w w3) := (HP.out.gr1 G2.out).wr k1 k2
      have HM3 : Hid (Mv A C O w0 w3) := (HM.out.trans (Mv.gr HP.out.1.ltA G2.out)).trans k2.more
      clear k1 k2 WC
      go_wp2_with fail
      go_roundg (ps.length - (j + 1))
      case measure => omega
      case rel =>
        refine ⟨j + 1, lg', bs' ++ num x, L', hlt, Nat.le_refl _, by go_num, ?_, ?_, ?_, HP3.out, HM3.out⟩
        · rw [List.length_append, num_len]
          omega
        · have h := HH.out.1
          rw [show (numT (.wr lg' bs') x).2 = x from rfl, set_same HX.out] at h
          exact h.symm.trans HR.out
        · have h := HH.out.2
          rw [show (numT (.wr lg' bs') x).2 = x from rfl, set_same HX.out] at h
          exact h
    · obtain rfl : j = ps.length := by omega
      have h := HR.out
      rw [List.drop_length, runF] at h
      have F : Hid (Pst N A C O (runF numT (Value.int .i64) (.wr lg bs) L ps).1 (runF numT (Value.int .i64) (.wr lg bs) L ps).2 T fz w wr) := by
        show Pst _ _ _ _ _ _ _ _ _ _
        rw [← h]
        exact HP.out
      clear h HR
      go_wp2
      go_end0
      exact ⟨rfl, F.out⟩

set_option maxHeartbeats 2000000 in
theorem numI_rd (w : World) (N A C O : Nat) (ro : Option Addr) (s : Sr) (L : Array Value) (T : TypeId) (ps : List (Nat × Int)) (hc : CoreSt N A C (.rd ro s) w) (ht : Tg A C O L T (0, 0) w) (hv : ∀ p ∈ ps, L[p.1]? = some ((Value.int .i64) p.2)) (hnd : (ps.map (·.1)).Nodup) (hlen : ps.length ≤ 100) :
    Calls Try.prog 50 #[ptr C, .slice (some ⟨w.heap.size, 0, none⟩) ps.length ps.length] (w.alloc (.cells (ptrs O ps) 98)) fun e w' => e = .returned (.tuple #[]) ∧ Pst N A C O (runF numT (Value.int .i64) (.rd ro s) L ps).1 (runF numT (Value.int .i64) (.rd ro s) L ps).2 T (0, 0) w w' := by
  have mixed : Try.prog.follows .mixedOrders = true := by kernel_rfl
  obtain ⟨D, hD⟩ : ∃ D, D = w.heap.size := ⟨_, rfl⟩
  obtain ⟨w0, hw0⟩ : ∃ w0, w0 = w.alloc (.cells (ptrs O ps) 98) := ⟨_, rfl⟩
  have G0 : Gr w w0 := hw0 ▸ (Gr.refl w).alloc _
  rw [← hD, ← hw0]
  have BN : Hid (∀ wr, Mv A C O w0 wr → wr.heap[D]? = some (.cells (ptrs O ps) 98)) := fun wr m => blk_new hc.ltA hc.ltC ht.lt hD hw0 (core_yb hc) m
  have P0 : Hid (Pst N A C O (.rd ro s) L T (0, 0) w w0) := (Pst.start hc ht).gr1 G0
  have HV := Lib.hid hv
  have HND := Lib.hid hnd
  clear hv hnd hc ht G0 hw0 hD
  go_enter Try.func50, Try.ntmps50
  go_wp2_with fail
  go_loopg [8] ps.length (fun g vi wr => ∃ (j : Nat) (s' : Sr) (L' : Array Value), j ≤ ps.length ∧ ps.length - j ≤ g ∧ vi = .int .i64 (j : Int) ∧ Hid (runF numT (Value.int .i64) (.rd ro s') L' (ps.drop j) = runF numT (Value.int .i64) (.rd ro s) L ps) ∧ Hid (∀ p ∈ ps.drop j, L'[p.1]? = some ((Value.int .i64) p.2)) ∧ Hid (Pst N A C O (.rd ro s') L' T (0, 0) w wr) ∧ Hid (Mv A C O w0 wr))
  case atStart => exact ⟨0, s, L, Nat.zero_le _, by omega, rfl, rfl, HV.out, P0.out, Mv.refl _ _ _ _⟩
  case round =>
    obtain ⟨j, s', L', hj, hg, rfl, HR, HV', HP, HM⟩ := hrel
    by_cases hlt : j < ps.length
    · obtain ⟨p, hp⟩ : ∃ p, ps[j]? = some p := ⟨ps[j], List.getElem?_eq_getElem hlt⟩
      have d1 : wr.cell? ⟨D, j, none⟩ = some (.pointer (some ⟨O, p.1, none⟩)) := by rw [cell_of_block (BN.out wr HM.out)]; exact ptrs_at hp
      have hx := HV'.out p (mem_drop_of hp)
      have HS := runF_step (f := numT) (m := (Value.int .i64)) (st := .rd ro s') (L := L') hp
      have HN := rest_vals (m := (Value.int .i64)) hp HND.out HV'.out ((Value.int .i64) (numT (.rd ro s') p.2).2)
      obtain ⟨i, x⟩ := p
      dsimp only at d1 hx HS HN
      have o1 : wr.cell? ⟨O, i, none⟩ = some ((Value.int .i64) x) := by rw [cell_of_block HP.out.2.1.1]; exact hx
      have c0 : wr.cell? ⟨C, 0, none⟩ = some (.pointer none) := cell_of_block HP.out.1.2.2.2.2.2.2.2.1 0
      have c1 : wr.cell? ⟨C, 1, none⟩ = some (.pointer ro) := cell_of_block HP.out.1.2.2.2.2.2.2.2.1 1
      have RC : Hid (Calls Try.prog 17 #[.pointer ro] wr fun e w' => e = .returned (.int .i64 (intS s')) ∧ RdM w' N A ro (dropS 8 s') ∧ Mv A A A wr w') := rint_ok wr N A ro s' HP.out.1.2.2.2.2.2.2.2.2
      have HH := Lib.hid (And.intro HS HN)
      clear hp HS HN HV'
      go_wp2_with fail
      refine RC.out.mono ?_
      rintro e w3 ⟨rfl, k1, k2⟩
      have HP3 : Pst N A C O (.rd ro (dropS 8 s')) L' T (0, 0) w w3 := HP.out.rd k1 k2
      have HP4 : Hid (Pst N A C O (.rd ro (dropS 8 s')) (L'.setIfInBounds i (.int .i64 (intS s'))) T (0, 0) w (w3.setCell ⟨O, i, none⟩ (.int .i64 (intS s')))) := HP3.set _
      have HM4 : Hid (Mv A C O w0 (w3.setCell ⟨O, i, none⟩ (.int .i64 (intS s')))) := (HM.out.trans k2.more).trans (Pst.set (Pst.start HP3.1 HP3.2.1) _).2.2
      have o3 : w3.cell? ⟨O, i, none⟩ = some (.int .i64 x) := by rw [cell_of_block HP3.2.1.1]; exact hx
      have o4 : w3.frozen? ⟨O, i, none⟩ = false := unfrozen_of_block HP3.2.1.1 i
      clear k1 k2 RC HP3 hx
      go_wp2_with fail
      go_roundg (ps.length - (j + 1))
      case measure => omega
      case rel => exact ⟨j + 1, dropS 8 s', _, hlt, Nat.le_refl _, by go_num, HH.out.1.symm.trans HR.out, HH.out.2, HP4.out, HM4.out⟩
    · obtain rfl : j = ps.length := by omega
      have h := HR.out
      rw [List.drop_length, runF] at h
      have F : Hid (Pst N A C O (runF numT (Value.int .i64) (.rd ro s) L ps).1 (runF numT (Value.int .i64) (.rd ro s) L ps).2 T (0, 0) w wr) := by
        show Pst _ _ _ _ _ _ _ _ _ _
        rw [← h]
        exact HP.out
      clear h HR
      go_wp2
      go_end0
      exact ⟨rfl, F.out⟩

end Go.Proofs.Ytlajiochpdlhaaa
