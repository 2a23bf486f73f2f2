/- Texts through the course. -/
import Derived.Test.YtlajiochpdlhaaaOctN
import Derived.StillTailTactics
import Derived.Deep.DeepCutAuto
namespace Go.Proofs.Ytlajiochpdlhaaa
open Go.RowKit Go.Shelf Go.Lib Go.Sort
open Go.Joins (cell_of_block unfrozen_of_block block_setCell)
set_option linter.unusedVariables false
set_option maxRecDepth 20000

set_option maxHeartbeats 2000000 in
theorem txts_wr (w : World) (N A C O : Nat) (lg : Bool) (bs : List UInt8) (L : Array Value) (T : TypeId) (fz : Nat × Nat) (ps : List (Nat × ByteArray)) (hc : CoreSt N A C (.wr lg bs) w) (ht : Tg A C O L T fz w) (hv : ∀ p ∈ ps, L[p.1]? = some (Value.string p.2)) (hnd : (ps.map (·.1)).Nodup) (hlen : ps.length ≤ 100) (hl : bs.length + 256 * ps.length ≤ 1000000000) :
    Calls Try.prog 43 #[ptr C, .slice (some ⟨w.heap.size, 0, none⟩) ps.length ps.length] (w.alloc (.cells (ptrs O ps) 100)) fun e w' => e = .returned (.tuple #[]) ∧ Pst N A C O (runF txtT Value.string (.wr lg bs) L ps).1 (runF txtT Value.string (.wr lg bs) L ps).2 T fz w w' := by
  have mixed : Try.prog.follows .mixedOrders = true := by kernel_rfl
  obtain ⟨D, hD⟩ : ∃ D, D = w.heap.size := ⟨_, rfl⟩
  obtain ⟨w0, hw0⟩ : ∃ w0, w0 = w.alloc (.cells (ptrs O ps) 100) := ⟨_, rfl⟩
  have G0 : Gr w w0 := hw0 ▸ (Gr.refl w).alloc _
  rw [← hD, ← hw0]
  have BN : Hid (∀ wr, Mv A C O w0 wr → wr.heap[D]? = some (.cells (ptrs O ps) 100)) := fun wr m => blk_new hc.ltA hc.ltC ht.lt hD hw0 (core_yb hc) m
  have P0 : Hid (Pst N A C O (.wr lg bs) L T fz w w0) := (Pst.start hc ht).gr1 G0
  have HV := Lib.hid hv
  have HND := Lib.hid hnd
  clear hv hnd hc ht G0 hw0 hD
  go_enter Try.func43, Try.ntmps43
  go_wp2_with fail
  go_loopg [8] ps.length (fun g vi wr => ∃ (j : Nat) (lg' : Bool) (bs' : List UInt8) (L' : Array Value), j ≤ ps.length ∧ ps.length - j ≤ g ∧ vi = .int .i64 (j : Int) ∧ bs'.length + 256 * (ps.length - j) ≤ 1000000000 ∧ Hid (runF txtT Value.string (.wr lg' bs') L' (ps.drop j) = runF txtT Value.string (.wr lg bs) L ps) ∧ Hid (∀ p ∈ ps.drop j, L'[p.1]? = some (Value.string p.2)) ∧ Hid (Pst N A C O (.wr lg' bs') L' T fz w wr) ∧ Hid (Mv A C O w0 wr))
  case atStart => exact ⟨0, lg, bs, L, Nat.zero_le _, by omega, rfl, by omega, rfl, HV.out, P0.out, Mv.refl _ _ _ _⟩
  case round =>
    obtain ⟨j, lg', bs', L', hj, hg, rfl, hb, HR, HV', HP, HM⟩ := hrel
    by_cases hlt : j < ps.length
    · obtain ⟨p, hp⟩ : ∃ p, ps[j]? = some p := ⟨ps[j], List.getElem?_eq_getElem hlt⟩
      have d1 : wr.cell? ⟨D, j, none⟩ = some (.pointer (some ⟨O, p.1, none⟩)) := by rw [cell_of_block (BN.out wr HM.out)]; exact ptrs_at hp
      have hx := HV'.out p (mem_drop_of hp)
      have HS := runF_step (f := txtT) (m := Value.string) (st := .wr lg' bs') (L := L') hp
      have HN := rest_vals (m := Value.string) hp HND.out HV'.out (Value.string (txtT (.wr lg' bs') p.2).2)
      obtain ⟨i, x⟩ := p
      dsimp only at d1 hx HS HN
      have o1 : wr.cell? ⟨O, i, none⟩ = some (Value.string x) := by rw [cell_of_block HP.out.2.1.1]; exact hx
      have c0 : wr.cell? ⟨C, 0, none⟩ = some (ptr A) := cell_of_block HP.out.1.2.2.2.2.2.2.2.1 0
      have c1 : wr.cell? ⟨C, 1, none⟩ = some (.pointer none) := cell_of_block HP.out.1.2.2.2.2.2.2.2.1 1
      have HH := Lib.hid (And.intro HS HN)
      have HX := Lib.hid hx
      have c2 : wr.cell? ⟨C, 2, none⟩ = some (.bool lg') := cell_of_block HP.out.1.2.2.2.2.2.2.2.1 2
      have f2 : wr.frozen? ⟨C, 2, none⟩ = false := unfrozen_of_block HP.out.1.2.2.2.2.2.2.2.1 2
      obtain ⟨lg2, hlg2⟩ : ∃ b, b = (lg' || decide ((255 : Int) < (x.size : Int))) := ⟨_, rfl⟩
      have HPL : Pst N A C O (.wr lg2 bs') L' T fz w (wr.setCell ⟨C, 2, none⟩ (.bool lg2)) := HP.out.long
      have HML : Hid (Mv A C O w0 (wr.setCell ⟨C, 2, none⟩ (.bool lg2))) := HM.out.trans (Pst.long (lg' := lg2) (Pst.start HP.out.1 HP.out.2.1)).2.2
      have c0' : (wr.setCell ⟨C, 2, none⟩ (.bool lg2)).cell? ⟨C, 0, none⟩ = some (ptr A) := cell_of_block HPL.1.2.2.2.2.2.2.2.1 0
      have o1' : (wr.setCell ⟨C, 2, none⟩ (.bool lg2)).cell? ⟨O, i, none⟩ = some (.string x) := by rw [cell_of_block HPL.2.1.1]; exact hx
      have HPL' := Lib.hid HPL
      have hl2 : lg2 = (lg' || decide (255 < x.size)) := by
        rw [hlg2]
        congr 1
        simp only [decide_eq_decide]
        omega
      have HL2 := Lib.hid hl2
      clear HPL hp hx HS HN HV' hl2
      have fin : Hid (∀ w3, Pst N A C O (.wr lg2 (bs' ++ txt (cut x))) L' T fz w w3 → Mv A C O w0 w3 → ∃ (j0 : Nat) (lg0 : Bool) (bs0 : List UInt8) (L0 : Array Value), j0 ≤ ps.length ∧ ps.length - j0 ≤ ps.length - (j + 1) ∧ Value.int .i64 ((j : Int) + 1) = .int .i64 (j0 : Int) ∧ bs0.length + 256 * (ps.length - j0) ≤ 1000000000 ∧ Hid (runF txtT Value.string (.wr lg0 bs0) L0 (ps.drop j0) = runF txtT Value.string (.wr lg bs) L ps) ∧ Hid (∀ p ∈ ps.drop j0, L0[p.1]? = some (Value.string p.2)) ∧ Hid (Pst N A C O (.wr lg0 bs0) L0 T fz w w3) ∧ Hid (Mv A C O w0 w3)) := by
        intro w3 h1 h2
        refine ⟨j + 1, lg2, bs' ++ txt (cut x), L', hlt, Nat.le_refl _, by simp, ?_, ?_, ?_, h1, h2⟩
        · rw [List.length_append, txt_len, cut_size]
          omega
        · have h := HH.out.1
          rw [show (txtT (.wr lg' bs') x).2 = x from rfl, set_same HX.out] at h
          rw [HL2.out]
          exact h.symm.trans HR.out
        · have h := HH.out.2
          rw [show (txtT (.wr lg' bs') x).2 = x from rfl, set_same HX.out] at h
          exact h
      obtain ⟨wl, hwl⟩ : ∃ wl, wl = wr.setCell ⟨C, 2, none⟩ (.bool lg2) := ⟨_, rfl⟩
      rw [← hwl] at c0' o1' HPL' HML
      have WC : Hid (∀ W, Gr wl W → Calls Try.prog 12 #[ptr A, .string x] W fun e w' => e = .returned (.tuple #[]) ∧ WrM w' N A (bs' ++ txt (cut x)) ∧ Mv A A A W w') := fun W g => wtext_ok W N A bs' x (HPL'.out.1.2.2.2.2.2.2.2.2.gr g) (Nat.le_trans HPL'.out.1.leN g.size) (by omega)
      have HWL := Lib.hid hwl
      have HLG := Lib.hid hlg2
      clear hwl hlg2 HR
      cases lg'
      all_goals
        go_upto_region 6 with fail
        first
        | (rw [show (Value.bool (decide ((255 : Int) < (x.size : Int)))) = Value.bool lg2 from congrArg _ (HLG.out.trans (Bool.false_or _)).symm]
           rw [← HWL.out])
        | rw [show wr.setCell ⟨C, 2, none⟩ (Value.bool true) = wl from (by rw [HWL.out, HLG.out]; rfl)]
        go_still_tail 7, (by kernel_rfl)
        change wpList _ _ _ _ _ wl.drew
        have G2 : Hid (Gr wl wl.drew) := (Gr.refl wl).drew
        generalize wl.drew = w2 at *
        go_wp2_with fail
        refine (WC.out _ G2.out).mono ?_
        rintro e w3 ⟨rfl, k1, k2⟩
        have HP3 := Lib.hid ((HPL'.out.gr1 G2.out).wr k1 k2)
        have HM3 : Hid (Mv A C O w0 w3) := (HML.out.trans (Mv.gr HPL'.out.1.ltA G2.out)).trans k2.more
        clear k1 k2 WC
        go_wp2_with fail
        go_roundg (ps.length - (j + 1))
        case measure => omega
        case rel => exact fin.out w3 HP3.out HM3.out
    · obtain rfl : j = ps.length := by omega
      have h := HR.out
      rw [List.drop_length, runF] at h
      have F : Hid (Pst N A C O (runF txtT Value.string (.wr lg bs) L ps).1 (runF txtT Value.string (.wr lg bs) L ps).2 T fz w wr) := by
        show Pst _ _ _ _ _ _ _ _ _ _
        rw [← h]
        exact HP.out
      clear h HR
      go_wp2
      go_end0
      exact ⟨rfl, F.out⟩

set_option maxHeartbeats 2000000 in
theorem txts_rd (w : World) (N A C O : Nat) (ro : Option Addr) (s : Sr) (L : Array Value) (T : TypeId) (ps : List (Nat × ByteArray)) (hc : CoreSt N A C (.rd ro s) w) (ht : Tg A C O L T (0, 0) w) (hv : ∀ p ∈ ps, L[p.1]? = some (Value.string p.2)) (hnd : (ps.map (·.1)).Nodup) (hlen : ps.length ≤ 100) :
    Calls Try.prog 43 #[ptr C, .slice (some ⟨w.heap.size, 0, none⟩) ps.length ps.length] (w.alloc (.cells (ptrs O ps) 100)) fun e w' => e = .returned (.tuple #[]) ∧ Pst N A C O (runF txtT Value.string (.rd ro s) L ps).1 (runF txtT Value.string (.rd ro s) L ps).2 T (0, 0) w w' := by
  have mixed : Try.prog.follows .mixedOrders = true := by kernel_rfl
  obtain ⟨D, hD⟩ : ∃ D, D = w.heap.size := ⟨_, rfl⟩
  obtain ⟨w0, hw0⟩ : ∃ w0, w0 = w.alloc (.cells (ptrs O ps) 100) := ⟨_, rfl⟩
  have G0 : Gr w w0 := hw0 ▸ (Gr.refl w).alloc _
  rw [← hD, ← hw0]
  have BN : Hid (∀ wr, Mv A C O w0 wr → wr.heap[D]? = some (.cells (ptrs O ps) 100)) := fun wr m => blk_new hc.ltA hc.ltC ht.lt hD hw0 (core_yb hc) m
  have P0 : Hid (Pst N A C O (.rd ro s) L T (0, 0) w w0) := (Pst.start hc ht).gr1 G0
  have HV := Lib.hid hv
  have HND := Lib.hid hnd
  clear hv hnd hc ht G0 hw0 hD
  go_enter Try.func43, Try.ntmps43
  go_wp2_with fail
  go_loopg [8] ps.length (fun g vi wr => ∃ (j : Nat) (s' : Sr) (L' : Array Value), j ≤ ps.length ∧ ps.length - j ≤ g ∧ vi = .int .i64 (j : Int) ∧ Hid (runF txtT Value.string (.rd ro s') L' (ps.drop j) = runF txtT Value.string (.rd ro s) L ps) ∧ Hid (∀ p ∈ ps.drop j, L'[p.1]? = some (Value.string p.2)) ∧ Hid (Pst N A C O (.rd ro s') L' T (0, 0) w wr) ∧ Hid (Mv A C O w0 wr))
  case atStart => exact ⟨0, s, L, Nat.zero_le _, by omega, rfl, rfl, HV.out, P0.out, Mv.refl _ _ _ _⟩
  case round =>
    obtain ⟨j, s', L', hj, hg, rfl, HR, HV', HP, HM⟩ := hrel
    by_cases hlt : j < ps.length
    · obtain ⟨p, hp⟩ : ∃ p, ps[j]? = some p := ⟨ps[j], List.getElem?_eq_getElem hlt⟩
      have d1 : wr.cell? ⟨D, j, none⟩ = some (.pointer (some ⟨O, p.1, none⟩)) := by rw [cell_of_block (BN.out wr HM.out)]; exact ptrs_at hp
      have hx := HV'.out p (mem_drop_of hp)
      have HS := runF_step (f := txtT) (m := Value.string) (st := .rd ro s') (L := L') hp
      have HN := rest_vals (m := Value.string) hp HND.out HV'.out (Value.string (txtT (.rd ro s') p.2).2)
      obtain ⟨i, x⟩ := p
      dsimp only at d1 hx HS HN
      have o1 : wr.cell? ⟨O, i, none⟩ = some (Value.string x) := by rw [cell_of_block HP.out.2.1.1]; exact hx
      have c0 : wr.cell? ⟨C, 0, none⟩ = some (.pointer none) := cell_of_block HP.out.1.2.2.2.2.2.2.2.1 0
      have c1 : wr.cell? ⟨C, 1, none⟩ = some (.pointer ro) := cell_of_block HP.out.1.2.2.2.2.2.2.2.1 1
      have RC : Hid (Calls Try.prog 18 #[.pointer ro] wr fun e w' => e = .returned (.string (mk (textS s'))) ∧ RdM w' N A ro (textD s') ∧ Mv A A A wr w') := rtext_ok wr N A ro s' HP.out.1.2.2.2.2.2.2.2.2
      have HH := Lib.hid (And.intro HS HN)
      clear hp HS HN HV'
      go_wp2_with fail
      refine RC.out.mono ?_
      rintro e w3 ⟨rfl, k1, k2⟩
      have HP3 : Pst N A C O (.rd ro (textD s')) L' T (0, 0) w w3 := HP.out.rd k1 k2
      have HP4 : Hid (Pst N A C O (.rd ro (textD s')) (L'.setIfInBounds i (.string (mk (textS s')))) T (0, 0) w (w3.setCell ⟨O, i, none⟩ (.string (mk (textS s'))))) := HP3.set _
      have HM4 : Hid (Mv A C O w0 (w3.setCell ⟨O, i, none⟩ (.string (mk (textS s'))))) := (HM.out.trans k2.more).trans (Pst.set (Pst.start HP3.1 HP3.2.1) _).2.2
      have o3 : w3.cell? ⟨O, i, none⟩ = some (.string x) := by rw [cell_of_block HP3.2.1.1]; exact hx
      have o4 : w3.frozen? ⟨O, i, none⟩ = false := unfrozen_of_block HP3.2.1.1 i
      clear k1 k2 RC HP3 hx
      go_wp2_with fail
      go_roundg (ps.length - (j + 1))
      case measure => omega
      case rel => exact ⟨j + 1, textD s', _, hlt, Nat.le_refl _, by go_num, HH.out.1.symm.trans HR.out, HH.out.2, HP4.out, HM4.out⟩
    · obtain rfl : j = ps.length := by omega
      have h := HR.out
      rw [List.drop_length, runF] at h
      have F : Hid (Pst N A C O (runF txtT Value.string (.rd ro s) L ps).1 (runF txtT Value.string (.rd ro s) L ps).2 T (0, 0) w wr) := by
        show Pst _ _ _ _ _ _ _ _ _ _
        rw [← h]
        exact HP.out
      clear h HR
      go_wp2
      go_end0
      exact ⟨rfl, F.out⟩

end Go.Proofs.Ytlajiochpdlhaaa
