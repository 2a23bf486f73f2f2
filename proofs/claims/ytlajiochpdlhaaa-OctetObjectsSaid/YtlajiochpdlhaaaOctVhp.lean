/- A Hp through the course. -/
import Derived.Test.YtlajiochpdlhaaaOctZ
namespace Go.Proofs.Ytlajiochpdlhaaa
open Go.RowKit Go.Shelf Go.Lib Go.Sort
open Go.Joins (cell_of_block unfrozen_of_block block_setCell)
set_option linter.unusedVariables false
set_option linter.unusedSimpArgs false
set_option maxRecDepth 20000

def hpT (st : St) (x : Hp) : St × Hp :=
  let p_tg := txtT st x.tg
  let p_mn := numT p_tg.1 x.mn
  let p_mx := numT p_mn.1 x.mx
  let p_met := rowT metT (0, ⟨#[]⟩, 0) p_mx.1 x.met
  let p_tol := numT p_met.1 x.tol
  let p_uw := numT p_tol.1 x.uw
  let p_up := numT p_uw.1 x.up
  let p_upol := rowT polT (false, 0, 0) p_up.1 x.upol
  let p_dw := numT p_upol.1 x.dw
  let p_dp := numT p_dw.1 x.dp
  let p_dpol := rowT polT (false, 0, 0) p_dp.1 x.dpol
  let p_past := rowT scaT (0, 0, 0) p_dpol.1 x.past
  (p_past.1, ⟨p_tg.2, p_mn.2, p_mx.2, p_met.2, p_tol.2, p_uw.2, p_up.2, p_upol.2, p_dw.2, p_dp.2, p_dpol.2, p_past.2⟩)
def hpA (A C O : Nat) (w : World) (L : Array Value) (x : Hp) : Prop :=
  L[35]? = some (.string x.tg) ∧ L[36]? = some (.int .i64 x.mn) ∧ L[37]? = some (.int .i64 x.mx) ∧ SlA A C O 3 encM w L[38]? x.met ∧ L[39]? = some (.int .i64 x.tol) ∧ L[40]? = some (.int .i64 x.uw) ∧ L[41]? = some (.int .i64 x.up) ∧ SlA A C O 3 encP w L[42]? x.upol ∧ L[43]? = some (.int .i64 x.dw) ∧ L[44]? = some (.int .i64 x.dp) ∧ SlA A C O 3 encP w L[45]? x.dpol ∧ SlA A C O 3 encS w L[46]? x.past
def hpZ (st : St) (L : Array Value) (x : Hp) : Prop := SlZ st L[38]? x.met ∧ SlZ st L[42]? x.upol ∧ SlZ st L[45]? x.dpol ∧ SlZ st L[46]? x.past
theorem hpT_isR (st : St) (x : Hp) : (hpT st x).1.isR = st.isR := by
  unfold hpT
  simp only [numT_isR, rowT_isR fine_M, rowT_isR fine_P, rowT_isR fine_S, txtT_isR]
theorem hpT_len (st : St) (x : Hp) : (hpT st x).1.len ≤ st.len + 1048888 := by
  unfold hpT
  dsimp only
  have q_tg := txtT_len st x.tg
  obtain ⟨p_tg, hp_tg⟩ : ∃ p, p = txtT st x.tg := ⟨_, rfl⟩
  simp only [← hp_tg] at *
  have q_mn := numT_len p_tg.1 x.mn
  obtain ⟨p_mn, hp_mn⟩ : ∃ p, p = numT p_tg.1 x.mn := ⟨_, rfl⟩
  simp only [← hp_mn] at *
  have q_mx := numT_len p_mn.1 x.mx
  obtain ⟨p_mx, hp_mx⟩ : ∃ p, p = numT p_mn.1 x.mx := ⟨_, rfl⟩
  simp only [← hp_mx] at *
  have q_met := rowT_len fine_M (0, ⟨#[]⟩, 0) p_mx.1 x.met
  obtain ⟨p_met, hp_met⟩ : ∃ p, p = rowT metT (0, ⟨#[]⟩, 0) p_mx.1 x.met := ⟨_, rfl⟩
  simp only [← hp_met] at *
  have q_tol := numT_len p_met.1 x.tol
  obtain ⟨p_tol, hp_tol⟩ : ∃ p, p = numT p_met.1 x.tol := ⟨_, rfl⟩
  simp only [← hp_tol] at *
  have q_uw := numT_len p_tol.1 x.uw
  obtain ⟨p_uw, hp_uw⟩ : ∃ p, p = numT p_tol.1 x.uw := ⟨_, rfl⟩
  simp only [← hp_uw] at *
  have q_up := numT_len p_uw.1 x.up
  obtain ⟨p_up, hp_up⟩ : ∃ p, p = numT p_uw.1 x.up := ⟨_, rfl⟩
  simp only [← hp_up] at *
  have q_upol := rowT_len fine_P (false, 0, 0) p_up.1 x.upol
  obtain ⟨p_upol, hp_upol⟩ : ∃ p, p = rowT polT (false, 0, 0) p_up.1 x.upol := ⟨_, rfl⟩
  simp only [← hp_upol] at *
  have q_dw := numT_len p_upol.1 x.dw
  obtain ⟨p_dw, hp_dw⟩ : ∃ p, p = numT p_upol.1 x.dw := ⟨_, rfl⟩
  simp only [← hp_dw] at *
  have q_dp := numT_len p_dw.1 x.dp
  obtain ⟨p_dp, hp_dp⟩ : ∃ p, p = numT p_dw.1 x.dp := ⟨_, rfl⟩
  simp only [← hp_dp] at *
  have q_dpol := rowT_len fine_P (false, 0, 0) p_dp.1 x.dpol
  obtain ⟨p_dpol, hp_dpol⟩ : ∃ p, p = rowT polT (false, 0, 0) p_dp.1 x.dpol := ⟨_, rfl⟩
  simp only [← hp_dpol] at *
  have q_past := rowT_len fine_S (0, 0, 0) p_dpol.1 x.past
  obtain ⟨p_past, hp_past⟩ : ∃ p, p = rowT scaT (0, 0, 0) p_dpol.1 x.past := ⟨_, rfl⟩
  simp only [← hp_past] at *
  omega

set_option maxHeartbeats 8000000 in
theorem hp_any (w : World) (N A C O : Nat) (st : St) (L : Array Value) (T : TypeId) (fz : Nat × Nat) (x : Hp) (hc : CoreSt N A C st w) (ht : Tg A C O L T fz w) (hf : st.isR = true → fz = (0, 0)) (hx : hpA A C O w L x) (hz : hpZ st L x) (hl : st.len + 8000000 ≤ 1000000000) :
    Calls Try.prog 49 #[ptr C, .pointer (some ⟨O, 35, none⟩)] w fun e w' => e = .returned (.tuple #[]) ∧ ∃ L',
      Pst N A C O (hpT st x).1 L' T fz w w' ∧ hpA A C O w' L' (hpT st x).2 ∧ ∀ j, j < 35 ∨ 47 ≤ j → L'[j]? = L[j]? := by
  have mixed : Try.prog.follows .mixedOrders = true := by kernel_rfl
  have P0 : Hid (Pst N A C O st L T fz w w) := Pst.start hc ht
  obtain ⟨tg, mn, mx, met, tol, uw, up, upol, dw, dp, dpol, past⟩ := x
  obtain ⟨a_tg, a_mn, a_mx, a_met, a_tol, a_uw, a_up, a_upol, a_dw, a_dp, a_dpol, a_past⟩ := hx
  obtain ⟨z_met, z_upol, z_dpol, z_past⟩ := hz
  dsimp only at *
  have A_tg := Lib.hid a_tg
  have A_mn := Lib.hid a_mn
  have A_mx := Lib.hid a_mx
  have A_met := Lib.hid a_met
  have A_tol := Lib.hid a_tol
  have A_uw := Lib.hid a_uw
  have A_up := Lib.hid a_up
  have A_upol := Lib.hid a_upol
  have A_dw := Lib.hid a_dw
  have A_dp := Lib.hid a_dp
  have A_dpol := Lib.hid a_dpol
  have A_past := Lib.hid a_past
  have HF := Lib.hid (And.intro hf hl)
  have Z_met := Lib.hid z_met
  have Z_upol := Lib.hid z_upol
  have Z_dpol := Lib.hid z_dpol
  have Z_past := Lib.hid z_past
  clear hc ht hf hl a_tg a_mn a_mx a_met a_tol a_uw a_up a_upol a_dw a_dp a_dpol a_past z_met z_upol z_dpol z_past
  go_enter Try.func49, Try.ntmps49
  go_wp2_with fail
  have CC0 := Lib.hid (txts_any w N A C O st L T fz [(35, tg)] P0.out.1 P0.out.2.1 HF.out.1 (by intro p hp; simp only [List.mem_cons, List.not_mem_nil, or_false] at hp; subst hp; exact A_tg.out) (by simp) (by simp) (by have q2 := HF.out.2; simp only [List.length_cons, List.length_nil]; omega))
  refine CC0.out.mono ?_
  rintro e w1 ⟨rfl, k0⟩
  have Q1 : Pst N A C O (txtT st tg).1 (L.setIfInBounds 35 (.string (txtT st tg).2)) T fz w w1 := k0
  have M1 : Mv A C O w w1 := Q1.2.2
  have P1 : Hid (Pst N A C O (txtT st tg).1 (L.setIfInBounds 35 (.string (txtT st tg).2)) T fz w w1) := P0.out.trans Q1
  have b_tg : ((L.setIfInBounds 35 (.string (txtT st tg).2)))[35]? = some (.string (txtT st tg).2) := by
    have hsz := (Array.getElem?_eq_some_iff.1 A_tg.out).1
    simp [Array.getElem?_setIfInBounds, hsz]
  have b_mn : ((L.setIfInBounds 35 (.string (txtT st tg).2)))[36]? = (L)[36]? := by simp [Array.getElem?_setIfInBounds]
  have b_mx : ((L.setIfInBounds 35 (.string (txtT st tg).2)))[37]? = (L)[37]? := by simp [Array.getElem?_setIfInBounds]
  have b_met : ((L.setIfInBounds 35 (.string (txtT st tg).2)))[38]? = (L)[38]? := by simp [Array.getElem?_setIfInBounds]
  have b_tol : ((L.setIfInBounds 35 (.string (txtT st tg).2)))[39]? = (L)[39]? := by simp [Array.getElem?_setIfInBounds]
  have b_uw : ((L.setIfInBounds 35 (.string (txtT st tg).2)))[40]? = (L)[40]? := by simp [Array.getElem?_setIfInBounds]
  have b_up : ((L.setIfInBounds 35 (.string (txtT st tg).2)))[41]? = (L)[41]? := by simp [Array.getElem?_setIfInBounds]
  have b_upol : ((L.setIfInBounds 35 (.string (txtT st tg).2)))[42]? = (L)[42]? := by simp [Array.getElem?_setIfInBounds]
  have b_dw : ((L.setIfInBounds 35 (.string (txtT st tg).2)))[43]? = (L)[43]? := by simp [Array.getElem?_setIfInBounds]
  have b_dp : ((L.setIfInBounds 35 (.string (txtT st tg).2)))[44]? = (L)[44]? := by simp [Array.getElem?_setIfInBounds]
  have b_dpol : ((L.setIfInBounds 35 (.string (txtT st tg).2)))[45]? = (L)[45]? := by simp [Array.getElem?_setIfInBounds]
  have b_past : ((L.setIfInBounds 35 (.string (txtT st tg).2)))[46]? = (L)[46]? := by simp [Array.getElem?_setIfInBounds]
  have eo : Hid (∀ j, j < 35 ∨ 47 ≤ j → ((L.setIfInBounds 35 (.string (txtT st tg).2)))[j]? = L[j]?) := fun j hj => by
    repeat rw [Array.getElem?_setIfInBounds_ne (by omega)]
  have N1 : Hid ((txtT st tg).1.len ≤ st.len + 256) := by
    have q1 := (txtT_len st tg)
    show _ ≤ _
    omega
  have I1 : Hid ((txtT st tg).1.isR = st.isR) := by
    show _ = _
    simp only [txtT_isR]
  clear k0 Q1 CC0
  obtain ⟨⟨s_tg, v_tg⟩, h_tg⟩ : ∃ p, p = txtT st tg := ⟨_, rfl⟩
  simp only [← h_tg] at P1 N1 I1 eo b_tg b_mn b_mx b_met b_tol b_uw b_up b_upol b_dw b_dp b_dpol b_past
  obtain ⟨L1, hL1⟩ : ∃ l, l = (L.setIfInBounds 35 (.string v_tg)) := ⟨_, rfl⟩
  rw [← hL1] at P1 eo b_tg b_mn b_mx b_met b_tol b_uw b_up b_upol b_dw b_dp b_dpol b_past
  replace A_tg := Lib.hid b_tg
  clear b_tg
  replace A_mn := Lib.hid (b_mn.trans A_mn.out)
  clear b_mn
  replace A_mx := Lib.hid (b_mx.trans A_mx.out)
  clear b_mx
  replace A_met : Hid (SlA A C O 3 encM w1 L1[38]? met) := by
    have h := A_met.out.mv M1
    show SlA _ _ _ _ _ _ _ _
    rw [b_met]
    exact h
  replace Z_met : Hid (SlZ st L1[38]? met) := by
    have h := Z_met.out
    show SlZ _ _ _
    rw [b_met]
    exact h
  clear b_met
  replace A_tol := Lib.hid (b_tol.trans A_tol.out)
  clear b_tol
  replace A_uw := Lib.hid (b_uw.trans A_uw.out)
  clear b_uw
  replace A_up := Lib.hid (b_up.trans A_up.out)
  clear b_up
  replace A_upol : Hid (SlA A C O 3 encP w1 L1[42]? upol) := by
    have h := A_upol.out.mv M1
    show SlA _ _ _ _ _ _ _ _
    rw [b_upol]
    exact h
  replace Z_upol : Hid (SlZ st L1[42]? upol) := by
    have h := Z_upol.out
    show SlZ _ _ _
    rw [b_upol]
    exact h
  clear b_upol
  replace A_dw := Lib.hid (b_dw.trans A_dw.out)
  clear b_dw
  replace A_dp := Lib.hid (b_dp.trans A_dp.out)
  clear b_dp
  replace A_dpol : Hid (SlA A C O 3 encP w1 L1[45]? dpol) := by
    have h := A_dpol.out.mv M1
    show SlA _ _ _ _ _ _ _ _
    rw [b_dpol]
    exact h
  replace Z_dpol : Hid (SlZ st L1[45]? dpol) := by
    have h := Z_dpol.out
    show SlZ _ _ _
    rw [b_dpol]
    exact h
  clear b_dpol
  replace A_past : Hid (SlA A C O 3 encS w1 L1[46]? past) := by
    have h := A_past.out.mv M1
    show SlA _ _ _ _ _ _ _ _
    rw [b_past]
    exact h
  replace Z_past : Hid (SlZ st L1[46]? past) := by
    have h := Z_past.out
    show SlZ _ _ _
    rw [b_past]
    exact h
  clear b_past
  have E1 := eo
  have H_tg := Lib.hid h_tg
  clear eo M1 hL1 h_tg P0
  go_wp2_with fail
  have G1 : Hid (Gr w1 w1.drew) := (Gr.refl _).drew
  have CC1 := Lib.hid (numI_any w1.drew N A C O s_tg L1 T fz [(36, mn), (37, mx)] (P1.out.gr1 G1.out).1 (P1.out.gr1 G1.out).2.1 (fun h => HF.out.1 (by rw [← I1.out]; exact h)) (by
    intro p hp
    simp only [List.mem_cons, List.not_mem_nil, or_false] at hp
    rcases hp with rfl | rfl
    · exact A_mn.out
    · exact A_mx.out) (by simp) (by simp) (by have q1 := N1.out; have q2 := HF.out.2; simp only [List.length_cons, List.length_nil]; omega))
  go_region_with (go_at_call 50; refine CC1.out.mono ?_; rintro e w2 ⟨rfl, k0⟩)
  have Q2 : Pst N A C O (numT (numT s_tg mn).1 mx).1 ((L1.setIfInBounds 36 (.int .i64 (numT s_tg mn).2)).setIfInBounds 37 (.int .i64 (numT (numT s_tg mn).1 mx).2)) T fz w1.drew w2 := k0
  have M2 : Mv A C O w1 w2 := (Mv.gr P1.out.1.ltA G1.out).trans Q2.2.2
  have P2 : Hid (Pst N A C O (numT (numT s_tg mn).1 mx).1 ((L1.setIfInBounds 36 (.int .i64 (numT s_tg mn).2)).setIfInBounds 37 (.int .i64 (numT (numT s_tg mn).1 mx).2)) T fz w w2) := (P1.out.gr1 G1.out).trans Q2
  have b_tg : (((L1.setIfInBounds 36 (.int .i64 (numT s_tg mn).2)).setIfInBounds 37 (.int .i64 (numT (numT s_tg mn).1 mx).2)))[35]? = (L1)[35]? := by simp [Array.getElem?_setIfInBounds]
  have b_mn : (((L1.setIfInBounds 36 (.int .i64 (numT s_tg mn).2)).setIfInBounds 37 (.int .i64 (numT (numT s_tg mn).1 mx).2)))[36]? = some (.int .i64 (numT s_tg mn).2) := by
    have hsz := (Array.getElem?_eq_some_iff.1 A_mn.out).1
    simp [Array.getElem?_setIfInBounds, hsz]
  have b_mx : (((L1.setIfInBounds 36 (.int .i64 (numT s_tg mn).2)).setIfInBounds 37 (.int .i64 (numT (numT s_tg mn).1 mx).2)))[37]? = some (.int .i64 (numT (numT s_tg mn).1 mx).2) := by
    have hsz := (Array.getElem?_eq_some_iff.1 A_mx.out).1
    simp [Array.getElem?_setIfInBounds, hsz]
  have b_met : (((L1.setIfInBounds 36 (.int .i64 (numT s_tg mn).2)).setIfInBounds 37 (.int .i64 (numT (numT s_tg mn).1 mx).2)))[38]? = (L1)[38]? := by simp [Array.getElem?_setIfInBounds]
  have b_tol : (((L1.setIfInBounds 36 (.int .i64 (numT s_tg mn).2)).setIfInBounds 37 (.int .i64 (numT (numT s_tg mn).1 mx).2)))[39]? = (L1)[39]? := by simp [Array.getElem?_setIfInBounds]
  have b_uw : (((L1.setIfInBounds 36 (.int .i64 (numT s_tg mn).2)).setIfInBounds 37 (.int .i64 (numT (numT s_tg mn).1 mx).2)))[40]? = (L1)[40]? := by simp [Array.getElem?_setIfInBounds]
  have b_up : (((L1.setIfInBounds 36 (.int .i64 (numT s_tg mn).2)).setIfInBounds 37 (.int .i64 (numT (numT s_tg mn).1 mx).2)))[41]? = (L1)[41]? := by simp [Array.getElem?_setIfInBounds]
  have b_upol : (((L1.setIfInBounds 36 (.int .i64 (numT s_tg mn).2)).setIfInBounds 37 (.int .i64 (numT (numT s_tg mn).1 mx).2)))[42]? = (L1)[42]? := by simp [Array.getElem?_setIfInBounds]
  have b_dw : (((L1.setIfInBounds 36 (.int .i64 (numT s_tg mn).2)).setIfInBounds 37 (.int .i64 (numT (numT s_tg mn).1 mx).2)))[43]? = (L1)[43]? := by simp [Array.getElem?_setIfInBounds]
  have b_dp : (((L1.setIfInBounds 36 (.int .i64 (numT s_tg mn).2)).setIfInBounds 37 (.int .i64 (numT (numT s_tg mn).1 mx).2)))[44]? = (L1)[44]? := by simp [Array.getElem?_setIfInBounds]
  have b_dpol : (((L1.setIfInBounds 36 (.int .i64 (numT s_tg mn).2)).setIfInBounds 37 (.int .i64 (numT (numT s_tg mn).1 mx).2)))[45]? = (L1)[45]? := by simp [Array.getElem?_setIfInBounds]
  have b_past : (((L1.setIfInBounds 36 (.int .i64 (numT s_tg mn).2)).setIfInBounds 37 (.int .i64 (numT (numT s_tg mn).1 mx).2)))[46]? = (L1)[46]? := by simp [Array.getElem?_setIfInBounds]
  have eo : Hid (∀ j, j < 35 ∨ 47 ≤ j → (((L1.setIfInBounds 36 (.int .i64 (numT s_tg mn).2)).setIfInBounds 37 (.int .i64 (numT (numT s_tg mn).1 mx).2)))[j]? = L[j]?) := fun j hj => by
    have h := E1.out j hj
    rw [← h]
    repeat rw [Array.getElem?_setIfInBounds_ne (by omega)]
  have N2 : Hid ((numT (numT s_tg mn).1 mx).1.len ≤ st.len + 272) := by
    have q0 := N1.out
    have q1 := (numT_len s_tg mn)
    have q2 := (numT_len (numT s_tg mn).1 mx)
    show _ ≤ _
    omega
  have I2 : Hid ((numT (numT s_tg mn).1 mx).1.isR = st.isR) := by
    show _ = _
    simp only [numT_isR]
    exact I1.out
  clear k0 Q2 CC1
  obtain ⟨⟨s_mn, v_mn⟩, h_mn⟩ : ∃ p, p = numT s_tg mn := ⟨_, rfl⟩
  simp only [← h_mn] at P2 N2 I2 eo b_tg b_mn b_mx b_met b_tol b_uw b_up b_upol b_dw b_dp b_dpol b_past
  obtain ⟨⟨s_mx, v_mx⟩, h_mx⟩ : ∃ p, p = numT s_mn mx := ⟨_, rfl⟩
  simp only [← h_mx] at P2 N2 I2 eo b_tg b_mn b_mx b_met b_tol b_uw b_up b_upol b_dw b_dp b_dpol b_past
  obtain ⟨L2, hL2⟩ : ∃ l, l = ((L1.setIfInBounds 36 (.int .i64 v_mn)).setIfInBounds 37 (.int .i64 v_mx)) := ⟨_, rfl⟩
  rw [← hL2] at P2 eo b_tg b_mn b_mx b_met b_tol b_uw b_up b_upol b_dw b_dp b_dpol b_past
  replace A_tg := Lib.hid (b_tg.trans A_tg.out)
  clear b_tg
  replace A_mn := Lib.hid b_mn
  clear b_mn
  replace A_mx := Lib.hid b_mx
  clear b_mx
  replace A_met : Hid (SlA A C O 3 encM w2 L2[38]? met) := by
    have h := A_met.out.mv M2
    show SlA _ _ _ _ _ _ _ _
    rw [b_met]
    exact h
  replace Z_met : Hid (SlZ st L2[38]? met) := by
    have h := Z_met.out
    show SlZ _ _ _
    rw [b_met]
    exact h
  clear b_met
  replace A_tol := Lib.hid (b_tol.trans A_tol.out)
  clear b_tol
  replace A_uw := Lib.hid (b_uw.trans A_uw.out)
  clear b_uw
  replace A_up := Lib.hid (b_up.trans A_up.out)
  clear b_up
  replace A_upol : Hid (SlA A C O 3 encP w2 L2[42]? upol) := by
    have h := A_upol.out.mv M2
    show SlA _ _ _ _ _ _ _ _
    rw [b_upol]
    exact h
  replace Z_upol : Hid (SlZ st L2[42]? upol) := by
    have h := Z_upol.out
    show SlZ _ _ _
    rw [b_upol]
    exact h
  clear b_upol
  replace A_dw := Lib.hid (b_dw.trans A_dw.out)
  clear b_dw
  replace A_dp := Lib.hid (b_dp.trans A_dp.out)
  clear b_dp
  replace A_dpol : Hid (SlA A C O 3 encP w2 L2[45]? dpol) := by
    have h := A_dpol.out.mv M2
    show SlA _ _ _ _ _ _ _ _
    rw [b_dpol]
    exact h
  replace Z_dpol : Hid (SlZ st L2[45]? dpol) := by
    have h := Z_dpol.out
    show SlZ _ _ _
    rw [b_dpol]
    exact h
  clear b_dpol
  replace A_past : Hid (SlA A C O 3 encS w2 L2[46]? past) := by
    have h := A_past.out.mv M2
    show SlA _ _ _ _ _ _ _ _
    rw [b_past]
    exact h
  replace Z_past : Hid (SlZ st L2[46]? past) := by
    have h := Z_past.out
    show SlZ _ _ _
    rw [b_past]
    exact h
  clear b_past
  have E2 := eo
  have H_mn := Lib.hid h_mn
  have H_mx := Lib.hid h_mx
  clear eo M2 hL2 h_mn h_mx P1
  clear E1 N1 I1
  go_wp2_with fail
  have CC2 := Lib.hid (rowM_any w2 N A C O 38 s_mx L2 T fz met P2.out.1 P2.out.2.1 (fun h => HF.out.1 (by rw [← I2.out]; exact h)) A_met.out (fun h => Z_met.out (by rw [← I2.out]; exact h)) (by have q1 := N2.out; have q2 := HF.out.2; omega))
  refine CC2.out.mono ?_
  rintro e w3 ⟨rfl, u_met, k0, kr⟩
  have Q3 : Pst N A C O (rowT metT (0, ⟨#[]⟩, 0) s_mx met).1 (L2.setIfInBounds 38 u_met) T fz w2 w3 := k0
  have M3 : Mv A C O w2 w3 := Q3.2.2
  have P3 : Hid (Pst N A C O (rowT metT (0, ⟨#[]⟩, 0) s_mx met).1 (L2.setIfInBounds 38 u_met) T fz w w3) := P2.out.trans Q3
  have b_tg : ((L2.setIfInBounds 38 u_met))[35]? = (L2)[35]? := by simp [Array.getElem?_setIfInBounds]
  have b_mn : ((L2.setIfInBounds 38 u_met))[36]? = (L2)[36]? := by simp [Array.getElem?_setIfInBounds]
  have b_mx : ((L2.setIfInBounds 38 u_met))[37]? = (L2)[37]? := by simp [Array.getElem?_setIfInBounds]
  have b_met : SlA A C O 3 encM w3 ((L2.setIfInBounds 38 u_met))[38]? (rowT metT (0, ⟨#[]⟩, 0) s_mx met).2 := by
    obtain ⟨q0, c0, e0, _⟩ := A_met.out
    have e1 : (L2)[38]? = some _ := e0
    rw [setIf_get e1]
    exact kr
  have b_tol : ((L2.setIfInBounds 38 u_met))[39]? = (L2)[39]? := by simp [Array.getElem?_setIfInBounds]
  have b_uw : ((L2.setIfInBounds 38 u_met))[40]? = (L2)[40]? := by simp [Array.getElem?_setIfInBounds]
  have b_up : ((L2.setIfInBounds 38 u_met))[41]? = (L2)[41]? := by simp [Array.getElem?_setIfInBounds]
  have b_upol : ((L2.setIfInBounds 38 u_met))[42]? = (L2)[42]? := by simp [Array.getElem?_setIfInBounds]
  have b_dw : ((L2.setIfInBounds 38 u_met))[43]? = (L2)[43]? := by simp [Array.getElem?_setIfInBounds]
  have b_dp : ((L2.setIfInBounds 38 u_met))[44]? = (L2)[44]? := by simp [Array.getElem?_setIfInBounds]
  have b_dpol : ((L2.setIfInBounds 38 u_met))[45]? = (L2)[45]? := by simp [Array.getElem?_setIfInBounds]
  have b_past : ((L2.setIfInBounds 38 u_met))[46]? = (L2)[46]? := by simp [Array.getElem?_setIfInBounds]
  have eo : Hid (∀ j, j < 35 ∨ 47 ≤ j → ((L2.setIfInBounds 38 u_met))[j]? = L[j]?) := fun j hj => by
    have h := E2.out j hj
    rw [← h]
    repeat rw [Array.getElem?_setIfInBounds_ne (by omega)]
  have N3 : Hid ((rowT metT (0, ⟨#[]⟩, 0) s_mx met).1.len ≤ st.len + 262416) := by
    have q0 := N2.out
    have q1 := (rowT_len fine_M (0, ⟨#[]⟩, 0) s_mx met)
    show _ ≤ _
    omega
  have I3 : Hid ((rowT metT (0, ⟨#[]⟩, 0) s_mx met).1.isR = st.isR) := by
    show _ = _
    simp only [rowT_isR fine_M]
    exact I2.out
  clear k0 Q3 kr CC2
  obtain ⟨⟨s_met, v_met⟩, h_met⟩ : ∃ p, p = rowT metT (0, ⟨#[]⟩, 0) s_mx met := ⟨_, rfl⟩
  simp only [← h_met] at P3 N3 I3 eo b_tg b_mn b_mx b_met b_tol b_uw b_up b_upol b_dw b_dp b_dpol b_past
  obtain ⟨L3, hL3⟩ : ∃ l, l = (L2.setIfInBounds 38 u_met) := ⟨_, rfl⟩
  rw [← hL3] at P3 eo b_tg b_mn b_mx b_met b_tol b_uw b_up b_upol b_dw b_dp b_dpol b_past
  replace A_tg := Lib.hid (b_tg.trans A_tg.out)
  clear b_tg
  replace A_mn := Lib.hid (b_mn.trans A_mn.out)
  clear b_mn
  replace A_mx := Lib.hid (b_mx.trans A_mx.out)
  clear b_mx
  replace A_met := Lib.hid b_met
  clear b_met
  replace A_tol := Lib.hid (b_tol.trans A_tol.out)
  clear b_tol
  replace A_uw := Lib.hid (b_uw.trans A_uw.out)
  clear b_uw
  replace A_up := Lib.hid (b_up.trans A_up.out)
  clear b_up
  replace A_upol : Hid (SlA A C O 3 encP w3 L3[42]? upol) := by
    have h := A_upol.out.mv M3
    show SlA _ _ _ _ _ _ _ _
    rw [b_upol]
    exact h
  replace Z_upol : Hid (SlZ st L3[42]? upol) := by
    have h := Z_upol.out
    show SlZ _ _ _
    rw [b_upol]
    exact h
  clear b_upol
  replace A_dw := Lib.hid (b_dw.trans A_dw.out)
  clear b_dw
  replace A_dp := Lib.hid (b_dp.trans A_dp.out)
  clear b_dp
  replace A_dpol : Hid (SlA A C O 3 encP w3 L3[45]? dpol) := by
    have h := A_dpol.out.mv M3
    show SlA _ _ _ _ _ _ _ _
    rw [b_dpol]
    exact h
  replace Z_dpol : Hid (SlZ st L3[45]? dpol) := by
    have h := Z_dpol.out
    show SlZ _ _ _
    rw [b_dpol]
    exact h
  clear b_dpol
  replace A_past : Hid (SlA A C O 3 encS w3 L3[46]? past) := by
    have h := A_past.out.mv M3
    show SlA _ _ _ _ _ _ _ _
    rw [b_past]
    exact h
  replace Z_past : Hid (SlZ st L3[46]? past) := by
    have h := Z_past.out
    show SlZ _ _ _
    rw [b_past]
    exact h
  clear b_past
  have E3 := eo
  have H_met := Lib.hid h_met
  clear eo M3 hL3 h_met P2
  clear E2 N2 I2
  go_wp2_with fail
  have CC3 := Lib.hid (numI_any w3 N A C O s_met L3 T fz [(39, tol)] P3.out.1 P3.out.2.1 (fun h => HF.out.1 (by rw [← I3.out]; exact h)) (by intro p hp; simp only [List.mem_cons, List.not_mem_nil, or_false] at hp; subst hp; exact A_tol.out) (by simp) (by simp) (by have q1 := N3.out; have q2 := HF.out.2; simp only [List.length_cons, List.length_nil]; omega))
  refine CC3.out.mono ?_
  rintro e w4 ⟨rfl, k0⟩
  have Q4 : Pst N A C O (numT s_met tol).1 (L3.setIfInBounds 39 (.int .i64 (numT s_met tol).2)) T fz w3 w4 := k0
  have M4 : Mv A C O w3 w4 := Q4.2.2
  have P4 : Hid (Pst N A C O (numT s_met tol).1 (L3.setIfInBounds 39 (.int .i64 (numT s_met tol).2)) T fz w w4) := P3.out.trans Q4
  have b_tg : ((L3.setIfInBounds 39 (.int .i64 (numT s_met tol).2)))[35]? = (L3)[35]? := by simp [Array.getElem?_setIfInBounds]
  have b_mn : ((L3.setIfInBounds 39 (.int .i64 (numT s_met tol).2)))[36]? = (L3)[36]? := by simp [Array.getElem?_setIfInBounds]
  have b_mx : ((L3.setIfInBounds 39 (.int .i64 (numT s_met tol).2)))[37]? = (L3)[37]? := by simp [Array.getElem?_setIfInBounds]
  have b_met : ((L3.setIfInBounds 39 (.int .i64 (numT s_met tol).2)))[38]? = (L3)[38]? := by simp [Array.getElem?_setIfInBounds]
  have b_tol : ((L3.setIfInBounds 39 (.int .i64 (numT s_met tol).2)))[39]? = some (.int .i64 (numT s_met tol).2) := by
    have hsz := (Array.getElem?_eq_some_iff.1 A_tol.out).1
    simp [Array.getElem?_setIfInBounds, hsz]
  have b_uw : ((L3.setIfInBounds 39 (.int .i64 (numT s_met tol).2)))[40]? = (L3)[40]? := by simp [Array.getElem?_setIfInBounds]
  have b_up : ((L3.setIfInBounds 39 (.int .i64 (numT s_met tol).2)))[41]? = (L3)[41]? := by simp [Array.getElem?_setIfInBounds]
  have b_upol : ((L3.setIfInBounds 39 (.int .i64 (numT s_met tol).2)))[42]? = (L3)[42]? := by simp [Array.getElem?_setIfInBounds]
  have b_dw : ((L3.setIfInBounds 39 (.int .i64 (numT s_met tol).2)))[43]? = (L3)[43]? := by simp [Array.getElem?_setIfInBounds]
  have b_dp : ((L3.setIfInBounds 39 (.int .i64 (numT s_met tol).2)))[44]? = (L3)[44]? := by simp [Array.getElem?_setIfInBounds]
  have b_dpol : ((L3.setIfInBounds 39 (.int .i64 (numT s_met tol).2)))[45]? = (L3)[45]? := by simp [Array.getElem?_setIfInBounds]
  have b_past : ((L3.setIfInBounds 39 (.int .i64 (numT s_met tol).2)))[46]? = (L3)[46]? := by simp [Array.getElem?_setIfInBounds]
  have eo : Hid (∀ j, j < 35 ∨ 47 ≤ j → ((L3.setIfInBounds 39 (.int .i64 (numT s_met tol).2)))[j]? = L[j]?) := fun j hj => by
    have h := E3.out j hj
    rw [← h]
    repeat rw [Array.getElem?_setIfInBounds_ne (by omega)]
  have N4 : Hid ((numT s_met tol).1.len ≤ st.len + 262424) := by
    have q0 := N3.out
    have q1 := (numT_len s_met tol)
    show _ ≤ _
    omega
  have I4 : Hid ((numT s_met tol).1.isR = st.isR) := by
    show _ = _
    simp only [numT_isR]
    exact I3.out
  clear k0 Q4 CC3
  obtain ⟨⟨s_tol, v_tol⟩, h_tol⟩ : ∃ p, p = numT s_met tol := ⟨_, rfl⟩
  simp only [← h_tol] at P4 N4 I4 eo b_tg b_mn b_mx b_met b_tol b_uw b_up b_upol b_dw b_dp b_dpol b_past
  obtain ⟨L4, hL4⟩ : ∃ l, l = (L3.setIfInBounds 39 (.int .i64 v_tol)) := ⟨_, rfl⟩
  rw [← hL4] at P4 eo b_tg b_mn b_mx b_met b_tol b_uw b_up b_upol b_dw b_dp b_dpol b_past
  replace A_tg := Lib.hid (b_tg.trans A_tg.out)
  clear b_tg
  replace A_mn := Lib.hid (b_mn.trans A_mn.out)
  clear b_mn
  replace A_mx := Lib.hid (b_mx.trans A_mx.out)
  clear b_mx
  replace A_met : Hid (SlA A C O 3 encM w4 L4[38]? v_met) := by
    have h := A_met.out.mv M4
    show SlA _ _ _ _ _ _ _ _
    rw [b_met]
    exact h
  clear b_met
  replace A_tol := Lib.hid b_tol
  clear b_tol
  replace A_uw := Lib.hid (b_uw.trans A_uw.out)
  clear b_uw
  replace A_up := Lib.hid (b_up.trans A_up.out)
  clear b_up
  replace A_upol : Hid (SlA A C O 3 encP w4 L4[42]? upol) := by
    have h := A_upol.out.mv M4
    show SlA _ _ _ _ _ _ _ _
    rw [b_upol]
    exact h
  replace Z_upol : Hid (SlZ st L4[42]? upol) := by
    have h := Z_upol.out
    show SlZ _ _ _
    rw [b_upol]
    exact h
  clear b_upol
  replace A_dw := Lib.hid (b_dw.trans A_dw.out)
  clear b_dw
  replace A_dp := Lib.hid (b_dp.trans A_dp.out)
  clear b_dp
  replace A_dpol : Hid (SlA A C O 3 encP w4 L4[45]? dpol) := by
    have h := A_dpol.out.mv M4
    show SlA _ _ _ _ _ _ _ _
    rw [b_dpol]
    exact h
  replace Z_dpol : Hid (SlZ st L4[45]? dpol) := by
    have h := Z_dpol.out
    show SlZ _ _ _
    rw [b_dpol]
    exact h
  clear b_dpol
  replace A_past : Hid (SlA A C O 3 encS w4 L4[46]? past) := by
    have h := A_past.out.mv M4
    show SlA _ _ _ _ _ _ _ _
    rw [b_past]
    exact h
  replace Z_past : Hid (SlZ st L4[46]? past) := by
    have h := Z_past.out
    show SlZ _ _ _
    rw [b_past]
    exact h
  clear b_past
  have E4 := eo
  have H_tol := Lib.hid h_tol
  clear eo M4 hL4 h_tol P3
  clear E3 N3 I3
  go_wp2_with fail
  have CC4 := Lib.hid (behavior_any w4 N A C O 40 s_tol L4 T fz uw up upol P4.out.1 P4.out.2.1 (fun h => HF.out.1 (by rw [← I4.out]; exact h)) A_uw.out A_up.out A_upol.out (fun h => Z_upol.out (by rw [← I4.out]; exact h)) (by have q1 := N4.out; have q2 := HF.out.2; omega))
  refine CC4.out.mono ?_
  rintro e w5 ⟨rfl, u_upol, k0, kr⟩
  have Q5 : Pst N A C O (rowT polT (false, 0, 0) (numT (numT s_tol uw).1 up).1 upol).1 (((L4.setIfInBounds 40 (.int .i64 (numT s_tol uw).2)).setIfInBounds 41 (.int .i64 (numT (numT s_tol uw).1 up).2)).setIfInBounds 42 u_upol) T fz w4 w5 := k0
  have M5 : Mv A C O w4 w5 := Q5.2.2
  have P5 : Hid (Pst N A C O (rowT polT (false, 0, 0) (numT (numT s_tol uw).1 up).1 upol).1 (((L4.setIfInBounds 40 (.int .i64 (numT s_tol uw).2)).setIfInBounds 41 (.int .i64 (numT (numT s_tol uw).1 up).2)).setIfInBounds 42 u_upol) T fz w w5) := P4.out.trans Q5
  have b_tg : ((((L4.setIfInBounds 40 (.int .i64 (numT s_tol uw).2)).setIfInBounds 41 (.int .i64 (numT (numT s_tol uw).1 up).2)).setIfInBounds 42 u_upol))[35]? = (L4)[35]? := by simp [Array.getElem?_setIfInBounds]
  have b_mn : ((((L4.setIfInBounds 40 (.int .i64 (numT s_tol uw).2)).setIfInBounds 41 (.int .i64 (numT (numT s_tol uw).1 up).2)).setIfInBounds 42 u_upol))[36]? = (L4)[36]? := by simp [Array.getElem?_setIfInBounds]
  have b_mx : ((((L4.setIfInBounds 40 (.int .i64 (numT s_tol uw).2)).setIfInBounds 41 (.int .i64 (numT (numT s_tol uw).1 up).2)).setIfInBounds 42 u_upol))[37]? = (L4)[37]? := by simp [Array.getElem?_setIfInBounds]
  have b_met : ((((L4.setIfInBounds 40 (.int .i64 (numT s_tol uw).2)).setIfInBounds 41 (.int .i64 (numT (numT s_tol uw).1 up).2)).setIfInBounds 42 u_upol))[38]? = (L4)[38]? := by simp [Array.getElem?_setIfInBounds]
  have b_tol : ((((L4.setIfInBounds 40 (.int .i64 (numT s_tol uw).2)).setIfInBounds 41 (.int .i64 (numT (numT s_tol uw).1 up).2)).setIfInBounds 42 u_upol))[39]? = (L4)[39]? := by simp [Array.getElem?_setIfInBounds]
  have b_uw : ((((L4.setIfInBounds 40 (.int .i64 (numT s_tol uw).2)).setIfInBounds 41 (.int .i64 (numT (numT s_tol uw).1 up).2)).setIfInBounds 42 u_upol))[40]? = some (.int .i64 (numT s_tol uw).2) := by
    have hsz := (Array.getElem?_eq_some_iff.1 A_uw.out).1
    simp [Array.getElem?_setIfInBounds, hsz]
  have b_up : ((((L4.setIfInBounds 40 (.int .i64 (numT s_tol uw).2)).setIfInBounds 41 (.int .i64 (numT (numT s_tol uw).1 up).2)).setIfInBounds 42 u_upol))[41]? = some (.int .i64 (numT (numT s_tol uw).1 up).2) := by
    have hsz := (Array.getElem?_eq_some_iff.1 A_up.out).1
    simp [Array.getElem?_setIfInBounds, hsz]
  have b_upol : SlA A C O 3 encP w5 ((((L4.setIfInBounds 40 (.int .i64 (numT s_tol uw).2)).setIfInBounds 41 (.int .i64 (numT (numT s_tol uw).1 up).2)).setIfInBounds 42 u_upol))[42]? (rowT polT (false, 0, 0) (numT (numT s_tol uw).1 up).1 upol).2 := by
    obtain ⟨q0, c0, e0, _⟩ := A_upol.out
    have e1 : (((L4.setIfInBounds 40 (.int .i64 (numT s_tol uw).2)).setIfInBounds 41 (.int .i64 (numT (numT s_tol uw).1 up).2)))[42]? = some _ := (show (((L4.setIfInBounds 40 (.int .i64 (numT s_tol uw).2)).setIfInBounds 41 (.int .i64 (numT (numT s_tol uw).1 up).2)))[42]? = (L4)[42]? by simp [Array.getElem?_setIfInBounds]).trans e0
    rw [setIf_get e1]
    exact kr
  have b_dw : ((((L4.setIfInBounds 40 (.int .i64 (numT s_tol uw).2)).setIfInBounds 41 (.int .i64 (numT (numT s_tol uw).1 up).2)).setIfInBounds 42 u_upol))[43]? = (L4)[43]? := by simp [Array.getElem?_setIfInBounds]
  have b_dp : ((((L4.setIfInBounds 40 (.int .i64 (numT s_tol uw).2)).setIfInBounds 41 (.int .i64 (numT (numT s_tol uw).1 up).2)).setIfInBounds 42 u_upol))[44]? = (L4)[44]? := by simp [Array.getElem?_setIfInBounds]
  have b_dpol : ((((L4.setIfInBounds 40 (.int .i64 (numT s_tol uw).2)).setIfInBounds 41 (.int .i64 (numT (numT s_tol uw).1 up).2)).setIfInBounds 42 u_upol))[45]? = (L4)[45]? := by simp [Array.getElem?_setIfInBounds]
  have b_past : ((((L4.setIfInBounds 40 (.int .i64 (numT s_tol uw).2)).setIfInBounds 41 (.int .i64 (numT (numT s_tol uw).1 up).2)).setIfInBounds 42 u_upol))[46]? = (L4)[46]? := by simp [Array.getElem?_setIfInBounds]
  have eo : Hid (∀ j, j < 35 ∨ 47 ≤ j → ((((L4.setIfInBounds 40 (.int .i64 (numT s_tol uw).2)).setIfInBounds 41 (.int .i64 (numT (numT s_tol uw).1 up).2)).setIfInBounds 42 u_upol))[j]? = L[j]?) := fun j hj => by
    have h := E4.out j hj
    rw [← h]
    repeat rw [Array.getElem?_setIfInBounds_ne (by omega)]
  have N5 : Hid ((rowT polT (false, 0, 0) (numT (numT s_tol uw).1 up).1 upol).1.len ≤ st.len + 524584) := by
    have q0 := N4.out
    have q1 := (numT_len s_tol uw)
    have q2 := (numT_len (numT s_tol uw).1 up)
    have q3 := (rowT_len fine_P (false, 0, 0) (numT (numT s_tol uw).1 up).1 upol)
    show _ ≤ _
    omega
  have I5 : Hid ((rowT polT (false, 0, 0) (numT (numT s_tol uw).1 up).1 upol).1.isR = st.isR) := by
    show _ = _
    simp only [numT_isR, rowT_isR fine_P]
    exact I4.out
  clear k0 Q5 kr CC4
  obtain ⟨⟨s_uw, v_uw⟩, h_uw⟩ : ∃ p, p = numT s_tol uw := ⟨_, rfl⟩
  simp only [← h_uw] at P5 N5 I5 eo b_tg b_mn b_mx b_met b_tol b_uw b_up b_upol b_dw b_dp b_dpol b_past
  obtain ⟨⟨s_up, v_up⟩, h_up⟩ : ∃ p, p = numT s_uw up := ⟨_, rfl⟩
  simp only [← h_up] at P5 N5 I5 eo b_tg b_mn b_mx b_met b_tol b_uw b_up b_upol b_dw b_dp b_dpol b_past
  obtain ⟨⟨s_upol, v_upol⟩, h_upol⟩ : ∃ p, p = rowT polT (false, 0, 0) s_up upol := ⟨_, rfl⟩
  simp only [← h_upol] at P5 N5 I5 eo b_tg b_mn b_mx b_met b_tol b_uw b_up b_upol b_dw b_dp b_dpol b_past
  obtain ⟨L5, hL5⟩ : ∃ l, l = (((L4.setIfInBounds 40 (.int .i64 v_uw)).setIfInBounds 41 (.int .i64 v_up)).setIfInBounds 42 u_upol) := ⟨_, rfl⟩
  rw [← hL5] at P5 eo b_tg b_mn b_mx b_met b_tol b_uw b_up b_upol b_dw b_dp b_dpol b_past
  replace A_tg := Lib.hid (b_tg.trans A_tg.out)
  clear b_tg
  replace A_mn := Lib.hid (b_mn.trans A_mn.out)
  clear b_mn
  replace A_mx := Lib.hid (b_mx.trans A_mx.out)
  clear b_mx
  replace A_met : Hid (SlA A C O 3 encM w5 L5[38]? v_met) := by
    have h := A_met.out.mv M5
    show SlA _ _ _ _ _ _ _ _
    rw [b_met]
    exact h
  clear b_met
  replace A_tol := Lib.hid (b_tol.trans A_tol.out)
  clear b_tol
  replace A_uw := Lib.hid b_uw
  clear b_uw
  replace A_up := Lib.hid b_up
  clear b_up
  replace A_upol := Lib.hid b_upol
  clear b_upol
  replace A_dw := Lib.hid (b_dw.trans A_dw.out)
  clear b_dw
  replace A_dp := Lib.hid (b_dp.trans A_dp.out)
  clear b_dp
  replace A_dpol : Hid (SlA A C O 3 encP w5 L5[45]? dpol) := by
    have h := A_dpol.out.mv M5
    show SlA _ _ _ _ _ _ _ _
    rw [b_dpol]
    exact h
  replace Z_dpol : Hid (SlZ st L5[45]? dpol) := by
    have h := Z_dpol.out
    show SlZ _ _ _
    rw [b_dpol]
    exact h
  clear b_dpol
  replace A_past : Hid (SlA A C O 3 encS w5 L5[46]? past) := by
    have h := A_past.out.mv M5
    show SlA _ _ _ _ _ _ _ _
    rw [b_past]
    exact h
  replace Z_past : Hid (SlZ st L5[46]? past) := by
    have h := Z_past.out
    show SlZ _ _ _
    rw [b_past]
    exact h
  clear b_past
  have E5 := eo
  have H_uw := Lib.hid h_uw
  have H_up := Lib.hid h_up
  have H_upol := Lib.hid h_upol
  clear eo M5 hL5 h_uw h_up h_upol P4
  clear E4 N4 I4
  go_wp2_with fail
  have CC5 := Lib.hid (behavior_any w5 N A C O 43 s_upol L5 T fz dw dp dpol P5.out.1 P5.out.2.1 (fun h => HF.out.1 (by rw [← I5.out]; exact h)) A_dw.out A_dp.out A_dpol.out (fun h => Z_dpol.out (by rw [← I5.out]; exact h)) (by have q1 := N5.out; have q2 := HF.out.2; omega))
  refine CC5.out.mono ?_
  rintro e w6 ⟨rfl, u_dpol, k0, kr⟩
  have Q6 : Pst N A C O (rowT polT (false, 0, 0) (numT (numT s_upol dw).1 dp).1 dpol).1 (((L5.setIfInBounds 43 (.int .i64 (numT s_upol dw).2)).setIfInBounds 44 (.int .i64 (numT (numT s_upol dw).1 dp).2)).setIfInBounds 45 u_dpol) T fz w5 w6 := k0
  have M6 : Mv A C O w5 w6 := Q6.2.2
  have P6 : Hid (Pst N A C O (rowT polT (false, 0, 0) (numT (numT s_upol dw).1 dp).1 dpol).1 (((L5.setIfInBounds 43 (.int .i64 (numT s_upol dw).2)).setIfInBounds 44 (.int .i64 (numT (numT s_upol dw).1 dp).2)).setIfInBounds 45 u_dpol) T fz w w6) := P5.out.trans Q6
  have b_tg : ((((L5.setIfInBounds 43 (.int .i64 (numT s_upol dw).2)).setIfInBounds 44 (.int .i64 (numT (numT s_upol dw).1 dp).2)).setIfInBounds 45 u_dpol))[35]? = (L5)[35]? := by simp [Array.getElem?_setIfInBounds]
  have b_mn : ((((L5.setIfInBounds 43 (.int .i64 (numT s_upol dw).2)).setIfInBounds 44 (.int .i64 (numT (numT s_upol dw).1 dp).2)).setIfInBounds 45 u_dpol))[36]? = (L5)[36]? := by simp [Array.getElem?_setIfInBounds]
  have b_mx : ((((L5.setIfInBounds 43 (.int .i64 (numT s_upol dw).2)).setIfInBounds 44 (.int .i64 (numT (numT s_upol dw).1 dp).2)).setIfInBounds 45 u_dpol))[37]? = (L5)[37]? := by simp [Array.getElem?_setIfInBounds]
  have b_met : ((((L5.setIfInBounds 43 (.int .i64 (numT s_upol dw).2)).setIfInBounds 44 (.int .i64 (numT (numT s_upol dw).1 dp).2)).setIfInBounds 45 u_dpol))[38]? = (L5)[38]? := by simp [Array.getElem?_setIfInBounds]
  have b_tol : ((((L5.setIfInBounds 43 (.int .i64 (numT s_upol dw).2)).setIfInBounds 44 (.int .i64 (numT (numT s_upol dw).1 dp).2)).setIfInBounds 45 u_dpol))[39]? = (L5)[39]? := by simp [Array.getElem?_setIfInBounds]
  have b_uw : ((((L5.setIfInBounds 43 (.int .i64 (numT s_upol dw).2)).setIfInBounds 44 (.int .i64 (numT (numT s_upol dw).1 dp).2)).setIfInBounds 45 u_dpol))[40]? = (L5)[40]? := by simp [Array.getElem?_setIfInBounds]
  have b_up : ((((L5.setIfInBounds 43 (.int .i64 (numT s_upol dw).2)).setIfInBounds 44 (.int .i64 (numT (numT s_upol dw).1 dp).2)).setIfInBounds 45 u_dpol))[41]? = (L5)[41]? := by simp [Array.getElem?_setIfInBounds]
  have b_upol : ((((L5.setIfInBounds 43 (.int .i64 (numT s_upol dw).2)).setIfInBounds 44 (.int .i64 (numT (numT s_upol dw).1 dp).2)).setIfInBounds 45 u_dpol))[42]? = (L5)[42]? := by simp [Array.getElem?_setIfInBounds]
  have b_dw : ((((L5.setIfInBounds 43 (.int .i64 (numT s_upol dw).2)).setIfInBounds 44 (.int .i64 (numT (numT s_upol dw).1 dp).2)).setIfInBounds 45 u_dpol))[43]? = some (.int .i64 (numT s_upol dw).2) := by
    have hsz := (Array.getElem?_eq_some_iff.1 A_dw.out).1
    simp [Array.getElem?_setIfInBounds, hsz]
  have b_dp : ((((L5.setIfInBounds 43 (.int .i64 (numT s_upol dw).2)).setIfInBounds 44 (.int .i64 (numT (numT s_upol dw).1 dp).2)).setIfInBounds 45 u_dpol))[44]? = some (.int .i64 (numT (numT s_upol dw).1 dp).2) := by
    have hsz := (Array.getElem?_eq_some_iff.1 A_dp.out).1
    simp [Array.getElem?_setIfInBounds, hsz]
  have b_dpol : SlA A C O 3 encP w6 ((((L5.setIfInBounds 43 (.int .i64 (numT s_upol dw).2)).setIfInBounds 44 (.int .i64 (numT (numT s_upol dw).1 dp).2)).setIfInBounds 45 u_dpol))[45]? (rowT polT (false, 0, 0) (numT (numT s_upol dw).1 dp).1 dpol).2 := by
    obtain ⟨q0, c0, e0, _⟩ := A_dpol.out
    have e1 : (((L5.setIfInBounds 43 (.int .i64 (numT s_upol dw).2)).setIfInBounds 44 (.int .i64 (numT (numT s_upol dw).1 dp).2)))[45]? = some _ := (show (((L5.setIfInBounds 43 (.int .i64 (numT s_upol dw).2)).setIfInBounds 44 (.int .i64 (numT (numT s_upol dw).1 dp).2)))[45]? = (L5)[45]? by simp [Array.getElem?_setIfInBounds]).trans e0
    rw [setIf_get e1]
    exact kr
  have b_past : ((((L5.setIfInBounds 43 (.int .i64 (numT s_upol dw).2)).setIfInBounds 44 (.int .i64 (numT (numT s_upol dw).1 dp).2)).setIfInBounds 45 u_dpol))[46]? = (L5)[46]? := by simp [Array.getElem?_setIfInBounds]
  have eo : Hid (∀ j, j < 35 ∨ 47 ≤ j → ((((L5.setIfInBounds 43 (.int .i64 (numT s_upol dw).2)).setIfInBounds 44 (.int .i64 (numT (numT s_upol dw).1 dp).2)).setIfInBounds 45 u_dpol))[j]? = L[j]?) := fun j hj => by
    have h := E5.out j hj
    rw [← h]
    repeat rw [Array.getElem?_setIfInBounds_ne (by omega)]
  have N6 : Hid ((rowT polT (false, 0, 0) (numT (numT s_upol dw).1 dp).1 dpol).1.len ≤ st.len + 786744) := by
    have q0 := N5.out
    have q1 := (numT_len s_upol dw)
    have q2 := (numT_len (numT s_upol dw).1 dp)
    have q3 := (rowT_len fine_P (false, 0, 0) (numT (numT s_upol dw).1 dp).1 dpol)
    show _ ≤ _
    omega
  have I6 : Hid ((rowT polT (false, 0, 0) (numT (numT s_upol dw).1 dp).1 dpol).1.isR = st.isR) := by
    show _ = _
    simp only [numT_isR, rowT_isR fine_P]
    exact I5.out
  clear k0 Q6 kr CC5
  obtain ⟨⟨s_dw, v_dw⟩, h_dw⟩ : ∃ p, p = numT s_upol dw := ⟨_, rfl⟩
  simp only [← h_dw] at P6 N6 I6 eo b_tg b_mn b_mx b_met b_tol b_uw b_up b_upol b_dw b_dp b_dpol b_past
  obtain ⟨⟨s_dp, v_dp⟩, h_dp⟩ : ∃ p, p = numT s_dw dp := ⟨_, rfl⟩
  simp only [← h_dp] at P6 N6 I6 eo b_tg b_mn b_mx b_met b_tol b_uw b_up b_upol b_dw b_dp b_dpol b_past
  obtain ⟨⟨s_dpol, v_dpol⟩, h_dpol⟩ : ∃ p, p = rowT polT (false, 0, 0) s_dp dpol := ⟨_, rfl⟩
  simp only [← h_dpol] at P6 N6 I6 eo b_tg b_mn b_mx b_met b_tol b_uw b_up b_upol b_dw b_dp b_dpol b_past
  obtain ⟨L6, hL6⟩ : ∃ l, l = (((L5.setIfInBounds 43 (.int .i64 v_dw)).setIfInBounds 44 (.int .i64 v_dp)).setIfInBounds 45 u_dpol) := ⟨_, rfl⟩
  rw [← hL6] at P6 eo b_tg b_mn b_mx b_met b_tol b_uw b_up b_upol b_dw b_dp b_dpol b_past
  replace A_tg := Lib.hid (b_tg.trans A_tg.out)
  clear b_tg
  replace A_mn := Lib.hid (b_mn.trans A_mn.out)
  clear b_mn
  replace A_mx := Lib.hid (b_mx.trans A_mx.out)
  clear b_mx
  replace A_met : Hid (SlA A C O 3 encM w6 L6[38]? v_met) := by
    have h := A_met.out.mv M6
    show SlA _ _ _ _ _ _ _ _
    rw [b_met]
    exact h
  clear b_met
  replace A_tol := Lib.hid (b_tol.trans A_tol.out)
  clear b_tol
  replace A_uw := Lib.hid (b_uw.trans A_uw.out)
  clear b_uw
  replace A_up := Lib.hid (b_up.trans A_up.out)
  clear b_up
  replace A_upol : Hid (SlA A C O 3 encP w6 L6[42]? v_upol) := by
    have h := A_upol.out.mv M6
    show SlA _ _ _ _ _ _ _ _
    rw [b_upol]
    exact h
  clear b_upol
  replace A_dw := Lib.hid b_dw
  clear b_dw
  replace A_dp := Lib.hid b_dp
  clear b_dp
  replace A_dpol := Lib.hid b_dpol
  clear b_dpol
  replace A_past : Hid (SlA A C O 3 encS w6 L6[46]? past) := by
    have h := A_past.out.mv M6
    show SlA _ _ _ _ _ _ _ _
    rw [b_past]
    exact h
  replace Z_past : Hid (SlZ st L6[46]? past) := by
    have h := Z_past.out
    show SlZ _ _ _
    rw [b_past]
    exact h
  clear b_past
  have E6 := eo
  have H_dw := Lib.hid h_dw
  have H_dp := Lib.hid h_dp
  have H_dpol := Lib.hid h_dpol
  clear eo M6 hL6 h_dw h_dp h_dpol P5
  clear E5 N5 I5
  go_wp2_with fail
  have CC6 := Lib.hid (rowS_any w6 N A C O 46 s_dpol L6 T fz past P6.out.1 P6.out.2.1 (fun h => HF.out.1 (by rw [← I6.out]; exact h)) A_past.out (fun h => Z_past.out (by rw [← I6.out]; exact h)) (by have q1 := N6.out; have q2 := HF.out.2; omega))
  refine CC6.out.mono ?_
  rintro e w7 ⟨rfl, u_past, k0, kr⟩
  have Q7 : Pst N A C O (rowT scaT (0, 0, 0) s_dpol past).1 (L6.setIfInBounds 46 u_past) T fz w6 w7 := k0
  have M7 : Mv A C O w6 w7 := Q7.2.2
  have P7 : Hid (Pst N A C O (rowT scaT (0, 0, 0) s_dpol past).1 (L6.setIfInBounds 46 u_past) T fz w w7) := P6.out.trans Q7
  have b_tg : ((L6.setIfInBounds 46 u_past))[35]? = (L6)[35]? := by simp [Array.getElem?_setIfInBounds]
  have b_mn : ((L6.setIfInBounds 46 u_past))[36]? = (L6)[36]? := by simp [Array.getElem?_setIfInBounds]
  have b_mx : ((L6.setIfInBounds 46 u_past))[37]? = (L6)[37]? := by simp [Array.getElem?_setIfInBounds]
  have b_met : ((L6.setIfInBounds 46 u_past))[38]? = (L6)[38]? := by simp [Array.getElem?_setIfInBounds]
  have b_tol : ((L6.setIfInBounds 46 u_past))[39]? = (L6)[39]? := by simp [Array.getElem?_setIfInBounds]
  have b_uw : ((L6.setIfInBounds 46 u_past))[40]? = (L6)[40]? := by simp [Array.getElem?_setIfInBounds]
  have b_up : ((L6.setIfInBounds 46 u_past))[41]? = (L6)[41]? := by simp [Array.getElem?_setIfInBounds]
  have b_upol : ((L6.setIfInBounds 46 u_past))[42]? = (L6)[42]? := by simp [Array.getElem?_setIfInBounds]
  have b_dw : ((L6.setIfInBounds 46 u_past))[43]? = (L6)[43]? := by simp [Array.getElem?_setIfInBounds]
  have b_dp : ((L6.setIfInBounds 46 u_past))[44]? = (L6)[44]? := by simp [Array.getElem?_setIfInBounds]
  have b_dpol : ((L6.setIfInBounds 46 u_past))[45]? = (L6)[45]? := by simp [Array.getElem?_setIfInBounds]
  have b_past : SlA A C O 3 encS w7 ((L6.setIfInBounds 46 u_past))[46]? (rowT scaT (0, 0, 0) s_dpol past).2 := by
    obtain ⟨q0, c0, e0, _⟩ := A_past.out
    have e1 : (L6)[46]? = some _ := e0
    rw [setIf_get e1]
    exact kr
  have eo : Hid (∀ j, j < 35 ∨ 47 ≤ j → ((L6.setIfInBounds 46 u_past))[j]? = L[j]?) := fun j hj => by
    have h := E6.out j hj
    rw [← h]
    repeat rw [Array.getElem?_setIfInBounds_ne (by omega)]
  have N7 : Hid ((rowT scaT (0, 0, 0) s_dpol past).1.len ≤ st.len + 1048888) := by
    have q0 := N6.out
    have q1 := (rowT_len fine_S (0, 0, 0) s_dpol past)
    show _ ≤ _
    omega
  have I7 : Hid ((rowT scaT (0, 0, 0) s_dpol past).1.isR = st.isR) := by
    show _ = _
    simp only [rowT_isR fine_S]
    exact I6.out
  clear k0 Q7 kr CC6
  obtain ⟨⟨s_past, v_past⟩, h_past⟩ : ∃ p, p = rowT scaT (0, 0, 0) s_dpol past := ⟨_, rfl⟩
  simp only [← h_past] at P7 N7 I7 eo b_tg b_mn b_mx b_met b_tol b_uw b_up b_upol b_dw b_dp b_dpol b_past
  obtain ⟨L7, hL7⟩ : ∃ l, l = (L6.setIfInBounds 46 u_past) := ⟨_, rfl⟩
  rw [← hL7] at P7 eo b_tg b_mn b_mx b_met b_tol b_uw b_up b_upol b_dw b_dp b_dpol b_past
  replace A_tg := Lib.hid (b_tg.trans A_tg.out)
  clear b_tg
  replace A_mn := Lib.hid (b_mn.trans A_mn.out)
  clear b_mn
  replace A_mx := Lib.hid (b_mx.trans A_mx.out)
  clear b_mx
  replace A_met : Hid (SlA A C O 3 encM w7 L7[38]? v_met) := by
    have h := A_met.out.mv M7
    show SlA _ _ _ _ _ _ _ _
    rw [b_met]
    exact h
  clear b_met
  replace A_tol := Lib.hid (b_tol.trans A_tol.out)
  clear b_tol
  replace A_uw := Lib.hid (b_uw.trans A_uw.out)
  clear b_uw
  replace A_up := Lib.hid (b_up.trans A_up.out)
  clear b_up
  replace A_upol : Hid (SlA A C O 3 encP w7 L7[42]? v_upol) := by
    have h := A_upol.out.mv M7
    show SlA _ _ _ _ _ _ _ _
    rw [b_upol]
    exact h
  clear b_upol
  replace A_dw := Lib.hid (b_dw.trans A_dw.out)
  clear b_dw
  replace A_dp := Lib.hid (b_dp.trans A_dp.out)
  clear b_dp
  replace A_dpol : Hid (SlA A C O 3 encP w7 L7[45]? v_dpol) := by
    have h := A_dpol.out.mv M7
    show SlA _ _ _ _ _ _ _ _
    rw [b_dpol]
    exact h
  clear b_dpol
  replace A_past := Lib.hid b_past
  clear b_past
  have E7 := eo
  have H_past := Lib.hid h_past
  clear eo M7 hL7 h_past P6
  clear E6 N6 I6
  have fin : hpT st ⟨tg, mn, mx, met, tol, uw, up, upol, dw, dp, dpol, past⟩ = (s_past, ⟨v_tg, v_mn, v_mx, v_met, v_tol, v_uw, v_up, v_upol, v_dw, v_dp, v_dpol, v_past⟩) := by
    simp only [hpT, ← H_tg.out, ← H_mn.out, ← H_mx.out, ← H_met.out, ← H_tol.out, ← H_uw.out, ← H_up.out, ← H_upol.out, ← H_dw.out, ← H_dp.out, ← H_dpol.out, ← H_past.out]
  have FIN : Hid (∃ L', Pst N A C O (hpT st ⟨tg, mn, mx, met, tol, uw, up, upol, dw, dp, dpol, past⟩).1 L' T fz w w7 ∧ hpA A C O w7 L' (hpT st ⟨tg, mn, mx, met, tol, uw, up, upol, dw, dp, dpol, past⟩).2 ∧ ∀ j, j < 35 ∨ 47 ≤ j → L'[j]? = L[j]?) := by
    show ∃ _, _
    rw [fin]
    exact ⟨L7, P7.out, ⟨A_tg.out, A_mn.out, A_mx.out, A_met.out, A_tol.out, A_uw.out, A_up.out, A_upol.out, A_dw.out, A_dp.out, A_dpol.out, A_past.out⟩, E7.out⟩
  clear fin
  go_wp2
  go_end0
  exact ⟨rfl, FIN.out⟩
end Go.Proofs.Ytlajiochpdlhaaa
