/- A Gp through the course. -/
import Derived.Test.YtlajiochpdlhaaaOctZ
namespace Go.Proofs.Ytlajiochpdlhaaa
open Go.RowKit Go.Shelf Go.Lib Go.Sort
open Go.Joins (cell_of_block unfrozen_of_block block_setCell)
set_option linter.unusedVariables false
set_option linter.unusedSimpArgs false
set_option maxRecDepth 20000

def gpT (st : St) (x : Gp) : St × Gp :=
  let p_mn := numT st x.mn
  let p_mx := numT p_mn.1 x.mx
  let p_tg := numT p_mx.1 x.tg
  let p_cpu := numT p_tg.1 x.cpu
  let p_mem := numT p_cpu.1 x.mem
  let p_lab := rowT labT (⟨#[]⟩, ⟨#[]⟩) p_mem.1 x.lab
  let p_tnt := rowT labT (⟨#[]⟩, ⟨#[]⟩) p_lab.1 x.tnt
  let p_prio := numT p_tnt.1 x.prio
  (p_prio.1, ⟨p_mn.2, p_mx.2, p_tg.2, p_cpu.2, p_mem.2, p_lab.2, p_tnt.2, p_prio.2⟩)
def gpA (A C O : Nat) (w : World) (L : Array Value) (x : Gp) : Prop :=
  L[27]? = some (.int .i64 x.mn) ∧ L[28]? = some (.int .i64 x.mx) ∧ L[29]? = some (.int .i64 x.tg) ∧ L[30]? = some (.int .i64 x.cpu) ∧ L[31]? = some (.int .i64 x.mem) ∧ SlA A C O 2 encL w L[32]? x.lab ∧ SlA A C O 2 encL w L[33]? x.tnt ∧ L[34]? = some (.int .i64 x.prio)
def gpZ (st : St) (L : Array Value) (x : Gp) : Prop := SlZ st L[32]? x.lab ∧ SlZ st L[33]? x.tnt
theorem gpT_isR (st : St) (x : Gp) : (gpT st x).1.isR = st.isR := by
  unfold gpT
  simp only [numT_isR, rowT_isR fine_L]
theorem gpT_len (st : St) (x : Gp) : (gpT st x).1.len ≤ st.len + 524336 := by
  unfold gpT
  dsimp only
  have q_mn := numT_len st x.mn
  obtain ⟨p_mn, hp_mn⟩ : ∃ p, p = numT st x.mn := ⟨_, rfl⟩
  simp only [← hp_mn] at *
  have q_mx := numT_len p_mn.1 x.mx
  obtain ⟨p_mx, hp_mx⟩ : ∃ p, p = numT p_mn.1 x.mx := ⟨_, rfl⟩
  simp only [← hp_mx] at *
  have q_tg := numT_len p_mx.1 x.tg
  obtain ⟨p_tg, hp_tg⟩ : ∃ p, p = numT p_mx.1 x.tg := ⟨_, rfl⟩
  simp only [← hp_tg] at *
  have q_cpu := numT_len p_tg.1 x.cpu
  obtain ⟨p_cpu, hp_cpu⟩ : ∃ p, p = numT p_tg.1 x.cpu := ⟨_, rfl⟩
  simp only [← hp_cpu] at *
  have q_mem := numT_len p_cpu.1 x.mem
  obtain ⟨p_mem, hp_mem⟩ : ∃ p, p = numT p_cpu.1 x.mem := ⟨_, rfl⟩
  simp only [← hp_mem] at *
  have q_lab := rowT_len fine_L (⟨#[]⟩, ⟨#[]⟩) p_mem.1 x.lab
  obtain ⟨p_lab, hp_lab⟩ : ∃ p, p = rowT labT (⟨#[]⟩, ⟨#[]⟩) p_mem.1 x.lab := ⟨_, rfl⟩
  simp only [← hp_lab] at *
  have q_tnt := rowT_len fine_L (⟨#[]⟩, ⟨#[]⟩) p_lab.1 x.tnt
  obtain ⟨p_tnt, hp_tnt⟩ : ∃ p, p = rowT labT (⟨#[]⟩, ⟨#[]⟩) p_lab.1 x.tnt := ⟨_, rfl⟩
  simp only [← hp_tnt] at *
  have q_prio := numT_len p_tnt.1 x.prio
  obtain ⟨p_prio, hp_prio⟩ : ∃ p, p = numT p_tnt.1 x.prio := ⟨_, rfl⟩
  simp only [← hp_prio] at *
  omega

set_option maxHeartbeats 8000000 in
theorem gp_any (w : World) (N A C O : Nat) (st : St) (L : Array Value) (T : TypeId) (fz : Nat × Nat) (x : Gp) (hc : CoreSt N A C st w) (ht : Tg A C O L T fz w) (hf : st.isR = true → fz = (0, 0)) (hx : gpA A C O w L x) (hz : gpZ st L x) (hl : st.len + 8000000 ≤ 1000000000) :
    Calls Try.prog 48 #[ptr C, .pointer (some ⟨O, 27, none⟩)] w fun e w' => e = .returned (.tuple #[]) ∧ ∃ L',
      Pst N A C O (gpT st x).1 L' T fz w w' ∧ gpA A C O w' L' (gpT st x).2 ∧ ∀ j, j < 27 ∨ 35 ≤ j → L'[j]? = L[j]? := by
  have mixed : Try.prog.follows .mixedOrders = true := by kernel_rfl
  have P0 : Hid (Pst N A C O st L T fz w w) := Pst.start hc ht
  obtain ⟨mn, mx, tg, cpu, mem, lab, tnt, prio⟩ := x
  obtain ⟨a_mn, a_mx, a_tg, a_cpu, a_mem, a_lab, a_tnt, a_prio⟩ := hx
  obtain ⟨z_lab, z_tnt⟩ := hz
  dsimp only at *
  have A_mn := Lib.hid a_mn
  have A_mx := Lib.hid a_mx
  have A_tg := Lib.hid a_tg
  have A_cpu := Lib.hid a_cpu
  have A_mem := Lib.hid a_mem
  have A_lab := Lib.hid a_lab
  have A_tnt := Lib.hid a_tnt
  have A_prio := Lib.hid a_prio
  have HF := Lib.hid (And.intro hf hl)
  have Z_lab := Lib.hid z_lab
  have Z_tnt := Lib.hid z_tnt
  clear hc ht hf hl a_mn a_mx a_tg a_cpu a_mem a_lab a_tnt a_prio z_lab z_tnt
  go_enter Try.func48, Try.ntmps48
  go_wp2_with fail
  have G0 : Hid (Gr w w.drew) := (Gr.refl _).drew
  have CC0 := Lib.hid (numI_any w.drew N A C O st L T fz [(27, mn), (28, mx), (29, tg)] (P0.out.gr1 G0.out).1 (P0.out.gr1 G0.out).2.1 HF.out.1 (by
    intro p hp
    simp only [List.mem_cons, List.not_mem_nil, or_false] at hp
    rcases hp with rfl | rfl | rfl
    · exact A_mn.out
    · exact A_mx.out
    · exact A_tg.out) (by simp) (by simp) (by have q2 := HF.out.2; simp only [List.length_cons, List.length_nil]; omega))
  go_region_with (go_at_call 50; refine CC0.out.mono ?_; rintro e w1 ⟨rfl, k0⟩)
  have Q1 : Pst N A C O (numT (numT (numT st mn).1 mx).1 tg).1 (((L.setIfInBounds 27 (.int .i64 (numT st mn).2)).setIfInBounds 28 (.int .i64 (numT (numT st mn).1 mx).2)).setIfInBounds 29 (.int .i64 (numT (numT (numT st mn).1 mx).1 tg).2)) T fz w.drew w1 := k0
  have M1 : Mv A C O w w1 := (Mv.gr P0.out.1.ltA G0.out).trans Q1.2.2
  have P1 : Hid (Pst N A C O (numT (numT (numT st mn).1 mx).1 tg).1 (((L.setIfInBounds 27 (.int .i64 (numT st mn).2)).setIfInBounds 28 (.int .i64 (numT (numT st mn).1 mx).2)).setIfInBounds 29 (.int .i64 (numT (numT (numT st mn).1 mx).1 tg).2)) T fz w w1) := (P0.out.gr1 G0.out).trans Q1
  have b_mn : ((((L.setIfInBounds 27 (.int .i64 (numT st mn).2)).setIfInBounds 28 (.int .i64 (numT (numT st mn).1 mx).2)).setIfInBounds 29 (.int .i64 (numT (numT (numT st mn).1 mx).1 tg).2)))[27]? = some (.int .i64 (numT st mn).2) := by
    have hsz := (Array.getElem?_eq_some_iff.1 A_mn.out).1
    simp [Array.getElem?_setIfInBounds, hsz]
  have b_mx : ((((L.setIfInBounds 27 (.int .i64 (numT st mn).2)).setIfInBounds 28 (.int .i64 (numT (numT st mn).1 mx).2)).setIfInBounds 29 (.int .i64 (numT (numT (numT st mn).1 mx).1 tg).2)))[28]? = some (.int .i64 (numT (numT st mn).1 mx).2) := by
    have hsz := (Array.getElem?_eq_some_iff.1 A_mx.out).1
    simp [Array.getElem?_setIfInBounds, hsz]
  have b_tg : ((((L.setIfInBounds 27 (.int .i64 (numT st mn).2)).setIfInBounds 28 (.int .i64 (numT (numT st mn).1 mx).2)).setIfInBounds 29 (.int .i64 (numT (numT (numT st mn).1 mx).1 tg).2)))[29]? = some (.int .i64 (numT (numT (numT st mn).1 mx).1 tg).2) := by
    have hsz := (Array.getElem?_eq_some_iff.1 A_tg.out).1
    simp [Array.getElem?_setIfInBounds, hsz]
  have b_cpu : ((((L.setIfInBounds 27 (.int .i64 (numT st mn).2)).setIfInBounds 28 (.int .i64 (numT (numT st mn).1 mx).2)).setIfInBounds 29 (.int .i64 (numT (numT (numT st mn).1 mx).1 tg).2)))[30]? = (L)[30]? := by simp [Array.getElem?_setIfInBounds]
  have b_mem : ((((L.setIfInBounds 27 (.int .i64 (numT st mn).2)).setIfInBounds 28 (.int .i64 (numT (numT st mn).1 mx).2)).setIfInBounds 29 (.int .i64 (numT (numT (numT st mn).1 mx).1 tg).2)))[31]? = (L)[31]? := by simp [Array.getElem?_setIfInBounds]
  have b_lab : ((((L.setIfInBounds 27 (.int .i64 (numT st mn).2)).setIfInBounds 28 (.int .i64 (numT (numT st mn).1 mx).2)).setIfInBounds 29 (.int .i64 (numT (numT (numT st mn).1 mx).1 tg).2)))[32]? = (L)[32]? := by simp [Array.getElem?_setIfInBounds]
  have b_tnt : ((((L.setIfInBounds 27 (.int .i64 (numT st mn).2)).setIfInBounds 28 (.int .i64 (numT (numT st mn).1 mx).2)).setIfInBounds 29 (.int .i64 (numT (numT (numT st mn).1 mx).1 tg).2)))[33]? = (L)[33]? := by simp [Array.getElem?_setIfInBounds]
  have b_prio : ((((L.setIfInBounds 27 (.int .i64 (numT st mn).2)).setIfInBounds 28 (.int .i64 (numT (numT st mn).1 mx).2)).setIfInBounds 29 (.int .i64 (numT (numT (numT st mn).1 mx).1 tg).2)))[34]? = (L)[34]? := by simp [Array.getElem?_setIfInBounds]
  have eo : Hid (∀ j, j < 27 ∨ 35 ≤ j → ((((L.setIfInBounds 27 (.int .i64 (numT st mn).2)).setIfInBounds 28 (.int .i64 (numT (numT st mn).1 mx).2)).setIfInBounds 29 (.int .i64 (numT (numT (numT st mn).1 mx).1 tg).2)))[j]? = L[j]?) := fun j hj => by
    repeat rw [Array.getElem?_setIfInBounds_ne (by omega)]
  have N1 : Hid ((numT (numT (numT st mn).1 mx).1 tg).1.len ≤ st.len + 24) := by
    have q1 := (numT_len st mn)
    have q2 := (numT_len (numT st mn).1 mx)
    have q3 := (numT_len (numT (numT st mn).1 mx).1 tg)
    show _ ≤ _
    omega
  have I1 : Hid ((numT (numT (numT st mn).1 mx).1 tg).1.isR = st.isR) := by
    show _ = _
    simp only [numT_isR]
  clear k0 Q1 CC0
  obtain ⟨⟨s_mn, v_mn⟩, h_mn⟩ : ∃ p, p = numT st mn := ⟨_, rfl⟩
  simp only [← h_mn] at P1 N1 I1 eo b_mn b_mx b_tg b_cpu b_mem b_lab b_tnt b_prio
  obtain ⟨⟨s_mx, v_mx⟩, h_mx⟩ : ∃ p, p = numT s_mn mx := ⟨_, rfl⟩
  simp only [← h_mx] at P1 N1 I1 eo b_mn b_mx b_tg b_cpu b_mem b_lab b_tnt b_prio
  obtain ⟨⟨s_tg, v_tg⟩, h_tg⟩ : ∃ p, p = numT s_mx tg := ⟨_, rfl⟩
  simp only [← h_tg] at P1 N1 I1 eo b_mn b_mx b_tg b_cpu b_mem b_lab b_tnt b_prio
  obtain ⟨L1, hL1⟩ : ∃ l, l = (((L.setIfInBounds 27 (.int .i64 v_mn)).setIfInBounds 28 (.int .i64 v_mx)).setIfInBounds 29 (.int .i64 v_tg)) := ⟨_, rfl⟩
  rw [← hL1] at P1 eo b_mn b_mx b_tg b_cpu b_mem b_lab b_tnt b_prio
  replace A_mn := Lib.hid b_mn
  clear b_mn
  replace A_mx := Lib.hid b_mx
  clear b_mx
  replace A_tg := Lib.hid b_tg
  clear b_tg
  replace A_cpu := Lib.hid (b_cpu.trans A_cpu.out)
  clear b_cpu
  replace A_mem := Lib.hid (b_mem.trans A_mem.out)
  clear b_mem
  replace A_lab : Hid (SlA A C O 2 encL w1 L1[32]? lab) := by
    have h := A_lab.out.mv M1
    show SlA _ _ _ _ _ _ _ _
    rw [b_lab]
    exact h
  replace Z_lab : Hid (SlZ st L1[32]? lab) := by
    have h := Z_lab.out
    show SlZ _ _ _
    rw [b_lab]
    exact h
  clear b_lab
  replace A_tnt : Hid (SlA A C O 2 encL w1 L1[33]? tnt) := by
    have h := A_tnt.out.mv M1
    show SlA _ _ _ _ _ _ _ _
    rw [b_tnt]
    exact h
  replace Z_tnt : Hid (SlZ st L1[33]? tnt) := by
    have h := Z_tnt.out
    show SlZ _ _ _
    rw [b_tnt]
    exact h
  clear b_tnt
  replace A_prio := Lib.hid (b_prio.trans A_prio.out)
  clear b_prio
  have E1 := eo
  have H_mn := Lib.hid h_mn
  have H_mx := Lib.hid h_mx
  have H_tg := Lib.hid h_tg
  clear eo M1 hL1 h_mn h_mx h_tg P0
  go_wp2_with fail
  have CC1 := Lib.hid (resources_item w1 N A C O 30 s_tg L1 T fz (cpu, mem) P1.out.1 P1.out.2.1 (fun h => HF.out.1 (by rw [← I1.out]; exact h)) (by
    intro t v hv
    match t, hv with
    | 0, hv => simp [encQ] at hv; subst hv; exact A_cpu.out
    | 1, hv => simp [encQ] at hv; subst hv; exact A_mem.out
    | t + 2, hv => simp [encQ] at hv) (by have q1 := N1.out; have q2 := HF.out.2; omega))
  refine CC1.out.mono ?_
  rintro e w2 ⟨rfl, k0⟩
  have Q2 : Pst N A C O (numT (numT s_tg cpu).1 mem).1 ((L1.setIfInBounds 30 (.int .i64 (numT s_tg cpu).2)).setIfInBounds 31 (.int .i64 (numT (numT s_tg cpu).1 mem).2)) T fz w1 w2 := k0
  have M2 : Mv A C O w1 w2 := Q2.2.2
  have P2 : Hid (Pst N A C O (numT (numT s_tg cpu).1 mem).1 ((L1.setIfInBounds 30 (.int .i64 (numT s_tg cpu).2)).setIfInBounds 31 (.int .i64 (numT (numT s_tg cpu).1 mem).2)) T fz w w2) := P1.out.trans Q2
  have b_mn : (((L1.setIfInBounds 30 (.int .i64 (numT s_tg cpu).2)).setIfInBounds 31 (.int .i64 (numT (numT s_tg cpu).1 mem).2)))[27]? = (L1)[27]? := by simp [Array.getElem?_setIfInBounds]
  have b_mx : (((L1.setIfInBounds 30 (.int .i64 (numT s_tg cpu).2)).setIfInBounds 31 (.int .i64 (numT (numT s_tg cpu).1 mem).2)))[28]? = (L1)[28]? := by simp [Array.getElem?_setIfInBounds]
  have b_tg : (((L1.setIfInBounds 30 (.int .i64 (numT s_tg cpu).2)).setIfInBounds 31 (.int .i64 (numT (numT s_tg cpu).1 mem).2)))[29]? = (L1)[29]? := by simp [Array.getElem?_setIfInBounds]
  have b_cpu : (((L1.setIfInBounds 30 (.int .i64 (numT s_tg cpu).2)).setIfInBounds 31 (.int .i64 (numT (numT s_tg cpu).1 mem).2)))[30]? = some (.int .i64 (numT s_tg cpu).2) := by
    have hsz := (Array.getElem?_eq_some_iff.1 A_cpu.out).1
    simp [Array.getElem?_setIfInBounds, hsz]
  have b_mem : (((L1.setIfInBounds 30 (.int .i64 (numT s_tg cpu).2)).setIfInBounds 31 (.int .i64 (numT (numT s_tg cpu).1 mem).2)))[31]? = some (.int .i64 (numT (numT s_tg cpu).1 mem).2) := by
    have hsz := (Array.getElem?_eq_some_iff.1 A_mem.out).1
    simp [Array.getElem?_setIfInBounds, hsz]
  have b_lab : (((L1.setIfInBounds 30 (.int .i64 (numT s_tg cpu).2)).setIfInBounds 31 (.int .i64 (numT (numT s_tg cpu).1 mem).2)))[32]? = (L1)[32]? := by simp [Array.getElem?_setIfInBounds]
  have b_tnt : (((L1.setIfInBounds 30 (.int .i64 (numT s_tg cpu).2)).setIfInBounds 31 (.int .i64 (numT (numT s_tg cpu).1 mem).2)))[33]? = (L1)[33]? := by simp [Array.getElem?_setIfInBounds]
  have b_prio : (((L1.setIfInBounds 30 (.int .i64 (numT s_tg cpu).2)).setIfInBounds 31 (.int .i64 (numT (numT s_tg cpu).1 mem).2)))[34]? = (L1)[34]? := by simp [Array.getElem?_setIfInBounds]
  have eo : Hid (∀ j, j < 27 ∨ 35 ≤ j → (((L1.setIfInBounds 30 (.int .i64 (numT s_tg cpu).2)).setIfInBounds 31 (.int .i64 (numT (numT s_tg cpu).1 mem).2)))[j]? = L[j]?) := fun j hj => by
    have h := E1.out j hj
    rw [← h]
    repeat rw [Array.getElem?_setIfInBounds_ne (by omega)]
  have N2 : Hid ((numT (numT s_tg cpu).1 mem).1.len ≤ st.len + 40) := by
    have q0 := N1.out
    have q1 := (numT_len s_tg cpu)
    have q2 := (numT_len (numT s_tg cpu).1 mem)
    show _ ≤ _
    omega
  have I2 : Hid ((numT (numT s_tg cpu).1 mem).1.isR = st.isR) := by
    show _ = _
    simp only [numT_isR]
    exact I1.out
  clear k0 Q2 CC1
  obtain ⟨⟨s_cpu, v_cpu⟩, h_cpu⟩ : ∃ p, p = numT s_tg cpu := ⟨_, rfl⟩
  simp only [← h_cpu] at P2 N2 I2 eo b_mn b_mx b_tg b_cpu b_mem b_lab b_tnt b_prio
  obtain ⟨⟨s_mem, v_mem⟩, h_mem⟩ : ∃ p, p = numT s_cpu mem := ⟨_, rfl⟩
  simp only [← h_mem] at P2 N2 I2 eo b_mn b_mx b_tg b_cpu b_mem b_lab b_tnt b_prio
  obtain ⟨L2, hL2⟩ : ∃ l, l = ((L1.setIfInBounds 30 (.int .i64 v_cpu)).setIfInBounds 31 (.int .i64 v_mem)) := ⟨_, rfl⟩
  rw [← hL2] at P2 eo b_mn b_mx b_tg b_cpu b_mem b_lab b_tnt b_prio
  replace A_mn := Lib.hid (b_mn.trans A_mn.out)
  clear b_mn
  replace A_mx := Lib.hid (b_mx.trans A_mx.out)
  clear b_mx
  replace A_tg := Lib.hid (b_tg.trans A_tg.out)
  clear b_tg
  replace A_cpu := Lib.hid b_cpu
  clear b_cpu
  replace A_mem := Lib.hid b_mem
  clear b_mem
  replace A_lab : Hid (SlA A C O 2 encL w2 L2[32]? lab) := by
    have h := A_lab.out.mv M2
    show SlA _ _ _ _ _ _ _ _
    rw [b_lab]
    exact h
  replace Z_lab : Hid (SlZ st L2[32]? lab) := by
    have h := Z_lab.out
    show SlZ _ _ _
    rw [b_lab]
    exact h
  clear b_lab
  replace A_tnt : Hid (SlA A C O 2 encL w2 L2[33]? tnt) := by
    have h := A_tnt.out.mv M2
    show SlA _ _ _ _ _ _ _ _
    rw [b_tnt]
    exact h
  replace Z_tnt : Hid (SlZ st L2[33]? tnt) := by
    have h := Z_tnt.out
    show SlZ _ _ _
    rw [b_tnt]
    exact h
  clear b_tnt
  replace A_prio := Lib.hid (b_prio.trans A_prio.out)
  clear b_prio
  have E2 := eo
  have H_cpu := Lib.hid h_cpu
  have H_mem := Lib.hid h_mem
  clear eo M2 hL2 h_cpu h_mem P1
  clear E1 N1 I1
  go_wp2_with fail
  have CC2 := Lib.hid (rowL_any w2 N A C O 32 s_mem L2 T fz lab P2.out.1 P2.out.2.1 (fun h => HF.out.1 (by rw [← I2.out]; exact h)) A_lab.out (fun h => Z_lab.out (by rw [← I2.out]; exact h)) (by have q1 := N2.out; have q2 := HF.out.2; omega))
  refine CC2.out.mono ?_
  rintro e w3 ⟨rfl, u_lab, k0, kr⟩
  have Q3 : Pst N A C O (rowT labT (⟨#[]⟩, ⟨#[]⟩) s_mem lab).1 (L2.setIfInBounds 32 u_lab) T fz w2 w3 := k0
  have M3 : Mv A C O w2 w3 := Q3.2.2
  have P3 : Hid (Pst N A C O (rowT labT (⟨#[]⟩, ⟨#[]⟩) s_mem lab).1 (L2.setIfInBounds 32 u_lab) T fz w w3) := P2.out.trans Q3
  have b_mn : ((L2.setIfInBounds 32 u_lab))[27]? = (L2)[27]? := by simp [Array.getElem?_setIfInBounds]
  have b_mx : ((L2.setIfInBounds 32 u_lab))[28]? = (L2)[28]? := by simp [Array.getElem?_setIfInBounds]
  have b_tg : ((L2.setIfInBounds 32 u_lab))[29]? = (L2)[29]? := by simp [Array.getElem?_setIfInBounds]
  have b_cpu : ((L2.setIfInBounds 32 u_lab))[30]? = (L2)[30]? := by simp [Array.getElem?_setIfInBounds]
  have b_mem : ((L2.setIfInBounds 32 u_lab))[31]? = (L2)[31]? := by simp [Array.getElem?_setIfInBounds]
  have b_lab : SlA A C O 2 encL w3 ((L2.setIfInBounds 32 u_lab))[32]? (rowT labT (⟨#[]⟩, ⟨#[]⟩) s_mem lab).2 := by
    obtain ⟨q0, c0, e0, _⟩ := A_lab.out
    have e1 : (L2)[32]? = some _ := e0
    rw [setIf_get e1]
    exact kr
  have b_tnt : ((L2.setIfInBounds 32 u_lab))[33]? = (L2)[33]? := by simp [Array.getElem?_setIfInBounds]
  have b_prio : ((L2.setIfInBounds 32 u_lab))[34]? = (L2)[34]? := by simp [Array.getElem?_setIfInBounds]
  have eo : Hid (∀ j, j < 27 ∨ 35 ≤ j → ((L2.setIfInBounds 32 u_lab))[j]? = L[j]?) := fun j hj => by
    have h := E2.out j hj
    rw [← h]
    repeat rw [Array.getElem?_setIfInBounds_ne (by omega)]
  have N3 : Hid ((rowT labT (⟨#[]⟩, ⟨#[]⟩) s_mem lab).1.len ≤ st.len + 262184) := by
    have q0 := N2.out
    have q1 := (rowT_len fine_L (⟨#[]⟩, ⟨#[]⟩) s_mem lab)
    show _ ≤ _
    omega
  have I3 : Hid ((rowT labT (⟨#[]⟩, ⟨#[]⟩) s_mem lab).1.isR = st.isR) := by
    show _ = _
    simp only [rowT_isR fine_L]
    exact I2.out
  clear k0 Q3 kr CC2
  obtain ⟨⟨s_lab, v_lab⟩, h_lab⟩ : ∃ p, p = rowT labT (⟨#[]⟩, ⟨#[]⟩) s_mem lab := ⟨_, rfl⟩
  simp only [← h_lab] at P3 N3 I3 eo b_mn b_mx b_tg b_cpu b_mem b_lab b_tnt b_prio
  obtain ⟨L3, hL3⟩ : ∃ l, l = (L2.setIfInBounds 32 u_lab) := ⟨_, rfl⟩
  rw [← hL3] at P3 eo b_mn b_mx b_tg b_cpu b_mem b_lab b_tnt b_prio
  replace A_mn := Lib.hid (b_mn.trans A_mn.out)
  clear b_mn
  replace A_mx := Lib.hid (b_mx.trans A_mx.out)
  clear b_mx
  replace A_tg := Lib.hid (b_tg.trans A_tg.out)
  clear b_tg
  replace A_cpu := Lib.hid (b_cpu.trans A_cpu.out)
  clear b_cpu
  replace A_mem := Lib.hid (b_mem.trans A_mem.out)
  clear b_mem
  replace A_lab := Lib.hid b_lab
  clear b_lab
  replace A_tnt : Hid (SlA A C O 2 encL w3 L3[33]? tnt) := by
    have h := A_tnt.out.mv M3
    show SlA _ _ _ _ _ _ _ _
    rw [b_tnt]
    exact h
  replace Z_tnt : Hid (SlZ st L3[33]? tnt) := by
    have h := Z_tnt.out
    show SlZ _ _ _
    rw [b_tnt]
    exact h
  clear b_tnt
  replace A_prio := Lib.hid (b_prio.trans A_prio.out)
  clear b_prio
  have E3 := eo
  have H_lab := Lib.hid h_lab
  clear eo M3 hL3 h_lab P2
  clear E2 N2 I2
  go_wp2_with fail
  have CC3 := Lib.hid (rowL_any w3 N A C O 33 s_lab L3 T fz tnt P3.out.1 P3.out.2.1 (fun h => HF.out.1 (by rw [← I3.out]; exact h)) A_tnt.out (fun h => Z_tnt.out (by rw [← I3.out]; exact h)) (by have q1 := N3.out; have q2 := HF.out.2; omega))
  refine CC3.out.mono ?_
  rintro e w4 ⟨rfl, u_tnt, k0, kr⟩
  have Q4 : Pst N A C O (rowT labT (⟨#[]⟩, ⟨#[]⟩) s_lab tnt).1 (L3.setIfInBounds 33 u_tnt) T fz w3 w4 := k0
  have M4 : Mv A C O w3 w4 := Q4.2.2
  have P4 : Hid (Pst N A C O (rowT labT (⟨#[]⟩, ⟨#[]⟩) s_lab tnt).1 (L3.setIfInBounds 33 u_tnt) T fz w w4) := P3.out.trans Q4
  have b_mn : ((L3.setIfInBounds 33 u_tnt))[27]? = (L3)[27]? := by simp [Array.getElem?_setIfInBounds]
  have b_mx : ((L3.setIfInBounds 33 u_tnt))[28]? = (L3)[28]? := by simp [Array.getElem?_setIfInBounds]
  have b_tg : ((L3.setIfInBounds 33 u_tnt))[29]? = (L3)[29]? := by simp [Array.getElem?_setIfInBounds]
  have b_cpu : ((L3.setIfInBounds 33 u_tnt))[30]? = (L3)[30]? := by simp [Array.getElem?_setIfInBounds]
  have b_mem : ((L3.setIfInBounds 33 u_tnt))[31]? = (L3)[31]? := by simp [Array.getElem?_setIfInBounds]
  have b_lab : ((L3.setIfInBounds 33 u_tnt))[32]? = (L3)[32]? := by simp [Array.getElem?_setIfInBounds]
  have b_tnt : SlA A C O 2 encL w4 ((L3.setIfInBounds 33 u_tnt))[33]? (rowT labT (⟨#[]⟩, ⟨#[]⟩) s_lab tnt).2 := by
    obtain ⟨q0, c0, e0, _⟩ := A_tnt.out
    have e1 : (L3)[33]? = some _ := e0
    rw [setIf_get e1]
    exact kr
  have b_prio : ((L3.setIfInBounds 33 u_tnt))[34]? = (L3)[34]? := by simp [Array.getElem?_setIfInBounds]
  have eo : Hid (∀ j, j < 27 ∨ 35 ≤ j → ((L3.setIfInBounds 33 u_tnt))[j]? = L[j]?) := fun j hj => by
    have h := E3.out j hj
    rw [← h]
    repeat rw [Array.getElem?_setIfInBounds_ne (by omega)]
  have N4 : Hid ((rowT labT (⟨#[]⟩, ⟨#[]⟩) s_lab tnt).1.len ≤ st.len + 524328) := by
    have q0 := N3.out
    have q1 := (rowT_len fine_L (⟨#[]⟩, ⟨#[]⟩) s_lab tnt)
    show _ ≤ _
    omega
  have I4 : Hid ((rowT labT (⟨#[]⟩, ⟨#[]⟩) s_lab tnt).1.isR = st.isR) := by
    show _ = _
    simp only [rowT_isR fine_L]
    exact I3.out
  clear k0 Q4 kr CC3
  obtain ⟨⟨s_tnt, v_tnt⟩, h_tnt⟩ : ∃ p, p = rowT labT (⟨#[]⟩, ⟨#[]⟩) s_lab tnt := ⟨_, rfl⟩
  simp only [← h_tnt] at P4 N4 I4 eo b_mn b_mx b_tg b_cpu b_mem b_lab b_tnt b_prio
  obtain ⟨L4, hL4⟩ : ∃ l, l = (L3.setIfInBounds 33 u_tnt) := ⟨_, rfl⟩
  rw [← hL4] at P4 eo b_mn b_mx b_tg b_cpu b_mem b_lab b_tnt b_prio
  replace A_mn := Lib.hid (b_mn.trans A_mn.out)
  clear b_mn
  replace A_mx := Lib.hid (b_mx.trans A_mx.out)
  clear b_mx
  replace A_tg := Lib.hid (b_tg.trans A_tg.out)
  clear b_tg
  replace A_cpu := Lib.hid (b_cpu.trans A_cpu.out)
  clear b_cpu
  replace A_mem := Lib.hid (b_mem.trans A_mem.out)
  clear b_mem
  replace A_lab : Hid (SlA A C O 2 encL w4 L4[32]? v_lab) := by
    have h := A_lab.out.mv M4
    show SlA _ _ _ _ _ _ _ _
    rw [b_lab]
    exact h
  clear b_lab
  replace A_tnt := Lib.hid b_tnt
  clear b_tnt
  replace A_prio := Lib.hid (b_prio.trans A_prio.out)
  clear b_prio
  have E4 := eo
  have H_tnt := Lib.hid h_tnt
  clear eo M4 hL4 h_tnt P3
  clear E3 N3 I3
  go_wp2_with fail
  have CC4 := Lib.hid (numI_any w4 N A C O s_tnt L4 T fz [(34, prio)] P4.out.1 P4.out.2.1 (fun h => HF.out.1 (by rw [← I4.out]; exact h)) (by intro p hp; simp only [List.mem_cons, List.not_mem_nil, or_false] at hp; subst hp; exact A_prio.out) (by simp) (by simp) (by have q1 := N4.out; have q2 := HF.out.2; simp only [List.length_cons, List.length_nil]; omega))
  refine CC4.out.mono ?_
  rintro e w5 ⟨rfl, k0⟩
  have Q5 : Pst N A C O (numT s_tnt prio).1 (L4.setIfInBounds 34 (.int .i64 (numT s_tnt prio).2)) T fz w4 w5 := k0
  have M5 : Mv A C O w4 w5 := Q5.2.2
  have P5 : Hid (Pst N A C O (numT s_tnt prio).1 (L4.setIfInBounds 34 (.int .i64 (numT s_tnt prio).2)) T fz w w5) := P4.out.trans Q5
  have b_mn : ((L4.setIfInBounds 34 (.int .i64 (numT s_tnt prio).2)))[27]? = (L4)[27]? := by simp [Array.getElem?_setIfInBounds]
  have b_mx : ((L4.setIfInBounds 34 (.int .i64 (numT s_tnt prio).2)))[28]? = (L4)[28]? := by simp [Array.getElem?_setIfInBounds]
  have b_tg : ((L4.setIfInBounds 34 (.int .i64 (numT s_tnt prio).2)))[29]? = (L4)[29]? := by simp [Array.getElem?_setIfInBounds]
  have b_cpu : ((L4.setIfInBounds 34 (.int .i64 (numT s_tnt prio).2)))[30]? = (L4)[30]? := by simp [Array.getElem?_setIfInBounds]
  have b_mem : ((L4.setIfInBounds 34 (.int .i64 (numT s_tnt prio).2)))[31]? = (L4)[31]? := by simp [Array.getElem?_setIfInBounds]
  have b_lab : ((L4.setIfInBounds 34 (.int .i64 (numT s_tnt prio).2)))[32]? = (L4)[32]? := by simp [Array.getElem?_setIfInBounds]
  have b_tnt : ((L4.setIfInBounds 34 (.int .i64 (numT s_tnt prio).2)))[33]? = (L4)[33]? := by simp [Array.getElem?_setIfInBounds]
  have b_prio : ((L4.setIfInBounds 34 (.int .i64 (numT s_tnt prio).2)))[34]? = some (.int .i64 (numT s_tnt prio).2) := by
    have hsz := (Array.getElem?_eq_some_iff.1 A_prio.out).1
    simp [Array.getElem?_setIfInBounds, hsz]
  have eo : Hid (∀ j, j < 27 ∨ 35 ≤ j → ((L4.setIfInBounds 34 (.int .i64 (numT s_tnt prio).2)))[j]? = L[j]?) := fun j hj => by
    have h := E4.out j hj
    rw [← h]
    repeat rw [Array.getElem?_setIfInBounds_ne (by omega)]
  have N5 : Hid ((numT s_tnt prio).1.len ≤ st.len + 524336) := by
    have q0 := N4.out
    have q1 := (numT_len s_tnt prio)
    show _ ≤ _
    omega
  have I5 : Hid ((numT s_tnt prio).1.isR = st.isR) := by
    show _ = _
    simp only [numT_isR]
    exact I4.out
  clear k0 Q5 CC4
  obtain ⟨⟨s_prio, v_prio⟩, h_prio⟩ : ∃ p, p = numT s_tnt prio := ⟨_, rfl⟩
  simp only [← h_prio] at P5 N5 I5 eo b_mn b_mx b_tg b_cpu b_mem b_lab b_tnt b_prio
  obtain ⟨L5, hL5⟩ : ∃ l, l = (L4.setIfInBounds 34 (.int .i64 v_prio)) := ⟨_, rfl⟩
  rw [← hL5] at P5 eo b_mn b_mx b_tg b_cpu b_mem b_lab b_tnt b_prio
  replace A_mn := Lib.hid (b_mn.trans A_mn.out)
  clear b_mn
  replace A_mx := Lib.hid (b_mx.trans A_mx.out)
  clear b_mx
  replace A_tg := Lib.hid (b_tg.trans A_tg.out)
  clear b_tg
  replace A_cpu := Lib.hid (b_cpu.trans A_cpu.out)
  clear b_cpu
  replace A_mem := Lib.hid (b_mem.trans A_mem.out)
  clear b_mem
  replace A_lab : Hid (SlA A C O 2 encL w5 L5[32]? v_lab) := by
    have h := A_lab.out.mv M5
    show SlA _ _ _ _ _ _ _ _
    rw [b_lab]
    exact h
  clear b_lab
  replace A_tnt : Hid (SlA A C O 2 encL w5 L5[33]? v_tnt) := by
    have h := A_tnt.out.mv M5
    show SlA _ _ _ _ _ _ _ _
    rw [b_tnt]
    exact h
  clear b_tnt
  replace A_prio := Lib.hid b_prio
  clear b_prio
  have E5 := eo
  have H_prio := Lib.hid h_prio
  clear eo M5 hL5 h_prio P4
  clear E4 N4 I4
  have fin : gpT st ⟨mn, mx, tg, cpu, mem, lab, tnt, prio⟩ = (s_prio, ⟨v_mn, v_mx, v_tg, v_cpu, v_mem, v_lab, v_tnt, v_prio⟩) := by
    simp only [gpT, ← H_mn.out, ← H_mx.out, ← H_tg.out, ← H_cpu.out, ← H_mem.out, ← H_lab.out, ← H_tnt.out, ← H_prio.out]
  have FIN : Hid (∃ L', Pst N A C O (gpT st ⟨mn, mx, tg, cpu, mem, lab, tnt, prio⟩).1 L' T fz w w5 ∧ gpA A C O w5 L' (gpT st ⟨mn, mx, tg, cpu, mem, lab, tnt, prio⟩).2 ∧ ∀ j, j < 27 ∨ 35 ≤ j → L'[j]? = L[j]?) := by
    show ∃ _, _
    rw [fin]
    exact ⟨L5, P5.out, ⟨A_mn.out, A_mx.out, A_tg.out, A_cpu.out, A_mem.out, A_lab.out, A_tnt.out, A_prio.out⟩, E5.out⟩
  clear fin
  go_wp2
  go_end0
  exact ⟨rfl, FIN.out⟩
end Go.Proofs.Ytlajiochpdlhaaa
