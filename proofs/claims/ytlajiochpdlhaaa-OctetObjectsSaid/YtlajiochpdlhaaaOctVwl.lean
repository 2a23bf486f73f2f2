/- A Wl through the course. -/
import Derived.Test.YtlajiochpdlhaaaOctZ
namespace Go.Proofs.Ytlajiochpdlhaaa
open Go.RowKit Go.Shelf Go.Lib Go.Sort
open Go.Joins (cell_of_block unfrozen_of_block block_setCell)
set_option linter.unusedVariables false
set_option linter.unusedSimpArgs false
set_option maxRecDepth 20000

def wlT (st : St) (x : Wl) : St × Wl :=
  let p_rep := numT st x.rep
  let p_cpu := numT p_rep.1 x.cpu
  let p_mem := numT p_cpu.1 x.mem
  let p_lab := rowT labT (⟨#[]⟩, ⟨#[]⟩) p_mem.1 x.lab
  let p_sel := rowT reqT (⟨#[]⟩, ⟨#[]⟩, 0) p_lab.1 x.sel
  let p_tol := rowT labT (⟨#[]⟩, ⟨#[]⟩) p_sel.1 x.tol
  let p_warm := numT p_tol.1 x.warm
  (p_warm.1, ⟨p_rep.2, p_cpu.2, p_mem.2, p_lab.2, p_sel.2, p_tol.2, p_warm.2⟩)
def wlA (A C O : Nat) (w : World) (L : Array Value) (x : Wl) : Prop :=
  L[3]? = some (.int .i64 x.rep) ∧ L[4]? = some (.int .i64 x.cpu) ∧ L[5]? = some (.int .i64 x.mem) ∧ SlA A C O 2 encL w L[6]? x.lab ∧ SlA A C O 3 encR w L[7]? x.sel ∧ SlA A C O 2 encL w L[8]? x.tol ∧ L[9]? = some (.int .i64 x.warm)
def wlZ (st : St) (L : Array Value) (x : Wl) : Prop := SlZ st L[6]? x.lab ∧ SlZ st L[7]? x.sel ∧ SlZ st L[8]? x.tol
theorem wlT_isR (st : St) (x : Wl) : (wlT st x).1.isR = st.isR := by
  unfold wlT
  simp only [numT_isR, rowT_isR fine_L, rowT_isR fine_R]
theorem wlT_len (st : St) (x : Wl) : (wlT st x).1.len ≤ st.len + 786464 := by
  unfold wlT
  dsimp only
  have q_rep := numT_len st x.rep
  obtain ⟨p_rep, hp_rep⟩ : ∃ p, p = numT st x.rep := ⟨_, rfl⟩
  simp only [← hp_rep] at *
  have q_cpu := numT_len p_rep.1 x.cpu
  obtain ⟨p_cpu, hp_cpu⟩ : ∃ p, p = numT p_rep.1 x.cpu := ⟨_, rfl⟩
  simp only [← hp_cpu] at *
  have q_mem := numT_len p_cpu.1 x.mem
  obtain ⟨p_mem, hp_mem⟩ : ∃ p, p = numT p_cpu.1 x.mem := ⟨_, rfl⟩
  simp only [← hp_mem] at *
  have q_lab := rowT_len fine_L (⟨#[]⟩, ⟨#[]⟩) p_mem.1 x.lab
  obtain ⟨p_lab, hp_lab⟩ : ∃ p, p = rowT labT (⟨#[]⟩, ⟨#[]⟩) p_mem.1 x.lab := ⟨_, rfl⟩
  simp only [← hp_lab] at *
  have q_sel := rowT_len fine_R (⟨#[]⟩, ⟨#[]⟩, 0) p_lab.1 x.sel
  obtain ⟨p_sel, hp_sel⟩ : ∃ p, p = rowT reqT (⟨#[]⟩, ⟨#[]⟩, 0) p_lab.1 x.sel := ⟨_, rfl⟩
  simp only [← hp_sel] at *
  have q_tol := rowT_len fine_L (⟨#[]⟩, ⟨#[]⟩) p_sel.1 x.tol
  obtain ⟨p_tol, hp_tol⟩ : ∃ p, p = rowT labT (⟨#[]⟩, ⟨#[]⟩) p_sel.1 x.tol := ⟨_, rfl⟩
  simp only [← hp_tol] at *
  have q_warm := numT_len p_tol.1 x.warm
  obtain ⟨p_warm, hp_warm⟩ : ∃ p, p = numT p_tol.1 x.warm := ⟨_, rfl⟩
  simp only [← hp_warm] at *
  omega

set_option maxHeartbeats 8000000 in
theorem wl_any (w : World) (N A C O : Nat) (st : St) (L : Array Value) (T : TypeId) (fz : Nat × Nat) (x : Wl) (hc : CoreSt N A C st w) (ht : Tg A C O L T fz w) (hf : st.isR = true → fz = (0, 0)) (hx : wlA A C O w L x) (hz : wlZ st L x) (hl : st.len + 8000000 ≤ 1000000000) :
    Calls Try.prog 45 #[ptr C, .pointer (some ⟨O, 3, none⟩)] w fun e w' => e = .returned (.tuple #[]) ∧ ∃ L',
      Pst N A C O (wlT st x).1 L' T fz w w' ∧ wlA A C O w' L' (wlT st x).2 ∧ ∀ j, j < 3 ∨ 10 ≤ j → L'[j]? = L[j]? := by
  have mixed : Try.prog.follows .mixedOrders = true := by kernel_rfl
  have P0 : Hid (Pst N A C O st L T fz w w) := Pst.start hc ht
  obtain ⟨rep, cpu, mem, lab, sel, tol, warm⟩ := x
  obtain ⟨a_rep, a_cpu, a_mem, a_lab, a_sel, a_tol, a_warm⟩ := hx
  obtain ⟨z_lab, z_sel, z_tol⟩ := hz
  dsimp only at *
  have A_rep := Lib.hid a_rep
  have A_cpu := Lib.hid a_cpu
  have A_mem := Lib.hid a_mem
  have A_lab := Lib.hid a_lab
  have A_sel := Lib.hid a_sel
  have A_tol := Lib.hid a_tol
  have A_warm := Lib.hid a_warm
  have HF := Lib.hid (And.intro hf hl)
  have Z_lab := Lib.hid z_lab
  have Z_sel := Lib.hid z_sel
  have Z_tol := Lib.hid z_tol
  clear hc ht hf hl a_rep a_cpu a_mem a_lab a_sel a_tol a_warm z_lab z_sel z_tol
  go_enter Try.func45, Try.ntmps45
  go_wp2_with fail
  have CC0 := Lib.hid (numI_any w N A C O st L T fz [(3, rep)] P0.out.1 P0.out.2.1 HF.out.1 (by intro p hp; simp only [List.mem_cons, List.not_mem_nil, or_false] at hp; subst hp; exact A_rep.out) (by simp) (by simp) (by have q2 := HF.out.2; simp only [List.length_cons, List.length_nil]; omega))
  refine CC0.out.mono ?_
  rintro e w1 ⟨rfl, k0⟩
  have Q1 : Pst N A C O (numT st rep).1 (L.setIfInBounds 3 (.int .i64 (numT st rep).2)) T fz w w1 := k0
  have M1 : Mv A C O w w1 := Q1.2.2
  have P1 : Hid (Pst N A C O (numT st rep).1 (L.setIfInBounds 3 (.int .i64 (numT st rep).2)) T fz w w1) := P0.out.trans Q1
  have b_rep : ((L.setIfInBounds 3 (.int .i64 (numT st rep).2)))[3]? = some (.int .i64 (numT st rep).2) := by
    have hsz := (Array.getElem?_eq_some_iff.1 A_rep.out).1
    simp [Array.getElem?_setIfInBounds, hsz]
  have b_cpu : ((L.setIfInBounds 3 (.int .i64 (numT st rep).2)))[4]? = (L)[4]? := by simp [Array.getElem?_setIfInBounds]
  have b_mem : ((L.setIfInBounds 3 (.int .i64 (numT st rep).2)))[5]? = (L)[5]? := by simp [Array.getElem?_setIfInBounds]
  have b_lab : ((L.setIfInBounds 3 (.int .i64 (numT st rep).2)))[6]? = (L)[6]? := by simp [Array.getElem?_setIfInBounds]
  have b_sel : ((L.setIfInBounds 3 (.int .i64 (numT st rep).2)))[7]? = (L)[7]? := by simp [Array.getElem?_setIfInBounds]
  have b_tol : ((L.setIfInBounds 3 (.int .i64 (numT st rep).2)))[8]? = (L)[8]? := by simp [Array.getElem?_setIfInBounds]
  have b_warm : ((L.setIfInBounds 3 (.int .i64 (numT st rep).2)))[9]? = (L)[9]? := by simp [Array.getElem?_setIfInBounds]
  have eo : Hid (∀ j, j < 3 ∨ 10 ≤ j → ((L.setIfInBounds 3 (.int .i64 (numT st rep).2)))[j]? = L[j]?) := fun j hj => by
    repeat rw [Array.getElem?_setIfInBounds_ne (by omega)]
  have N1 : Hid ((numT st rep).1.len ≤ st.len + 8) := by
    have q1 := (numT_len st rep)
    show _ ≤ _
    omega
  have I1 : Hid ((numT st rep).1.isR = st.isR) := by
    show _ = _
    simp only [numT_isR]
  clear k0 Q1 CC0
  obtain ⟨⟨s_rep, v_rep⟩, h_rep⟩ : ∃ p, p = numT st rep := ⟨_, rfl⟩
  simp only [← h_rep] at P1 N1 I1 eo b_rep b_cpu b_mem b_lab b_sel b_tol b_warm
  obtain ⟨L1, hL1⟩ : ∃ l, l = (L.setIfInBounds 3 (.int .i64 v_rep)) := ⟨_, rfl⟩
  rw [← hL1] at P1 eo b_rep b_cpu b_mem b_lab b_sel b_tol b_warm
  replace A_rep := Lib.hid b_rep
  clear b_rep
  replace A_cpu := Lib.hid (b_cpu.trans A_cpu.out)
  clear b_cpu
  replace A_mem := Lib.hid (b_mem.trans A_mem.out)
  clear b_mem
  replace A_lab : Hid (SlA A C O 2 encL w1 L1[6]? lab) := by
    have h := A_lab.out.mv M1
    show SlA _ _ _ _ _ _ _ _
    rw [b_lab]
    exact h
  replace Z_lab : Hid (SlZ st L1[6]? lab) := by
    have h := Z_lab.out
    show SlZ _ _ _
    rw [b_lab]
    exact h
  clear b_lab
  replace A_sel : Hid (SlA A C O 3 encR w1 L1[7]? sel) := by
    have h := A_sel.out.mv M1
    show SlA _ _ _ _ _ _ _ _
    rw [b_sel]
    exact h
  replace Z_sel : Hid (SlZ st L1[7]? sel) := by
    have h := Z_sel.out
    show SlZ _ _ _
    rw [b_sel]
    exact h
  clear b_sel
  replace A_tol : Hid (SlA A C O 2 encL w1 L1[8]? tol) := by
    have h := A_tol.out.mv M1
    show SlA _ _ _ _ _ _ _ _
    rw [b_tol]
    exact h
  replace Z_tol : Hid (SlZ st L1[8]? tol) := by
    have h := Z_tol.out
    show SlZ _ _ _
    rw [b_tol]
    exact h
  clear b_tol
  replace A_warm := Lib.hid (b_warm.trans A_warm.out)
  clear b_warm
  have E1 := eo
  have H_rep := Lib.hid h_rep
  clear eo M1 hL1 h_rep P0
  go_wp2_with fail
  have CC1 := Lib.hid (resources_item w1 N A C O 4 s_rep L1 T fz (cpu, mem) P1.out.1 P1.out.2.1 (fun h => HF.out.1 (by rw [← I1.out]; exact h)) (by
    intro t v hv
    match t, hv with
    | 0, hv => simp [encQ] at hv; subst hv; exact A_cpu.out
    | 1, hv => simp [encQ] at hv; subst hv; exact A_mem.out
    | t + 2, hv => simp [encQ] at hv) (by have q1 := N1.out; have q2 := HF.out.2; omega))
  refine CC1.out.mono ?_
  rintro e w2 ⟨rfl, k0⟩
  have Q2 : Pst N A C O (numT (numT s_rep cpu).1 mem).1 ((L1.setIfInBounds 4 (.int .i64 (numT s_rep cpu).2)).setIfInBounds 5 (.int .i64 (numT (numT s_rep cpu).1 mem).2)) T fz w1 w2 := k0
  have M2 : Mv A C O w1 w2 := Q2.2.2
  have P2 : Hid (Pst N A C O (numT (numT s_rep cpu).1 mem).1 ((L1.setIfInBounds 4 (.int .i64 (numT s_rep cpu).2)).setIfInBounds 5 (.int .i64 (numT (numT s_rep cpu).1 mem).2)) T fz w w2) := P1.out.trans Q2
  have b_rep : (((L1.setIfInBounds 4 (.int .i64 (numT s_rep cpu).2)).setIfInBounds 5 (.int .i64 (numT (numT s_rep cpu).1 mem).2)))[3]? = (L1)[3]? := by simp [Array.getElem?_setIfInBounds]
  have b_cpu : (((L1.setIfInBounds 4 (.int .i64 (numT s_rep cpu).2)).setIfInBounds 5 (.int .i64 (numT (numT s_rep cpu).1 mem).2)))[4]? = some (.int .i64 (numT s_rep cpu).2) := by
    have hsz := (Array.getElem?_eq_some_iff.1 A_cpu.out).1
    simp [Array.getElem?_setIfInBounds, hsz]
  have b_mem : (((L1.setIfInBounds 4 (.int .i64 (numT s_rep cpu).2)).setIfInBounds 5 (.int .i64 (numT (numT s_rep cpu).1 mem).2)))[5]? = some (.int .i64 (numT (numT s_rep cpu).1 mem).2) := by
    have hsz := (Array.getElem?_eq_some_iff.1 A_mem.out).1
    simp [Array.getElem?_setIfInBounds, hsz]
  have b_lab : (((L1.setIfInBounds 4 (.int .i64 (numT s_rep cpu).2)).setIfInBounds 5 (.int .i64 (numT (numT s_rep cpu).1 mem).2)))[6]? = (L1)[6]? := by simp [Array.getElem?_setIfInBounds]
  have b_sel : (((L1.setIfInBounds 4 (.int .i64 (numT s_rep cpu).2)).setIfInBounds 5 (.int .i64 (numT (numT s_rep cpu).1 mem).2)))[7]? = (L1)[7]? := by simp [Array.getElem?_setIfInBounds]
  have b_tol : (((L1.setIfInBounds 4 (.int .i64 (numT s_rep cpu).2)).setIfInBounds 5 (.int .i64 (numT (numT s_rep cpu).1 mem).2)))[8]? = (L1)[8]? := by simp [Array.getElem?_setIfInBounds]
  have b_warm : (((L1.setIfInBounds 4 (.int .i64 (numT s_rep cpu).2)).setIfInBounds 5 (.int .i64 (numT (numT s_rep cpu).1 mem).2)))[9]? = (L1)[9]? := by simp [Array.getElem?_setIfInBounds]
  have eo : Hid (∀ j, j < 3 ∨ 10 ≤ j → (((L1.setIfInBounds 4 (.int .i64 (numT s_rep cpu).2)).setIfInBounds 5 (.int .i64 (numT (numT s_rep cpu).1 mem).2)))[j]? = L[j]?) := fun j hj => by
    have h := E1.out j hj
    rw [← h]
    repeat rw [Array.getElem?_setIfInBounds_ne (by omega)]
  have N2 : Hid ((numT (numT s_rep cpu).1 mem).1.len ≤ st.len + 24) := by
    have q0 := N1.out
    have q1 := (numT_len s_rep cpu)
    have q2 := (numT_len (numT s_rep cpu).1 mem)
    show _ ≤ _
    omega
  have I2 : Hid ((numT (numT s_rep cpu).1 mem).1.isR = st.isR) := by
    show _ = _
    simp only [numT_isR]
    exact I1.out
  clear k0 Q2 CC1
  obtain ⟨⟨s_cpu, v_cpu⟩, h_cpu⟩ : ∃ p, p = numT s_rep cpu := ⟨_, rfl⟩
  simp only [← h_cpu] at P2 N2 I2 eo b_rep b_cpu b_mem b_lab b_sel b_tol b_warm
  obtain ⟨⟨s_mem, v_mem⟩, h_mem⟩ : ∃ p, p = numT s_cpu mem := ⟨_, rfl⟩
  simp only [← h_mem] at P2 N2 I2 eo b_rep b_cpu b_mem b_lab b_sel b_tol b_warm
  obtain ⟨L2, hL2⟩ : ∃ l, l = ((L1.setIfInBounds 4 (.int .i64 v_cpu)).setIfInBounds 5 (.int .i64 v_mem)) := ⟨_, rfl⟩
  rw [← hL2] at P2 eo b_rep b_cpu b_mem b_lab b_sel b_tol b_warm
  replace A_rep := Lib.hid (b_rep.trans A_rep.out)
  clear b_rep
  replace A_cpu := Lib.hid b_cpu
  clear b_cpu
  replace A_mem := Lib.hid b_mem
  clear b_mem
  replace A_lab : Hid (SlA A C O 2 encL w2 L2[6]? lab) := by
    have h := A_lab.out.mv M2
    show SlA _ _ _ _ _ _ _ _
    rw [b_lab]
    exact h
  replace Z_lab : Hid (SlZ st L2[6]? lab) := by
    have h := Z_lab.out
    show SlZ _ _ _
    rw [b_lab]
    exact h
  clear b_lab
  replace A_sel : Hid (SlA A C O 3 encR w2 L2[7]? sel) := by
    have h := A_sel.out.mv M2
    show SlA _ _ _ _ _ _ _ _
    rw [b_sel]
    exact h
  replace Z_sel : Hid (SlZ st L2[7]? sel) := by
    have h := Z_sel.out
    show SlZ _ _ _
    rw [b_sel]
    exact h
  clear b_sel
  replace A_tol : Hid (SlA A C O 2 encL w2 L2[8]? tol) := by
    have h := A_tol.out.mv M2
    show SlA _ _ _ _ _ _ _ _
    rw [b_tol]
    exact h
  replace Z_tol : Hid (SlZ st L2[8]? tol) := by
    have h := Z_tol.out
    show SlZ _ _ _
    rw [b_tol]
    exact h
  clear b_tol
  replace A_warm := Lib.hid (b_warm.trans A_warm.out)
  clear b_warm
  have E2 := eo
  have H_cpu := Lib.hid h_cpu
  have H_mem := Lib.hid h_mem
  clear eo M2 hL2 h_cpu h_mem P1
  clear E1 N1 I1
  go_wp2_with fail
  have CC2 := Lib.hid (rowL_any w2 N A C O 6 s_mem L2 T fz lab P2.out.1 P2.out.2.1 (fun h => HF.out.1 (by rw [← I2.out]; exact h)) A_lab.out (fun h => Z_lab.out (by rw [← I2.out]; exact h)) (by have q1 := N2.out; have q2 := HF.out.2; omega))
  refine CC2.out.mono ?_
  rintro e w3 ⟨rfl, u_lab, k0, kr⟩
  have Q3 : Pst N A C O (rowT labT (⟨#[]⟩, ⟨#[]⟩) s_mem lab).1 (L2.setIfInBounds 6 u_lab) T fz w2 w3 := k0
  have M3 : Mv A C O w2 w3 := Q3.2.2
  have P3 : Hid (Pst N A C O (rowT labT (⟨#[]⟩, ⟨#[]⟩) s_mem lab).1 (L2.setIfInBounds 6 u_lab) T fz w w3) := P2.out.trans Q3
  have b_rep : ((L2.setIfInBounds 6 u_lab))[3]? = (L2)[3]? := by simp [Array.getElem?_setIfInBounds]
  have b_cpu : ((L2.setIfInBounds 6 u_lab))[4]? = (L2)[4]? := by simp [Array.getElem?_setIfInBounds]
  have b_mem : ((L2.setIfInBounds 6 u_lab))[5]? = (L2)[5]? := by simp [Array.getElem?_setIfInBounds]
  have b_lab : SlA A C O 2 encL w3 ((L2.setIfInBounds 6 u_lab))[6]? (rowT labT (⟨#[]⟩, ⟨#[]⟩) s_mem lab).2 := by
    obtain ⟨q0, c0, e0, _⟩ := A_lab.out
    have e1 : (L2)[6]? = some _ := e0
    rw [setIf_get e1]
    exact kr
  have b_sel : ((L2.setIfInBounds 6 u_lab))[7]? = (L2)[7]? := by simp [Array.getElem?_setIfInBounds]
  have b_tol : ((L2.setIfInBounds 6 u_lab))[8]? = (L2)[8]? := by simp [Array.getElem?_setIfInBounds]
  have b_warm : ((L2.setIfInBounds 6 u_lab))[9]? = (L2)[9]? := by simp [Array.getElem?_setIfInBounds]
  have eo : Hid (∀ j, j < 3 ∨ 10 ≤ j → ((L2.setIfInBounds 6 u_lab))[j]? = L[j]?) := fun j hj => by
    have h := E2.out j hj
    rw [← h]
    repeat rw [Array.getElem?_setIfInBounds_ne (by omega)]
  have N3 : Hid ((rowT labT (⟨#[]⟩, ⟨#[]⟩) s_mem lab).1.len ≤ st.len + 262168) := by
    have q0 := N2.out
    have q1 := (rowT_len fine_L (⟨#[]⟩, ⟨#[]⟩) s_mem lab)
    show _ ≤ _
    omega
  have I3 : Hid ((rowT labT (⟨#[]⟩, ⟨#[]⟩) s_mem lab).1.isR = st.isR) := by
    show _ = _
    simp only [rowT_isR fine_L]
    exact I2.out
  clear k0 Q3 kr CC2
  obtain ⟨⟨s_lab, v_lab⟩, h_lab⟩ : ∃ p, p = rowT labT (⟨#[]⟩, ⟨#[]⟩) s_mem lab := ⟨_, rfl⟩
  simp only [← h_lab] at P3 N3 I3 eo b_rep b_cpu b_mem b_lab b_sel b_tol b_warm
  obtain ⟨L3, hL3⟩ : ∃ l, l = (L2.setIfInBounds 6 u_lab) := ⟨_, rfl⟩
  rw [← hL3] at P3 eo b_rep b_cpu b_mem b_lab b_sel b_tol b_warm
  replace A_rep := Lib.hid (b_rep.trans A_rep.out)
  clear b_rep
  replace A_cpu := Lib.hid (b_cpu.trans A_cpu.out)
  clear b_cpu
  replace A_mem := Lib.hid (b_mem.trans A_mem.out)
  clear b_mem
  replace A_lab := Lib.hid b_lab
  clear b_lab
  replace A_sel : Hid (SlA A C O 3 encR w3 L3[7]? sel) := by
    have h := A_sel.out.mv M3
    show SlA _ _ _ _ _ _ _ _
    rw [b_sel]
    exact h
  replace Z_sel : Hid (SlZ st L3[7]? sel) := by
    have h := Z_sel.out
    show SlZ _ _ _
    rw [b_sel]
    exact h
  clear b_sel
  replace A_tol : Hid (SlA A C O 2 encL w3 L3[8]? tol) := by
    have h := A_tol.out.mv M3
    show SlA _ _ _ _ _ _ _ _
    rw [b_tol]
    exact h
  replace Z_tol : Hid (SlZ st L3[8]? tol) := by
    have h := Z_tol.out
    show SlZ _ _ _
    rw [b_tol]
    exact h
  clear b_tol
  replace A_warm := Lib.hid (b_warm.trans A_warm.out)
  clear b_warm
  have E3 := eo
  have H_lab := Lib.hid h_lab
  clear eo M3 hL3 h_lab P2
  clear E2 N2 I2
  go_wp2_with fail
  have CC3 := Lib.hid (rowR_any w3 N A C O 7 s_lab L3 T fz sel P3.out.1 P3.out.2.1 (fun h => HF.out.1 (by rw [← I3.out]; exact h)) A_sel.out (fun h => Z_sel.out (by rw [← I3.out]; exact h)) (by have q1 := N3.out; have q2 := HF.out.2; omega))
  refine CC3.out.mono ?_
  rintro e w4 ⟨rfl, u_sel, k0, kr⟩
  have Q4 : Pst N A C O (rowT reqT (⟨#[]⟩, ⟨#[]⟩, 0) s_lab sel).1 (L3.setIfInBounds 7 u_sel) T fz w3 w4 := k0
  have M4 : Mv A C O w3 w4 := Q4.2.2
  have P4 : Hid (Pst N A C O (rowT reqT (⟨#[]⟩, ⟨#[]⟩, 0) s_lab sel).1 (L3.setIfInBounds 7 u_sel) T fz w w4) := P3.out.trans Q4
  have b_rep : ((L3.setIfInBounds 7 u_sel))[3]? = (L3)[3]? := by simp [Array.getElem?_setIfInBounds]
  have b_cpu : ((L3.setIfInBounds 7 u_sel))[4]? = (L3)[4]? := by simp [Array.getElem?_setIfInBounds]
  have b_mem : ((L3.setIfInBounds 7 u_sel))[5]? = (L3)[5]? := by simp [Array.getElem?_setIfInBounds]
  have b_lab : ((L3.setIfInBounds 7 u_sel))[6]? = (L3)[6]? := by simp [Array.getElem?_setIfInBounds]
  have b_sel : SlA A C O 3 encR w4 ((L3.setIfInBounds 7 u_sel))[7]? (rowT reqT (⟨#[]⟩, ⟨#[]⟩, 0) s_lab sel).2 := by
    obtain ⟨q0, c0, e0, _⟩ := A_sel.out
    have e1 : (L3)[7]? = some _ := e0
    rw [setIf_get e1]
    exact kr
  have b_tol : ((L3.setIfInBounds 7 u_sel))[8]? = (L3)[8]? := by simp [Array.getElem?_setIfInBounds]
  have b_warm : ((L3.setIfInBounds 7 u_sel))[9]? = (L3)[9]? := by simp [Array.getElem?_setIfInBounds]
  have eo : Hid (∀ j, j < 3 ∨ 10 ≤ j → ((L3.setIfInBounds 7 u_sel))[j]? = L[j]?) := fun j hj => by
    have h := E3.out j hj
    rw [← h]
    repeat rw [Array.getElem?_setIfInBounds_ne (by omega)]
  have N4 : Hid ((rowT reqT (⟨#[]⟩, ⟨#[]⟩, 0) s_lab sel).1.len ≤ st.len + 524312) := by
    have q0 := N3.out
    have q1 := (rowT_len fine_R (⟨#[]⟩, ⟨#[]⟩, 0) s_lab sel)
    show _ ≤ _
    omega
  have I4 : Hid ((rowT reqT (⟨#[]⟩, ⟨#[]⟩, 0) s_lab sel).1.isR = st.isR) := by
    show _ = _
    simp only [rowT_isR fine_R]
    exact I3.out
  clear k0 Q4 kr CC3
  obtain ⟨⟨s_sel, v_sel⟩, h_sel⟩ : ∃ p, p = rowT reqT (⟨#[]⟩, ⟨#[]⟩, 0) s_lab sel := ⟨_, rfl⟩
  simp only [← h_sel] at P4 N4 I4 eo b_rep b_cpu b_mem b_lab b_sel b_tol b_warm
  obtain ⟨L4, hL4⟩ : ∃ l, l = (L3.setIfInBounds 7 u_sel) := ⟨_, rfl⟩
  rw [← hL4] at P4 eo b_rep b_cpu b_mem b_lab b_sel b_tol b_warm
  replace A_rep := Lib.hid (b_rep.trans A_rep.out)
  clear b_rep
  replace A_cpu := Lib.hid (b_cpu.trans A_cpu.out)
  clear b_cpu
  replace A_mem := Lib.hid (b_mem.trans A_mem.out)
  clear b_mem
  replace A_lab : Hid (SlA A C O 2 encL w4 L4[6]? v_lab) := by
    have h := A_lab.out.mv M4
    show SlA _ _ _ _ _ _ _ _
    rw [b_lab]
    exact h
  clear b_lab
  replace A_sel := Lib.hid b_sel
  clear b_sel
  replace A_tol : Hid (SlA A C O 2 encL w4 L4[8]? tol) := by
    have h := A_tol.out.mv M4
    show SlA _ _ _ _ _ _ _ _
    rw [b_tol]
    exact h
  replace Z_tol : Hid (SlZ st L4[8]? tol) := by
    have h := Z_tol.out
    show SlZ _ _ _
    rw [b_tol]
    exact h
  clear b_tol
  replace A_warm := Lib.hid (b_warm.trans A_warm.out)
  clear b_warm
  have E4 := eo
  have H_sel := Lib.hid h_sel
  clear eo M4 hL4 h_sel P3
  clear E3 N3 I3
  go_wp2_with fail
  have CC4 := Lib.hid (rowL_any w4 N A C O 8 s_sel L4 T fz tol P4.out.1 P4.out.2.1 (fun h => HF.out.1 (by rw [← I4.out]; exact h)) A_tol.out (fun h => Z_tol.out (by rw [← I4.out]; exact h)) (by have q1 := N4.out; have q2 := HF.out.2; omega))
  refine CC4.out.mono ?_
  rintro e w5 ⟨rfl, u_tol, k0, kr⟩
  have Q5 : Pst N A C O (rowT labT (⟨#[]⟩, ⟨#[]⟩) s_sel tol).1 (L4.setIfInBounds 8 u_tol) T fz w4 w5 := k0
  have M5 : Mv A C O w4 w5 := Q5.2.2
  have P5 : Hid (Pst N A C O (rowT labT (⟨#[]⟩, ⟨#[]⟩) s_sel tol).1 (L4.setIfInBounds 8 u_tol) T fz w w5) := P4.out.trans Q5
  have b_rep : ((L4.setIfInBounds 8 u_tol))[3]? = (L4)[3]? := by simp [Array.getElem?_setIfInBounds]
  have b_cpu : ((L4.setIfInBounds 8 u_tol))[4]? = (L4)[4]? := by simp [Array.getElem?_setIfInBounds]
  have b_mem : ((L4.setIfInBounds 8 u_tol))[5]? = (L4)[5]? := by simp [Array.getElem?_setIfInBounds]
  have b_lab : ((L4.setIfInBounds 8 u_tol))[6]? = (L4)[6]? := by simp [Array.getElem?_setIfInBounds]
  have b_sel : ((L4.setIfInBounds 8 u_tol))[7]? = (L4)[7]? := by simp [Array.getElem?_setIfInBounds]
  have b_tol : SlA A C O 2 encL w5 ((L4.setIfInBounds 8 u_tol))[8]? (rowT labT (⟨#[]⟩, ⟨#[]⟩) s_sel tol).2 := by
    obtain ⟨q0, c0, e0, _⟩ := A_tol.out
    have e1 : (L4)[8]? = some _ := e0
    rw [setIf_get e1]
    exact kr
  have b_warm : ((L4.setIfInBounds 8 u_tol))[9]? = (L4)[9]? := by simp [Array.getElem?_setIfInBounds]
  have eo : Hid (∀ j, j < 3 ∨ 10 ≤ j → ((L4.setIfInBounds 8 u_tol))[j]? = L[j]?) := fun j hj => by
    have h := E4.out j hj
    rw [← h]
    repeat rw [Array.getElem?_setIfInBounds_ne (by omega)]
  have N5 : Hid ((rowT labT (⟨#[]⟩, ⟨#[]⟩) s_sel tol).1.len ≤ st.len + 786456) := by
    have q0 := N4.out
    have q1 := (rowT_len fine_L (⟨#[]⟩, ⟨#[]⟩) s_sel tol)
    show _ ≤ _
    omega
  have I5 : Hid ((rowT labT (⟨#[]⟩, ⟨#[]⟩) s_sel tol).1.isR = st.isR) := by
    show _ = _
    simp only [rowT_isR fine_L]
    exact I4.out
  clear k0 Q5 kr CC4
  obtain ⟨⟨s_tol, v_tol⟩, h_tol⟩ : ∃ p, p = rowT labT (⟨#[]⟩, ⟨#[]⟩) s_sel tol := ⟨_, rfl⟩
  simp only [← h_tol] at P5 N5 I5 eo b_rep b_cpu b_mem b_lab b_sel b_tol b_warm
  obtain ⟨L5, hL5⟩ : ∃ l, l = (L4.setIfInBounds 8 u_tol) := ⟨_, rfl⟩
  rw [← hL5] at P5 eo b_rep b_cpu b_mem b_lab b_sel b_tol b_warm
  replace A_rep := Lib.hid (b_rep.trans A_rep.out)
  clear b_rep
  replace A_cpu := Lib.hid (b_cpu.trans A_cpu.out)
  clear b_cpu
  replace A_mem := Lib.hid (b_mem.trans A_mem.out)
  clear b_mem
  replace A_lab : Hid (SlA A C O 2 encL w5 L5[6]? v_lab) := by
    have h := A_lab.out.mv M5
    show SlA _ _ _ _ _ _ _ _
    rw [b_lab]
    exact h
  clear b_lab
  replace A_sel : Hid (SlA A C O 3 encR w5 L5[7]? v_sel) := by
    have h := A_sel.out.mv M5
    show SlA _ _ _ _ _ _ _ _
    rw [b_sel]
    exact h
  clear b_sel
  replace A_tol := Lib.hid b_tol
  clear b_tol
  replace A_warm := Lib.hid (b_warm.trans A_warm.out)
  clear b_warm
  have E5 := eo
  have H_tol := Lib.hid h_tol
  clear eo M5 hL5 h_tol P4
  clear E4 N4 I4
  go_wp2_with fail
  have CC5 := Lib.hid (numI_any w5 N A C O s_tol L5 T fz [(9, warm)] P5.out.1 P5.out.2.1 (fun h => HF.out.1 (by rw [← I5.out]; exact h)) (by intro p hp; simp only [List.mem_cons, List.not_mem_nil, or_false] at hp; subst hp; exact A_warm.out) (by simp) (by simp) (by have q1 := N5.out; have q2 := HF.out.2; simp only [List.length_cons, List.length_nil]; omega))
  refine CC5.out.mono ?_
  rintro e w6 ⟨rfl, k0⟩
  have Q6 : Pst N A C O (numT s_tol warm).1 (L5.setIfInBounds 9 (.int .i64 (numT s_tol warm).2)) T fz w5 w6 := k0
  have M6 : Mv A C O w5 w6 := Q6.2.2
  have P6 : Hid (Pst N A C O (numT s_tol warm).1 (L5.setIfInBounds 9 (.int .i64 (numT s_tol warm).2)) T fz w w6) := P5.out.trans Q6
  have b_rep : ((L5.setIfInBounds 9 (.int .i64 (numT s_tol warm).2)))[3]? = (L5)[3]? := by simp [Array.getElem?_setIfInBounds]
  have b_cpu : ((L5.setIfInBounds 9 (.int .i64 (numT s_tol warm).2)))[4]? = (L5)[4]? := by simp [Array.getElem?_setIfInBounds]
  have b_mem : ((L5.setIfInBounds 9 (.int .i64 (numT s_tol warm).2)))[5]? = (L5)[5]? := by simp [Array.getElem?_setIfInBounds]
  have b_lab : ((L5.setIfInBounds 9 (.int .i64 (numT s_tol warm).2)))[6]? = (L5)[6]? := by simp [Array.getElem?_setIfInBounds]
  have b_sel : ((L5.setIfInBounds 9 (.int .i64 (numT s_tol warm).2)))[7]? = (L5)[7]? := by simp [Array.getElem?_setIfInBounds]
  have b_tol : ((L5.setIfInBounds 9 (.int .i64 (numT s_tol warm).2)))[8]? = (L5)[8]? := by simp [Array.getElem?_setIfInBounds]
  have b_warm : ((L5.setIfInBounds 9 (.int .i64 (numT s_tol warm).2)))[9]? = some (.int .i64 (numT s_tol warm).2) := by
    have hsz := (Array.getElem?_eq_some_iff.1 A_warm.out).1
    simp [Array.getElem?_setIfInBounds, hsz]
  have eo : Hid (∀ j, j < 3 ∨ 10 ≤ j → ((L5.setIfInBounds 9 (.int .i64 (numT s_tol warm).2)))[j]? = L[j]?) := fun j hj => by
    have h := E5.out j hj
    rw [← h]
    repeat rw [Array.getElem?_setIfInBounds_ne (by omega)]
  have N6 : Hid ((numT s_tol warm).1.len ≤ st.len + 786464) := by
    have q0 := N5.out
    have q1 := (numT_len s_tol warm)
    show _ ≤ _
    omega
  have I6 : Hid ((numT s_tol warm).1.isR = st.isR) := by
    show _ = _
    simp only [numT_isR]
    exact I5.out
  clear k0 Q6 CC5
  obtain ⟨⟨s_warm, v_warm⟩, h_warm⟩ : ∃ p, p = numT s_tol warm := ⟨_, rfl⟩
  simp only [← h_warm] at P6 N6 I6 eo b_rep b_cpu b_mem b_lab b_sel b_tol b_warm
  obtain ⟨L6, hL6⟩ : ∃ l, l = (L5.setIfInBounds 9 (.int .i64 v_warm)) := ⟨_, rfl⟩
  rw [← hL6] at P6 eo b_rep b_cpu b_mem b_lab b_sel b_tol b_warm
  replace A_rep := Lib.hid (b_rep.trans A_rep.out)
  clear b_rep
  replace A_cpu := Lib.hid (b_cpu.trans A_cpu.out)
  clear b_cpu
  replace A_mem := Lib.hid (b_mem.trans A_mem.out)
  clear b_mem
  replace A_lab : Hid (SlA A C O 2 encL w6 L6[6]? v_lab) := by
    have h := A_lab.out.mv M6
    show SlA _ _ _ _ _ _ _ _
    rw [b_lab]
    exact h
  clear b_lab
  replace A_sel : Hid (SlA A C O 3 encR w6 L6[7]? v_sel) := by
    have h := A_sel.out.mv M6
    show SlA _ _ _ _ _ _ _ _
    rw [b_sel]
    exact h
  clear b_sel
  replace A_tol : Hid (SlA A C O 2 encL w6 L6[8]? v_tol) := by
    have h := A_tol.out.mv M6
    show SlA _ _ _ _ _ _ _ _
    rw [b_tol]
    exact h
  clear b_tol
  replace A_warm := Lib.hid b_warm
  clear b_warm
  have E6 := eo
  have H_warm := Lib.hid h_warm
  clear eo M6 hL6 h_warm P5
  clear E5 N5 I5
  have fin : wlT st ⟨rep, cpu, mem, lab, sel, tol, warm⟩ = (s_warm, ⟨v_rep, v_cpu, v_mem, v_lab, v_sel, v_tol, v_warm⟩) := by
    simp only [wlT, ← H_rep.out, ← H_cpu.out, ← H_mem.out, ← H_lab.out, ← H_sel.out, ← H_tol.out, ← H_warm.out]
  have FIN : Hid (∃ L', Pst N A C O (wlT st ⟨rep, cpu, mem, lab, sel, tol, warm⟩).1 L' T fz w w6 ∧ wlA A C O w6 L' (wlT st ⟨rep, cpu, mem, lab, sel, tol, warm⟩).2 ∧ ∀ j, j < 3 ∨ 10 ≤ j → L'[j]? = L[j]?) := by
    show ∃ _, _
    rw [fin]
    exact ⟨L6, P6.out, ⟨A_rep.out, A_cpu.out, A_mem.out, A_lab.out, A_sel.out, A_tol.out, A_warm.out⟩, E6.out⟩
  clear fin
  go_wp2
  go_end0
  exact ⟨rfl, FIN.out⟩
end Go.Proofs.Ytlajiochpdlhaaa
