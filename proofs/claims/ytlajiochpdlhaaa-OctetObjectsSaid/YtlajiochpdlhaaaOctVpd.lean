/- A Pd through the course. -/
import Derived.Test.YtlajiochpdlhaaaOctZ
namespace Go.Proofs.Ytlajiochpdlhaaa
open Go.RowKit Go.Shelf Go.Lib Go.Sort
open Go.Joins (cell_of_block unfrozen_of_block block_setCell)
set_option linter.unusedVariables false
set_option linter.unusedSimpArgs false
set_option maxRecDepth 20000

def pdT (st : St) (x : Pd) : St × Pd :=
  let p_own := txtT st x.own
  let p_node := txtT p_own.1 x.node
  let p_ph := numT p_node.1 x.ph
  let p_since := numT p_ph.1 x.since
  let p_cpu := numT p_since.1 x.cpu
  let p_mem := numT p_cpu.1 x.mem
  let p_lab := rowT labT (⟨#[]⟩, ⟨#[]⟩) p_mem.1 x.lab
  let p_sel := rowT reqT (⟨#[]⟩, ⟨#[]⟩, 0) p_lab.1 x.sel
  let p_tol := rowT labT (⟨#[]⟩, ⟨#[]⟩) p_sel.1 x.tol
  let p_warm := numT p_tol.1 x.warm
  (p_warm.1, ⟨p_own.2, p_node.2, p_ph.2, p_since.2, p_cpu.2, p_mem.2, p_lab.2, p_sel.2, p_tol.2, p_warm.2⟩)
def pdA (A C O : Nat) (w : World) (L : Array Value) (x : Pd) : Prop :=
  L[10]? = some (.string x.own) ∧ L[11]? = some (.string x.node) ∧ L[12]? = some (.int .i64 x.ph) ∧ L[13]? = some (.int .i64 x.since) ∧ L[14]? = some (.int .i64 x.cpu) ∧ L[15]? = some (.int .i64 x.mem) ∧ SlA A C O 2 encL w L[16]? x.lab ∧ SlA A C O 3 encR w L[17]? x.sel ∧ SlA A C O 2 encL w L[18]? x.tol ∧ L[19]? = some (.int .i64 x.warm)
def pdZ (st : St) (L : Array Value) (x : Pd) : Prop := SlZ st L[16]? x.lab ∧ SlZ st L[17]? x.sel ∧ SlZ st L[18]? x.tol
theorem pdT_isR (st : St) (x : Pd) : (pdT st x).1.isR = st.isR := by
  unfold pdT
  simp only [numT_isR, rowT_isR fine_L, rowT_isR fine_R, txtT_isR]
theorem pdT_len (st : St) (x : Pd) : (pdT st x).1.len ≤ st.len + 786984 := by
  unfold pdT
  dsimp only
  have q_own := txtT_len st x.own
  obtain ⟨p_own, hp_own⟩ : ∃ p, p = txtT st x.own := ⟨_, rfl⟩
  simp only [← hp_own] at *
  have q_node := txtT_len p_own.1 x.node
  obtain ⟨p_node, hp_node⟩ : ∃ p, p = txtT p_own.1 x.node := ⟨_, rfl⟩
  simp only [← hp_node] at *
  have q_ph := numT_len p_node.1 x.ph
  obtain ⟨p_ph, hp_ph⟩ : ∃ p, p = numT p_node.1 x.ph := ⟨_, rfl⟩
  simp only [← hp_ph] at *
  have q_since := numT_len p_ph.1 x.since
  obtain ⟨p_since, hp_since⟩ : ∃ p, p = numT p_ph.1 x.since := ⟨_, rfl⟩
  simp only [← hp_since] at *
  have q_cpu := numT_len p_since.1 x.cpu
  obtain ⟨p_cpu, hp_cpu⟩ : ∃ p, p = numT p_since.1 x.cpu := ⟨_, rfl⟩
  simp only [← hp_cpu] at *
  have q_mem := numT_len p_cpu.1 x.mem
  obtain ⟨p_mem, hp_mem⟩ : ∃ p, p = numT p_cpu.1 x.mem := ⟨_, rfl⟩
  simp only [← hp_mem] at *
  have q_lab := rowT_len fine_L (⟨#[]⟩, ⟨#[]⟩) p_mem.1 x.lab
  obtain ⟨p_lab, hp_lab⟩ : ∃ p, p = rowT labT (⟨#[]⟩, ⟨#[]⟩) p_mem.1 x.lab := ⟨_, rfl⟩
  simp only [← hp_lab] at *
  have q_sel := rowT_len fine_R (⟨#[]⟩, ⟨#[]⟩, 0) p_lab.1 x.sel
  obtain ⟨p_sel, hp_sel⟩ : ∃ p, p = rowT reqT (⟨#[]⟩, ⟨#[]⟩, 0) p_lab.1 x.sel := ⟨_, rfl⟩
  simp only [← hp_sel] at *
  have q_tol := rowT_len fine_L (⟨#[]⟩, ⟨#[]⟩) p_sel.1 x.tol
  obtain ⟨p_tol, hp_tol⟩ : ∃ p, p = rowT labT (⟨#[]⟩, ⟨#[]⟩) p_sel.1 x.tol := ⟨_, rfl⟩
  simp only [← hp_tol] at *
  have q_warm := numT_len p_tol.1 x.warm
  obtain ⟨p_warm, hp_warm⟩ : ∃ p, p = numT p_tol.1 x.warm := ⟨_, rfl⟩
  simp only [← hp_warm] at *
  omega

set_option maxHeartbeats 8000000 in
theorem pd_any (w : World) (N A C O : Nat) (st : St) (L : Array Value) (T : TypeId) (fz : Nat × Nat) (x : Pd) (hc : CoreSt N A C st w) (ht : Tg A C O L T fz w) (hf : st.isR = true → fz = (0, 0)) (hx : pdA A C O w L x) (hz : pdZ st L x) (hl : st.len + 8000000 ≤ 1000000000) :
    Calls Try.prog 46 #[ptr C, .pointer (some ⟨O, 10, none⟩)] w fun e w' => e = .returned (.tuple #[]) ∧ ∃ L',
      Pst N A C O (pdT st x).1 L' T fz w w' ∧ pdA A C O w' L' (pdT st x).2 ∧ ∀ j, j < 10 ∨ 20 ≤ j → L'[j]? = L[j]? := by
  have mixed : Try.prog.follows .mixedOrders = true := by kernel_rfl
  have P0 : Hid (Pst N A C O st L T fz w w) := Pst.start hc ht
  obtain ⟨own, node, ph, since, cpu, mem, lab, sel, tol, warm⟩ := x
  obtain ⟨a_own, a_node, a_ph, a_since, a_cpu, a_mem, a_lab, a_sel, a_tol, a_warm⟩ := hx
  obtain ⟨z_lab, z_sel, z_tol⟩ := hz
  dsimp only at *
  have A_own := Lib.hid a_own
  have A_node := Lib.hid a_node
  have A_ph := Lib.hid a_ph
  have A_since := Lib.hid a_since
  have A_cpu := Lib.hid a_cpu
  have A_mem := Lib.hid a_mem
  have A_lab := Lib.hid a_lab
  have A_sel := Lib.hid a_sel
  have A_tol := Lib.hid a_tol
  have A_warm := Lib.hid a_warm
  have HF := Lib.hid (And.intro hf hl)
  have Z_lab := Lib.hid z_lab
  have Z_sel := Lib.hid z_sel
  have Z_tol := Lib.hid z_tol
  clear hc ht hf hl a_own a_node a_ph a_since a_cpu a_mem a_lab a_sel a_tol a_warm z_lab z_sel z_tol
  go_enter Try.func46, Try.ntmps46
  go_wp2_with fail
  have G0 : Hid (Gr w w.drew) := (Gr.refl _).drew
  have CC0 := Lib.hid (txts_any w.drew N A C O st L T fz [(10, own), (11, node)] (P0.out.gr1 G0.out).1 (P0.out.gr1 G0.out).2.1 HF.out.1 (by
    intro p hp
    simp only [List.mem_cons, List.not_mem_nil, or_false] at hp
    rcases hp with rfl | rfl
    · exact A_own.out
    · exact A_node.out) (by simp) (by simp) (by have q2 := HF.out.2; simp only [List.length_cons, List.length_nil]; omega))
  go_region_with (go_at_call 43; refine CC0.out.mono ?_; rintro e w1 ⟨rfl, k0⟩)
  have Q1 : Pst N A C O (txtT (txtT st own).1 node).1 ((L.setIfInBounds 10 (.string (txtT st own).2)).setIfInBounds 11 (.string (txtT (txtT st own).1 node).2)) T fz w.drew w1 := k0
  have M1 : Mv A C O w w1 := (Mv.gr P0.out.1.ltA G0.out).trans Q1.2.2
  have P1 : Hid (Pst N A C O (txtT (txtT st own).1 node).1 ((L.setIfInBounds 10 (.string (txtT st own).2)).setIfInBounds 11 (.string (txtT (txtT st own).1 node).2)) T fz w w1) := (P0.out.gr1 G0.out).trans Q1
  have b_own : (((L.setIfInBounds 10 (.string (txtT st own).2)).setIfInBounds 11 (.string (txtT (txtT st own).1 node).2)))[10]? = some (.string (txtT st own).2) := by
    have hsz := (Array.getElem?_eq_some_iff.1 A_own.out).1
    simp [Array.getElem?_setIfInBounds, hsz]
  have b_node : (((L.setIfInBounds 10 (.string (txtT st own).2)).setIfInBounds 11 (.string (txtT (txtT st own).1 node).2)))[11]? = some (.string (txtT (txtT st own).1 node).2) := by
    have hsz := (Array.getElem?_eq_some_iff.1 A_node.out).1
    simp [Array.getElem?_setIfInBounds, hsz]
  have b_ph : (((L.setIfInBounds 10 (.string (txtT st own).2)).setIfInBounds 11 (.string (txtT (txtT st own).1 node).2)))[12]? = (L)[12]? := by simp [Array.getElem?_setIfInBounds]
  have b_since : (((L.setIfInBounds 10 (.string (txtT st own).2)).setIfInBounds 11 (.string (txtT (txtT st own).1 node).2)))[13]? = (L)[13]? := by simp [Array.getElem?_setIfInBounds]
  have b_cpu : (((L.setIfInBounds 10 (.string (txtT st own).2)).setIfInBounds 11 (.string (txtT (txtT st own).1 node).2)))[14]? = (L)[14]? := by simp [Array.getElem?_setIfInBounds]
  have b_mem : (((L.setIfInBounds 10 (.string (txtT st own).2)).setIfInBounds 11 (.string (txtT (txtT st own).1 node).2)))[15]? = (L)[15]? := by simp [Array.getElem?_setIfInBounds]
  have b_lab : (((L.setIfInBounds 10 (.string (txtT st own).2)).setIfInBounds 11 (.string (txtT (txtT st own).1 node).2)))[16]? = (L)[16]? := by simp [Array.getElem?_setIfInBounds]
  have b_sel : (((L.setIfInBounds 10 (.string (txtT st own).2)).setIfInBounds 11 (.string (txtT (txtT st own).1 node).2)))[17]? = (L)[17]? := by simp [Array.getElem?_setIfInBounds]
  have b_tol : (((L.setIfInBounds 10 (.string (txtT st own).2)).setIfInBounds 11 (.string (txtT (txtT st own).1 node).2)))[18]? = (L)[18]? := by simp [Array.getElem?_setIfInBounds]
  have b_warm : (((L.setIfInBounds 10 (.string (txtT st own).2)).setIfInBounds 11 (.string (txtT (txtT st own).1 node).2)))[19]? = (L)[19]? := by simp [Array.getElem?_setIfInBounds]
  have eo : Hid (∀ j, j < 10 ∨ 20 ≤ j → (((L.setIfInBounds 10 (.string (txtT st own).2)).setIfInBounds 11 (.string (txtT (txtT st own).1 node).2)))[j]? = L[j]?) := fun j hj => by
    repeat rw [Array.getElem?_setIfInBounds_ne (by omega)]
  have N1 : Hid ((txtT (txtT st own).1 node).1.len ≤ st.len + 512) := by
    have q1 := (txtT_len st own)
    have q2 := (txtT_len (txtT st own).1 node)
    show _ ≤ _
    omega
  have I1 : Hid ((txtT (txtT st own).1 node).1.isR = st.isR) := by
    show _ = _
    simp only [txtT_isR]
  clear k0 Q1 CC0
  obtain ⟨⟨s_own, v_own⟩, h_own⟩ : ∃ p, p = txtT st own := ⟨_, rfl⟩
  simp only [← h_own] at P1 N1 I1 eo b_own b_node b_ph b_since b_cpu b_mem b_lab b_sel b_tol b_warm
  obtain ⟨⟨s_node, v_node⟩, h_node⟩ : ∃ p, p = txtT s_own node := ⟨_, rfl⟩
  simp only [← h_node] at P1 N1 I1 eo b_own b_node b_ph b_since b_cpu b_mem b_lab b_sel b_tol b_warm
  obtain ⟨L1, hL1⟩ : ∃ l, l = ((L.setIfInBounds 10 (.string v_own)).setIfInBounds 11 (.string v_node)) := ⟨_, rfl⟩
  rw [← hL1] at P1 eo b_own b_node b_ph b_since b_cpu b_mem b_lab b_sel b_tol b_warm
  replace A_own := Lib.hid b_own
  clear b_own
  replace A_node := Lib.hid b_node
  clear b_node
  replace A_ph := Lib.hid (b_ph.trans A_ph.out)
  clear b_ph
  replace A_since := Lib.hid (b_since.trans A_since.out)
  clear b_since
  replace A_cpu := Lib.hid (b_cpu.trans A_cpu.out)
  clear b_cpu
  replace A_mem := Lib.hid (b_mem.trans A_mem.out)
  clear b_mem
  replace A_lab : Hid (SlA A C O 2 encL w1 L1[16]? lab) := by
    have h := A_lab.out.mv M1
    show SlA _ _ _ _ _ _ _ _
    rw [b_lab]
    exact h
  replace Z_lab : Hid (SlZ st L1[16]? lab) := by
    have h := Z_lab.out
    show SlZ _ _ _
    rw [b_lab]
    exact h
  clear b_lab
  replace A_sel : Hid (SlA A C O 3 encR w1 L1[17]? sel) := by
    have h := A_sel.out.mv M1
    show SlA _ _ _ _ _ _ _ _
    rw [b_sel]
    exact h
  replace Z_sel : Hid (SlZ st L1[17]? sel) := by
    have h := Z_sel.out
    show SlZ _ _ _
    rw [b_sel]
    exact h
  clear b_sel
  replace A_tol : Hid (SlA A C O 2 encL w1 L1[18]? tol) := by
    have h := A_tol.out.mv M1
    show SlA _ _ _ _ _ _ _ _
    rw [b_tol]
    exact h
  replace Z_tol : Hid (SlZ st L1[18]? tol) := by
    have h := Z_tol.out
    show SlZ _ _ _
    rw [b_tol]
    exact h
  clear b_tol
  replace A_warm := Lib.hid (b_warm.trans A_warm.out)
  clear b_warm
  have E1 := eo
  have H_own := Lib.hid h_own
  have H_node := Lib.hid h_node
  clear eo M1 hL1 h_own h_node P0
  go_wp2_with fail
  have CC1 := Lib.hid (numI_any w1 N A C O s_node L1 T fz [(12, ph)] P1.out.1 P1.out.2.1 (fun h => HF.out.1 (by rw [← I1.out]; exact h)) (by intro p hp; simp only [List.mem_cons, List.not_mem_nil, or_false] at hp; subst hp; exact A_ph.out) (by simp) (by simp) (by have q1 := N1.out; have q2 := HF.out.2; simp only [List.length_cons, List.length_nil]; omega))
  refine CC1.out.mono ?_
  rintro e w2 ⟨rfl, k0⟩
  have Q2 : Pst N A C O (numT s_node ph).1 (L1.setIfInBounds 12 (.int .i64 (numT s_node ph).2)) T fz w1 w2 := k0
  have M2 : Mv A C O w1 w2 := Q2.2.2
  have P2 : Hid (Pst N A C O (numT s_node ph).1 (L1.setIfInBounds 12 (.int .i64 (numT s_node ph).2)) T fz w w2) := P1.out.trans Q2
  have b_own : ((L1.setIfInBounds 12 (.int .i64 (numT s_node ph).2)))[10]? = (L1)[10]? := by simp [Array.getElem?_setIfInBounds]
  have b_node : ((L1.setIfInBounds 12 (.int .i64 (numT s_node ph).2)))[11]? = (L1)[11]? := by simp [Array.getElem?_setIfInBounds]
  have b_ph : ((L1.setIfInBounds 12 (.int .i64 (numT s_node ph).2)))[12]? = some (.int .i64 (numT s_node ph).2) := by
    have hsz := (Array.getElem?_eq_some_iff.1 A_ph.out).1
    simp [Array.getElem?_setIfInBounds, hsz]
  have b_since : ((L1.setIfInBounds 12 (.int .i64 (numT s_node ph).2)))[13]? = (L1)[13]? := by simp [Array.getElem?_setIfInBounds]
  have b_cpu : ((L1.setIfInBounds 12 (.int .i64 (numT s_node ph).2)))[14]? = (L1)[14]? := by simp [Array.getElem?_setIfInBounds]
  have b_mem : ((L1.setIfInBounds 12 (.int .i64 (numT s_node ph).2)))[15]? = (L1)[15]? := by simp [Array.getElem?_setIfInBounds]
  have b_lab : ((L1.setIfInBounds 12 (.int .i64 (numT s_node ph).2)))[16]? = (L1)[16]? := by simp [Array.getElem?_setIfInBounds]
  have b_sel : ((L1.setIfInBounds 12 (.int .i64 (numT s_node ph).2)))[17]? = (L1)[17]? := by simp [Array.getElem?_setIfInBounds]
  have b_tol : ((L1.setIfInBounds 12 (.int .i64 (numT s_node ph).2)))[18]? = (L1)[18]? := by simp [Array.getElem?_setIfInBounds]
  have b_warm : ((L1.setIfInBounds 12 (.int .i64 (numT s_node ph).2)))[19]? = (L1)[19]? := by simp [Array.getElem?_setIfInBounds]
  have eo : Hid (∀ j, j < 10 ∨ 20 ≤ j → ((L1.setIfInBounds 12 (.int .i64 (numT s_node ph).2)))[j]? = L[j]?) := fun j hj => by
    have h := E1.out j hj
    rw [← h]
    repeat rw [Array.getElem?_setIfInBounds_ne (by omega)]
  have N2 : Hid ((numT s_node ph).1.len ≤ st.len + 520) := by
    have q0 := N1.out
    have q1 := (numT_len s_node ph)
    show _ ≤ _
    omega
  have I2 : Hid ((numT s_node ph).1.isR = st.isR) := by
    show _ = _
    simp only [numT_isR]
    exact I1.out
  clear k0 Q2 CC1
  obtain ⟨⟨s_ph, v_ph⟩, h_ph⟩ : ∃ p, p = numT s_node ph := ⟨_, rfl⟩
  simp only [← h_ph] at P2 N2 I2 eo b_own b_node b_ph b_since b_cpu b_mem b_lab b_sel b_tol b_warm
  obtain ⟨L2, hL2⟩ : ∃ l, l = (L1.setIfInBounds 12 (.int .i64 v_ph)) := ⟨_, rfl⟩
  rw [← hL2] at P2 eo b_own b_node b_ph b_since b_cpu b_mem b_lab b_sel b_tol b_warm
  replace A_own := Lib.hid (b_own.trans A_own.out)
  clear b_own
  replace A_node := Lib.hid (b_node.trans A_node.out)
  clear b_node
  replace A_ph := Lib.hid b_ph
  clear b_ph
  replace A_since := Lib.hid (b_since.trans A_since.out)
  clear b_since
  replace A_cpu := Lib.hid (b_cpu.trans A_cpu.out)
  clear b_cpu
  replace A_mem := Lib.hid (b_mem.trans A_mem.out)
  clear b_mem
  replace A_lab : Hid (SlA A C O 2 encL w2 L2[16]? lab) := by
    have h := A_lab.out.mv M2
    show SlA _ _ _ _ _ _ _ _
    rw [b_lab]
    exact h
  replace Z_lab : Hid (SlZ st L2[16]? lab) := by
    have h := Z_lab.out
    show SlZ _ _ _
    rw [b_lab]
    exact h
  clear b_lab
  replace A_sel : Hid (SlA A C O 3 encR w2 L2[17]? sel) := by
    have h := A_sel.out.mv M2
    show SlA _ _ _ _ _ _ _ _
    rw [b_sel]
    exact h
  replace Z_sel : Hid (SlZ st L2[17]? sel) := by
    have h := Z_sel.out
    show SlZ _ _ _
    rw [b_sel]
    exact h
  clear b_sel
  replace A_tol : Hid (SlA A C O 2 encL w2 L2[18]? tol) := by
    have h := A_tol.out.mv M2
    show SlA _ _ _ _ _ _ _ _
    rw [b_tol]
    exact h
  replace Z_tol : Hid (SlZ st L2[18]? tol) := by
    have h := Z_tol.out
    show SlZ _ _ _
    rw [b_tol]
    exact h
  clear b_tol
  replace A_warm := Lib.hid (b_warm.trans A_warm.out)
  clear b_warm
  have E2 := eo
  have H_ph := Lib.hid h_ph
  clear eo M2 hL2 h_ph P1
  clear E1 N1 I1
  go_wp2_with fail
  have CC2 := Lib.hid (numJ_any w2 N A C O s_ph L2 T fz [(13, since)] P2.out.1 P2.out.2.1 (fun h => HF.out.1 (by rw [← I2.out]; exact h)) (by intro p hp; simp only [List.mem_cons, List.not_mem_nil, or_false] at hp; subst hp; exact A_since.out) (by simp) (by simp) (by have q1 := N2.out; have q2 := HF.out.2; simp only [List.length_cons, List.length_nil]; omega))
  refine CC2.out.mono ?_
  rintro e w3 ⟨rfl, k0⟩
  have Q3 : Pst N A C O (numT s_ph since).1 (L2.setIfInBounds 13 (.int .i64 (numT s_ph since).2)) T fz w2 w3 := k0
  have M3 : Mv A C O w2 w3 := Q3.2.2
  have P3 : Hid (Pst N A C O (numT s_ph since).1 (L2.setIfInBounds 13 (.int .i64 (numT s_ph since).2)) T fz w w3) := P2.out.trans Q3
  have b_own : ((L2.setIfInBounds 13 (.int .i64 (numT s_ph since).2)))[10]? = (L2)[10]? := by simp [Array.getElem?_setIfInBounds]
  have b_node : ((L2.setIfInBounds 13 (.int .i64 (numT s_ph since).2)))[11]? = (L2)[11]? := by simp [Array.getElem?_setIfInBounds]
  have b_ph : ((L2.setIfInBounds 13 (.int .i64 (numT s_ph since).2)))[12]? = (L2)[12]? := by simp [Array.getElem?_setIfInBounds]
  have b_since : ((L2.setIfInBounds 13 (.int .i64 (numT s_ph since).2)))[13]? = some (.int .i64 (numT s_ph since).2) := by
    have hsz := (Array.getElem?_eq_some_iff.1 A_since.out).1
    simp [Array.getElem?_setIfInBounds, hsz]
  have b_cpu : ((L2.setIfInBounds 13 (.int .i64 (numT s_ph since).2)))[14]? = (L2)[14]? := by simp [Array.getElem?_setIfInBounds]
  have b_mem : ((L2.setIfInBounds 13 (.int .i64 (numT s_ph since).2)))[15]? = (L2)[15]? := by simp [Array.getElem?_setIfInBounds]
  have b_lab : ((L2.setIfInBounds 13 (.int .i64 (numT s_ph since).2)))[16]? = (L2)[16]? := by simp [Array.getElem?_setIfInBounds]
  have b_sel : ((L2.setIfInBounds 13 (.int .i64 (numT s_ph since).2)))[17]? = (L2)[17]? := by simp [Array.getElem?_setIfInBounds]
  have b_tol : ((L2.setIfInBounds 13 (.int .i64 (numT s_ph since).2)))[18]? = (L2)[18]? := by simp [Array.getElem?_setIfInBounds]
  have b_warm : ((L2.setIfInBounds 13 (.int .i64 (numT s_ph since).2)))[19]? = (L2)[19]? := by simp [Array.getElem?_setIfInBounds]
  have eo : Hid (∀ j, j < 10 ∨ 20 ≤ j → ((L2.setIfInBounds 13 (.int .i64 (numT s_ph since).2)))[j]? = L[j]?) := fun j hj => by
    have h := E2.out j hj
    rw [← h]
    repeat rw [Array.getElem?_setIfInBounds_ne (by omega)]
  have N3 : Hid ((numT s_ph since).1.len ≤ st.len + 528) := by
    have q0 := N2.out
    have q1 := (numT_len s_ph since)
    show _ ≤ _
    omega
  have I3 : Hid ((numT s_ph since).1.isR = st.isR) := by
    show _ = _
    simp only [numT_isR]
    exact I2.out
  clear k0 Q3 CC2
  obtain ⟨⟨s_since, v_since⟩, h_since⟩ : ∃ p, p = numT s_ph since := ⟨_, rfl⟩
  simp only [← h_since] at P3 N3 I3 eo b_own b_node b_ph b_since b_cpu b_mem b_lab b_sel b_tol b_warm
  obtain ⟨L3, hL3⟩ : ∃ l, l = (L2.setIfInBounds 13 (.int .i64 v_since)) := ⟨_, rfl⟩
  rw [← hL3] at P3 eo b_own b_node b_ph b_since b_cpu b_mem b_lab b_sel b_tol b_warm
  replace A_own := Lib.hid (b_own.trans A_own.out)
  clear b_own
  replace A_node := Lib.hid (b_node.trans A_node.out)
  clear b_node
  replace A_ph := Lib.hid (b_ph.trans A_ph.out)
  clear b_ph
  replace A_since := Lib.hid b_since
  clear b_since
  replace A_cpu := Lib.hid (b_cpu.trans A_cpu.out)
  clear b_cpu
  replace A_mem := Lib.hid (b_mem.trans A_mem.out)
  clear b_mem
  replace A_lab : Hid (SlA A C O 2 encL w3 L3[16]? lab) := by
    have h := A_lab.out.mv M3
    show SlA _ _ _ _ _ _ _ _
    rw [b_lab]
    exact h
  replace Z_lab : Hid (SlZ st L3[16]? lab) := by
    have h := Z_lab.out
    show SlZ _ _ _
    rw [b_lab]
    exact h
  clear b_lab
  replace A_sel : Hid (SlA A C O 3 encR w3 L3[17]? sel) := by
    have h := A_sel.out.mv M3
    show SlA _ _ _ _ _ _ _ _
    rw [b_sel]
    exact h
  replace Z_sel : Hid (SlZ st L3[17]? sel) := by
    have h := Z_sel.out
    show SlZ _ _ _
    rw [b_sel]
    exact h
  clear b_sel
  replace A_tol : Hid (SlA A C O 2 encL w3 L3[18]? tol) := by
    have h := A_tol.out.mv M3
    show SlA _ _ _ _ _ _ _ _
    rw [b_tol]
    exact h
  replace Z_tol : Hid (SlZ st L3[18]? tol) := by
    have h := Z_tol.out
    show SlZ _ _ _
    rw [b_tol]
    exact h
  clear b_tol
  replace A_warm := Lib.hid (b_warm.trans A_warm.out)
  clear b_warm
  have E3 := eo
  have H_since := Lib.hid h_since
  clear eo M3 hL3 h_since P2
  clear E2 N2 I2
  go_wp2_with fail
  have CC3 := Lib.hid (resources_item w3 N A C O 14 s_since L3 T fz (cpu, mem) P3.out.1 P3.out.2.1 (fun h => HF.out.1 (by rw [← I3.out]; exact h)) (by
    intro t v hv
    match t, hv with
    | 0, hv => simp [encQ] at hv; subst hv; exact A_cpu.out
    | 1, hv => simp [encQ] at hv; subst hv; exact A_mem.out
    | t + 2, hv => simp [encQ] at hv) (by have q1 := N3.out; have q2 := HF.out.2; omega))
  refine CC3.out.mono ?_
  rintro e w4 ⟨rfl, k0⟩
  have Q4 : Pst N A C O (numT (numT s_since cpu).1 mem).1 ((L3.setIfInBounds 14 (.int .i64 (numT s_since cpu).2)).setIfInBounds 15 (.int .i64 (numT (numT s_since cpu).1 mem).2)) T fz w3 w4 := k0
  have M4 : Mv A C O w3 w4 := Q4.2.2
  have P4 : Hid (Pst N A C O (numT (numT s_since cpu).1 mem).1 ((L3.setIfInBounds 14 (.int .i64 (numT s_since cpu).2)).setIfInBounds 15 (.int .i64 (numT (numT s_since cpu).1 mem).2)) T fz w w4) := P3.out.trans Q4
  have b_own : (((L3.setIfInBounds 14 (.int .i64 (numT s_since cpu).2)).setIfInBounds 15 (.int .i64 (numT (numT s_since cpu).1 mem).2)))[10]? = (L3)[10]? := by simp [Array.getElem?_setIfInBounds]
  have b_node : (((L3.setIfInBounds 14 (.int .i64 (numT s_since cpu).2)).setIfInBounds 15 (.int .i64 (numT (numT s_since cpu).1 mem).2)))[11]? = (L3)[11]? := by simp [Array.getElem?_setIfInBounds]
  have b_ph : (((L3.setIfInBounds 14 (.int .i64 (numT s_since cpu).2)).setIfInBounds 15 (.int .i64 (numT (numT s_since cpu).1 mem).2)))[12]? = (L3)[12]? := by simp [Array.getElem?_setIfInBounds]
  have b_since : (((L3.setIfInBounds 14 (.int .i64 (numT s_since cpu).2)).setIfInBounds 15 (.int .i64 (numT (numT s_since cpu).1 mem).2)))[13]? = (L3)[13]? := by simp [Array.getElem?_setIfInBounds]
  have b_cpu : (((L3.setIfInBounds 14 (.int .i64 (numT s_since cpu).2)).setIfInBounds 15 (.int .i64 (numT (numT s_since cpu).1 mem).2)))[14]? = some (.int .i64 (numT s_since cpu).2) := by
    have hsz := (Array.getElem?_eq_some_iff.1 A_cpu.out).1
    simp [Array.getElem?_setIfInBounds, hsz]
  have b_mem : (((L3.setIfInBounds 14 (.int .i64 (numT s_since cpu).2)).setIfInBounds 15 (.int .i64 (numT (numT s_since cpu).1 mem).2)))[15]? = some (.int .i64 (numT (numT s_since cpu).1 mem).2) := by
    have hsz := (Array.getElem?_eq_some_iff.1 A_mem.out).1
    simp [Array.getElem?_setIfInBounds, hsz]
  have b_lab : (((L3.setIfInBounds 14 (.int .i64 (numT s_since cpu).2)).setIfInBounds 15 (.int .i64 (numT (numT s_since cpu).1 mem).2)))[16]? = (L3)[16]? := by simp [Array.getElem?_setIfInBounds]
  have b_sel : (((L3.setIfInBounds 14 (.int .i64 (numT s_since cpu).2)).setIfInBounds 15 (.int .i64 (numT (numT s_since cpu).1 mem).2)))[17]? = (L3)[17]? := by simp [Array.getElem?_setIfInBounds]
  have b_tol : (((L3.setIfInBounds 14 (.int .i64 (numT s_since cpu).2)).setIfInBounds 15 (.int .i64 (numT (numT s_since cpu).1 mem).2)))[18]? = (L3)[18]? := by simp [Array.getElem?_setIfInBounds]
  have b_warm : (((L3.setIfInBounds 14 (.int .i64 (numT s_since cpu).2)).setIfInBounds 15 (.int .i64 (numT (numT s_since cpu).1 mem).2)))[19]? = (L3)[19]? := by simp [Array.getElem?_setIfInBounds]
  have eo : Hid (∀ j, j < 10 ∨ 20 ≤ j → (((L3.setIfInBounds 14 (.int .i64 (numT s_since cpu).2)).setIfInBounds 15 (.int .i64 (numT (numT s_since cpu).1 mem).2)))[j]? = L[j]?) := fun j hj => by
    have h := E3.out j hj
    rw [← h]
    repeat rw [Array.getElem?_setIfInBounds_ne (by omega)]
  have N4 : Hid ((numT (numT s_since cpu).1 mem).1.len ≤ st.len + 544) := by
    have q0 := N3.out
    have q1 := (numT_len s_since cpu)
    have q2 := (numT_len (numT s_since cpu).1 mem)
    show _ ≤ _
    omega
  have I4 : Hid ((numT (numT s_since cpu).1 mem).1.isR = st.isR) := by
    show _ = _
    simp only [numT_isR]
    exact I3.out
  clear k0 Q4 CC3
  obtain ⟨⟨s_cpu, v_cpu⟩, h_cpu⟩ : ∃ p, p = numT s_since cpu := ⟨_, rfl⟩
  simp only [← h_cpu] at P4 N4 I4 eo b_own b_node b_ph b_since b_cpu b_mem b_lab b_sel b_tol b_warm
  obtain ⟨⟨s_mem, v_mem⟩, h_mem⟩ : ∃ p, p = numT s_cpu mem := ⟨_, rfl⟩
  simp only [← h_mem] at P4 N4 I4 eo b_own b_node b_ph b_since b_cpu b_mem b_lab b_sel b_tol b_warm
  obtain ⟨L4, hL4⟩ : ∃ l, l = ((L3.setIfInBounds 14 (.int .i64 v_cpu)).setIfInBounds 15 (.int .i64 v_mem)) := ⟨_, rfl⟩
  rw [← hL4] at P4 eo b_own b_node b_ph b_since b_cpu b_mem b_lab b_sel b_tol b_warm
  replace A_own := Lib.hid (b_own.trans A_own.out)
  clear b_own
  replace A_node := Lib.hid (b_node.trans A_node.out)
  clear b_node
  replace A_ph := Lib.hid (b_ph.trans A_ph.out)
  clear b_ph
  replace A_since := Lib.hid (b_since.trans A_since.out)
  clear b_since
  replace A_cpu := Lib.hid b_cpu
  clear b_cpu
  replace A_mem := Lib.hid b_mem
  clear b_mem
  replace A_lab : Hid (SlA A C O 2 encL w4 L4[16]? lab) := by
    have h := A_lab.out.mv M4
    show SlA _ _ _ _ _ _ _ _
    rw [b_lab]
    exact h
  replace Z_lab : Hid (SlZ st L4[16]? lab) := by
    have h := Z_lab.out
    show SlZ _ _ _
    rw [b_lab]
    exact h
  clear b_lab
  replace A_sel : Hid (SlA A C O 3 encR w4 L4[17]? sel) := by
    have h := A_sel.out.mv M4
    show SlA _ _ _ _ _ _ _ _
    rw [b_sel]
    exact h
  replace Z_sel : Hid (SlZ st L4[17]? sel) := by
    have h := Z_sel.out
    show SlZ _ _ _
    rw [b_sel]
    exact h
  clear b_sel
  replace A_tol : Hid (SlA A C O 2 encL w4 L4[18]? tol) := by
    have h := A_tol.out.mv M4
    show SlA _ _ _ _ _ _ _ _
    rw [b_tol]
    exact h
  replace Z_tol : Hid (SlZ st L4[18]? tol) := by
    have h := Z_tol.out
    show SlZ _ _ _
    rw [b_tol]
    exact h
  clear b_tol
  replace A_warm := Lib.hid (b_warm.trans A_warm.out)
  clear b_warm
  have E4 := eo
  have H_cpu := Lib.hid h_cpu
  have H_mem := Lib.hid h_mem
  clear eo M4 hL4 h_cpu h_mem P3
  clear E3 N3 I3
  go_wp2_with fail
  have CC4 := Lib.hid (rowL_any w4 N A C O 16 s_mem L4 T fz lab P4.out.1 P4.out.2.1 (fun h => HF.out.1 (by rw [← I4.out]; exact h)) A_lab.out (fun h => Z_lab.out (by rw [← I4.out]; exact h)) (by have q1 := N4.out; have q2 := HF.out.2; omega))
  refine CC4.out.mono ?_
  rintro e w5 ⟨rfl, u_lab, k0, kr⟩
  have Q5 : Pst N A C O (rowT labT (⟨#[]⟩, ⟨#[]⟩) s_mem lab).1 (L4.setIfInBounds 16 u_lab) T fz w4 w5 := k0
  have M5 : Mv A C O w4 w5 := Q5.2.2
  have P5 : Hid (Pst N A C O (rowT labT (⟨#[]⟩, ⟨#[]⟩) s_mem lab).1 (L4.setIfInBounds 16 u_lab) T fz w w5) := P4.out.trans Q5
  have b_own : ((L4.setIfInBounds 16 u_lab))[10]? = (L4)[10]? := by simp [Array.getElem?_setIfInBounds]
  have b_node : ((L4.setIfInBounds 16 u_lab))[11]? = (L4)[11]? := by simp [Array.getElem?_setIfInBounds]
  have b_ph : ((L4.setIfInBounds 16 u_lab))[12]? = (L4)[12]? := by simp [Array.getElem?_setIfInBounds]
  have b_since : ((L4.setIfInBounds 16 u_lab))[13]? = (L4)[13]? := by simp [Array.getElem?_setIfInBounds]
  have b_cpu : ((L4.setIfInBounds 16 u_lab))[14]? = (L4)[14]? := by simp [Array.getElem?_setIfInBounds]
  have b_mem : ((L4.setIfInBounds 16 u_lab))[15]? = (L4)[15]? := by simp [Array.getElem?_setIfInBounds]
  have b_lab : SlA A C O 2 encL w5 ((L4.setIfInBounds 16 u_lab))[16]? (rowT labT (⟨#[]⟩, ⟨#[]⟩) s_mem lab).2 := by
    obtain ⟨q0, c0, e0, _⟩ := A_lab.out
    have e1 : (L4)[16]? = some _ := e0
    rw [setIf_get e1]
    exact kr
  have b_sel : ((L4.setIfInBounds 16 u_lab))[17]? = (L4)[17]? := by simp [Array.getElem?_setIfInBounds]
  have b_tol : ((L4.setIfInBounds 16 u_lab))[18]? = (L4)[18]? := by simp [Array.getElem?_setIfInBounds]
  have b_warm : ((L4.setIfInBounds 16 u_lab))[19]? = (L4)[19]? := by simp [Array.getElem?_setIfInBounds]
  have eo : Hid (∀ j, j < 10 ∨ 20 ≤ j → ((L4.setIfInBounds 16 u_lab))[j]? = L[j]?) := fun j hj => by
    have h := E4.out j hj
    rw [← h]
    repeat rw [Array.getElem?_setIfInBounds_ne (by omega)]
  have N5 : Hid ((rowT labT (⟨#[]⟩, ⟨#[]⟩) s_mem lab).1.len ≤ st.len + 262688) := by
    have q0 := N4.out
    have q1 := (rowT_len fine_L (⟨#[]⟩, ⟨#[]⟩) s_mem lab)
    show _ ≤ _
    omega
  have I5 : Hid ((rowT labT (⟨#[]⟩, ⟨#[]⟩) s_mem lab).1.isR = st.isR) := by
    show _ = _
    simp only [rowT_isR fine_L]
    exact I4.out
  clear k0 Q5 kr CC4
  obtain ⟨⟨s_lab, v_lab⟩, h_lab⟩ : ∃ p, p = rowT labT (⟨#[]⟩, ⟨#[]⟩) s_mem lab := ⟨_, rfl⟩
  simp only [← h_lab] at P5 N5 I5 eo b_own b_node b_ph b_since b_cpu b_mem b_lab b_sel b_tol b_warm
  obtain ⟨L5, hL5⟩ : ∃ l, l = (L4.setIfInBounds 16 u_lab) := ⟨_, rfl⟩
  rw [← hL5] at P5 eo b_own b_node b_ph b_since b_cpu b_mem b_lab b_sel b_tol b_warm
  replace A_own := Lib.hid (b_own.trans A_own.out)
  clear b_own
  replace A_node := Lib.hid (b_node.trans A_node.out)
  clear b_node
  replace A_ph := Lib.hid (b_ph.trans A_ph.out)
  clear b_ph
  replace A_since := Lib.hid (b_since.trans A_since.out)
  clear b_since
  replace A_cpu := Lib.hid (b_cpu.trans A_cpu.out)
  clear b_cpu
  replace A_mem := Lib.hid (b_mem.trans A_mem.out)
  clear b_mem
  replace A_lab := Lib.hid b_lab
  clear b_lab
  replace A_sel : Hid (SlA A C O 3 encR w5 L5[17]? sel) := by
    have h := A_sel.out.mv M5
    show SlA _ _ _ _ _ _ _ _
    rw [b_sel]
    exact h
  replace Z_sel : Hid (SlZ st L5[17]? sel) := by
    have h := Z_sel.out
    show SlZ _ _ _
    rw [b_sel]
    exact h
  clear b_sel
  replace A_tol : Hid (SlA A C O 2 encL w5 L5[18]? tol) := by
    have h := A_tol.out.mv M5
    show SlA _ _ _ _ _ _ _ _
    rw [b_tol]
    exact h
  replace Z_tol : Hid (SlZ st L5[18]? tol) := by
    have h := Z_tol.out
    show SlZ _ _ _
    rw [b_tol]
    exact h
  clear b_tol
  replace A_warm := Lib.hid (b_warm.trans A_warm.out)
  clear b_warm
  have E5 := eo
  have H_lab := Lib.hid h_lab
  clear eo M5 hL5 h_lab P4
  clear E4 N4 I4
  go_wp2_with fail
  have CC5 := Lib.hid (rowR_any w5 N A C O 17 s_lab L5 T fz sel P5.out.1 P5.out.2.1 (fun h => HF.out.1 (by rw [← I5.out]; exact h)) A_sel.out (fun h => Z_sel.out (by rw [← I5.out]; exact h)) (by have q1 := N5.out; have q2 := HF.out.2; omega))
  refine CC5.out.mono ?_
  rintro e w6 ⟨rfl, u_sel, k0, kr⟩
  have Q6 : Pst N A C O (rowT reqT (⟨#[]⟩, ⟨#[]⟩, 0) s_lab sel).1 (L5.setIfInBounds 17 u_sel) T fz w5 w6 := k0
  have M6 : Mv A C O w5 w6 := Q6.2.2
  have P6 : Hid (Pst N A C O (rowT reqT (⟨#[]⟩, ⟨#[]⟩, 0) s_lab sel).1 (L5.setIfInBounds 17 u_sel) T fz w w6) := P5.out.trans Q6
  have b_own : ((L5.setIfInBounds 17 u_sel))[10]? = (L5)[10]? := by simp [Array.getElem?_setIfInBounds]
  have b_node : ((L5.setIfInBounds 17 u_sel))[11]? = (L5)[11]? := by simp [Array.getElem?_setIfInBounds]
  have b_ph : ((L5.setIfInBounds 17 u_sel))[12]? = (L5)[12]? := by simp [Array.getElem?_setIfInBounds]
  have b_since : ((L5.setIfInBounds 17 u_sel))[13]? = (L5)[13]? := by simp [Array.getElem?_setIfInBounds]
  have b_cpu : ((L5.setIfInBounds 17 u_sel))[14]? = (L5)[14]? := by simp [Array.getElem?_setIfInBounds]
  have b_mem : ((L5.setIfInBounds 17 u_sel))[15]? = (L5)[15]? := by simp [Array.getElem?_setIfInBounds]
  have b_lab : ((L5.setIfInBounds 17 u_sel))[16]? = (L5)[16]? := by simp [Array.getElem?_setIfInBounds]
  have b_sel : SlA A C O 3 encR w6 ((L5.setIfInBounds 17 u_sel))[17]? (rowT reqT (⟨#[]⟩, ⟨#[]⟩, 0) s_lab sel).2 := by
    obtain ⟨q0, c0, e0, _⟩ := A_sel.out
    have e1 : (L5)[17]? = some _ := e0
    rw [setIf_get e1]
    exact kr
  have b_tol : ((L5.setIfInBounds 17 u_sel))[18]? = (L5)[18]? := by simp [Array.getElem?_setIfInBounds]
  have b_warm : ((L5.setIfInBounds 17 u_sel))[19]? = (L5)[19]? := by simp [Array.getElem?_setIfInBounds]
  have eo : Hid (∀ j, j < 10 ∨ 20 ≤ j → ((L5.setIfInBounds 17 u_sel))[j]? = L[j]?) := fun j hj => by
    have h := E5.out j hj
    rw [← h]
    repeat rw [Array.getElem?_setIfInBounds_ne (by omega)]
  have N6 : Hid ((rowT reqT (⟨#[]⟩, ⟨#[]⟩, 0) s_lab sel).1.len ≤ st.len + 524832) := by
    have q0 := N5.out
    have q1 := (rowT_len fine_R (⟨#[]⟩, ⟨#[]⟩, 0) s_lab sel)
    show _ ≤ _
    omega
  have I6 : Hid ((rowT reqT (⟨#[]⟩, ⟨#[]⟩, 0) s_lab sel).1.isR = st.isR) := by
    show _ = _
    simp only [rowT_isR fine_R]
    exact I5.out
  clear k0 Q6 kr CC5
  obtain ⟨⟨s_sel, v_sel⟩, h_sel⟩ : ∃ p, p = rowT reqT (⟨#[]⟩, ⟨#[]⟩, 0) s_lab sel := ⟨_, rfl⟩
  simp only [← h_sel] at P6 N6 I6 eo b_own b_node b_ph b_since b_cpu b_mem b_lab b_sel b_tol b_warm
  obtain ⟨L6, hL6⟩ : ∃ l, l = (L5.setIfInBounds 17 u_sel) := ⟨_, rfl⟩
  rw [← hL6] at P6 eo b_own b_node b_ph b_since b_cpu b_mem b_lab b_sel b_tol b_warm
  replace A_own := Lib.hid (b_own.trans A_own.out)
  clear b_own
  replace A_node := Lib.hid (b_node.trans A_node.out)
  clear b_node
  replace A_ph := Lib.hid (b_ph.trans A_ph.out)
  clear b_ph
  replace A_since := Lib.hid (b_since.trans A_since.out)
  clear b_since
  replace A_cpu := Lib.hid (b_cpu.trans A_cpu.out)
  clear b_cpu
  replace A_mem := Lib.hid (b_mem.trans A_mem.out)
  clear b_mem
  replace A_lab : Hid (SlA A C O 2 encL w6 L6[16]? v_lab) := by
    have h := A_lab.out.mv M6
    show SlA _ _ _ _ _ _ _ _
    rw [b_lab]
    exact h
  clear b_lab
  replace A_sel := Lib.hid b_sel
  clear b_sel
  replace A_tol : Hid (SlA A C O 2 encL w6 L6[18]? tol) := by
    have h := A_tol.out.mv M6
    show SlA _ _ _ _ _ _ _ _
    rw [b_tol]
    exact h
  replace Z_tol : Hid (SlZ st L6[18]? tol) := by
    have h := Z_tol.out
    show SlZ _ _ _
    rw [b_tol]
    exact h
  clear b_tol
  replace A_warm := Lib.hid (b_warm.trans A_warm.out)
  clear b_warm
  have E6 := eo
  have H_sel := Lib.hid h_sel
  clear eo M6 hL6 h_sel P5
  clear E5 N5 I5
  go_wp2_with fail
  have CC6 := Lib.hid (rowL_any w6 N A C O 18 s_sel L6 T fz tol P6.out.1 P6.out.2.1 (fun h => HF.out.1 (by rw [← I6.out]; exact h)) A_tol.out (fun h => Z_tol.out (by rw [← I6.out]; exact h)) (by have q1 := N6.out; have q2 := HF.out.2; omega))
  refine CC6.out.mono ?_
  rintro e w7 ⟨rfl, u_tol, k0, kr⟩
  have Q7 : Pst N A C O (rowT labT (⟨#[]⟩, ⟨#[]⟩) s_sel tol).1 (L6.setIfInBounds 18 u_tol) T fz w6 w7 := k0
  have M7 : Mv A C O w6 w7 := Q7.2.2
  have P7 : Hid (Pst N A C O (rowT labT (⟨#[]⟩, ⟨#[]⟩) s_sel tol).1 (L6.setIfInBounds 18 u_tol) T fz w w7) := P6.out.trans Q7
  have b_own : ((L6.setIfInBounds 18 u_tol))[10]? = (L6)[10]? := by simp [Array.getElem?_setIfInBounds]
  have b_node : ((L6.setIfInBounds 18 u_tol))[11]? = (L6)[11]? := by simp [Array.getElem?_setIfInBounds]
  have b_ph : ((L6.setIfInBounds 18 u_tol))[12]? = (L6)[12]? := by simp [Array.getElem?_setIfInBounds]
  have b_since : ((L6.setIfInBounds 18 u_tol))[13]? = (L6)[13]? := by simp [Array.getElem?_setIfInBounds]
  have b_cpu : ((L6.setIfInBounds 18 u_tol))[14]? = (L6)[14]? := by simp [Array.getElem?_setIfInBounds]
  have b_mem : ((L6.setIfInBounds 18 u_tol))[15]? = (L6)[15]? := by simp [Array.getElem?_setIfInBounds]
  have b_lab : ((L6.setIfInBounds 18 u_tol))[16]? = (L6)[16]? := by simp [Array.getElem?_setIfInBounds]
  have b_sel : ((L6.setIfInBounds 18 u_tol))[17]? = (L6)[17]? := by simp [Array.getElem?_setIfInBounds]
  have b_tol : SlA A C O 2 encL w7 ((L6.setIfInBounds 18 u_tol))[18]? (rowT labT (⟨#[]⟩, ⟨#[]⟩) s_sel tol).2 := by
    obtain ⟨q0, c0, e0, _⟩ := A_tol.out
    have e1 : (L6)[18]? = some _ := e0
    rw [setIf_get e1]
    exact kr
  have b_warm : ((L6.setIfInBounds 18 u_tol))[19]? = (L6)[19]? := by simp [Array.getElem?_setIfInBounds]
  have eo : Hid (∀ j, j < 10 ∨ 20 ≤ j → ((L6.setIfInBounds 18 u_tol))[j]? = L[j]?) := fun j hj => by
    have h := E6.out j hj
    rw [← h]
    repeat rw [Array.getElem?_setIfInBounds_ne (by omega)]
  have N7 : Hid ((rowT labT (⟨#[]⟩, ⟨#[]⟩) s_sel tol).1.len ≤ st.len + 786976) := by
    have q0 := N6.out
    have q1 := (rowT_len fine_L (⟨#[]⟩, ⟨#[]⟩) s_sel tol)
    show _ ≤ _
    omega
  have I7 : Hid ((rowT labT (⟨#[]⟩, ⟨#[]⟩) s_sel tol).1.isR = st.isR) := by
    show _ = _
    simp only [rowT_isR fine_L]
    exact I6.out
  clear k0 Q7 kr CC6
  obtain ⟨⟨s_tol, v_tol⟩, h_tol⟩ : ∃ p, p = rowT labT (⟨#[]⟩, ⟨#[]⟩) s_sel tol := ⟨_, rfl⟩
  simp only [← h_tol] at P7 N7 I7 eo b_own b_node b_ph b_since b_cpu b_mem b_lab b_sel b_tol b_warm
  obtain ⟨L7, hL7⟩ : ∃ l, l = (L6.setIfInBounds 18 u_tol) := ⟨_, rfl⟩
  rw [← hL7] at P7 eo b_own b_node b_ph b_since b_cpu b_mem b_lab b_sel b_tol b_warm
  replace A_own := Lib.hid (b_own.trans A_own.out)
  clear b_own
  replace A_node := Lib.hid (b_node.trans A_node.out)
  clear b_node
  replace A_ph := Lib.hid (b_ph.trans A_ph.out)
  clear b_ph
  replace A_since := Lib.hid (b_since.trans A_since.out)
  clear b_since
  replace A_cpu := Lib.hid (b_cpu.trans A_cpu.out)
  clear b_cpu
  replace A_mem := Lib.hid (b_mem.trans A_mem.out)
  clear b_mem
  replace A_lab : Hid (SlA A C O 2 encL w7 L7[16]? v_lab) := by
    have h := A_lab.out.mv M7
    show SlA _ _ _ _ _ _ _ _
    rw [b_lab]
    exact h
  clear b_lab
  replace A_sel : Hid (SlA A C O 3 encR w7 L7[17]? v_sel) := by
    have h := A_sel.out.mv M7
    show SlA _ _ _ _ _ _ _ _
    rw [b_sel]
    exact h
  clear b_sel
  replace A_tol := Lib.hid b_tol
  clear b_tol
  replace A_warm := Lib.hid (b_warm.trans A_warm.out)
  clear b_warm
  have E7 := eo
  have H_tol := Lib.hid h_tol
  clear eo M7 hL7 h_tol P6
  clear E6 N6 I6
  go_wp2_with fail
  have CC7 := Lib.hid (numI_any w7 N A C O s_tol L7 T fz [(19, warm)] P7.out.1 P7.out.2.1 (fun h => HF.out.1 (by rw [← I7.out]; exact h)) (by intro p hp; simp only [List.mem_cons, List.not_mem_nil, or_false] at hp; subst hp; exact A_warm.out) (by simp) (by simp) (by have q1 := N7.out; have q2 := HF.out.2; simp only [List.length_cons, List.length_nil]; omega))
  refine CC7.out.mono ?_
  rintro e w8 ⟨rfl, k0⟩
  have Q8 : Pst N A C O (numT s_tol warm).1 (L7.setIfInBounds 19 (.int .i64 (numT s_tol warm).2)) T fz w7 w8 := k0
  have M8 : Mv A C O w7 w8 := Q8.2.2
  have P8 : Hid (Pst N A C O (numT s_tol warm).1 (L7.setIfInBounds 19 (.int .i64 (numT s_tol warm).2)) T fz w w8) := P7.out.trans Q8
  have b_own : ((L7.setIfInBounds 19 (.int .i64 (numT s_tol warm).2)))[10]? = (L7)[10]? := by simp [Array.getElem?_setIfInBounds]
  have b_node : ((L7.setIfInBounds 19 (.int .i64 (numT s_tol warm).2)))[11]? = (L7)[11]? := by simp [Array.getElem?_setIfInBounds]
  have b_ph : ((L7.setIfInBounds 19 (.int .i64 (numT s_tol warm).2)))[12]? = (L7)[12]? := by simp [Array.getElem?_setIfInBounds]
  have b_since : ((L7.setIfInBounds 19 (.int .i64 (numT s_tol warm).2)))[13]? = (L7)[13]? := by simp [Array.getElem?_setIfInBounds]
  have b_cpu : ((L7.setIfInBounds 19 (.int .i64 (numT s_tol warm).2)))[14]? = (L7)[14]? := by simp [Array.getElem?_setIfInBounds]
  have b_mem : ((L7.setIfInBounds 19 (.int .i64 (numT s_tol warm).2)))[15]? = (L7)[15]? := by simp [Array.getElem?_setIfInBounds]
  have b_lab : ((L7.setIfInBounds 19 (.int .i64 (numT s_tol warm).2)))[16]? = (L7)[16]? := by simp [Array.getElem?_setIfInBounds]
  have b_sel : ((L7.setIfInBounds 19 (.int .i64 (numT s_tol warm).2)))[17]? = (L7)[17]? := by simp [Array.getElem?_setIfInBounds]
  have b_tol : ((L7.setIfInBounds 19 (.int .i64 (numT s_tol warm).2)))[18]? = (L7)[18]? := by simp [Array.getElem?_setIfInBounds]
  have b_warm : ((L7.setIfInBounds 19 (.int .i64 (numT s_tol warm).2)))[19]? = some (.int .i64 (numT s_tol warm).2) := by
    have hsz := (Array.getElem?_eq_some_iff.1 A_warm.out).1
    simp [Array.getElem?_setIfInBounds, hsz]
  have eo : Hid (∀ j, j < 10 ∨ 20 ≤ j → ((L7.setIfInBounds 19 (.int .i64 (numT s_tol warm).2)))[j]? = L[j]?) := fun j hj => by
    have h := E7.out j hj
    rw [← h]
    repeat rw [Array.getElem?_setIfInBounds_ne (by omega)]
  have N8 : Hid ((numT s_tol warm).1.len ≤ st.len + 786984) := by
    have q0 := N7.out
    have q1 := (numT_len s_tol warm)
    show _ ≤ _
    omega
  have I8 : Hid ((numT s_tol warm).1.isR = st.isR) := by
    show _ = _
    simp only [numT_isR]
    exact I7.out
  clear k0 Q8 CC7
  obtain ⟨⟨s_warm, v_warm⟩, h_warm⟩ : ∃ p, p = numT s_tol warm := ⟨_, rfl⟩
  simp only [← h_warm] at P8 N8 I8 eo b_own b_node b_ph b_since b_cpu b_mem b_lab b_sel b_tol b_warm
  obtain ⟨L8, hL8⟩ : ∃ l, l = (L7.setIfInBounds 19 (.int .i64 v_warm)) := ⟨_, rfl⟩
  rw [← hL8] at P8 eo b_own b_node b_ph b_since b_cpu b_mem b_lab b_sel b_tol b_warm
  replace A_own := Lib.hid (b_own.trans A_own.out)
  clear b_own
  replace A_node := Lib.hid (b_node.trans A_node.out)
  clear b_node
  replace A_ph := Lib.hid (b_ph.trans A_ph.out)
  clear b_ph
  replace A_since := Lib.hid (b_since.trans A_since.out)
  clear b_since
  replace A_cpu := Lib.hid (b_cpu.trans A_cpu.out)
  clear b_cpu
  replace A_mem := Lib.hid (b_mem.trans A_mem.out)
  clear b_mem
  replace A_lab : Hid (SlA A C O 2 encL w8 L8[16]? v_lab) := by
    have h := A_lab.out.mv M8
    show SlA _ _ _ _ _ _ _ _
    rw [b_lab]
    exact h
  clear b_lab
  replace A_sel : Hid (SlA A C O 3 encR w8 L8[17]? v_sel) := by
    have h := A_sel.out.mv M8
    show SlA _ _ _ _ _ _ _ _
    rw [b_sel]
    exact h
  clear b_sel
  replace A_tol : Hid (SlA A C O 2 encL w8 L8[18]? v_tol) := by
    have h := A_tol.out.mv M8
    show SlA _ _ _ _ _ _ _ _
    rw [b_tol]
    exact h
  clear b_tol
  replace A_warm := Lib.hid b_warm
  clear b_warm
  have E8 := eo
  have H_warm := Lib.hid h_warm
  clear eo M8 hL8 h_warm P7
  clear E7 N7 I7
  have fin : pdT st ⟨own, node, ph, since, cpu, mem, lab, sel, tol, warm⟩ = (s_warm, ⟨v_own, v_node, v_ph, v_since, v_cpu, v_mem, v_lab, v_sel, v_tol, v_warm⟩) := by
    simp only [pdT, ← H_own.out, ← H_node.out, ← H_ph.out, ← H_since.out, ← H_cpu.out, ← H_mem.out, ← H_lab.out, ← H_sel.out, ← H_tol.out, ← H_warm.out]
  have FIN : Hid (∃ L', Pst N A C O (pdT st ⟨own, node, ph, since, cpu, mem, lab, sel, tol, warm⟩).1 L' T fz w w8 ∧ pdA A C O w8 L' (pdT st ⟨own, node, ph, since, cpu, mem, lab, sel, tol, warm⟩).2 ∧ ∀ j, j < 10 ∨ 20 ≤ j → L'[j]? = L[j]?) := by
    show ∃ _, _
    rw [fin]
    exact ⟨L8, P8.out, ⟨A_own.out, A_node.out, A_ph.out, A_since.out, A_cpu.out, A_mem.out, A_lab.out, A_sel.out, A_tol.out, A_warm.out⟩, E8.out⟩
  clear fin
  go_wp2
  go_end0
  exact ⟨rfl, FIN.out⟩
end Go.Proofs.Ytlajiochpdlhaaa
