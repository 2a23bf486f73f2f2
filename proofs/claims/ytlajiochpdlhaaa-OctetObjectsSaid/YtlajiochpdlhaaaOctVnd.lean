/- A Nd through the course. -/
import Derived.Test.YtlajiochpdlhaaaOctZ
namespace Go.Proofs.Ytlajiochpdlhaaa
open Go.RowKit Go.Shelf Go.Lib Go.Sort
open Go.Joins (cell_of_block unfrozen_of_block block_setCell)
set_option linter.unusedVariables false
set_option linter.unusedSimpArgs false
set_option maxRecDepth 20000

def ndT (st : St) (x : Nd) : St × Nd :=
  let p_grp := txtT st x.grp
  let p_cpu := numT p_grp.1 x.cpu
  let p_mem := numT p_cpu.1 x.mem
  let p_lab := rowT labT (⟨#[]⟩, ⟨#[]⟩) p_mem.1 x.lab
  let p_tnt := rowT labT (⟨#[]⟩, ⟨#[]⟩) p_lab.1 x.tnt
  let p_since := numT p_tnt.1 x.since
  let p_closed := truT p_since.1 x.closed
  (p_closed.1, ⟨p_grp.2, p_cpu.2, p_mem.2, p_lab.2, p_tnt.2, p_since.2, p_closed.2⟩)
def ndA (A C O : Nat) (w : World) (L : Array Value) (x : Nd) : Prop :=
  L[20]? = some (.string x.grp) ∧ L[21]? = some (.int .i64 x.cpu) ∧ L[22]? = some (.int .i64 x.mem) ∧ SlA A C O 2 encL w L[23]? x.lab ∧ SlA A C O 2 encL w L[24]? x.tnt ∧ L[25]? = some (.int .i64 x.since) ∧ L[26]? = some (.bool x.closed)
def ndZ (st : St) (L : Array Value) (x : Nd) : Prop := SlZ st L[23]? x.lab ∧ SlZ st L[24]? x.tnt
theorem ndT_isR (st : St) (x : Nd) : (ndT st x).1.isR = st.isR := by
  unfold ndT
  simp only [numT_isR, rowT_isR fine_L, truT_isR, txtT_isR]
theorem ndT_len (st : St) (x : Nd) : (ndT st x).1.len ≤ st.len + 524569 := by
  unfold ndT
  dsimp only
  have q_grp := txtT_len st x.grp
  obtain ⟨p_grp, hp_grp⟩ : ∃ p, p = txtT st x.grp := ⟨_, rfl⟩
  simp only [← hp_grp] at *
  have q_cpu := numT_len p_grp.1 x.cpu
  obtain ⟨p_cpu, hp_cpu⟩ : ∃ p, p = numT p_grp.1 x.cpu := ⟨_, rfl⟩
  simp only [← hp_cpu] at *
  have q_mem := numT_len p_cpu.1 x.mem
  obtain ⟨p_mem, hp_mem⟩ : ∃ p, p = numT p_cpu.1 x.mem := ⟨_, rfl⟩
  simp only [← hp_mem] at *
  have q_lab := rowT_len fine_L (⟨#[]⟩, ⟨#[]⟩) p_mem.1 x.lab
  obtain ⟨p_lab, hp_lab⟩ : ∃ p, p = rowT labT (⟨#[]⟩, ⟨#[]⟩) p_mem.1 x.lab := ⟨_, rfl⟩
  simp only [← hp_lab] at *
  have q_tnt := rowT_len fine_L (⟨#[]⟩, ⟨#[]⟩) p_lab.1 x.tnt
  obtain ⟨p_tnt, hp_tnt⟩ : ∃ p, p = rowT labT (⟨#[]⟩, ⟨#[]⟩) p_lab.1 x.tnt := ⟨_, rfl⟩
  simp only [← hp_tnt] at *
  have q_since := numT_len p_tnt.1 x.since
  obtain ⟨p_since, hp_since⟩ : ∃ p, p = numT p_tnt.1 x.since := ⟨_, rfl⟩
  simp only [← hp_since] at *
  have q_closed := truT_len p_since.1 x.closed
  obtain ⟨p_closed, hp_closed⟩ : ∃ p, p = truT p_since.1 x.closed := ⟨_, rfl⟩
  simp only [← hp_closed] at *
  omega

set_option maxHeartbeats 8000000 in
theorem nd_any (w : World) (N A C O : Nat) (st : St) (L : Array Value) (T : TypeId) (fz : Nat × Nat) (x : Nd) (hc : CoreSt N A C st w) (ht : Tg A C O L T fz w) (hf : st.isR = true → fz = (0, 0)) (hx : ndA A C O w L x) (hz : ndZ st L x) (hl : st.len + 8000000 ≤ 1000000000) :
    Calls Try.prog 47 #[ptr C, .pointer (some ⟨O, 20, none⟩)] w fun e w' => e = .returned (.tuple #[]) ∧ ∃ L',
      Pst N A C O (ndT st x).1 L' T fz w w' ∧ ndA A C O w' L' (ndT st x).2 ∧ ∀ j, j < 20 ∨ 27 ≤ j → L'[j]? = L[j]? := by
  have mixed : Try.prog.follows .mixedOrders = true := by kernel_rfl
  have P0 : Hid (Pst N A C O st L T fz w w) := Pst.start hc ht
  obtain ⟨grp, cpu, mem, lab, tnt, since, closed⟩ := x
  obtain ⟨a_grp, a_cpu, a_mem, a_lab, a_tnt, a_since, a_closed⟩ := hx
  obtain ⟨z_lab, z_tnt⟩ := hz
  dsimp only at *
  have A_grp := Lib.hid a_grp
  have A_cpu := Lib.hid a_cpu
  have A_mem := Lib.hid a_mem
  have A_lab := Lib.hid a_lab
  have A_tnt := Lib.hid a_tnt
  have A_since := Lib.hid a_since
  have A_closed := Lib.hid a_closed
  have HF := Lib.hid (And.intro hf hl)
  have Z_lab := Lib.hid z_lab
  have Z_tnt := Lib.hid z_tnt
  clear hc ht hf hl a_grp a_cpu a_mem a_lab a_tnt a_since a_closed z_lab z_tnt
  go_enter Try.func47, Try.ntmps47
  go_wp2_with fail
  have CC0 := Lib.hid (txts_any w N A C O st L T fz [(20, grp)] P0.out.1 P0.out.2.1 HF.out.1 (by intro p hp; simp only [List.mem_cons, List.not_mem_nil, or_false] at hp; subst hp; exact A_grp.out) (by simp) (by simp) (by have q2 := HF.out.2; simp only [List.length_cons, List.length_nil]; omega))
  refine CC0.out.mono ?_
  rintro e w1 ⟨rfl, k0⟩
  have Q1 : Pst N A C O (txtT st grp).1 (L.setIfInBounds 20 (.string (txtT st grp).2)) T fz w w1 := k0
  have M1 : Mv A C O w w1 := Q1.2.2
  have P1 : Hid (Pst N A C O (txtT st grp).1 (L.setIfInBounds 20 (.string (txtT st grp).2)) T fz w w1) := P0.out.trans Q1
  have b_grp : ((L.setIfInBounds 20 (.string (txtT st grp).2)))[20]? = some (.string (txtT st grp).2) := by
    have hsz := (Array.getElem?_eq_some_iff.1 A_grp.out).1
    simp [Array.getElem?_setIfInBounds, hsz]
  have b_cpu : ((L.setIfInBounds 20 (.string (txtT st grp).2)))[21]? = (L)[21]? := by simp [Array.getElem?_setIfInBounds]
  have b_mem : ((L.setIfInBounds 20 (.string (txtT st grp).2)))[22]? = (L)[22]? := by simp [Array.getElem?_setIfInBounds]
  have b_lab : ((L.setIfInBounds 20 (.string (txtT st grp).2)))[23]? = (L)[23]? := by simp [Array.getElem?_setIfInBounds]
  have b_tnt : ((L.setIfInBounds 20 (.string (txtT st grp).2)))[24]? = (L)[24]? := by simp [Array.getElem?_setIfInBounds]
  have b_since : ((L.setIfInBounds 20 (.string (txtT st grp).2)))[25]? = (L)[25]? := by simp [Array.getElem?_setIfInBounds]
  have b_closed : ((L.setIfInBounds 20 (.string (txtT st grp).2)))[26]? = (L)[26]? := by simp [Array.getElem?_setIfInBounds]
  have eo : Hid (∀ j, j < 20 ∨ 27 ≤ j → ((L.setIfInBounds 20 (.string (txtT st grp).2)))[j]? = L[j]?) := fun j hj => by
    repeat rw [Array.getElem?_setIfInBounds_ne (by omega)]
  have N1 : Hid ((txtT st grp).1.len ≤ st.len + 256) := by
    have q1 := (txtT_len st grp)
    show _ ≤ _
    omega
  have I1 : Hid ((txtT st grp).1.isR = st.isR) := by
    show _ = _
    simp only [txtT_isR]
  clear k0 Q1 CC0
  obtain ⟨⟨s_grp, v_grp⟩, h_grp⟩ : ∃ p, p = txtT st grp := ⟨_, rfl⟩
  simp only [← h_grp] at P1 N1 I1 eo b_grp b_cpu b_mem b_lab b_tnt b_since b_closed
  obtain ⟨L1, hL1⟩ : ∃ l, l = (L.setIfInBounds 20 (.string v_grp)) := ⟨_, rfl⟩
  rw [← hL1] at P1 eo b_grp b_cpu b_mem b_lab b_tnt b_since b_closed
  replace A_grp := Lib.hid b_grp
  clear b_grp
  replace A_cpu := Lib.hid (b_cpu.trans A_cpu.out)
  clear b_cpu
  replace A_mem := Lib.hid (b_mem.trans A_mem.out)
  clear b_mem
  replace A_lab : Hid (SlA A C O 2 encL w1 L1[23]? lab) := by
    have h := A_lab.out.mv M1
    show SlA _ _ _ _ _ _ _ _
    rw [b_lab]
    exact h
  replace Z_lab : Hid (SlZ st L1[23]? lab) := by
    have h := Z_lab.out
    show SlZ _ _ _
    rw [b_lab]
    exact h
  clear b_lab
  replace A_tnt : Hid (SlA A C O 2 encL w1 L1[24]? tnt) := by
    have h := A_tnt.out.mv M1
    show SlA _ _ _ _ _ _ _ _
    rw [b_tnt]
    exact h
  replace Z_tnt : Hid (SlZ st L1[24]? tnt) := by
    have h := Z_tnt.out
    show SlZ _ _ _
    rw [b_tnt]
    exact h
  clear b_tnt
  replace A_since := Lib.hid (b_since.trans A_since.out)
  clear b_since
  replace A_closed := Lib.hid (b_closed.trans A_closed.out)
  clear b_closed
  have E1 := eo
  have H_grp := Lib.hid h_grp
  clear eo M1 hL1 h_grp P0
  go_wp2_with fail
  have CC1 := Lib.hid (resources_item w1 N A C O 21 s_grp L1 T fz (cpu, mem) P1.out.1 P1.out.2.1 (fun h => HF.out.1 (by rw [← I1.out]; exact h)) (by
    intro t v hv
    match t, hv with
    | 0, hv => simp [encQ] at hv; subst hv; exact A_cpu.out
    | 1, hv => simp [encQ] at hv; subst hv; exact A_mem.out
    | t + 2, hv => simp [encQ] at hv) (by have q1 := N1.out; have q2 := HF.out.2; omega))
  refine CC1.out.mono ?_
  rintro e w2 ⟨rfl, k0⟩
  have Q2 : Pst N A C O (numT (numT s_grp cpu).1 mem).1 ((L1.setIfInBounds 21 (.int .i64 (numT s_grp cpu).2)).setIfInBounds 22 (.int .i64 (numT (numT s_grp cpu).1 mem).2)) T fz w1 w2 := k0
  have M2 : Mv A C O w1 w2 := Q2.2.2
  have P2 : Hid (Pst N A C O (numT (numT s_grp cpu).1 mem).1 ((L1.setIfInBounds 21 (.int .i64 (numT s_grp cpu).2)).setIfInBounds 22 (.int .i64 (numT (numT s_grp cpu).1 mem).2)) T fz w w2) := P1.out.trans Q2
  have b_grp : (((L1.setIfInBounds 21 (.int .i64 (numT s_grp cpu).2)).setIfInBounds 22 (.int .i64 (numT (numT s_grp cpu).1 mem).2)))[20]? = (L1)[20]? := by simp [Array.getElem?_setIfInBounds]
  have b_cpu : (((L1.setIfInBounds 21 (.int .i64 (numT s_grp cpu).2)).setIfInBounds 22 (.int .i64 (numT (numT s_grp cpu).1 mem).2)))[21]? = some (.int .i64 (numT s_grp cpu).2) := by
    have hsz := (Array.getElem?_eq_some_iff.1 A_cpu.out).1
    simp [Array.getElem?_setIfInBounds, hsz]
  have b_mem : (((L1.setIfInBounds 21 (.int .i64 (numT s_grp cpu).2)).setIfInBounds 22 (.int .i64 (numT (numT s_grp cpu).1 mem).2)))[22]? = some (.int .i64 (numT (numT s_grp cpu).1 mem).2) := by
    have hsz := (Array.getElem?_eq_some_iff.1 A_mem.out).1
    simp [Array.getElem?_setIfInBounds, hsz]
  have b_lab : (((L1.setIfInBounds 21 (.int .i64 (numT s_grp cpu).2)).setIfInBounds 22 (.int .i64 (numT (numT s_grp cpu).1 mem).2)))[23]? = (L1)[23]? := by simp [Array.getElem?_setIfInBounds]
  have b_tnt : (((L1.setIfInBounds 21 (.int .i64 (numT s_grp cpu).2)).setIfInBounds 22 (.int .i64 (numT (numT s_grp cpu).1 mem).2)))[24]? = (L1)[24]? := by simp [Array.getElem?_setIfInBounds]
  have b_since : (((L1.setIfInBounds 21 (.int .i64 (numT s_grp cpu).2)).setIfInBounds 22 (.int .i64 (numT (numT s_grp cpu).1 mem).2)))[25]? = (L1)[25]? := by simp [Array.getElem?_setIfInBounds]
  have b_closed : (((L1.setIfInBounds 21 (.int .i64 (numT s_grp cpu).2)).setIfInBounds 22 (.int .i64 (numT (numT s_grp cpu).1 mem).2)))[26]? = (L1)[26]? := by simp [Array.getElem?_setIfInBounds]
  have eo : Hid (∀ j, j < 20 ∨ 27 ≤ j → (((L1.setIfInBounds 21 (.int .i64 (numT s_grp cpu).2)).setIfInBounds 22 (.int .i64 (numT (numT s_grp cpu).1 mem).2)))[j]? = L[j]?) := fun j hj => by
    have h := E1.out j hj
    rw [← h]
    repeat rw [Array.getElem?_setIfInBounds_ne (by omega)]
  have N2 : Hid ((numT (numT s_grp cpu).1 mem).1.len ≤ st.len + 272) := by
    have q0 := N1.out
    have q1 := (numT_len s_grp cpu)
    have q2 := (numT_len (numT s_grp cpu).1 mem)
    show _ ≤ _
    omega
  have I2 : Hid ((numT (numT s_grp cpu).1 mem).1.isR = st.isR) := by
    show _ = _
    simp only [numT_isR]
    exact I1.out
  clear k0 Q2 CC1
  obtain ⟨⟨s_cpu, v_cpu⟩, h_cpu⟩ : ∃ p, p = numT s_grp cpu := ⟨_, rfl⟩
  simp only [← h_cpu] at P2 N2 I2 eo b_grp b_cpu b_mem b_lab b_tnt b_since b_closed
  obtain ⟨⟨s_mem, v_mem⟩, h_mem⟩ : ∃ p, p = numT s_cpu mem := ⟨_, rfl⟩
  simp only [← h_mem] at P2 N2 I2 eo b_grp b_cpu b_mem b_lab b_tnt b_since b_closed
  obtain ⟨L2, hL2⟩ : ∃ l, l = ((L1.setIfInBounds 21 (.int .i64 v_cpu)).setIfInBounds 22 (.int .i64 v_mem)) := ⟨_, rfl⟩
  rw [← hL2] at P2 eo b_grp b_cpu b_mem b_lab b_tnt b_since b_closed
  replace A_grp := Lib.hid (b_grp.trans A_grp.out)
  clear b_grp
  replace A_cpu := Lib.hid b_cpu
  clear b_cpu
  replace A_mem := Lib.hid b_mem
  clear b_mem
  replace A_lab : Hid (SlA A C O 2 encL w2 L2[23]? lab) := by
    have h := A_lab.out.mv M2
    show SlA _ _ _ _ _ _ _ _
    rw [b_lab]
    exact h
  replace Z_lab : Hid (SlZ st L2[23]? lab) := by
    have h := Z_lab.out
    show SlZ _ _ _
    rw [b_lab]
    exact h
  clear b_lab
  replace A_tnt : Hid (SlA A C O 2 encL w2 L2[24]? tnt) := by
    have h := A_tnt.out.mv M2
    show SlA _ _ _ _ _ _ _ _
    rw [b_tnt]
    exact h
  replace Z_tnt : Hid (SlZ st L2[24]? tnt) := by
    have h := Z_tnt.out
    show SlZ _ _ _
    rw [b_tnt]
    exact h
  clear b_tnt
  replace A_since := Lib.hid (b_since.trans A_since.out)
  clear b_since
  replace A_closed := Lib.hid (b_closed.trans A_closed.out)
  clear b_closed
  have E2 := eo
  have H_cpu := Lib.hid h_cpu
  have H_mem := Lib.hid h_mem
  clear eo M2 hL2 h_cpu h_mem P1
  clear E1 N1 I1
  go_wp2_with fail
  have CC2 := Lib.hid (rowL_any w2 N A C O 23 s_mem L2 T fz lab P2.out.1 P2.out.2.1 (fun h => HF.out.1 (by rw [← I2.out]; exact h)) A_lab.out (fun h => Z_lab.out (by rw [← I2.out]; exact h)) (by have q1 := N2.out; have q2 := HF.out.2; omega))
  refine CC2.out.mono ?_
  rintro e w3 ⟨rfl, u_lab, k0, kr⟩
  have Q3 : Pst N A C O (rowT labT (⟨#[]⟩, ⟨#[]⟩) s_mem lab).1 (L2.setIfInBounds 23 u_lab) T fz w2 w3 := k0
  have M3 : Mv A C O w2 w3 := Q3.2.2
  have P3 : Hid (Pst N A C O (rowT labT (⟨#[]⟩, ⟨#[]⟩) s_mem lab).1 (L2.setIfInBounds 23 u_lab) T fz w w3) := P2.out.trans Q3
  have b_grp : ((L2.setIfInBounds 23 u_lab))[20]? = (L2)[20]? := by simp [Array.getElem?_setIfInBounds]
  have b_cpu : ((L2.setIfInBounds 23 u_lab))[21]? = (L2)[21]? := by simp [Array.getElem?_setIfInBounds]
  have b_mem : ((L2.setIfInBounds 23 u_lab))[22]? = (L2)[22]? := by simp [Array.getElem?_setIfInBounds]
  have b_lab : SlA A C O 2 encL w3 ((L2.setIfInBounds 23 u_lab))[23]? (rowT labT (⟨#[]⟩, ⟨#[]⟩) s_mem lab).2 := by
    obtain ⟨q0, c0, e0, _⟩ := A_lab.out
    have e1 : (L2)[23]? = some _ := e0
    rw [setIf_get e1]
    exact kr
  have b_tnt : ((L2.setIfInBounds 23 u_lab))[24]? = (L2)[24]? := by simp [Array.getElem?_setIfInBounds]
  have b_since : ((L2.setIfInBounds 23 u_lab))[25]? = (L2)[25]? := by simp [Array.getElem?_setIfInBounds]
  have b_closed : ((L2.setIfInBounds 23 u_lab))[26]? = (L2)[26]? := by simp [Array.getElem?_setIfInBounds]
  have eo : Hid (∀ j, j < 20 ∨ 27 ≤ j → ((L2.setIfInBounds 23 u_lab))[j]? = L[j]?) := fun j hj => by
    have h := E2.out j hj
    rw [← h]
    repeat rw [Array.getElem?_setIfInBounds_ne (by omega)]
  have N3 : Hid ((rowT labT (⟨#[]⟩, ⟨#[]⟩) s_mem lab).1.len ≤ st.len + 262416) := by
    have q0 := N2.out
    have q1 := (rowT_len fine_L (⟨#[]⟩, ⟨#[]⟩) s_mem lab)
    show _ ≤ _
    omega
  have I3 : Hid ((rowT labT (⟨#[]⟩, ⟨#[]⟩) s_mem lab).1.isR = st.isR) := by
    show _ = _
    simp only [rowT_isR fine_L]
    exact I2.out
  clear k0 Q3 kr CC2
  obtain ⟨⟨s_lab, v_lab⟩, h_lab⟩ : ∃ p, p = rowT labT (⟨#[]⟩, ⟨#[]⟩) s_mem lab := ⟨_, rfl⟩
  simp only [← h_lab] at P3 N3 I3 eo b_grp b_cpu b_mem b_lab b_tnt b_since b_closed
  obtain ⟨L3, hL3⟩ : ∃ l, l = (L2.setIfInBounds 23 u_lab) := ⟨_, rfl⟩
  rw [← hL3] at P3 eo b_grp b_cpu b_mem b_lab b_tnt b_since b_closed
  replace A_grp := Lib.hid (b_grp.trans A_grp.out)
  clear b_grp
  replace A_cpu := Lib.hid (b_cpu.trans A_cpu.out)
  clear b_cpu
  replace A_mem := Lib.hid (b_mem.trans A_mem.out)
  clear b_mem
  replace A_lab := Lib.hid b_lab
  clear b_lab
  replace A_tnt : Hid (SlA A C O 2 encL w3 L3[24]? tnt) := by
    have h := A_tnt.out.mv M3
    show SlA _ _ _ _ _ _ _ _
    rw [b_tnt]
    exact h
  replace Z_tnt : Hid (SlZ st L3[24]? tnt) := by
    have h := Z_tnt.out
    show SlZ _ _ _
    rw [b_tnt]
    exact h
  clear b_tnt
  replace A_since := Lib.hid (b_since.trans A_since.out)
  clear b_since
  replace A_closed := Lib.hid (b_closed.trans A_closed.out)
  clear b_closed
  have E3 := eo
  have H_lab := Lib.hid h_lab
  clear eo M3 hL3 h_lab P2
  clear E2 N2 I2
  go_wp2_with fail
  have CC3 := Lib.hid (rowL_any w3 N A C O 24 s_lab L3 T fz tnt P3.out.1 P3.out.2.1 (fun h => HF.out.1 (by rw [← I3.out]; exact h)) A_tnt.out (fun h => Z_tnt.out (by rw [← I3.out]; exact h)) (by have q1 := N3.out; have q2 := HF.out.2; omega))
  refine CC3.out.mono ?_
  rintro e w4 ⟨rfl, u_tnt, k0, kr⟩
  have Q4 : Pst N A C O (rowT labT (⟨#[]⟩, ⟨#[]⟩) s_lab tnt).1 (L3.setIfInBounds 24 u_tnt) T fz w3 w4 := k0
  have M4 : Mv A C O w3 w4 := Q4.2.2
  have P4 : Hid (Pst N A C O (rowT labT (⟨#[]⟩, ⟨#[]⟩) s_lab tnt).1 (L3.setIfInBounds 24 u_tnt) T fz w w4) := P3.out.trans Q4
  have b_grp : ((L3.setIfInBounds 24 u_tnt))[20]? = (L3)[20]? := by simp [Array.getElem?_setIfInBounds]
  have b_cpu : ((L3.setIfInBounds 24 u_tnt))[21]? = (L3)[21]? := by simp [Array.getElem?_setIfInBounds]
  have b_mem : ((L3.setIfInBounds 24 u_tnt))[22]? = (L3)[22]? := by simp [Array.getElem?_setIfInBounds]
  have b_lab : ((L3.setIfInBounds 24 u_tnt))[23]? = (L3)[23]? := by simp [Array.getElem?_setIfInBounds]
  have b_tnt : SlA A C O 2 encL w4 ((L3.setIfInBounds 24 u_tnt))[24]? (rowT labT (⟨#[]⟩, ⟨#[]⟩) s_lab tnt).2 := by
    obtain ⟨q0, c0, e0, _⟩ := A_tnt.out
    have e1 : (L3)[24]? = some _ := e0
    rw [setIf_get e1]
    exact kr
  have b_since : ((L3.setIfInBounds 24 u_tnt))[25]? = (L3)[25]? := by simp [Array.getElem?_setIfInBounds]
  have b_closed : ((L3.setIfInBounds 24 u_tnt))[26]? = (L3)[26]? := by simp [Array.getElem?_setIfInBounds]
  have eo : Hid (∀ j, j < 20 ∨ 27 ≤ j → ((L3.setIfInBounds 24 u_tnt))[j]? = L[j]?) := fun j hj => by
    have h := E3.out j hj
    rw [← h]
    repeat rw [Array.getElem?_setIfInBounds_ne (by omega)]
  have N4 : Hid ((rowT labT (⟨#[]⟩, ⟨#[]⟩) s_lab tnt).1.len ≤ st.len + 524560) := by
    have q0 := N3.out
    have q1 := (rowT_len fine_L (⟨#[]⟩, ⟨#[]⟩) s_lab tnt)
    show _ ≤ _
    omega
  have I4 : Hid ((rowT labT (⟨#[]⟩, ⟨#[]⟩) s_lab tnt).1.isR = st.isR) := by
    show _ = _
    simp only [rowT_isR fine_L]
    exact I3.out
  clear k0 Q4 kr CC3
  obtain ⟨⟨s_tnt, v_tnt⟩, h_tnt⟩ : ∃ p, p = rowT labT (⟨#[]⟩, ⟨#[]⟩) s_lab tnt := ⟨_, rfl⟩
  simp only [← h_tnt] at P4 N4 I4 eo b_grp b_cpu b_mem b_lab b_tnt b_since b_closed
  obtain ⟨L4, hL4⟩ : ∃ l, l = (L3.setIfInBounds 24 u_tnt) := ⟨_, rfl⟩
  rw [← hL4] at P4 eo b_grp b_cpu b_mem b_lab b_tnt b_since b_closed
  replace A_grp := Lib.hid (b_grp.trans A_grp.out)
  clear b_grp
  replace A_cpu := Lib.hid (b_cpu.trans A_cpu.out)
  clear b_cpu
  replace A_mem := Lib.hid (b_mem.trans A_mem.out)
  clear b_mem
  replace A_lab : Hid (SlA A C O 2 encL w4 L4[23]? v_lab) := by
    have h := A_lab.out.mv M4
    show SlA _ _ _ _ _ _ _ _
    rw [b_lab]
    exact h
  clear b_lab
  replace A_tnt := Lib.hid b_tnt
  clear b_tnt
  replace A_since := Lib.hid (b_since.trans A_since.out)
  clear b_since
  replace A_closed := Lib.hid (b_closed.trans A_closed.out)
  clear b_closed
  have E4 := eo
  have H_tnt := Lib.hid h_tnt
  clear eo M4 hL4 h_tnt P3
  clear E3 N3 I3
  go_wp2_with fail
  have CC4 := Lib.hid (numJ_any w4 N A C O s_tnt L4 T fz [(25, since)] P4.out.1 P4.out.2.1 (fun h => HF.out.1 (by rw [← I4.out]; exact h)) (by intro p hp; simp only [List.mem_cons, List.not_mem_nil, or_false] at hp; subst hp; exact A_since.out) (by simp) (by simp) (by have q1 := N4.out; have q2 := HF.out.2; simp only [List.length_cons, List.length_nil]; omega))
  refine CC4.out.mono ?_
  rintro e w5 ⟨rfl, k0⟩
  have Q5 : Pst N A C O (numT s_tnt since).1 (L4.setIfInBounds 25 (.int .i64 (numT s_tnt since).2)) T fz w4 w5 := k0
  have M5 : Mv A C O w4 w5 := Q5.2.2
  have P5 : Hid (Pst N A C O (numT s_tnt since).1 (L4.setIfInBounds 25 (.int .i64 (numT s_tnt since).2)) T fz w w5) := P4.out.trans Q5
  have b_grp : ((L4.setIfInBounds 25 (.int .i64 (numT s_tnt since).2)))[20]? = (L4)[20]? := by simp [Array.getElem?_setIfInBounds]
  have b_cpu : ((L4.setIfInBounds 25 (.int .i64 (numT s_tnt since).2)))[21]? = (L4)[21]? := by simp [Array.getElem?_setIfInBounds]
  have b_mem : ((L4.setIfInBounds 25 (.int .i64 (numT s_tnt since).2)))[22]? = (L4)[22]? := by simp [Array.getElem?_setIfInBounds]
  have b_lab : ((L4.setIfInBounds 25 (.int .i64 (numT s_tnt since).2)))[23]? = (L4)[23]? := by simp [Array.getElem?_setIfInBounds]
  have b_tnt : ((L4.setIfInBounds 25 (.int .i64 (numT s_tnt since).2)))[24]? = (L4)[24]? := by simp [Array.getElem?_setIfInBounds]
  have b_since : ((L4.setIfInBounds 25 (.int .i64 (numT s_tnt since).2)))[25]? = some (.int .i64 (numT s_tnt since).2) := by
    have hsz := (Array.getElem?_eq_some_iff.1 A_since.out).1
    simp [Array.getElem?_setIfInBounds, hsz]
  have b_closed : ((L4.setIfInBounds 25 (.int .i64 (numT s_tnt since).2)))[26]? = (L4)[26]? := by simp [Array.getElem?_setIfInBounds]
  have eo : Hid (∀ j, j < 20 ∨ 27 ≤ j → ((L4.setIfInBounds 25 (.int .i64 (numT s_tnt since).2)))[j]? = L[j]?) := fun j hj => by
    have h := E4.out j hj
    rw [← h]
    repeat rw [Array.getElem?_setIfInBounds_ne (by omega)]
  have N5 : Hid ((numT s_tnt since).1.len ≤ st.len + 524568) := by
    have q0 := N4.out
    have q1 := (numT_len s_tnt since)
    show _ ≤ _
    omega
  have I5 : Hid ((numT s_tnt since).1.isR = st.isR) := by
    show _ = _
    simp only [numT_isR]
    exact I4.out
  clear k0 Q5 CC4
  obtain ⟨⟨s_since, v_since⟩, h_since⟩ : ∃ p, p = numT s_tnt since := ⟨_, rfl⟩
  simp only [← h_since] at P5 N5 I5 eo b_grp b_cpu b_mem b_lab b_tnt b_since b_closed
  obtain ⟨L5, hL5⟩ : ∃ l, l = (L4.setIfInBounds 25 (.int .i64 v_since)) := ⟨_, rfl⟩
  rw [← hL5] at P5 eo b_grp b_cpu b_mem b_lab b_tnt b_since b_closed
  replace A_grp := Lib.hid (b_grp.trans A_grp.out)
  clear b_grp
  replace A_cpu := Lib.hid (b_cpu.trans A_cpu.out)
  clear b_cpu
  replace A_mem := Lib.hid (b_mem.trans A_mem.out)
  clear b_mem
  replace A_lab : Hid (SlA A C O 2 encL w5 L5[23]? v_lab) := by
    have h := A_lab.out.mv M5
    show SlA _ _ _ _ _ _ _ _
    rw [b_lab]
    exact h
  clear b_lab
  replace A_tnt : Hid (SlA A C O 2 encL w5 L5[24]? v_tnt) := by
    have h := A_tnt.out.mv M5
    show SlA _ _ _ _ _ _ _ _
    rw [b_tnt]
    exact h
  clear b_tnt
  replace A_since := Lib.hid b_since
  clear b_since
  replace A_closed := Lib.hid (b_closed.trans A_closed.out)
  clear b_closed
  have E5 := eo
  have H_since := Lib.hid h_since
  clear eo M5 hL5 h_since P4
  clear E4 N4 I4
  go_wp2_with fail
  have CC5 := Lib.hid (truth_any w5 N A C O 26 s_since L5 T fz closed P5.out.1 P5.out.2.1 (fun h => HF.out.1 (by rw [← I5.out]; exact h)) A_closed.out (by have q1 := N5.out; have q2 := HF.out.2; omega))
  refine CC5.out.mono ?_
  rintro e w6 ⟨rfl, k0⟩
  have Q6 : Pst N A C O (truT s_since closed).1 (L5.setIfInBounds 26 (.bool (truT s_since closed).2)) T fz w5 w6 := k0
  have M6 : Mv A C O w5 w6 := Q6.2.2
  have P6 : Hid (Pst N A C O (truT s_since closed).1 (L5.setIfInBounds 26 (.bool (truT s_since closed).2)) T fz w w6) := P5.out.trans Q6
  have b_grp : ((L5.setIfInBounds 26 (.bool (truT s_since closed).2)))[20]? = (L5)[20]? := by simp [Array.getElem?_setIfInBounds]
  have b_cpu : ((L5.setIfInBounds 26 (.bool (truT s_since closed).2)))[21]? = (L5)[21]? := by simp [Array.getElem?_setIfInBounds]
  have b_mem : ((L5.setIfInBounds 26 (.bool (truT s_since closed).2)))[22]? = (L5)[22]? := by simp [Array.getElem?_setIfInBounds]
  have b_lab : ((L5.setIfInBounds 26 (.bool (truT s_since closed).2)))[23]? = (L5)[23]? := by simp [Array.getElem?_setIfInBounds]
  have b_tnt : ((L5.setIfInBounds 26 (.bool (truT s_since closed).2)))[24]? = (L5)[24]? := by simp [Array.getElem?_setIfInBounds]
  have b_since : ((L5.setIfInBounds 26 (.bool (truT s_since closed).2)))[25]? = (L5)[25]? := by simp [Array.getElem?_setIfInBounds]
  have b_closed : ((L5.setIfInBounds 26 (.bool (truT s_since closed).2)))[26]? = some (.bool (truT s_since closed).2) := by
    have hsz := (Array.getElem?_eq_some_iff.1 A_closed.out).1
    simp [Array.getElem?_setIfInBounds, hsz]
  have eo : Hid (∀ j, j < 20 ∨ 27 ≤ j → ((L5.setIfInBounds 26 (.bool (truT s_since closed).2)))[j]? = L[j]?) := fun j hj => by
    have h := E5.out j hj
    rw [← h]
    repeat rw [Array.getElem?_setIfInBounds_ne (by omega)]
  have N6 : Hid ((truT s_since closed).1.len ≤ st.len + 524569) := by
    have q0 := N5.out
    have q1 := (truT_len s_since closed)
    show _ ≤ _
    omega
  have I6 : Hid ((truT s_since closed).1.isR = st.isR) := by
    show _ = _
    simp only [truT_isR]
    exact I5.out
  clear k0 Q6 CC5
  obtain ⟨⟨s_closed, v_closed⟩, h_closed⟩ : ∃ p, p = truT s_since closed := ⟨_, rfl⟩
  simp only [← h_closed] at P6 N6 I6 eo b_grp b_cpu b_mem b_lab b_tnt b_since b_closed
  obtain ⟨L6, hL6⟩ : ∃ l, l = (L5.setIfInBounds 26 (.bool v_closed)) := ⟨_, rfl⟩
  rw [← hL6] at P6 eo b_grp b_cpu b_mem b_lab b_tnt b_since b_closed
  replace A_grp := Lib.hid (b_grp.trans A_grp.out)
  clear b_grp
  replace A_cpu := Lib.hid (b_cpu.trans A_cpu.out)
  clear b_cpu
  replace A_mem := Lib.hid (b_mem.trans A_mem.out)
  clear b_mem
  replace A_lab : Hid (SlA A C O 2 encL w6 L6[23]? v_lab) := by
    have h := A_lab.out.mv M6
    show SlA _ _ _ _ _ _ _ _
    rw [b_lab]
    exact h
  clear b_lab
  replace A_tnt : Hid (SlA A C O 2 encL w6 L6[24]? v_tnt) := by
    have h := A_tnt.out.mv M6
    show SlA _ _ _ _ _ _ _ _
    rw [b_tnt]
    exact h
  clear b_tnt
  replace A_since := Lib.hid (b_since.trans A_since.out)
  clear b_since
  replace A_closed := Lib.hid b_closed
  clear b_closed
  have E6 := eo
  have H_closed := Lib.hid h_closed
  clear eo M6 hL6 h_closed P5
  clear E5 N5 I5
  have fin : ndT st ⟨grp, cpu, mem, lab, tnt, since, closed⟩ = (s_closed, ⟨v_grp, v_cpu, v_mem, v_lab, v_tnt, v_since, v_closed⟩) := by
    simp only [ndT, ← H_grp.out, ← H_cpu.out, ← H_mem.out, ← H_lab.out, ← H_tnt.out, ← H_since.out, ← H_closed.out]
  have FIN : Hid (∃ L', Pst N A C O (ndT st ⟨grp, cpu, mem, lab, tnt, since, closed⟩).1 L' T fz w w6 ∧ ndA A C O w6 L' (ndT st ⟨grp, cpu, mem, lab, tnt, since, closed⟩).2 ∧ ∀ j, j < 20 ∨ 27 ≤ j → L'[j]? = L[j]?) := by
    show ∃ _, _
    rw [fin]
    exact ⟨L6, P6.out, ⟨A_grp.out, A_cpu.out, A_mem.out, A_lab.out, A_tnt.out, A_since.out, A_closed.out⟩, E6.out⟩
  clear fin
  go_wp2
  go_end0
  exact ⟨rfl, FIN.out⟩
end Go.Proofs.Ytlajiochpdlhaaa
