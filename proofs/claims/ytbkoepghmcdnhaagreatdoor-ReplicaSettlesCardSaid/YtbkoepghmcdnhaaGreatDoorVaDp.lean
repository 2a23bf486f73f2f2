/- What defaults leave: an object that fits, that may be. -/
import Derived.Test.YtbkoepghmcdnhaaGreatDoorVaU
import Derived.Test.YtbkoepghmcdnhaaGreatDoorObD
import Derived.Test.YtbkoepghmcdnhaaGreatDoorVaG
namespace Go.Proofs.YtbkoepghmcdnhaaGreatDoor
open Go.RowKit Go.Shelf Go.Lib Go.Sort Go.Deep
set_option linter.unusedVariables false
set_option linter.unusedSimpArgs false
set_option maxRecDepth 20000

def TinyO (o : Ob) : Prop := o.w.lab.length ≤ 255 ∧ o.w.sel.length ≤ 255 ∧ o.w.tol.length ≤ 255 ∧ o.p.lab.length ≤ 255 ∧ o.p.sel.length ≤ 255 ∧ o.p.tol.length ≤ 255 ∧ o.n.lab.length ≤ 255 ∧ o.n.tnt.length ≤ 255 ∧ o.g.lab.length ≤ 255 ∧ o.g.tnt.length ≤ 255 ∧ o.h.met.length ≤ 255 ∧ o.h.upol.length ≤ 255 ∧ o.h.dpol.length ≤ 255 ∧ o.h.past.length ≤ 255
theorem tiny_few {o : Ob} (h : fewB o = true) : TinyO o := by
  unfold fewB rows8 at h
  simp only [Bool.and_eq_true, List.all_cons, List.all_nil, decide_eq_true_eq, and_true] at h
  unfold TinyO
  omega
theorem TinyO.small {o : Ob} (h : TinyO o) : SmallO o := by
  unfold TinyO at h
  unfold SmallO
  omega
theorem way_len {l m : List Pol} {k : Int} (hl : l.length ≤ 255) (hm : m.length ≤ 255) : (wayR l k m).length ≤ 255 := by
  unfold wayR
  split <;> assumption
theorem fits_t {o : Ob} (F : FitsO o) (t : Int) : FitsO (setT o t) := ⟨F.name, F.w_lab_r, F.w_lab, F.w_sel_r, F.w_sel, F.w_tol_r, F.w_tol, F.p_own, F.p_node, F.p_lab_r, F.p_lab, F.p_sel_r, F.p_sel, F.p_tol_r, F.p_tol, F.n_grp, F.n_lab_r, F.n_lab, F.n_tnt_r, F.n_tnt, F.g_lab_r, F.g_lab, F.g_tnt_r, F.g_tnt, F.h_tg, F.h_met_r, F.h_met, F.h_upol_r, F.h_dpol_r, F.h_past_r⟩
theorem fits_h {o : Ob} (F : FitsO o) {up dn : List Pol} (h1 : up.length ≤ 255) (h2 : dn.length ≤ 255) : FitsO (setH o up dn) := ⟨F.name, F.w_lab_r, F.w_lab, F.w_sel_r, F.w_sel, F.w_tol_r, F.w_tol, F.p_own, F.p_node, F.p_lab_r, F.p_lab, F.p_sel_r, F.p_sel, F.p_tol_r, F.p_tol, F.n_grp, F.n_lab_r, F.n_lab, F.n_tnt_r, F.n_tnt, F.g_lab_r, F.g_lab, F.g_tnt_r, F.g_tnt, F.h_tg, F.h_met_r, F.h_met, Nat.le_trans h1 (by decide), Nat.le_trans h2 (by decide), F.h_past_r⟩
theorem tiny_dfl {o : Ob} (h : TinyO o) : TinyO (dfl o) := by
  unfold dfl
  split
  · exact h
  · split
    · obtain ⟨r0, r1, r2, r3, r4, r5, r6, r7, r8, r9, r10, r11, r12, r13⟩ := h
      exact ⟨r0, r1, r2, r3, r4, r5, r6, r7, r8, r9, r10, way_len r11 (by decide), way_len r12 (by decide), r13⟩
    · exact h
theorem fits_dfl {o : Ob} (F : FitsO o) (h : TinyO o) : FitsO (dfl o) := by
  unfold dfl
  split
  · exact fits_t F _
  · split
    · obtain ⟨r0, r1, r2, r3, r4, r5, r6, r7, r8, r9, r10, r11, r12, r13⟩ := h
      exact fits_h F (way_len r11 (by decide)) (way_len r12 (by decide))
    · exact F
theorem kind_dfl (o : Ob) : (dfl o).kind = o.kind := by
  unfold dfl
  split
  · rfl
  · split <;> rfl
theorem inB_again (t mn mx : Int) : inB (inB t mn mx) mn mx = inB t mn mx := by
  unfold inB
  split <;> split <;> (try split) <;> (try split) <;> omega
theorem way_again {l m : List Pol} {k : Int} : wayR (wayR l k m) k m = wayR l k m := by
  unfold wayR
  by_cases h : l = [] ∧ k ≠ 2
  · rw [if_pos h]
    split <;> rfl
  · rw [if_neg h, if_neg h]
theorem dfl_again (o : Ob) : dfl (dfl o) = dfl o := by
  by_cases h3 : o.kind = 3
  · have e : dfl o = setT o (inB o.g.tg o.g.mn o.g.mx) := if_pos h3
    have e2 : dfl (setT o (inB o.g.tg o.g.mn o.g.mx)) = setT o (inB (inB o.g.tg o.g.mn o.g.mx) o.g.mn o.g.mx) := if_pos h3
    rw [e, e2, inB_again]
  · by_cases h4 : o.kind = 4
    · have e : dfl o = setH o (wayR o.h.upol o.h.up [dblP, fourP]) (wayR o.h.dpol o.h.dp [dblP]) := (if_neg h3).trans (if_pos h4)
      have e2 : dfl (setH o (wayR o.h.upol o.h.up [dblP, fourP]) (wayR o.h.dpol o.h.dp [dblP])) = setH o (wayR (wayR o.h.upol o.h.up [dblP, fourP]) o.h.up [dblP, fourP]) (wayR (wayR o.h.dpol o.h.dp [dblP]) o.h.dp [dblP]) := (if_neg h3).trans (if_pos h4)
      rw [e, e2, way_again, way_again]
    · have e : dfl o = o := (if_neg h3).trans (if_neg h4)
      rw [e, e]
theorem ftRow_of {α : Type} {f : α → Bool} {l : List α} (h : l.all f = true) (hl : l.length ≤ 255) : ftRow f l = true := ftRow_iff.2 ⟨h, hl⟩
theorem fto_of {o : Ob} (F : FitsO o) (h : TinyO o) : ftO o = true := by
  obtain ⟨r0, r1, r2, r3, r4, r5, r6, r7, r8, r9, r10, r11, r12, r13⟩ := h
  have hW : ftW o.w = true := by simp only [ftW, ftRow_of F.w_lab r0, ftRow_of F.w_sel r1, ftRow_of F.w_tol r2, Bool.and_self]
  have hP : ftP o.p = true := by simp only [ftP, F.p_own, F.p_node, ftRow_of F.p_lab r3, ftRow_of F.p_sel r4, ftRow_of F.p_tol r5, Bool.and_self]
  have hN : ftN o.n = true := by simp only [ftN, F.n_grp, ftRow_of F.n_lab r6, ftRow_of F.n_tnt r7, Bool.and_self]
  have hG : ftG o.g = true := by simp only [ftG, ftRow_of F.g_lab r8, ftRow_of F.g_tnt r9, Bool.and_self]
  have hH : ftH o.h = true := by simp only [ftH, F.h_met, F.h_tg, decide_eq_true r10, decide_eq_true r11, decide_eq_true r12, decide_eq_true r13, Bool.and_self]
  unfold ftO ftS
  rw [F.name, hW, hP, hN, hG, hH]
  simp
theorem beh_way {wi pk : Int} {l m : List Pol} (h : behC wi pk l = true) (hm : withinB m.length 0 4 = true) (hp : m.all polB = true) : behC wi pk (wayR l pk m) = true := by
  unfold wayR
  split
  · unfold behC at h ⊢
    simp only [Bool.and_eq_true] at h ⊢
    exact ⟨h.1, hm, hp⟩
  · exact h
theorem chk_dfl {o : Ob} (h : chkE o = 0) : chkE (dfl o) = 0 := by
  by_cases h3 : o.kind = 3
  · have e : dfl o = setT o (inB o.g.tg o.g.mn o.g.mx) := if_pos h3
    have hs : shC o = true := by
      unfold chkE at h
      split at h
      · omega
      · split at h
        · omega
        · split at h
          · omega
          · rename_i hh
            cases hsh : shC o with
            | false => exact absurd (.inr hsh) hh
            | true => rfl
    have hg : c_g o = true := by
      unfold shC at hs
      simpa [h3] using hs
    have hb : withinB o.g.tg o.g.mn o.g.mx = true := by
      unfold c_g gpC at hg
      simp only [Bool.and_eq_true] at hg
      exact hg.1.1.1.1.2
    have ei : inB o.g.tg o.g.mn o.g.mx = o.g.tg := by
      unfold withinB at hb
      simp only [Bool.and_eq_true, decide_eq_true_eq] at hb
      unfold inB
      split <;> split <;> omega
    rw [e, ei]
    exact h
  · by_cases h4 : o.kind = 4
    · have e : dfl o = setH o (wayR o.h.upol o.h.up [dblP, fourP]) (wayR o.h.dpol o.h.dp [dblP]) := (if_neg h3).trans (if_pos h4)
      rw [e]
      have key : ∀ up dn, c_h o = true → c_h (setH o up dn) = true → chkE o = 0 → chkE (setH o up dn) = 0 := by
        intro up dn hc hc' hk
        have e1 : alC (setH o up dn) = alC o := by
          unfold alC
          have : decide ((setH o up dn).kind = 4) = true := decide_eq_true h4
          have t : decide (o.kind = 4) = true := decide_eq_true h4
          rw [this, t]
          rfl
        have e2 : shC (setH o up dn) = shC o := by
          have x1 : shC (setH o up dn) = c_h (setH o up dn) := by
            have hk' : (setH o up dn).kind = 4 := h4
            unfold shC
            simp [hk']
          have x2 : shC o = c_h o := by
            unfold shC
            simp [h4]
          rw [x1, x2, hc, hc']
        unfold chkE at hk ⊢
        rw [e1, e2]
        exact hk
      have hc : c_h o = true := by
        unfold chkE at h
        split at h
        · omega
        · split at h
          · omega
          · split at h
            · omega
            · rename_i hh
              have hs : shC o = true := by
                cases hsh : shC o with
                | false => exact absurd (.inr hsh) hh
                | true => rfl
              unfold shC at hs
              simpa [h4] using hs
      refine key _ _ hc ?_ h
      unfold c_h hpC at hc ⊢
      simp only [Bool.and_eq_true] at hc ⊢
      exact ⟨⟨⟨hc.1.1.1, beh_way hc.1.1.2 (by decide) (by decide)⟩, beh_way hc.1.2 (by decide) (by decide)⟩, hc.2⟩
    · have e : dfl o = o := (if_neg h3).trans (if_neg h4)
      rw [e]
      exact h

end Go.Proofs.YtbkoepghmcdnhaaGreatDoor
