/- The law's Right asks what the program's Check asks. -/
import Derived.Test.YtcfilaiejccfkaaVaR
namespace Go.Proofs.Ytcfilaiejccfkaa
open Go.RowKit Go.Shelf Go.Lib Go.Sort
set_option linter.unusedVariables false
set_option linter.unusedSimpArgs false

theorem lawU_iff (l : List Sca) : ∀ k, lawU l k = true ↔ ∀ j, j < k → lawC l j = true
  | 0 => by simp [lawU]
  | k + 1 => by
    rw [lawU, Bool.and_eq_true, lawU_iff l k]
    constructor
    · rintro ⟨h1, h2⟩ j hj
      by_cases e : j = k
      · rw [e]; exact h2
      · exact h1 j (by omega)
    · intro h
      exact ⟨fun j hj => h j (by omega), h k (by omega)⟩
theorem lawC_at' {l : List Sca} {k : Nat} {x : Sca} (hx : l[k]? = some x) : lawC l k = true ↔ 0 ≤ x.1 ∧ x.1 ≤ 4611686018427387904 ∧ 0 ≤ x.2.1 ∧ x.2.1 ≤ 1000000 ∧ 0 ≤ x.2.2 ∧ x.2.2 ≤ 1000000 ∧ (k = 0 ∨ lastAt 0 l k ≤ x.1) := by
  simp [lawC, hx, and_assoc]
theorem scaC_iff (a : Int) (x : Sca) : scaC a x = true ↔ a ≤ x.1 ∧ x.1 ≤ 4611686018427387904 ∧ 0 ≤ x.2.1 ∧ x.2.1 ≤ 1000000 ∧ 0 ≤ x.2.2 ∧ x.2.2 ≤ 1000000 := by
  simp [scaC, withinB, and_assoc]
theorem law_past (l : List Sca) : lawU l l.length = pastL 0 l := by
  rw [Bool.eq_iff_iff, lawU_iff, past_iff]
  constructor
  · intro h j x hx
    have hj := (List.getElem?_eq_some_iff.1 hx).1
    obtain ⟨a1, a2, a3, a4, a5, a6, a7⟩ := (lawC_at' hx).1 (h j hj)
    refine (scaC_iff _ _).2 ⟨?_, a2, a3, a4, a5, a6⟩
    rcases a7 with rfl | a7
    · exact a1
    · exact a7
  · intro h j hj
    have pos : ∀ (k : Nat) (x : Sca), l[k]? = some x → 0 ≤ x.1 := by
      intro k
      induction k with
      | zero => intro x hx; exact ((scaC_iff _ _).1 (h 0 x hx)).1
      | succ k ih =>
        intro x hx
        have hk : k < l.length := by have := (List.getElem?_eq_some_iff.1 hx).1; omega
        have h1 := ih _ (List.getElem?_eq_getElem hk)
        have h2 := ((scaC_iff _ _).1 (h (k + 1) x hx)).1
        rw [lastAt_step (List.getElem?_eq_getElem hk)] at h2
        omega
    have hx := List.getElem?_eq_getElem hj
    obtain ⟨b1, b2, b3, b4, b5, b6⟩ := (scaC_iff _ _).1 (h j _ hx)
    exact (lawC_at' hx).2 ⟨pos j _ hx, b2, b3, b4, b5, b6, .inr b1⟩

theorem eq_w (o : Ob) : l_w o = c_w o := by simp [l_w, c_w, wlC, wantsB, withinB, Bool.and_assoc]
theorem eq_n (o : Ob) : l_n o = c_n o := by simp [l_n, c_n, ndC, withinB, Bool.and_assoc]
theorem eq_g (o : Ob) : l_g o = c_g o := by
  unfold l_g c_g gpC
  generalize resB o.g.cpu o.g.mem = b1
  generalize rightB o.g.lab = b2
  generalize rightB o.g.tnt = b3
  rw [Bool.eq_iff_iff]
  cases b1 <;> cases b2 <;> cases b3 <;> simp [withinB] <;> omega
theorem eq_p (o : Ob) : l_p o = c_p o := by
  unfold l_p c_p pdC wlC wantsB phaseB
  generalize nameB o.p.own = b1
  generalize mayB o.p.node = b2
  generalize resB o.p.cpu o.p.mem = b3
  generalize rightB o.p.lab = b4
  generalize asksB o.p.sel = b5
  generalize rightB o.p.tol = b6
  rw [Bool.eq_iff_iff]
  by_cases hn : o.p.node.size = 0
  · rw [if_pos hn, decide_eq_true hn]
    cases b1 <;> cases b2 <;> cases b3 <;> cases b4 <;> cases b5 <;> cases b6 <;> simp [withinB] <;> omega
  · rw [if_neg hn, decide_eq_false hn]
    cases b1 <;> cases b2 <;> cases b3 <;> cases b4 <;> cases b5 <;> cases b6 <;> simp [withinB] <;> omega
theorem eq_h (o : Ob) : l_h o = c_h o := by
  unfold l_h c_h hpC h0B pastB
  rw [law_past]
  generalize nameB o.h.tg = b1
  generalize behC o.h.uw o.h.up o.h.upol = b2
  generalize behC o.h.dw o.h.dp o.h.dpol = b3
  generalize pastL 0 o.h.past = b4
  generalize o.h.met.all metB = b5
  rw [Bool.eq_iff_iff]
  cases b1 <;> cases b2 <;> cases b3 <;> cases b4 <;> cases b5 <;> simp [withinB] <;> omega
theorem law_sh (o : Ob) : lawS o = shC o := by unfold lawS shC; rw [eq_w, eq_p, eq_n, eq_g, eq_h]

theorem z_we (o : Ob) : e_w o = z_w o := by simp [e_w, z_w, zWl, Bool.and_assoc]
theorem z_pe (o : Ob) : e_p o = z_p o := by simp [e_p, z_p, zPd, Bool.and_assoc]
theorem z_ne (o : Ob) : e_n o = z_n o := by simp [e_n, z_n, zNd, Bool.and_assoc]
theorem z_ge (o : Ob) : e_g o = z_g o := by simp [e_g, z_g, zGp, Bool.and_assoc]
theorem z_he (o : Ob) : e_h o = z_h o := by
  unfold e_h z_h zHp zBh
  ac_rfl
theorem num_testk (x k : Int) : (x == k) = decide (x = k) := by rw [Bool.eq_iff_iff]; simp
theorem emp_al (o : Ob) : empE o = alC o := by
  unfold empE alC
  rw [z_we, z_pe, z_ne, z_ge, z_he]
  simp only [num_testk, Bool.or_comm]
theorem rgt_chk (o : Ob) : rgtE o = chkE o := by
  unfold rgtE chkE
  rw [emp_al, law_sh]
  by_cases hk : o.kind < 0 ∨ 4 < o.kind
  · have h2 : withinB o.kind 0 4 = false := by simp [withinB]; omega
    rw [if_pos hk, if_pos h2]
  · have h2 : ¬ withinB o.kind 0 4 = false := by simp [withinB]; omega
    rw [if_neg hk, if_neg h2]
    cases nameB o.name <;> cases alC o <;> cases shC o <;> simp
end Go.Proofs.Ytcfilaiejccfkaa
