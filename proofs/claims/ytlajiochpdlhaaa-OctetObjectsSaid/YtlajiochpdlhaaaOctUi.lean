/- What was read is what is written: the course's steps turned about, one after the other. -/
import Derived.Test.YtlajiochpdlhaaaOctU
import Derived.Test.YtlajiochpdlhaaaOctP
namespace Go.Proofs.Ytlajiochpdlhaaa
open Go.RowKit Go.Shelf Go.Lib Go.Sort
set_option linter.unusedVariables false

theorem le_valU : ∀ (l : List UInt8), le (valU l) l.length = l
  | [] => rfl
  | b :: r => by
    have hb : b.toNat < 256 := by have := b.toNat_lt; omega
    rw [valU, List.length_cons, le]
    have h1 : (b.toNat + 256 * valU r) / 256 = valU r := by omega
    have h2 : UInt8.ofNat (b.toNat + 256 * valU r) = b := by
      apply UInt8.toNat_inj.1
      simp only [UInt8.toNat_ofNat']
      omega
    rw [h1, h2, le_valU r]
theorem drop_some {n : Nat} {s : Sr} {t : List UInt8} (h : dropS n s = some t) : s = some (takeS n s ++ t) ∧ (takeS n s).length = n := by
  cases s with
  | none => cases h
  | some l =>
    unfold dropS takeS at *
    dsimp only at *
    by_cases hn : n ≤ l.length
    · rw [if_pos hn] at h ⊢
      cases h
      refine ⟨by rw [List.take_append_drop], by rw [List.length_take]; omega⟩
    · rw [if_neg hn] at h
      cases h
theorem take_le {n : Nat} {s : Sr} {t : List UInt8} (h : dropS n s = some t) : s = some (le (valU (takeS n s)) n ++ t) := by
  obtain ⟨h1, h2⟩ := drop_some h
  have h3 := le_valU (takeS n s)
  rw [h2] at h3
  rw [h3]
  exact h1
theorem rd_inj {ro : Option Addr} {s s' : Sr} (h : St.rd ro s = .rd ro s') : s = s' := by cases h; rfl
/-- What a step read is what it would have written, and fine. -/
def Turn {α : Type} (tr : St → α → St × α) (by_ : α → List UInt8) (ok : α → Prop) : Prop :=
  ∀ (ro : Option Addr) (st : St) (y : α) (t : List UInt8), Rd ro st → (tr st y).1 = .rd ro (some t) → st = .rd ro (some (by_ (tr st y).2 ++ t)) ∧ ok (tr st y).2
theorem numT_turn : Turn numT num (fun x => True) := by
  rintro ro st y t ⟨s, rfl⟩ h
  have h1 := take_le (rd_inj h)
  refine ⟨?_, trivial⟩
  show St.rd ro s = .rd ro (some (le (u64 (toI (valU (takeS 8 s)))) 8 ++ t))
  rw [u64_toI (valU_lt8 s), ← h1]
theorem numU_turn : Turn numU (fun x => le x 8) (fun x => True) := by
  rintro ro st y t ⟨s, rfl⟩ h
  exact ⟨congrArg _ (take_le (rd_inj h)), trivial⟩
theorem one_lt (s : Sr) : valU (takeS 1 s) < 256 := byte_lt s
theorem oneT_turn : Turn oneT (fun x => le (u64 x) 1) (fun x => 0 ≤ x ∧ x < 256) := by
  rintro ro st y t ⟨s, rfl⟩ h
  have h1 := take_le (rd_inj h)
  have h2 := one_lt s
  refine ⟨?_, ?_⟩
  · show St.rd ro s = .rd ro (some (le (u64 ((valU (takeS 1 s) : Nat) : Int)) 1 ++ t))
    rw [show u64 ((valU (takeS 1 s) : Nat) : Int) = valU (takeS 1 s) by unfold u64; omega, ← h1]
  · show 0 ≤ ((valU (takeS 1 s) : Nat) : Int) ∧ ((valU (takeS 1 s) : Nat) : Int) < 256
    omega
theorem txtT_turn : Turn txtT txt (fun x => x.size ≤ 255) := by
  rintro ro st y t ⟨s, rfl⟩ h
  have h0 : dropS (lenS s) (dropS 1 s) = some t := rd_inj h
  obtain ⟨h1, h2⟩ := drop_some h0
  have h3 := take_le h1
  have h4 : lenS s < 256 := one_lt s
  have hs : (mk (textS s)).size = lenS s := by rw [mk_size]; exact h2
  refine ⟨?_, ?_⟩
  · show St.rd ro s = .rd ro (some (txt (mk (textS s)) ++ t))
    rw [txt, hs, by_mk, List.append_assoc]
    exact congrArg _ h3
  · show (mk (textS s)).size ≤ 255
    omega
theorem tru_of {n : Nat} (h : n ≤ 1) : tru (n == 1) = le n 1 := by
  rcases Nat.le_one_iff_eq_zero_or_eq_one.1 h with rfl | rfl <;> rfl
theorem truT_turn : Turn truT tru (fun x => True) := by
  rintro ro st y t ⟨s, rfl⟩ h
  have h0 : (if 1 < valU (takeS 1 s) then none else dropS 1 s) = some t := rd_inj h
  refine ⟨?_, trivial⟩
  by_cases hn : 1 < valU (takeS 1 s)
  · rw [if_pos hn] at h0
    cases h0
  · rw [if_neg hn] at h0
    show St.rd ro s = .rd ro (some (tru (valU (takeS 1 s) == 1) ++ t))
    rw [tru_of (by omega), ← take_le h0]

theorem labT_turn : Turn labT byL (fun x => okL x = true) := by
  rintro ro st y t hr h
  obtain ⟨e2, k2⟩ := txtT_turn ro _ _ _ (txtT_rd hr _) h
  obtain ⟨e1, k1⟩ := txtT_turn ro _ _ _ hr e2
  refine ⟨?_, ?_⟩
  · show st = .rd ro (some (txt _ ++ txt _ ++ t))
    rw [List.append_assoc]
    exact e1
  · simp only [labT, okL, Bool.and_eq_true]
    exact ⟨decide_eq_true k1, decide_eq_true k2⟩
theorem reqT_turn : Turn reqT byR (fun x => okR x = true) := by
  rintro ro st y t hr h
  obtain ⟨e3, k3⟩ := numT_turn ro _ _ _ (txtT_rd (txtT_rd hr _) _) h
  obtain ⟨e2, k2⟩ := txtT_turn ro _ _ _ (txtT_rd hr _) e3
  obtain ⟨e1, k1⟩ := txtT_turn ro _ _ _ hr e2
  refine ⟨?_, ?_⟩
  · show st = .rd ro (some (txt _ ++ txt _ ++ num _ ++ t))
    rw [List.append_assoc, List.append_assoc]
    exact e1
  · simp only [reqT, okR, Bool.and_eq_true]
    exact ⟨decide_eq_true k1, decide_eq_true k2⟩
theorem metT_turn : Turn metT byM (fun x => okM x = true) := by
  rintro ro st y t hr h
  obtain ⟨e3, k3⟩ := numT_turn ro _ _ _ (txtT_rd (numT_rd hr _) _) h
  obtain ⟨e2, k2⟩ := txtT_turn ro _ _ _ (numT_rd hr _) e3
  obtain ⟨e1, k1⟩ := numT_turn ro _ _ _ hr e2
  refine ⟨?_, ?_⟩
  · show st = .rd ro (some (num _ ++ txt _ ++ num _ ++ t))
    rw [List.append_assoc, List.append_assoc]
    exact e1
  · exact decide_eq_true k2
theorem polT_turn : Turn polT byP (fun x => True) := by
  rintro ro st y t hr h
  obtain ⟨e3, k3⟩ := numT_turn ro _ _ _ (numT_rd (truT_rd hr _) _) h
  obtain ⟨e2, k2⟩ := numT_turn ro _ _ _ (truT_rd hr _) e3
  obtain ⟨e1, k1⟩ := truT_turn ro _ _ _ hr e2
  refine ⟨?_, trivial⟩
  show st = .rd ro (some (tru _ ++ num _ ++ num _ ++ t))
  rw [List.append_assoc, List.append_assoc]
  exact e1
theorem scaT_turn : Turn scaT byS (fun x => True) := by
  rintro ro st y t hr h
  obtain ⟨e3, k3⟩ := numT_turn ro _ _ _ (numT_rd (numT_rd hr _) _) h
  obtain ⟨e2, k2⟩ := numT_turn ro _ _ _ (numT_rd hr _) e3
  obtain ⟨e1, k1⟩ := numT_turn ro _ _ _ hr e2
  refine ⟨?_, trivial⟩
  show st = .rd ro (some (num _ ++ num _ ++ num _ ++ t))
  rw [List.append_assoc, List.append_assoc]
  exact e1
theorem rdRow_turn {α : Type} {tr : St → α → St × α} {f : α → List UInt8} {ok : α → Prop} (ht : Fine tr) (hr : Turn tr f ok) (z : α) (ro : Option Addr) : ∀ (n : Nat) (st : St) (acc : List α) (t : List UInt8), Rd ro st → (rdRow tr z n st acc).1 = .rd ro (some t) →
    ∃ l, (rdRow tr z n st acc).2 = acc ++ l ∧ l.length = n ∧ st = .rd ro (some (l.flatMap f ++ t)) ∧ ∀ x ∈ l, ok x
  | 0, st, acc, t, hs, h => ⟨[], by simp [rdRow], rfl, by simpa [rdRow] using h, by simp⟩
  | n + 1, st, acc, t, hs, h => by
    obtain ⟨s, rfl⟩ := hs
    obtain ⟨s1, h1⟩ := ht.rd ro s z
    rw [rdRow] at h
    by_cases hd : (tr (.rd ro s) z).1.dead = true
    · rw [if_pos hd] at h
      rw [h] at hd
      cases hd
    · rw [if_neg hd] at h
      obtain ⟨l, k1, k2, k3, k4⟩ := rdRow_turn ht hr z ro n _ _ t ⟨s1, h1⟩ h
      obtain ⟨e1, e2⟩ := hr ro _ z _ ⟨s, rfl⟩ k3
      refine ⟨(tr (.rd ro s) z).2 :: l, ?_, by simp [k2], ?_, ?_⟩
      · rw [rdRow, if_neg hd, k1]
        simp
      · rw [List.flatMap_cons, List.append_assoc]
        exact e1
      · intro x hx
        rcases List.mem_cons.1 hx with rfl | hx
        · exact e2
        · exact k4 x hx
theorem rowT_turn {α : Type} {tr : St → α → St × α} {f : α → List UInt8} {ok : α → Prop} (ht : Fine tr) (hr : Turn tr f ok) (z : α) : Turn (rowT tr z) (rowB f) (fun l => l.length ≤ 255 ∧ ∀ x ∈ l, ok x) := by
  rintro ro st y t ⟨s, rfl⟩ h
  obtain ⟨l, k1, k2, k3, k4⟩ := rdRow_turn ht hr z ro _ _ _ t ⟨_, rfl⟩ h
  have h1 := take_le (rd_inj k3)
  have h2 := one_lt s
  rw [List.nil_append] at k1
  have e : (rowT tr z (.rd ro s) y).2 = l := k1
  rw [e]
  refine ⟨?_, by omega, k4⟩
  rw [rowB, List.append_assoc, k2]
  exact congrArg _ h1
theorem all_of {α : Type} {ok : α → Bool} {l : List α} (h : ∀ x ∈ l, ok x = true) : l.all ok = true := List.all_eq_true.2 h
theorem rowL_turn : Turn (rowT labT (⟨#[]⟩, ⟨#[]⟩)) (rowB byL) (fun l => okRow okL l = true) := fun ro st y t hr h => by
  obtain ⟨a, b, c⟩ := rowT_turn fine_L labT_turn _ ro st y t hr h
  exact ⟨a, okRow_iff.2 ⟨all_of c, b⟩⟩
theorem rowR_turn : Turn (rowT reqT (⟨#[]⟩, ⟨#[]⟩, 0)) (rowB byR) (fun l => okRow okR l = true) := fun ro st y t hr h => by
  obtain ⟨a, b, c⟩ := rowT_turn fine_R reqT_turn _ ro st y t hr h
  exact ⟨a, okRow_iff.2 ⟨all_of c, b⟩⟩
theorem rowM_turn : Turn (rowT metT (0, ⟨#[]⟩, 0)) (rowB byM) (fun l => l.all okM = true ∧ l.length ≤ 255) := fun ro st y t hr h => by
  obtain ⟨a, b, c⟩ := rowT_turn fine_M metT_turn _ ro st y t hr h
  exact ⟨a, all_of c, b⟩
theorem rowP_turn (z : Pol) : Turn (rowT polT z) (rowB byP) (fun l => l.length ≤ 255) := fun ro st y t hr h => by
  obtain ⟨a, b, c⟩ := rowT_turn fine_P polT_turn _ ro st y t hr h
  exact ⟨a, b⟩
theorem rowS_turn (z : Sca) : Turn (rowT scaT z) (rowB byS) (fun l => l.length ≤ 255) := fun ro st y t hr h => by
  obtain ⟨a, b, c⟩ := rowT_turn fine_S scaT_turn _ ro st y t hr h
  exact ⟨a, b⟩
theorem wlT_turn : Turn wlT wlB (fun x => okW x = true) := by
  intro ro st y t hr h
  obtain ⟨e7, k7⟩ := numT_turn ro _ _ _ (rowT_rd fine_L (rowT_rd fine_R (rowT_rd fine_L (numT_rd (numT_rd (numT_rd hr _) _) _) _ _) _ _) _ _) h
  obtain ⟨e6, k6⟩ := rowL_turn ro _ _ _ (rowT_rd fine_R (rowT_rd fine_L (numT_rd (numT_rd (numT_rd hr _) _) _) _ _) _ _) e7
  obtain ⟨e5, k5⟩ := rowR_turn ro _ _ _ (rowT_rd fine_L (numT_rd (numT_rd (numT_rd hr _) _) _) _ _) e6
  obtain ⟨e4, k4⟩ := rowL_turn ro _ _ _ (numT_rd (numT_rd (numT_rd hr _) _) _) e5
  obtain ⟨e3, k3⟩ := numT_turn ro _ _ _ (numT_rd (numT_rd hr _) _) e4
  obtain ⟨e2, k2⟩ := numT_turn ro _ _ _ (numT_rd hr _) e3
  obtain ⟨e1, k1⟩ := numT_turn ro _ _ _ hr e2
  refine ⟨?_, ?_⟩
  · unfold wlB
    simp only [List.append_assoc]
    exact e1
  · simp only [okW, Bool.and_eq_true]
    exact ⟨⟨k4, k5⟩, k6⟩
theorem pdT_turn : Turn pdT pdB (fun x => okP x = true) := by
  intro ro st y t hr h
  obtain ⟨e10, k10⟩ := numT_turn ro _ _ _ (rowT_rd fine_L (rowT_rd fine_R (rowT_rd fine_L (numT_rd (numT_rd (numT_rd (numT_rd (txtT_rd (txtT_rd hr _) _) _) _) _) _) _ _) _ _) _ _) h
  obtain ⟨e9, k9⟩ := rowL_turn ro _ _ _ (rowT_rd fine_R (rowT_rd fine_L (numT_rd (numT_rd (numT_rd (numT_rd (txtT_rd (txtT_rd hr _) _) _) _) _) _) _ _) _ _) e10
  obtain ⟨e8, k8⟩ := rowR_turn ro _ _ _ (rowT_rd fine_L (numT_rd (numT_rd (numT_rd (numT_rd (txtT_rd (txtT_rd hr _) _) _) _) _) _) _ _) e9
  obtain ⟨e7, k7⟩ := rowL_turn ro _ _ _ (numT_rd (numT_rd (numT_rd (numT_rd (txtT_rd (txtT_rd hr _) _) _) _) _) _) e8
  obtain ⟨e6, k6⟩ := numT_turn ro _ _ _ (numT_rd (numT_rd (numT_rd (txtT_rd (txtT_rd hr _) _) _) _) _) e7
  obtain ⟨e5, k5⟩ := numT_turn ro _ _ _ (numT_rd (numT_rd (txtT_rd (txtT_rd hr _) _) _) _) e6
  obtain ⟨e4, k4⟩ := numT_turn ro _ _ _ (numT_rd (txtT_rd (txtT_rd hr _) _) _) e5
  obtain ⟨e3, k3⟩ := numT_turn ro _ _ _ (txtT_rd (txtT_rd hr _) _) e4
  obtain ⟨e2, k2⟩ := txtT_turn ro _ _ _ (txtT_rd hr _) e3
  obtain ⟨e1, k1⟩ := txtT_turn ro _ _ _ hr e2
  refine ⟨?_, ?_⟩
  · unfold pdB
    simp only [List.append_assoc]
    exact e1
  · simp only [okP, Bool.and_eq_true]
    exact ⟨⟨⟨⟨okT_iff.2 k1, okT_iff.2 k2⟩, k7⟩, k8⟩, k9⟩
theorem ndT_turn : Turn ndT ndB (fun x => okN x = true) := by
  intro ro st y t hr h
  obtain ⟨e7, k7⟩ := truT_turn ro _ _ _ (numT_rd (rowT_rd fine_L (rowT_rd fine_L (numT_rd (numT_rd (txtT_rd hr _) _) _) _ _) _ _) _) h
  obtain ⟨e6, k6⟩ := numT_turn ro _ _ _ (rowT_rd fine_L (rowT_rd fine_L (numT_rd (numT_rd (txtT_rd hr _) _) _) _ _) _ _) e7
  obtain ⟨e5, k5⟩ := rowL_turn ro _ _ _ (rowT_rd fine_L (numT_rd (numT_rd (txtT_rd hr _) _) _) _ _) e6
  obtain ⟨e4, k4⟩ := rowL_turn ro _ _ _ (numT_rd (numT_rd (txtT_rd hr _) _) _) e5
  obtain ⟨e3, k3⟩ := numT_turn ro _ _ _ (numT_rd (txtT_rd hr _) _) e4
  obtain ⟨e2, k2⟩ := numT_turn ro _ _ _ (txtT_rd hr _) e3
  obtain ⟨e1, k1⟩ := txtT_turn ro _ _ _ hr e2
  refine ⟨?_, ?_⟩
  · unfold ndB
    simp only [List.append_assoc]
    exact e1
  · simp only [okN, Bool.and_eq_true]
    exact ⟨⟨okT_iff.2 k1, k4⟩, k5⟩
theorem gpT_turn : Turn gpT gpB (fun x => okG x = true) := by
  intro ro st y t hr h
  obtain ⟨e8, k8⟩ := numT_turn ro _ _ _ (rowT_rd fine_L (rowT_rd fine_L (numT_rd (numT_rd (numT_rd (numT_rd (numT_rd hr _) _) _) _) _) _ _) _ _) h
  obtain ⟨e7, k7⟩ := rowL_turn ro _ _ _ (rowT_rd fine_L (numT_rd (numT_rd (numT_rd (numT_rd (numT_rd hr _) _) _) _) _) _ _) e8
  obtain ⟨e6, k6⟩ := rowL_turn ro _ _ _ (numT_rd (numT_rd (numT_rd (numT_rd (numT_rd hr _) _) _) _) _) e7
  obtain ⟨e5, k5⟩ := numT_turn ro _ _ _ (numT_rd (numT_rd (numT_rd (numT_rd hr _) _) _) _) e6
  obtain ⟨e4, k4⟩ := numT_turn ro _ _ _ (numT_rd (numT_rd (numT_rd hr _) _) _) e5
  obtain ⟨e3, k3⟩ := numT_turn ro _ _ _ (numT_rd (numT_rd hr _) _) e4
  obtain ⟨e2, k2⟩ := numT_turn ro _ _ _ (numT_rd hr _) e3
  obtain ⟨e1, k1⟩ := numT_turn ro _ _ _ hr e2
  refine ⟨?_, ?_⟩
  · unfold gpB
    simp only [List.append_assoc]
    exact e1
  · simp only [okG, Bool.and_eq_true]
    exact ⟨k6, k7⟩
theorem hpT_turn : Turn hpT hpB (fun x => okH x = true) := by
  intro ro st y t hr h
  obtain ⟨e12, k12⟩ := (rowS_turn _) ro _ _ _ (rowT_rd fine_P (numT_rd (numT_rd (rowT_rd fine_P (numT_rd (numT_rd (numT_rd (rowT_rd fine_M (numT_rd (numT_rd (txtT_rd hr _) _) _) _ _) _) _) _) _ _) _) _) _ _) h
  obtain ⟨e11, k11⟩ := (rowP_turn _) ro _ _ _ (numT_rd (numT_rd (rowT_rd fine_P (numT_rd (numT_rd (numT_rd (rowT_rd fine_M (numT_rd (numT_rd (txtT_rd hr _) _) _) _ _) _) _) _) _ _) _) _) e12
  obtain ⟨e10, k10⟩ := numT_turn ro _ _ _ (numT_rd (rowT_rd fine_P (numT_rd (numT_rd (numT_rd (rowT_rd fine_M (numT_rd (numT_rd (txtT_rd hr _) _) _) _ _) _) _) _) _ _) _) e11
  obtain ⟨e9, k9⟩ := numT_turn ro _ _ _ (rowT_rd fine_P (numT_rd (numT_rd (numT_rd (rowT_rd fine_M (numT_rd (numT_rd (txtT_rd hr _) _) _) _ _) _) _) _) _ _) e10
  obtain ⟨e8, k8⟩ := (rowP_turn _) ro _ _ _ (numT_rd (numT_rd (numT_rd (rowT_rd fine_M (numT_rd (numT_rd (txtT_rd hr _) _) _) _ _) _) _) _) e9
  obtain ⟨e7, k7⟩ := numT_turn ro _ _ _ (numT_rd (numT_rd (rowT_rd fine_M (numT_rd (numT_rd (txtT_rd hr _) _) _) _ _) _) _) e8
  obtain ⟨e6, k6⟩ := numT_turn ro _ _ _ (numT_rd (rowT_rd fine_M (numT_rd (numT_rd (txtT_rd hr _) _) _) _ _) _) e7
  obtain ⟨e5, k5⟩ := numT_turn ro _ _ _ (rowT_rd fine_M (numT_rd (numT_rd (txtT_rd hr _) _) _) _ _) e6
  obtain ⟨e4, k4⟩ := rowM_turn ro _ _ _ (numT_rd (numT_rd (txtT_rd hr _) _) _) e5
  obtain ⟨e3, k3⟩ := numT_turn ro _ _ _ (numT_rd (txtT_rd hr _) _) e4
  obtain ⟨e2, k2⟩ := numT_turn ro _ _ _ (txtT_rd hr _) e3
  obtain ⟨e1, k1⟩ := txtT_turn ro _ _ _ hr e2
  refine ⟨?_, ?_⟩
  · unfold hpB behB
    simp only [List.append_assoc]
    exact e1
  · simp only [okH, Bool.and_eq_true, decide_eq_true_eq]
    exact ⟨⟨⟨⟨⟨k4.1, okT_iff.2 k1⟩, k4.2⟩, k12⟩, k8⟩, k11⟩
/-- The shapes of other kinds are empty. -/
def OthZ (o : Ob) : Prop := (o.kind ≠ 0 → o.w = zerO.w) ∧ (o.kind ≠ 1 → o.p = zerO.p) ∧ (o.kind ≠ 2 → o.n = zerO.n) ∧ (o.kind ≠ 3 → o.g = zerO.g) ∧ (o.kind ≠ 4 → o.h = zerO.h)
theorem spoil_not {ro : Option Addr} {st : St} {t : List UInt8} (hr : Rd ro st) (h : spoilT st = .rd ro (some t)) : False := by
  obtain ⟨s, rfl⟩ := hr
  cases h
/-- What was read is what is written. -/
theorem objT_turn {ro : Option Addr} {st : St} {t : List UInt8} (hr : Rd ro st) (h : (objT st zerO).1 = .rd ro (some t)) :
    st = .rd ro (some (objB (objT st zerO).2 ++ t)) ∧ okO (objT st zerO).2 = true ∧ (0 ≤ (objT st zerO).2.kind ∧ (objT st zerO).2.kind ≤ 4) ∧ OthZ (objT st zerO).2 := by
  have r1 : Rd ro (oneT st zerO.kind).1 := oneT_rd hr _
  have r2 : Rd ro (txtT (oneT st zerO.kind).1 zerO.name).1 := txtT_rd r1 _
  have r3 : Rd ro (numU (txtT (oneT st zerO.kind).1 zerO.name).1 zerO.ver).1 := numU_rd r2 _
  have key : ∀ (s3 : List UInt8), (numU (txtT (oneT st zerO.kind).1 zerO.name).1 zerO.ver).1 = .rd ro (some s3) → st = .rd ro (some (le (u64 (oneT st zerO.kind).2) 1 ++ txt (txtT (oneT st zerO.kind).1 zerO.name).2 ++ le (numU (txtT (oneT st zerO.kind).1 zerO.name).1 zerO.ver).2 8 ++ s3)) ∧ (txtT (oneT st zerO.kind).1 zerO.name).2.size ≤ 255 := by
    intro s3 h3
    obtain ⟨e3, k3⟩ := numU_turn ro _ _ _ r2 h3
    obtain ⟨e2, k2⟩ := txtT_turn ro _ _ _ r1 e3
    obtain ⟨e1, k1⟩ := oneT_turn ro _ _ _ hr e2
    refine ⟨?_, k2⟩
    simp only [List.append_assoc]
    exact e1
  unfold objT at h ⊢
  dsimp only at h ⊢
  generalize numU (txtT (oneT st zerO.kind).1 zerO.name).1 zerO.ver = p3 at *
  generalize txtT (oneT st zerO.kind).1 zerO.name = p2 at *
  generalize oneT st zerO.kind = p1 at *
  by_cases k0 : p1.2 = 0
  · rw [if_pos k0] at h ⊢
    dsimp only at h ⊢
    obtain ⟨e, k⟩ := wlT_turn ro _ _ _ r3 h
    obtain ⟨e1, k1⟩ := key _ e
    refine ⟨?_, ?_, ?_, ?_⟩
    · simp only [objB, hdB, shB, k0, if_true, List.append_assoc] at e1 ⊢
      exact e1
    · simp only [okO, okS, k0, if_true, Bool.and_eq_true]
      exact ⟨okT_iff.2 k1, k⟩
    · show 0 ≤ p1.2 ∧ p1.2 ≤ 4; omega
    · exact ⟨fun g => absurd k0 g, fun _ => rfl, fun _ => rfl, fun _ => rfl, fun _ => rfl⟩
  · rw [if_neg k0] at h ⊢
    by_cases k1 : p1.2 = 1
    · rw [if_pos k1] at h ⊢
      dsimp only at h ⊢
      obtain ⟨e, k⟩ := pdT_turn ro _ _ _ r3 h
      obtain ⟨e1, k2⟩ := key _ e
      refine ⟨?_, ?_, ?_, ?_⟩
      · simp only [objB, hdB, shB, k1, if_true, if_false, show (1 : Int) ≠ 0 by decide, List.append_assoc] at e1 ⊢
        exact e1
      · simp only [okO, okS, k1, if_true, if_false, show (1 : Int) ≠ 0 by decide, Bool.and_eq_true]
        exact ⟨okT_iff.2 k2, k⟩
      · show 0 ≤ p1.2 ∧ p1.2 ≤ 4; omega
      · exact ⟨fun _ => rfl, fun g => absurd k1 g, fun _ => rfl, fun _ => rfl, fun _ => rfl⟩
    · rw [if_neg k1] at h ⊢
      by_cases k2 : p1.2 = 2
      · rw [if_pos k2] at h ⊢
        dsimp only at h ⊢
        obtain ⟨e, k⟩ := ndT_turn ro _ _ _ r3 h
        obtain ⟨e1, k3⟩ := key _ e
        refine ⟨?_, ?_, ?_, ?_⟩
        · simp only [objB, hdB, shB, k2, if_true, if_false, show (2 : Int) ≠ 0 by decide, show (2 : Int) ≠ 1 by decide, List.append_assoc] at e1 ⊢
          exact e1
        · simp only [okO, okS, k2, if_true, if_false, show (2 : Int) ≠ 0 by decide, show (2 : Int) ≠ 1 by decide, Bool.and_eq_true]
          exact ⟨okT_iff.2 k3, k⟩
        · show 0 ≤ p1.2 ∧ p1.2 ≤ 4; omega
        · exact ⟨fun _ => rfl, fun _ => rfl, fun g => absurd k2 g, fun _ => rfl, fun _ => rfl⟩
      · rw [if_neg k2] at h ⊢
        by_cases k3 : p1.2 = 3
        · rw [if_pos k3] at h ⊢
          dsimp only at h ⊢
          obtain ⟨e, k⟩ := gpT_turn ro _ _ _ r3 h
          obtain ⟨e1, k4⟩ := key _ e
          refine ⟨?_, ?_, ?_, ?_⟩
          · simp only [objB, hdB, shB, k3, if_true, if_false, show (3 : Int) ≠ 0 by decide, show (3 : Int) ≠ 1 by decide, show (3 : Int) ≠ 2 by decide, List.append_assoc] at e1 ⊢
            exact e1
          · simp only [okO, okS, k3, if_true, if_false, show (3 : Int) ≠ 0 by decide, show (3 : Int) ≠ 1 by decide, show (3 : Int) ≠ 2 by decide, Bool.and_eq_true]
            exact ⟨okT_iff.2 k4, k⟩
          · show 0 ≤ p1.2 ∧ p1.2 ≤ 4; omega
          · exact ⟨fun _ => rfl, fun _ => rfl, fun _ => rfl, fun g => absurd k3 g, fun _ => rfl⟩
        · rw [if_neg k3] at h ⊢
          by_cases k4 : p1.2 = 4
          · rw [if_pos k4] at h ⊢
            dsimp only at h ⊢
            obtain ⟨e, k⟩ := hpT_turn ro _ _ _ r3 h
            obtain ⟨e1, k5⟩ := key _ e
            refine ⟨?_, ?_, ?_, ?_⟩
            · simp only [objB, hdB, shB, k4, if_false, show (4 : Int) ≠ 0 by decide, show (4 : Int) ≠ 1 by decide, show (4 : Int) ≠ 2 by decide, show (4 : Int) ≠ 3 by decide, List.append_assoc] at e1 ⊢
              exact e1
            · simp only [okO, okS, k4, if_false, show (4 : Int) ≠ 0 by decide, show (4 : Int) ≠ 1 by decide, show (4 : Int) ≠ 2 by decide, show (4 : Int) ≠ 3 by decide, Bool.and_eq_true]
              exact ⟨okT_iff.2 k5, k⟩
            · show 0 ≤ p1.2 ∧ p1.2 ≤ 4; omega
            · exact ⟨fun _ => rfl, fun _ => rfl, fun _ => rfl, fun _ => rfl, fun g => absurd k4 g⟩
          · rw [if_neg k4] at h
            exact (spoil_not r3 h).elim
end Go.Proofs.Ytlajiochpdlhaaa
