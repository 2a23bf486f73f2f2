/- What is written, and whether it was too long; what was read is what was there. -/
import Derived.Test.YtlajiochpdlhaaaOctUo
namespace Go.Proofs.Ytlajiochpdlhaaa
open Go.RowKit Go.Shelf Go.Lib Go.Sort
set_option linter.unusedVariables false
set_option linter.unusedSimpArgs false

/-- A step writes these bytes, and marks what is too long. -/
def Wrs {α : Type} (tr : St → α → St × α) (by_ : α → List UInt8) (ok : α → Bool) : Prop :=
  ∀ (lg : Bool) (bs : List UInt8) (x : α), ∃ bs', tr (.wr lg bs) x = (.wr (lg || !ok x) bs', x) ∧ (ok x = true → bs' = bs ++ by_ x)
theorem numT_w : Wrs numT num (fun _ => true) := fun lg bs x => ⟨bs ++ num x, by simp [numT], fun _ => rfl⟩
theorem numU_w : Wrs numU (fun x => le x 8) (fun _ => true) := fun lg bs x => ⟨bs ++ le x 8, by simp [numU], fun _ => rfl⟩
theorem truT_w : Wrs truT tru (fun _ => true) := fun lg bs x => ⟨bs ++ tru x, by simp [truT], fun _ => rfl⟩
theorem txtT_w : Wrs txtT txt okT := by
  intro lg bs x
  refine ⟨bs ++ txt (cut x), ?_, fun h => ?_⟩
  · have : decide (255 < x.size) = !okT x := by
      unfold okT
      by_cases h : x.size ≤ 255
      · simp [h]
      · simp [h]; omega
    simp only [txtT, this]
  · rw [cut_short (okT_iff.1 h)]
/-- One step behind the other. -/
theorem pair_w {α β γ : Type} {f : St → α → St × α} {g : St → β → St × β} {bf : α → List UInt8} {bg : β → List UInt8} {of : α → Bool} {og : β → Bool} (hf : Wrs f bf of) (hg : Wrs g bg og) (lg : Bool) (bs : List UInt8) (x : α) (y : β) :
    ∃ bs', (g (f (.wr lg bs) x).1 y).1 = .wr (lg || !(of x && og y)) bs' ∧ (f (.wr lg bs) x).2 = x ∧ (g (f (.wr lg bs) x).1 y).2 = y ∧ ((of x && og y) = true → bs' = bs ++ bf x ++ bg y) := by
  obtain ⟨b1, h1, k1⟩ := hf lg bs x
  obtain ⟨b2, h2, k2⟩ := hg (lg || !of x) b1 y
  rw [h1]
  dsimp only
  rw [h2]
  refine ⟨b2, ?_, rfl, rfl, fun h => ?_⟩
  · congr 1
    cases lg <;> cases of x <;> cases og y <;> rfl
  · simp only [Bool.and_eq_true] at h
    rw [k2 h.2, k1 h.1]
theorem labT_w : Wrs labT byL okL := by
  intro lg bs x
  obtain ⟨b1, h1, k1⟩ := txtT_w lg bs x.1
  obtain ⟨b2, h2, k2⟩ := txtT_w (lg || !okT x.1) b1 x.2
  refine ⟨b2, ?_, fun h => ?_⟩
  · unfold labT
    rw [h1]
    dsimp only
    rw [h2]
    simp only [okL, okT, Bool.or_assoc, ← Bool.not_and]
  · simp only [okL, Bool.and_eq_true] at h
    rw [k2 h.2, k1 h.1, byL, List.append_assoc]
theorem reqT_w : Wrs reqT byR okR := by
  intro lg bs x
  obtain ⟨b1, h1, k1⟩ := txtT_w lg bs x.1
  obtain ⟨b2, h2, k2⟩ := txtT_w (lg || !okT x.1) b1 x.2.1
  obtain ⟨b3, h3, k3⟩ := numT_w (lg || !okT x.1 || !okT x.2.1) b2 x.2.2
  refine ⟨b3, ?_, fun h => ?_⟩
  · unfold reqT
    rw [h1]
    dsimp only
    rw [h2]
    dsimp only
    rw [h3]
    simp only [okR, okT, Bool.or_assoc, ← Bool.not_and, Bool.not_true, Bool.or_false]
  · simp only [okR, Bool.and_eq_true] at h
    rw [k3 rfl, k2 h.2, k1 h.1, byR]
    simp only [List.append_assoc]
theorem metT_w : Wrs metT byM okM := by
  intro lg bs x
  obtain ⟨b1, h1, k1⟩ := numT_w lg bs x.1
  obtain ⟨b2, h2, k2⟩ := txtT_w (lg || !true) b1 x.2.1
  obtain ⟨b3, h3, k3⟩ := numT_w (lg || !true || !okT x.2.1) b2 x.2.2
  refine ⟨b3, ?_, fun h => ?_⟩
  · unfold metT
    rw [h1]
    dsimp only
    rw [h2]
    dsimp only
    rw [h3]
    simp only [okM, okT, Bool.not_true, Bool.or_false]
  · rw [k3 rfl, k2 h, k1 rfl, byM]
    simp only [List.append_assoc]
theorem polT_w : Wrs polT byP (fun _ => true) := by
  intro lg bs x
  refine ⟨bs ++ tru x.1 ++ num x.2.1 ++ num x.2.2, ?_, fun _ => ?_⟩
  · simp [polT, truT, numT]
  · simp [byP]
theorem scaT_w : Wrs scaT byS (fun _ => true) := by
  intro lg bs x
  refine ⟨bs ++ num x.1 ++ num x.2.1 ++ num x.2.2, ?_, fun _ => ?_⟩
  · simp [scaT, numT]
  · simp [byS]
theorem foldW_w {α : Type} {tr : St → α → St × α} {f : α → List UInt8} {ok : α → Bool} (h : Wrs tr f ok) : ∀ (l : List α) (lg : Bool) (bs : List UInt8), ∃ bs', foldW tr (.wr lg bs) l = .wr (lg || !l.all ok) bs' ∧ (l.all ok = true → bs' = bs ++ l.flatMap f)
  | [], lg, bs => ⟨bs, by simp [foldW], fun _ => by simp⟩
  | x :: r, lg, bs => by
    obtain ⟨b1, h1, k1⟩ := h lg bs x
    obtain ⟨b2, h2, k2⟩ := foldW_w h r (lg || !ok x) b1
    refine ⟨b2, ?_, fun hh => ?_⟩
    · rw [foldW, h1, h2]
      simp only [List.all_cons, Bool.or_assoc, ← Bool.not_and]
    · simp only [List.all_cons, Bool.and_eq_true] at hh
      rw [k2 hh.2, k1 hh.1, List.flatMap_cons, List.append_assoc]
theorem rowT_w {α : Type} {tr : St → α → St × α} {f : α → List UInt8} {ok : α → Bool} (h : Wrs tr f ok) (z : α) : Wrs (rowT tr z) (rowB f) (okRow ok) := by
  intro lg bs l
  unfold rowT
  dsimp only
  by_cases hl : 255 < l.length
  · rw [if_pos hl]
    have : okRow ok l = false := by
      unfold okRow
      rw [decide_eq_false (by omega), Bool.and_false]
    exact ⟨bs, by rw [this]; simp, fun h => by rw [this] at h; cases h⟩
  · rw [if_neg hl]
    obtain ⟨b1, h1, k1⟩ := foldW_w h l lg (bs ++ le l.length 1)
    have : okRow ok l = l.all ok := by
      unfold okRow
      rw [decide_eq_true (by omega), Bool.and_true]
    refine ⟨b1, by rw [h1, this], fun hh => ?_⟩
    rw [this] at hh
    rw [k1 hh, rowB, List.append_assoc]
theorem lenRow {α : Type} (l : List α) : okRow (fun _ => true) l = decide (l.length ≤ 255) := by simp [okRow]

theorem wlT_w : Wrs wlT wlB okW := by
  intro lg bs x
  obtain ⟨b1, h1, k1⟩ := rowT_w labT_w (⟨#[]⟩, ⟨#[]⟩) lg (bs ++ num x.rep ++ num x.cpu ++ num x.mem) x.lab
  obtain ⟨b2, h2, k2⟩ := rowT_w reqT_w (⟨#[]⟩, ⟨#[]⟩, 0) (lg || !okRow okL x.lab) b1 x.sel
  obtain ⟨b3, h3, k3⟩ := rowT_w labT_w (⟨#[]⟩, ⟨#[]⟩) (lg || !okRow okL x.lab || !okRow okR x.sel) b2 x.tol
  refine ⟨b3 ++ num x.warm, ?_, fun h => ?_⟩
  · unfold wlT
    simp only [numT, h1, h2, h3]
    simp only [okW, Bool.or_assoc, ← Bool.not_and, Bool.and_assoc]
  · simp only [okW, Bool.and_eq_true] at h
    rw [k3 h.2, k2 h.1.2, k1 h.1.1, wlB]
    simp only [List.append_assoc]
theorem pdT_w : Wrs pdT pdB okP := by
  intro lg bs x
  obtain ⟨a1, g1, j1⟩ := txtT_w lg bs x.own
  obtain ⟨a2, g2, j2⟩ := txtT_w (lg || !okT x.own) a1 x.node
  obtain ⟨b1, h1, k1⟩ := rowT_w labT_w (⟨#[]⟩, ⟨#[]⟩) (lg || !okT x.own || !okT x.node) (a2 ++ num x.ph ++ num x.since ++ num x.cpu ++ num x.mem) x.lab
  obtain ⟨b2, h2, k2⟩ := rowT_w reqT_w (⟨#[]⟩, ⟨#[]⟩, 0) (lg || !okT x.own || !okT x.node || !okRow okL x.lab) b1 x.sel
  obtain ⟨b3, h3, k3⟩ := rowT_w labT_w (⟨#[]⟩, ⟨#[]⟩) (lg || !okT x.own || !okT x.node || !okRow okL x.lab || !okRow okR x.sel) b2 x.tol
  refine ⟨b3 ++ num x.warm, ?_, fun h => ?_⟩
  · unfold pdT
    simp only [g1, g2, numT, h1, h2, h3]
    simp only [okP, Bool.or_assoc, ← Bool.not_and, Bool.and_assoc]
  · simp only [okP, Bool.and_eq_true] at h
    rw [k3 h.2, k2 h.1.2, k1 h.1.1.2, j2 h.1.1.1.2, j1 h.1.1.1.1, pdB]
    simp only [List.append_assoc]
theorem ndT_w : Wrs ndT ndB okN := by
  intro lg bs x
  obtain ⟨a1, g1, j1⟩ := txtT_w lg bs x.grp
  obtain ⟨b1, h1, k1⟩ := rowT_w labT_w (⟨#[]⟩, ⟨#[]⟩) (lg || !okT x.grp) (a1 ++ num x.cpu ++ num x.mem) x.lab
  obtain ⟨b2, h2, k2⟩ := rowT_w labT_w (⟨#[]⟩, ⟨#[]⟩) (lg || !okT x.grp || !okRow okL x.lab) b1 x.tnt
  refine ⟨b2 ++ num x.since ++ tru x.closed, ?_, fun h => ?_⟩
  · unfold ndT
    simp only [g1, numT, h1, h2, truT]
    simp only [okN, Bool.or_assoc, ← Bool.not_and, Bool.and_assoc]
  · simp only [okN, Bool.and_eq_true] at h
    rw [k2 h.2, k1 h.1.2, j1 h.1.1, ndB]
    simp only [List.append_assoc]
theorem gpT_w : Wrs gpT gpB okG := by
  intro lg bs x
  obtain ⟨b1, h1, k1⟩ := rowT_w labT_w (⟨#[]⟩, ⟨#[]⟩) lg (bs ++ num x.mn ++ num x.mx ++ num x.tg ++ num x.cpu ++ num x.mem) x.lab
  obtain ⟨b2, h2, k2⟩ := rowT_w labT_w (⟨#[]⟩, ⟨#[]⟩) (lg || !okRow okL x.lab) b1 x.tnt
  refine ⟨b2 ++ num x.prio, ?_, fun h => ?_⟩
  · unfold gpT
    simp only [numT, h1, h2]
    simp only [okG, Bool.or_assoc, ← Bool.not_and, Bool.and_assoc]
  · simp only [okG, Bool.and_eq_true] at h
    rw [k2 h.2, k1 h.1, gpB]
    simp only [List.append_assoc]
theorem hpT_w : Wrs hpT hpB okH := by
  intro lg bs x
  obtain ⟨a1, g1, j1⟩ := txtT_w lg bs x.tg
  obtain ⟨b1, h1, k1⟩ := rowT_w metT_w (0, ⟨#[]⟩, 0) (lg || !okT x.tg) (a1 ++ num x.mn ++ num x.mx) x.met
  obtain ⟨b2, h2, k2⟩ := rowT_w polT_w (false, 0, 0) (lg || !okT x.tg || !okRow okM x.met) (b1 ++ num x.tol ++ num x.uw ++ num x.up) x.upol
  obtain ⟨b3, h3, k3⟩ := rowT_w polT_w (false, 0, 0) (lg || !okT x.tg || !okRow okM x.met || !okRow (fun _ => true) x.upol) (b2 ++ num x.dw ++ num x.dp) x.dpol
  obtain ⟨b4, h4, k4⟩ := rowT_w scaT_w (0, 0, 0) (lg || !okT x.tg || !okRow okM x.met || !okRow (fun _ => true) x.upol || !okRow (fun _ => true) x.dpol) b3 x.past
  have e : okH x = (okT x.tg && okRow okM x.met && okRow (fun _ => true) x.upol && okRow (fun _ => true) x.dpol && okRow (fun _ => true) x.past) := by
    simp only [lenRow]
    unfold okH okRow
    cases okT x.tg <;> cases x.met.all okM <;> cases decide (x.met.length ≤ 255) <;> cases decide (x.past.length ≤ 255) <;> cases decide (x.upol.length ≤ 255) <;> cases decide (x.dpol.length ≤ 255) <;> rfl
  refine ⟨b4, ?_, fun h => ?_⟩
  · unfold hpT
    simp only [g1, numT, h1, h2, h3, h4, e]
    simp only [Bool.or_assoc, ← Bool.not_and, Bool.and_assoc]
  · rw [e] at h
    simp only [Bool.and_eq_true] at h
    rw [k4 h.2, k3 h.1.2, k2 h.1.1.2, k1 h.1.1.1.2, j1 h.1.1.1.1, hpB, behB, behB]
    simp only [List.append_assoc]
theorem objT_write {x : Ob} (hk : 0 ≤ x.kind ∧ x.kind ≤ 4) (bs : List UInt8) : ∃ bs' o', objT (.wr false bs) x = (.wr (!okO x) bs', o') ∧ (okO x = true → bs' = bs ++ objB x) := by
  obtain ⟨a1, g1, j1⟩ := txtT_w false (bs ++ le (u64 x.kind) 1) x.name
  have e1 : oneT (.wr false bs) x.kind = (.wr false (bs ++ le (u64 x.kind) 1), x.kind) := rfl
  have e3 : numU (.wr (false || !okT x.name) a1) x.ver = (.wr (false || !okT x.name) (a1 ++ le x.ver 8), x.ver) := rfl
  have fin : ∀ (α : Type) (f : St → α → St × α) (b : α → List UInt8) (ok : α → Bool) (hw : Wrs f b ok) (y : α), okO x = (okT x.name && ok y) → objB x = hdB x ++ b y → (objT (.wr false bs) x).1 = (f (.wr (false || !okT x.name) (a1 ++ le x.ver 8)) y).1 →
      ∃ bs' o', objT (.wr false bs) x = (.wr (!okO x) bs', o') ∧ (okO x = true → bs' = bs ++ objB x) := by
    intro α f b ok hw y h1 h2 h3
    obtain ⟨b2, q1, q2⟩ := hw (false || !okT x.name) (a1 ++ le x.ver 8) y
    refine ⟨b2, (objT (.wr false bs) x).2, ?_, fun h => ?_⟩
    · rw [q1] at h3
      have h4 : (objT (.wr false bs) x) = ((objT (.wr false bs) x).1, (objT (.wr false bs) x).2) := rfl
      rw [h4, h3, h1]
      simp only [Bool.false_or, ← Bool.not_and]
    · rw [h1, Bool.and_eq_true] at h
      rw [q2 h.2, j1 h.1, h2, hdB]
      simp only [List.append_assoc]
  by_cases k0 : x.kind = 0
  · exact fin _ _ _ _ wlT_w x.w (by simp [okO, okS, k0]) (by simp [objB, shB, k0]) (by unfold objT; simp only [e1, g1, e3]; simp only [k0, if_true])
  · by_cases k1 : x.kind = 1
    · exact fin _ _ _ _ pdT_w x.p (by simp [okO, okS, k1]) (by simp [objB, shB, k1]) (by unfold objT; simp only [e1, g1, e3]; simp only [k1]; rfl)
    · by_cases k2 : x.kind = 2
      · exact fin _ _ _ _ ndT_w x.n (by simp [okO, okS, k2]) (by simp [objB, shB, k2]) (by unfold objT; simp only [e1, g1, e3]; simp only [k2]; rfl)
      · by_cases k3 : x.kind = 3
        · exact fin _ _ _ _ gpT_w x.g (by simp [okO, okS, k3]) (by simp [objB, shB, k3]) (by unfold objT; simp only [e1, g1, e3]; simp only [k3]; rfl)
        · have k4 : x.kind = 4 := by omega
          exact fin _ _ _ _ hpT_w x.h (by simp [okO, okS, k4]) (by simp [objB, shB, k4]) (by unfold objT; simp only [e1, g1, e3]; simp only [k4]; rfl)
end Go.Proofs.Ytlajiochpdlhaaa
