/- Layer 20: Row of any row, told at once; more use of one pod proposes no fewer. -/
import Derived.Test.YtajkhbdniadkkaaPpR
namespace Go.Proofs.Ytajkhbdniadkkaa.Pp
open Go.RowKit Go.Shelf Go.Lib Go.Sort Go.Deep
open Go.Joins (cell_of_block unfrozen_of_block block_setCell)
open Go.Proofs.Ytajkhbdniadkkaa.Ow Go.Proofs.Ytajkhbdniadkkaa.Ld
set_option linter.unusedVariables false
set_option linter.unusedSimpArgs false
set_option maxRecDepth 20000

/-- What Row answers. -/
def rowA (k t : Int) (l : List Ut) (r x : Int) : Int × Int :=
  if rightB t r x = true ∧ l.all okU = true then (rowV k t.toNat l r.toNat x.toNat, rowE k t.toNat l) else (0, 1)
theorem pp_row (w : World) (k : Int) (s : ByteArray) (t r x : Int) (q : Option Addr) (c : Nat) (l : List Ut) (hr : RowR 5 encT w q l) (hlen : l.length ≤ 1000000) :
    Calls Try.prog 14 #[.agg (metC k s t), .slice q l.length c, .int .i64 r, .int .i64 x] w fun e w' => e = .returned (.tuple #[.int .i64 (rowA k t l r x).1, .int .i64 (rowA k t l r x).2]) ∧ Below w.heap.size w w' := by
  unfold rowA
  by_cases h : rightB t r x = true ∧ l.all okU = true
  · rw [if_pos h]
    obtain ⟨⟨r0, r1⟩, ⟨x0, x1⟩, t0, t1⟩ := rightB_iff.1 h.1
    obtain ⟨t', rfl⟩ : ∃ n : Nat, t = (n : Int) := ⟨t.toNat, by omega⟩
    obtain ⟨r', rfl⟩ : ∃ n : Nat, r = (n : Int) := ⟨r.toNat, by omega⟩
    obtain ⟨x', rfl⟩ : ∃ n : Nat, x = (n : Int) := ⟨x.toNat, by omega⟩
    exact row_ok w k s t' r' x' (by omega) (by omega) (by omega) (by omega) q c l hr hlen h.2
  · rw [if_neg h]
    refine row_bad w k s t r x q c l hr hlen ?_
    cases e : rightB t r x with
    | false => exact .inl rfl
    | true =>
      cases e2 : l.all okU with
      | false => exact .inr rfl
      | true => exact absurd ⟨e, e2⟩ h

/-! ### What it answers, by its numbers alone -/
def addN (U G SM SU : Nat) : Nat := if G < U then SM + SU else if U < G then SM else 0
def useN (U G SM SU : Nat) : Nat := if U < G then U + addN U G SM SU else U
def EE (nH U G SM SU : Nat) : Int := if nH = 0 then 7 else if 9007199254740992 < U ∨ 9007199254740992 < G then 3 else if G = 0 then 5 else capE (G + addN U G SM SU)
def NN (nH nM nU U G SM SU r x : Nat) : Nat :=
  if nearB (useN U G SM SU) (G + addN U G SM SU) x = true then r else if decide (G < U) ≠ decide (G + addN U G SM SU < useN U G SM SU) then r
  else if decide (G < U) = true then max (needN (nH + addN U G nM nU) (useN U G SM SU) (G + addN U G SM SU)) r else min (needN (nH + addN U G nM nU) (useN U G SM SU) (G + addN U G SM SU)) r
theorem sumG_app (k : Int) (t : Nat) (a b : List Ut) : sumG k t (a ++ b) = sumG k t a + sumG k t b := by
  unfold sumG
  rw [List.map_append, List.sum_append]
theorem addS_eq (k : Int) (t : Nat) (l : List Ut) : addS k t l = addN (sumU (hasL l)) (sumG k t (hasL l)) (sumG k t (misL l)) (sumG k t (unL l)) := by
  unfold addS addL addN
  split
  · rw [sumG_app]
  · split <;> rfl
theorem addL_len (k : Int) (t : Nat) (l : List Ut) : (addL k t l).length = addN (sumU (hasL l)) (sumG k t (hasL l)) (misL l).length (unL l).length := by
  unfold addL addN
  split
  · rw [List.length_append]
  · split <;> rfl
theorem rowE_eq (k : Int) (t : Nat) (l : List Ut) : rowE k t l = EE (hasL l).length (sumU (hasL l)) (sumG k t (hasL l)) (sumG k t (misL l)) (sumG k t (unL l)) := by
  unfold rowE goal2 EE
  rw [addS_eq]
theorem rowN_eq (k : Int) (t : Nat) (l : List Ut) (r x : Nat) : rowN k t l r x = NN (hasL l).length (misL l).length (unL l).length (sumU (hasL l)) (sumG k t (hasL l)) (sumG k t (misL l)) (sumG k t (unL l)) r x := by
  unfold rowN use2 goal2 num2 moreB NN useN
  rw [addS_eq, addL_len]

/-! ### one pod uses more -/
def moreU (x : Ut) (m : Nat) : Ut := ⟨x.pod, x.rd, x.hs, x.ask, x.use + (m : Int)⟩
theorem fil_set (f : Ut → Bool) (k : Int) (t m : Nat) (x : Ut) (hf : f (moreU x m) = f x) (h0 : 0 ≤ x.use) : ∀ (l : List Ut) (p : Nat), l[p]? = some x →
    sumG k t ((l.set p (moreU x m)).filter f) = sumG k t (l.filter f) ∧ ((l.set p (moreU x m)).filter f).length = (l.filter f).length ∧ sumU ((l.set p (moreU x m)).filter f) = sumU (l.filter f) + (if f x = true then m else 0)
  | [], p, h => by simp at h
  | y :: l, 0, h => by
    simp at h
    subst h
    rw [List.set_cons_zero]
    by_cases g : f y = true
    · rw [List.filter_cons_of_pos (by rw [hf]; exact g), List.filter_cons_of_pos g, if_pos g]
      refine ⟨rfl, rfl, ?_⟩
      unfold sumU
      rw [List.map_cons, List.map_cons, List.sum_cons, List.sum_cons]
      show (y.use + (m : Int)).toNat + _ = _
      omega
    · rw [List.filter_cons_of_neg (by rw [hf]; exact g), List.filter_cons_of_neg g, if_neg g]
      exact ⟨rfl, rfl, rfl⟩
  | y :: l, p + 1, h => by
    obtain ⟨a, b, c⟩ := fil_set f k t m x hf h0 l p (by simpa using h)
    rw [List.set_cons_succ]
    by_cases g : f y = true
    · rw [List.filter_cons_of_pos g, List.filter_cons_of_pos g]
      unfold sumG sumU at *
      simp only [List.map_cons, List.sum_cons, List.length_cons]
      exact ⟨by rw [a], by rw [b], by rw [c]; omega⟩
    · rw [List.filter_cons_of_neg g, List.filter_cons_of_neg g]
      exact ⟨a, b, c⟩
theorem up_mono {n u v g : Nat} (h : u ≤ v) : upDiv n u g ≤ upDiv n v g := by
  unfold upDiv
  have h1 : n * u ≤ n * v := Nat.mul_le_mul_left _ h
  generalize n * u = a at h1 ⊢
  generalize n * v = b at h1 ⊢
  have h2 : a / g ≤ b / g := Nat.div_le_div_right h1
  rcases Nat.lt_or_ge (a / g) (b / g) with h3 | h3
  · split <;> split <;> omega
  · have e : a / g = b / g := by omega
    have ea := Nat.div_add_mod a g
    have eb := Nat.div_add_mod b g
    rw [e] at ea
    generalize g * (b / g) = z at ea eb
    split <;> split <;> omega
theorem need_mono {n u v g : Nat} (h : u ≤ v) : needN n u g ≤ needN n v g := by
  have := up_mono (n := n) (g := g) h
  unfold needN
  omega
theorem near_up {u v g x : Nat} (h : u ≤ v) (hg : g < u) (h1 : nearB u g x = false) : nearB v g x = false := by
  unfold nearB apart at *
  generalize g * x = y at *
  rw [Bool.and_eq_false_iff] at *
  rcases h1 with h1 | h1
  · exact .inl h1
  · right
    have := of_decide_eq_false h1
    exact decide_eq_false (by omega)
theorem near_down {u v g x : Nat} (h : u ≤ v) (hg : v < g) (h1 : nearB u g x = true) : nearB v g x = true := by
  unfold nearB apart at *
  generalize g * x = y at *
  rw [Bool.and_eq_true] at *
  refine ⟨h1.1, ?_⟩
  have := of_decide_eq_true h1.2
  exact decide_eq_true (by omega)
theorem near_same {g x : Nat} (h : 0 < g) : nearB g g x = true := by
  unfold nearB apart
  rw [decide_eq_true h, decide_eq_true (by omega)]
  rfl
theorem NN_ge {nH nM nU U G SM SU r x : Nat} (h : G < U) : r ≤ NN nH nM nU U G SM SU r x := by
  unfold NN
  rw [decide_eq_true h]
  split
  · exact Nat.le_refl _
  · split
    · exact Nat.le_refl _
    · rw [if_pos rfl]; omega
theorem NN_le {nH nM nU U G SM SU r x : Nat} (h : ¬ G < U) : NN nH nM nU U G SM SU r x ≤ r := by
  unfold NN
  rw [decide_eq_false h]
  split
  · exact Nat.le_refl _
  · split
    · exact Nat.le_refl _
    · rw [if_neg (by decide)]; omega
theorem NN_mono {nH nM nU U V G SM SU r x : Nat} (h : U ≤ V) (hG : 0 < G) : NN nH nM nU U G SM SU r x ≤ NN nH nM nU V G SM SU r x := by
  by_cases h1 : G < U
  · have h2 : G < V := by omega
    refine Nat.le_trans ?_ (Nat.le_of_eq rfl)
    have ge := NN_ge (nH := nH) (nM := nM) (nU := nU) (SM := SM) (SU := SU) (r := r) (x := x) h2
    have a1 : addN U G SM SU = SM + SU := if_pos h1
    have a2 : addN V G SM SU = SM + SU := if_pos h2
    have a3 : addN U G nM nU = nM + nU := if_pos h1
    have a4 : addN V G nM nU = nM + nU := if_pos h2
    have u1 : useN U G SM SU = U := if_neg (by omega)
    have u2 : useN V G SM SU = V := if_neg (by omega)
    by_cases hn : nearB U (G + (SM + SU)) x = true
    · have : NN nH nM nU U G SM SU r x = r := by unfold NN; rw [a1, u1, if_pos hn]
      rw [this]; exact ge
    · by_cases hl : G + (SM + SU) < U
      · have n2 : ¬ nearB V (G + (SM + SU)) x = true := by
          rw [near_up h hl (Bool.eq_false_iff.2 hn)]; decide
        have e1 : NN nH nM nU U G SM SU r x = max (needN (nH + (nM + nU)) U (G + (SM + SU))) r := by
          unfold NN
          rw [a1, u1, a3, if_neg hn, decide_eq_true h1, decide_eq_true hl, if_neg (by simp), if_pos rfl]
        have e2 : NN nH nM nU V G SM SU r x = max (needN (nH + (nM + nU)) V (G + (SM + SU))) r := by
          unfold NN
          rw [a2, u2, a4, if_neg n2, decide_eq_true h2, decide_eq_true (show G + (SM + SU) < V by omega), if_neg (by simp), if_pos rfl]
        rw [e1, e2]
        have := need_mono (n := nH + (nM + nU)) (g := G + (SM + SU)) h
        omega
      · have : NN nH nM nU U G SM SU r x = r := by
          unfold NN
          rw [a1, u1, if_neg hn, decide_eq_true h1, decide_eq_false hl, if_pos (by simp)]
        rw [this]; exact ge
  · have le := NN_le (nH := nH) (nM := nM) (nU := nU) (SM := SM) (SU := SU) (r := r) (x := x) h1
    by_cases h2 : G < V
    · exact Nat.le_trans le (NN_ge h2)
    · by_cases h3 : V = G
      · subst h3
        have a2 : addN V V SM SU = 0 := by unfold addN; rw [if_neg (by omega), if_neg (by omega)]
        have u2 : useN V V SM SU = V := if_neg (by omega)
        have : NN nH nM nU V V SM SU r x = r := by unfold NN; rw [a2, u2, Nat.add_zero, if_pos (near_same hG)]
        rw [this]; exact le
      · have l1 : U < G := by omega
        have l2 : V < G := by omega
        have a1 : addN U G SM SU = SM := by unfold addN; rw [if_neg h1, if_pos l1]
        have a2 : addN V G SM SU = SM := by unfold addN; rw [if_neg h2, if_pos l2]
        have a3 : addN U G nM nU = nM := by unfold addN; rw [if_neg h1, if_pos l1]
        have a4 : addN V G nM nU = nM := by unfold addN; rw [if_neg h2, if_pos l2]
        have u1 : useN U G SM SU = U + SM := by unfold useN; rw [if_pos l1, a1]
        have u2 : useN V G SM SU = V + SM := by unfold useN; rw [if_pos l2, a2]
        by_cases hv : nearB (V + SM) (G + SM) x = true
        · have : NN nH nM nU V G SM SU r x = r := by unfold NN; rw [a2, u2, if_pos hv]
          rw [this]; exact le
        · have hu : ¬ nearB (U + SM) (G + SM) x = true := fun e => hv (near_down (by omega) (by omega) e)
          have e1 : NN nH nM nU U G SM SU r x = min (needN (nH + nM) (U + SM) (G + SM)) r := by
            unfold NN
            rw [a1, u1, a3, if_neg hu, decide_eq_false h1, decide_eq_false (show ¬ G + SM < U + SM by omega), if_neg (by simp), if_neg (by decide)]
          have e2 : NN nH nM nU V G SM SU r x = min (needN (nH + nM) (V + SM) (G + SM)) r := by
            unfold NN
            rw [a2, u2, a4, if_neg hv, decide_eq_false h2, decide_eq_false (show ¬ G + SM < V + SM by omega), if_neg (by simp), if_neg (by decide)]
          rw [e1, e2]
          have := need_mono (n := nH + nM) (g := G + SM) (show U + SM ≤ V + SM by omega)
          omega
/-- More use of one pod proposes no fewer. -/
theorem grows (k t : Int) (l : List Ut) (r x : Int) (p m : Nat) (y : Ut) (hy : l[p]? = some y) (h0 : 0 ≤ y.use) (e1 : (rowA k t l r x).2 = 0) (e2 : (rowA k t (l.set p (moreU y m)) r x).2 = 0) :
    (rowA k t l r x).1 ≤ (rowA k t (l.set p (moreU y m)) r x).1 := by
  unfold rowA at *
  by_cases h1 : rightB t r x = true ∧ l.all okU = true
  · rw [if_pos h1] at e1 ⊢
    by_cases h2 : rightB t r x = true ∧ (l.set p (moreU y m)).all okU = true
    · rw [if_pos h2] at e2 ⊢
      show rowV _ _ _ _ _ ≤ rowV _ _ _ _ _
      have e1 : rowE k t.toNat l = 0 := e1
      have e2 : rowE k t.toNat (l.set p (moreU y m)) = 0 := e2
      unfold rowV
      rw [if_pos e1, if_pos e2]
      obtain ⟨g1, l1, s1⟩ := fil_set isHas k t.toNat m y rfl h0 l p hy
      obtain ⟨g2, l2, _⟩ := fil_set isMis k t.toNat m y rfl h0 l p hy
      obtain ⟨g3, l3, _⟩ := fil_set isUn k t.toNat m y rfl h0 l p hy
      rw [rowN_eq, rowN_eq]
      rw [rowE_eq] at e1
      have hG : 0 < sumG k t.toNat (hasL l) := by
        rcases Nat.eq_zero_or_pos (sumG k t.toNat (hasL l)) with h | h
        · rw [h] at e1
          unfold EE at e1
          split at e1
          · exact absurd e1 (by decide)
          · split at e1
            · exact absurd e1 (by decide)
            · rw [if_pos rfl] at e1
              exact absurd e1 (by decide)
        · exact h
      unfold hasL misL unL at *
      rw [g1, g2, g3, l1, l2, l3, s1]
      exact Int.ofNat_le.2 (NN_mono (Nat.le_add_right _ _) hG)
    · rw [if_neg h2] at e2
      exact absurd e2 (by decide)
  · rw [if_neg h1] at e1
    exact absurd e1 (by decide)
end Go.Proofs.Ytajkhbdniadkkaa.Pp
