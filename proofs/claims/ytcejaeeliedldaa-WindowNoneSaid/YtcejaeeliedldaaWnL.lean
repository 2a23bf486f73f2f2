/- Layer 21 (window): a memory's ticks, beside all that was ever noted. -/
import Derived.Test.YtcejaeeliedldaaWnI
import Derived.Test.YtcejaeeliedldaaWnK
namespace Go.Proofs.Ytcejaeeliedldaa.Wn
open Go.RowKit Go.Shelf Go.Lib Go.Sort Go.Deep
open Go.Proofs.Ytcejaeeliedldaa.Ow
set_option linter.unusedVariables false
set_option linter.unusedSimpArgs false
set_option maxRecDepth 20000

abbrev Nt := Int × Int
/-- The last tick of what was noted, below all if nothing was. -/
def lastN (o : List Nt) : Int := match o.getLast? with | none => -1 | some x => x.1
theorem lastN_app (o : List Nt) (x : Nt) : lastN (o ++ [x]) = x.1 := by unfold lastN; simp
theorem lastT_app (l : List Tk) (x : Tk) : lastT (l ++ [x]) = x.tm := by unfold lastT; simp
/-- These ticks are what is remembered of that. -/
structure Rep (o : List Nt) (l : List Tk) : Prop where
  ris : Ris l
  last : lastT l = lastN o
  ok : ∀ x ∈ o, 0 ≤ x.1 ∧ x.1 ≤ lastN o
  from_ : ∀ t ∈ l, lastN o - t.tm ≤ 1800 ∧ (t.tm, t.lo) ∈ o ∧ (t.tm, t.hi) ∈ o
  has : ∀ x ∈ o, lastN o - x.1 ≤ 1800 → ∃ t ∈ l, t.tm = x.1 ∧ t.lo ≤ x.2 ∧ x.2 ≤ t.hi
theorem Rep.nil : Rep [] [] := ⟨⟨List.Pairwise.nil, fun x h => nomatch h⟩, rfl, fun x h => (nomatch h), fun x h => (nomatch h), fun x h => (nomatch h)⟩
theorem Rep.empty {o : List Nt} {l : List Tk} (h : Rep o l) : o = [] ↔ l = [] := by
  constructor
  · rintro rfl
    cases l with
    | nil => rfl
    | cons t l => exact absurd (h.from_ t (by simp)).2.1 (by simp)
  · rintro rfl
    rcases List.eq_nil_or_concat o with e | ⟨o1, x, e⟩
    · exact e
    · exfalso
      rw [List.concat_eq_append] at e
      obtain ⟨t, ht, _⟩ := h.has x (by rw [e]; simp) (by rw [e, lastN_app]; omega)
      cases ht
theorem ris_filter {l : List Tk} (h : Ris l) (f : Tk → Bool) : Ris (l.filter f) := ⟨h.1.filter f, fun x hx => h.2 x (List.mem_filter.1 hx).1⟩
theorem ris_snoc {l : List Tk} (h : Ris l) {x : Tk} (hx : ∀ y ∈ l, y.tm < x.tm) (h0 : 0 ≤ x.tm ∧ x.tm ≤ 4611686018427387904) : Ris (l ++ [x]) := by
  refine ⟨List.pairwise_append.2 ⟨h.1, List.pairwise_singleton _ _, fun a ha b hb => ?_⟩, fun y hy => ?_⟩
  · rw [List.mem_singleton] at hb
    subst hb
    exact hx a ha
  · rcases List.mem_append.1 hy with hy | hy
    · exact h.2 y hy
    · rw [List.mem_singleton] at hy
      subst hy
      exact h0
/-- One more is taken. -/
theorem Rep.note {o : List Nt} {l : List Tk} (h : Rep o l) {a n : Int} (hb : ¬ badN a n) (hs : ¬ a < lastT l) : Rep (o ++ [(a, n)]) (noteL l a n) := by
  unfold badN at hb
  have ha0 : 0 ≤ a := by omega
  have ha1 : a ≤ 4611686018427387904 := by omega
  have hlo := h.last
  have hs' : lastN o ≤ a := by omega
  have eN : lastN (o ++ [(a, n)]) = a := lastN_app o (a, n)
  by_cases hgt : lastT l < a
  · have e : noteL l a n = l.filter (kp a) ++ [⟨a, n, n⟩] := by unfold noteL; rw [if_pos hgt]
    rw [e]
    refine ⟨ris_snoc (ris_filter h.ris _) (fun y hy => ?_) ⟨ha0, ha1⟩, by rw [lastT_app, eN], fun x hx => ?_, fun t ht => ?_, fun x hx hw => ?_⟩
    · have := last_ge h.ris (List.mem_filter.1 hy).1
      show y.tm < a
      omega
    · rw [eN]
      rcases List.mem_append.1 hx with hx | hx
      · have := h.ok x hx; omega
      · rw [List.mem_singleton] at hx; subst hx; exact ⟨ha0, Int.le_refl _⟩
    · rw [eN]
      rcases List.mem_append.1 ht with ht | ht
      · obtain ⟨h1, h2⟩ := List.mem_filter.1 ht
        obtain ⟨_, h4, h5⟩ := h.from_ t h1
        exact ⟨of_decide_eq_true h2, List.mem_append_left _ h4, List.mem_append_left _ h5⟩
      · rw [List.mem_singleton] at ht
        subst ht
        exact ⟨by show a - a ≤ 1800; omega, by simp, by simp⟩
    · rw [eN] at hw
      rcases List.mem_append.1 hx with hx | hx
      · obtain ⟨t, h1, h2, h3⟩ := h.has x hx (by omega)
        refine ⟨t, List.mem_append_left _ (List.mem_filter.2 ⟨h1, ?_⟩), h2, h3⟩
        unfold kp
        exact decide_eq_true (by omega)
      · rw [List.mem_singleton] at hx
        subst hx
        exact ⟨⟨a, n, n⟩, by simp, rfl, Int.le_refl _, Int.le_refl _⟩
  · have ea : lastT l = a := by omega
    rcases List.eq_nil_or_concat l with e0 | ⟨l1, y, e0⟩
    · subst e0
      have : lastT [] = -1 := rfl
      omega
    · rw [List.concat_eq_append] at e0
      subst e0
      have ey : y.tm = a := by rw [← ea, lastT_app]
      have e : noteL (l1 ++ [y]) a n = l1 ++ [upT y n] := by unfold noteL; rw [if_neg hgt]; simp
      have hN : lastN o = a := by rw [← h.last, ea]
      rw [e]
      have hp := List.pairwise_append.1 h.ris.1
      refine ⟨ris_snoc ⟨hp.1, fun x hx => h.ris.2 x (List.mem_append_left _ hx)⟩ (fun z hz => hp.2.2 z hz y (by simp)) (by show 0 ≤ y.tm ∧ y.tm ≤ _; omega), by rw [lastT_app, eN]; exact ey, fun x hx => ?_, fun t ht => ?_, fun x hx hw => ?_⟩
      · rw [eN]
        rcases List.mem_append.1 hx with hx | hx
        · have := h.ok x hx; omega
        · rw [List.mem_singleton] at hx; subst hx; exact ⟨ha0, Int.le_refl _⟩
      · rw [eN]
        rcases List.mem_append.1 ht with ht | ht
        · obtain ⟨h3, h4, h5⟩ := h.from_ t (List.mem_append_left _ ht)
          exact ⟨by omega, List.mem_append_left _ h4, List.mem_append_left _ h5⟩
        · rw [List.mem_singleton] at ht
          subst ht
          obtain ⟨_, h4, h5⟩ := h.from_ y (by simp)
          refine ⟨by show a - y.tm ≤ 1800; omega, ?_, ?_⟩
          · show (y.tm, min y.lo n) ∈ _
            rcases Int.le_total y.lo n with q | q
            · rw [Int.min_eq_left q]; exact List.mem_append_left _ h4
            · rw [Int.min_eq_right q, ey]; simp
          · show (y.tm, max y.hi n) ∈ _
            rcases Int.le_total y.hi n with q | q
            · rw [Int.max_eq_right q, ey]; simp
            · rw [Int.max_eq_left q]; exact List.mem_append_left _ h5
      · rw [eN] at hw
        rcases List.mem_append.1 hx with hx | hx
        · obtain ⟨t, h1, h2, h3, h4⟩ := h.has x hx (by omega)
          rcases List.mem_append.1 h1 with h1 | h1
          · exact ⟨t, List.mem_append_left _ h1, h2, h3, h4⟩
          · rw [List.mem_singleton] at h1
            subst h1
            exact ⟨upT t n, by simp, h2, by show min t.lo n ≤ _; omega, by show _ ≤ max t.hi n; omega⟩
        · rw [List.mem_singleton] at hx
          subst hx
          exact ⟨upT y n, by simp, ey, by show min y.lo n ≤ n; omega, by show n ≤ max y.hi n; omega⟩
theorem noteL_len (l : List Tk) (a n : Int) : (noteL l a n).length ≤ l.length + 1 := by
  unfold noteL
  split
  · rw [List.length_append]
    have := List.length_filter_le (kp a) l
    simp
    omega
  · cases h : l.getLast? with
    | none => simp
    | some x =>
      have := List.length_dropLast (xs := l)
      simp only [List.length_append, List.length_singleton]
      omega

/-! ### What the law tells of what was noted -/
/-- What is left of it. -/
def leftN (o : List Nt) : List Nt := o.filter fun x => decide (lastN o - x.1 ≤ 1800)
/-- A window's width, by the law. -/
def widN (win : Int) : Int := if (if win < 0 then 0 else win) > 1800 then 1800 else if win < 0 then 0 else win
/-- Is it within, by the law? -/
def inN (now wd : Int) (x : Nt) : Bool := !(decide (x.1 > now) || (decide (x.1 < now) && decide (now - x.1 ≥ wd)))
/-- The law's round. -/
def stepN (a : Int × Int × Bool) (x : Nt) : Int × Int × Bool := (if a.2.2 = false ∨ x.2 < a.1 then x.2 else a.1, if a.2.2 = false ∨ x.2 > a.2.1 then x.2 else a.2.1, true)
def goN (now wd : Int) (o : List Nt) : Int × Int × Bool := (o.filter (inN now wd)).foldl stepN (0, 0, false)
theorem goN_take (now wd : Int) {o : List Nt} {j : Nat} {x : Nt} (hx : o[j]? = some x) : goN now wd (o.take (j + 1)) = if inN now wd x = true then stepN (goN now wd (o.take j)) x else goN now wd (o.take j) := by
  unfold goN
  rw [List.take_add_one, hx, List.filter_append, List.foldl_append]
  by_cases h : inN now wd x = true
  · rw [if_pos h]; simp [h]
  · rw [if_neg h]; simp [h]
/-- The least and the greatest of some. -/
theorem fold_met : ∀ (l : List Nt) (a : Int × Int × Bool), a.2.2 = true → (l.foldl stepN a).2.2 = true ∧ (((l.foldl stepN a).1 = a.1 ∨ ∃ x ∈ l, (l.foldl stepN a).1 = x.2) ∧ (l.foldl stepN a).1 ≤ a.1 ∧ ∀ x ∈ l, (l.foldl stepN a).1 ≤ x.2) ∧ (((l.foldl stepN a).2.1 = a.2.1 ∨ ∃ x ∈ l, (l.foldl stepN a).2.1 = x.2) ∧ a.2.1 ≤ (l.foldl stepN a).2.1 ∧ ∀ x ∈ l, x.2 ≤ (l.foldl stepN a).2.1)
  | [], a, h => ⟨h, ⟨.inl rfl, Int.le_refl _, fun x hx => by cases hx⟩, ⟨.inl rfl, Int.le_refl _, fun x hx => by cases hx⟩⟩
  | y :: l, a, h => by
    rw [List.foldl_cons]
    obtain ⟨h1, ⟨h2, h3, h4⟩, h5, h6, h7⟩ := fold_met l (stepN a y) rfl
    have s1 : (stepN a y).1 = if y.2 < a.1 then y.2 else a.1 := by unfold stepN; simp [h]
    have s2 : (stepN a y).2.1 = if y.2 > a.2.1 then y.2 else a.2.1 := by unfold stepN; simp [h]
    rw [s1] at h2 h3
    rw [s2] at h5 h6
    generalize l.foldl stepN (stepN a y) = r at *
    refine ⟨h1, ⟨?_, ?_, fun x hx => ?_⟩, ?_, ?_, fun x hx => ?_⟩
    · rcases h2 with h2 | ⟨x, hx, h2⟩
      · split at h2
        · exact .inr ⟨y, by simp, h2⟩
        · exact .inl h2
      · exact .inr ⟨x, by simp [hx], h2⟩
    · split at h3 <;> omega
    · rcases List.mem_cons.1 hx with rfl | hx
      · split at h3 <;> omega
      · exact h4 x hx
    · rcases h5 with h5 | ⟨x, hx, h5⟩
      · split at h5
        · exact .inr ⟨y, by simp, h5⟩
        · exact .inl h5
      · exact .inr ⟨x, by simp [hx], h5⟩
    · split at h6 <;> omega
    · rcases List.mem_cons.1 hx with rfl | hx
      · split at h6 <;> omega
      · exact h7 x hx
theorem goN_tells (now wd : Int) (o : List Nt) : ((goN now wd o).2.2 = false ∧ ∀ x ∈ o, inN now wd x = false) ∨
    ((goN now wd o).2.2 = true ∧ (∃ x ∈ o, inN now wd x = true ∧ (goN now wd o).1 = x.2) ∧ (∀ x ∈ o, inN now wd x = true → (goN now wd o).1 ≤ x.2) ∧ (∃ x ∈ o, inN now wd x = true ∧ (goN now wd o).2.1 = x.2) ∧ ∀ x ∈ o, inN now wd x = true → x.2 ≤ (goN now wd o).2.1) := by
  unfold goN
  have hm : ∀ x, x ∈ o.filter (inN now wd) ↔ x ∈ o ∧ inN now wd x = true := fun x => List.mem_filter
  generalize o.filter (inN now wd) = l at hm
  cases l with
  | nil =>
    refine .inl ⟨rfl, fun x hx => ?_⟩
    cases h : inN now wd x with
    | false => rfl
    | true => exact absurd ((hm x).2 ⟨hx, h⟩) (by simp)
  | cons y l =>
    right
    rw [List.foldl_cons]
    have e : stepN (0, 0, false) y = (y.2, y.2, true) := by unfold stepN; simp
    rw [e]
    obtain ⟨h1, ⟨h2, h3, h4⟩, h5, h6, h7⟩ := fold_met l (y.2, y.2, true) rfl
    refine ⟨h1, ?_, fun x hx hi => ?_, ?_, fun x hx hi => ?_⟩
    · rcases h2 with h2 | ⟨x, hx, h2⟩
      · obtain ⟨a, b⟩ := (hm y).1 (by simp); exact ⟨y, a, b, h2⟩
      · obtain ⟨a, b⟩ := (hm x).1 (by simp [hx]); exact ⟨x, a, b, h2⟩
    · rcases List.mem_cons.1 ((hm x).2 ⟨hx, hi⟩) with rfl | h
      · exact h3
      · exact h4 x h
    · rcases h5 with h5 | ⟨x, hx, h5⟩
      · obtain ⟨a, b⟩ := (hm y).1 (by simp); exact ⟨y, a, b, h5⟩
      · obtain ⟨a, b⟩ := (hm x).1 (by simp [hx]); exact ⟨x, a, b, h5⟩
    · rcases List.mem_cons.1 ((hm x).2 ⟨hx, hi⟩) with rfl | h
      · exact h6
      · exact h7 x h

/-! ### The least and the greatest tick -/
theorem sg_neg (a b : Int) : sgI a b < 0 ↔ a < b := by
  unfold sgI
  split
  · simp [*]
  · split <;> simp [*]
theorem sg_pos (a b : Int) : sgI a b > 0 ↔ b < a := by
  unfold sgI
  split
  · simp; omega
  · split <;> simp [*]
theorem min_tells : ∀ (l : List Tk) (x : Tk), (l.foldl loS x ∈ x :: l) ∧ ∀ y ∈ x :: l, (l.foldl loS x).lo ≤ y.lo
  | [], x => ⟨by simp, fun y hy => by simp at hy; rw [hy]; exact Int.le_refl _⟩
  | z :: l, x => by
    rw [List.foldl_cons]
    obtain ⟨h1, h2⟩ := min_tells l (loS x z)
    have h3 : (loS x z = x ∨ loS x z = z) ∧ (loS x z).lo ≤ x.lo ∧ (loS x z).lo ≤ z.lo := by
      unfold loS
      split
      · rename_i h; have := (sg_neg _ _).1 h; exact ⟨.inr rfl, by omega, by omega⟩
      · rename_i h; have : ¬ z.lo < x.lo := fun q => h ((sg_neg _ _).2 q); exact ⟨.inl rfl, by omega, by omega⟩
    refine ⟨?_, fun y hy => ?_⟩
    · rcases List.mem_cons.1 h1 with h | h
      · rw [h]; rcases h3.1 with e | e <;> rw [e] <;> simp
      · exact List.mem_cons_of_mem _ (List.mem_cons_of_mem _ h)
    · have h0 := h2 (loS x z) (by simp)
      rcases List.mem_cons.1 hy with rfl | hy
      · omega
      · rcases List.mem_cons.1 hy with rfl | hy
        · omega
        · exact h2 y (List.mem_cons_of_mem _ hy)
theorem max_tells : ∀ (l : List Tk) (x : Tk), (l.foldl hiS x ∈ x :: l) ∧ ∀ y ∈ x :: l, y.hi ≤ (l.foldl hiS x).hi
  | [], x => ⟨by simp, fun y hy => by simp at hy; rw [hy]; exact Int.le_refl _⟩
  | z :: l, x => by
    rw [List.foldl_cons]
    obtain ⟨h1, h2⟩ := max_tells l (hiS x z)
    have h3 : (hiS x z = x ∨ hiS x z = z) ∧ x.hi ≤ (hiS x z).hi ∧ z.hi ≤ (hiS x z).hi := by
      unfold hiS
      split
      · rename_i h; have := (sg_pos _ _).1 h; exact ⟨.inr rfl, by omega, by omega⟩
      · rename_i h; have : ¬ x.hi < z.hi := fun q => h ((sg_pos _ _).2 q); exact ⟨.inl rfl, by omega, by omega⟩
    refine ⟨?_, fun y hy => ?_⟩
    · rcases List.mem_cons.1 h1 with h | h
      · rw [h]; rcases h3.1 with e | e <;> rw [e] <;> simp
      · exact List.mem_cons_of_mem _ (List.mem_cons_of_mem _ h)
    · have h0 := h2 (hiS x z) (by simp)
      rcases List.mem_cons.1 hy with rfl | hy
      · omega
      · rcases List.mem_cons.1 hy with rfl | hy
        · omega
        · exact h2 y (List.mem_cons_of_mem _ hy)
theorem in_same {now win : Int} {t : Tk} {x : Nt} (e : t.tm = x.1) : inW now (wid win) t = inN now (widN win) x := by
  have h : widN win = min (max win 0) 1800 := by unfold widN; split <;> split at * <;> omega
  unfold inW inN wid
  rw [h, e]
  by_cases h1 : x.1 > now
  · simp [h1]; omega
  · by_cases h2 : x.1 < now
    · by_cases h3 : now - x.1 ≥ min (max win 0) 1800
      · have h4 : ¬ now - x.1 < min (max win 1) 1800 := by omega
        simp [h1, h2, h3, h4]
      · have h4 : now - x.1 < min (max win 1) 1800 := by omega
        simp [h1, h2, h3, h4]; omega
    · have h4 : now - x.1 < min (max win 1) 1800 := by omega
      simp [h1, h2, h4]; omega
/-- The memory tells what the law tells. -/
theorem Rep.tells {o : List Nt} {l : List Tk} (h : Rep o l) (now win : Int) :
    (anyT l now win = false ∧ (goN now (widN win) (leftN o)).2.2 = false ∧ leV l now win = 0 ∧ grV l now win = 0) ∨
    (anyT l now win = true ∧ (goN now (widN win) (leftN o)).2.2 = true ∧ leV l now win = (goN now (widN win) (leftN o)).1 ∧ grV l now win = (goN now (widN win) (leftN o)).2.1) := by
  have into : ∀ x ∈ leftN o, inN now (widN win) x = true → ∃ t ∈ wtn l now win, t.lo ≤ x.2 ∧ x.2 ≤ t.hi := fun x hx hi => by
    obtain ⟨h1, h2⟩ := List.mem_filter.1 hx
    obtain ⟨t, a, b, c, d⟩ := h.has x h1 (of_decide_eq_true h2)
    exact ⟨t, List.mem_filter.2 ⟨a, by rw [in_same b]; exact hi⟩, c, d⟩
  have out : ∀ t ∈ wtn l now win, (t.tm, t.lo) ∈ leftN o ∧ inN now (widN win) (t.tm, t.lo) = true ∧ (t.tm, t.hi) ∈ leftN o ∧ inN now (widN win) (t.tm, t.hi) = true := fun t ht => by
    obtain ⟨h1, h2⟩ := List.mem_filter.1 ht
    obtain ⟨a, b, c⟩ := h.from_ t h1
    exact ⟨List.mem_filter.2 ⟨b, decide_eq_true a⟩, by rw [← in_same (t := t) rfl]; exact h2, List.mem_filter.2 ⟨c, decide_eq_true a⟩, by rw [← in_same (t := t) rfl]; exact h2⟩
  unfold anyT leV grV
  rcases goN_tells now (widN win) (leftN o) with ⟨g1, g2⟩ | ⟨g1, ⟨x, x1, x2, x3⟩, g3, ⟨y, y1, y2, y3⟩, g5⟩
  · have e : wtn l now win = [] := by
      cases hw : wtn l now win with
      | nil => rfl
      | cons t r =>
        obtain ⟨a, b, _⟩ := out t (by rw [hw]; simp)
        rw [g2 _ a] at b
        cases b
    left
    rw [e]
    exact ⟨rfl, g1, rfl, rfl⟩
  · right
    cases hw : wtn l now win with
    | nil =>
      obtain ⟨t, ht, _⟩ := into x x1 x2
      rw [hw] at ht
      cases ht
    | cons t r =>
      rw [hw] at into out
      obtain ⟨m1, m2⟩ := min_tells r t
      obtain ⟨n1, n2⟩ := max_tells r t
      refine ⟨rfl, g1, ?_, ?_⟩
      · show (r.foldl loS t).lo = _
        obtain ⟨a, b, _⟩ := out _ m1
        have := g3 _ a b
        obtain ⟨t2, c, d, _⟩ := into x x1 x2
        have := m2 t2 c
        simp only at *
        omega
      · show (r.foldl hiS t).hi = _
        obtain ⟨_, _, a, b⟩ := out _ n1
        have := g5 _ a b
        obtain ⟨t2, c, _, d⟩ := into y y1 y2
        have := n2 t2 c
        simp only at *
        omega
end Go.Proofs.Ytcejaeeliedldaa.Wn
