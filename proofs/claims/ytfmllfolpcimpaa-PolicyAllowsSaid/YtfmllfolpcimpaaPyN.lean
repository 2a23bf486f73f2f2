/- Layer 22 (policy): whoever goes again and again at one tick by one policy of pods: the model. -/
import Derived.Test.YtfmllfolpcimpaaPyM
namespace Go.Proofs.Ytfmllfolpcimpaa.Py
open Go.RowKit Go.Shelf Go.Lib Go.Sort Go.Deep
open Go.Proofs.Ytfmllfolpcimpaa.Ow
set_option linter.unusedVariables false
set_option linter.unusedSimpArgs false
set_option maxRecDepth 20000

/-- What was done of late at one tick, from so many on, by a policy of V pods within a period of P: n are there now; U were added, D taken away. -/
structure Alw (now V P there : Int) (L : List Sca) (n U D : Int) : Prop where
  all : ∀ x ∈ L, x.1 = now
  up : ∀ m, 0 ≤ m → m ≤ 1000000 → L.foldl (stepS now P true) m = max (m - U) 0
  dn : ∀ m, 0 ≤ m → m ≤ 1000000 → L.foldl (stepS now P false) m = min (m + D) 1000000
  u0 : 0 ≤ U
  d0 : 0 ≤ D
  eq : n = there + U - D
  n0 : 0 ≤ n
  n1 : n ≤ 1000000
  lo : there - V ≤ n
  hi : n ≤ there + V
theorem sin_now {now P : Int} (h : 1 ≤ P) : sinB now now P = true := by unfold sinB; rw [decide_eq_true h, decide_eq_true (by omega)]; rfl
theorem Alw.nil {now V P there : Int} (h0 : 0 ≤ there) (h1 : there ≤ 1000) (hV : 0 ≤ V) : Alw now V P there [] there 0 0 :=
  ⟨by simp, fun m h1 h2 => by show m = _; omega, fun m h1 h2 => by show m = _; omega, Int.le_refl _, Int.le_refl _, by omega, h0, by omega, by omega, by omega⟩
/-- How far one may go. -/
theorem GoS_one {now V P there : Int} {L : List Sca} {n U D : Int} (h : Alw now V P there L n U D) (hV0 : 0 ≤ V) (hV1 : V ≤ 1000000) (h0 : 0 ≤ there) (h1 : there ≤ 1000) (t : Int) :
    ∃ lu ld, GoS 0 [(false, V, P)] 0 [(false, V, P)] L now n t = goW n (cnt t) lu ld ∧ lu ≤ there + V ∧ there - V ≤ ld := by
  have hn := cnt_id h.n0 h.n1
  have eV : cnt V = V := cnt_id hV0 hV1
  have e1 : startS now P n true L = max (n - U) 0 := by unfold startS; rw [hn]; exact h.up n h.n0 h.n1
  have e2 : startS now P n false L = min (n + D) 1000000 := by unfold startS; rw [hn]; exact h.dn n h.n0 h.n1
  have hq := h.eq
  have hu := h.u0
  have hd := h.d0
  have b1 : ∀ s, byS (false, V, P) s = V := fun s => by unfold byS; rw [if_neg Bool.false_ne_true]; exact eV
  refine ⟨cnt (max (n - U) 0 + V), cnt (min (n + D) 1000000 - V), ?_, ?_, ?_⟩
  · unfold GoS
    rw [hn]
    congr 1
    · unfold LimS limsS
      rw [if_pos ⟨.inl rfl, by simp⟩, if_pos (by decide)]
      show maxZ [limS (false, V, P) (startS now P n true L) true] = _
      rw [e1]
      show limS (false, V, P) _ true = _
      unfold limS
      rw [if_pos rfl, b1]
    · unfold LimS limsS
      rw [if_pos ⟨.inl rfl, by simp⟩, if_neg (by decide)]
      show minZ [limS (false, V, P) (startS now P n false L) false] = _
      rw [e2]
      show limS (false, V, P) _ false = _
      unfold limS
      rw [if_neg (by decide), b1]
  · unfold cnt; omega
  · unfold cnt; omega
/-- One goes on. -/
theorem Alw.next {now V P there : Int} {L : List Sca} {n U D : Int} (h : Alw now V P there L n U D) (hP : 1 ≤ P) (hV0 : 0 ≤ V) (hV1 : V ≤ 1000000) (h0 : 0 ≤ there) (h1 : there ≤ 1000) (t : Int) :
    ∃ U' D', Alw now V P there (L ++ [(now, n, GoS 0 [(false, V, P)] 0 [(false, V, P)] L now n t)]) (GoS 0 [(false, V, P)] 0 [(false, V, P)] L now n t) U' D' := by
  obtain ⟨lu, ld, e, b1, b2⟩ := GoS_one h hV0 hV1 h0 h1 t
  rw [e]
  obtain ⟨g, hg⟩ : ∃ g, g = cnt t := ⟨_, rfl⟩
  have rg := cnt_range t
  rw [← hg] at rg ⊢
  obtain ⟨y, hy⟩ : ∃ y, y = goW n g lu ld := ⟨_, rfl⟩
  rw [← hy]
  unfold goW at hy
  have n0 := h.n0
  have n1 := h.n1
  have lo := h.lo
  have hi := h.hi
  have hq := h.eq
  have y0 : 0 ≤ y ∧ y ≤ 1000000 := by rw [hy]; split <;> omega
  have yr : there - V ≤ y ∧ y ≤ there + V := by rw [hy]; split <;> omega
  have cn := cnt_id n0 n1
  have cy := cnt_id y0.1 y0.2
  have u0 := h.u0
  have d0 := h.d0
  refine ⟨U + max (y - n) 0, D + max (n - y) 0, ?_, ?_, ?_, ?_, ?_, ?_, y0.1, y0.2, yr.1, yr.2⟩
  · intro x hx
    rcases List.mem_append.1 hx with hx | hx
    · exact h.all x hx
    · simp at hx
      rw [hx]
  · intro m h2 h3
    rw [List.foldl_append, h.up m h2 h3]
    show stepS now P true _ (now, n, y) = _
    unfold stepS
    rw [sin_now hP]
    show (if _ ∧ decide (cnt y - cnt n > 0) = true then cnt (_ - (cnt y - cnt n)) else _) = _
    rw [cn, cy]
    by_cases hh : y - n > 0
    · rw [if_pos ⟨rfl, decide_eq_true hh⟩]; unfold cnt; omega
    · rw [if_neg (fun q => hh (of_decide_eq_true q.2))]; omega
  · intro m h2 h3
    rw [List.foldl_append, h.dn m h2 h3]
    show stepS now P false _ (now, n, y) = _
    unfold stepS
    rw [sin_now hP]
    show (if _ ∧ decide (cnt y - cnt n > 0) = false then cnt (_ - (cnt y - cnt n)) else _) = _
    rw [cn, cy]
    by_cases hh : y - n > 0
    · rw [if_neg (fun q => of_decide_eq_false q.2 hh)]; omega
    · rw [if_pos ⟨rfl, decide_eq_false hh⟩]; unfold cnt; omega
  · omega
  · omega
  · omega
end Go.Proofs.Ytfmllfolpcimpaa.Py
