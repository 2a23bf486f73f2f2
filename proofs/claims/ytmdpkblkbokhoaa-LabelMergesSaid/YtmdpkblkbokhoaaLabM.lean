/- Rows of labels that the call owns: appended to, read, sorted. -/
import Derived.Test.YtmdpkblkbokhoaaStG
import Derived.Maps.AppendAt
import Derived.Laws.AppendOwnNone
import Derived.Lib.SliceRun
import Derived.Lib.SmallJoins
namespace Go.Proofs.Ytmdpkblkbokhoaa
open Go.Shelf Go.RowKit Go.Lib Go.Sort
set_option linter.unusedVariables false

/-- The cells of a row of labels. -/
def cellsL : List Lab → List Value
  | [] => []
  | x :: l => .string x.1 :: .string x.2 :: cellsL l
theorem cellsL_len : ∀ l : List Lab, (cellsL l).length = l.length * 2
  | [] => rfl
  | x :: l => by rw [cellsL, List.length_cons, List.length_cons, cellsL_len l, List.length_cons]; omega
theorem cellsL_app : ∀ l m : List Lab, cellsL (l ++ m) = cellsL l ++ cellsL m
  | [], m => rfl
  | x :: l, m => by simp [cellsL, cellsL_app l m]
theorem cellsL_one : ∀ (l : List Lab) (v : Value), v ∈ cellsL l → v.oneCell' = true
  | [], v, h => by simp [cellsL] at h
  | x :: l, v, h => by
    simp only [cellsL, List.mem_cons] at h
    rcases h with rfl | rfl | h
    · rfl
    · rfl
    · exact cellsL_one l v h
theorem cellsL_fst : ∀ (l : List Lab) (j : Nat) (x : Lab), l[j]? = some x → (cellsL l)[j * 2]? = some (.string x.1) ∧ (cellsL l)[j * 2 + 1]? = some (.string x.2)
  | [], j, x, h => by simp at h
  | y :: l, 0, x, h => by
    simp at h
    subst h
    exact ⟨rfl, rfl⟩
  | y :: l, j + 1, x, h => by
    have := cellsL_fst l j x (by simpa using h)
    have e1 : (j + 1) * 2 = j * 2 + 1 + 1 := by omega
    rw [e1]
    simpa [cellsL] using this
theorem cellsL_get : ∀ (l : List Lab) (t : Nat) (u : Value), (cellsL l)[t]? = some u → ∃ (j : Nat) (x : Lab), l[j]? = some x ∧ ((t = j * 2 ∧ u = .string x.1) ∨ (t = j * 2 + 1 ∧ u = .string x.2))
  | [], t, u, h => by simp [cellsL] at h
  | y :: l, 0, u, h => by
    simp [cellsL] at h
    exact ⟨0, y, rfl, .inl ⟨rfl, h.symm⟩⟩
  | y :: l, 1, u, h => by
    simp [cellsL] at h
    exact ⟨0, y, rfl, .inr ⟨rfl, h.symm⟩⟩
  | y :: l, t + 2, u, h => by
    obtain ⟨j, x, hx, hc⟩ := cellsL_get l t u (by simpa [cellsL] using h)
    refine ⟨j + 1, x, by simpa using hx, ?_⟩
    rcases hc with ⟨h1, h2⟩ | ⟨h1, h2⟩
    · exact .inl ⟨by omega, h2⟩
    · exact .inr ⟨by omega, h2⟩
theorem flat_cells : ∀ l : List Lab, flatK encL 2 l.toArray = (cellsL l).toArray := by
  intro l
  refine ext_get! (by simp [cellsL_len]) fun t ht => ?_
  have ht' : t < l.toArray.size * 2 := by simpa using ht
  rw [get_flatK _ _ _ t ht']
  have hlt : t < (cellsL l).length := by rw [cellsL_len]; simpa using ht'
  obtain ⟨j, x, hx, hc⟩ := cellsL_get l t _ (List.getElem?_eq_getElem hlt)
  have hj := (List.getElem?_eq_some_iff.1 hx)
  have e1 : (cellsL l).toArray[t]! = (cellsL l)[t] := by rw [getElem!_pos _ _ (by simpa using hlt)]; simp
  rw [e1]
  have e2 : l.toArray[j]! = x := by rw [getElem!_pos _ _ (by simpa using hj.1)]; simpa using hj.2
  rcases hc with ⟨h1, h2⟩ | ⟨h1, h2⟩
  · have h3 : t / 2 = j := by omega
    have h4 : t % 2 = 0 := by omega
    rw [h3, h4, e2, h2]
    rfl
  · have h3 : t / 2 = j := by omega
    have h4 : t % 2 = 1 := by omega
    rw [h3, h4, e2, h2]
    rfl

/-- The call owns the slice 'v', which reads as 'l'. -/
def OwnL (w : World) (base : Nat) (v : Value) (l : List Lab) : Prop := w.ownsRow base 33 2 v l.length (cellsL l)
theorem OwnL.nil (w : World) (base : Nat) : OwnL w base (.slice none 0 0) [] := ⟨rfl, .inl ⟨rfl, rfl⟩⟩
/-- How an owned row lies. -/
theorem OwnL.lies {w : World} {base : Nat} {v : Value} {l : List Lab} (h : OwnL w base v l) :
    (v = .slice none 0 0 ∧ l = []) ∨ ∃ g c, v = .slice (some ⟨g, 0, none⟩) l.length c ∧ base ≤ g ∧ g < w.heap.size ∧ l.length ≤ c ∧ HoldsK encL 2 w g 0 l.toArray ∧ Labs w (some ⟨g, 0, none⟩) l := by
  obtain ⟨h0, h⟩ := h
  rcases h with ⟨rfl, h1⟩ | ⟨g, c, cur, rfl, hb, hg, hc, hm, hsz, htk⟩
  · exact .inl ⟨rfl, List.eq_nil_of_length_eq_zero h1⟩
  · refine .inr ⟨g, c, rfl, hb, (Array.getElem?_eq_some_iff.1 hg).1, hc, ?_, ?_⟩
    · unfold HoldsK
      rw [flat_cells]
      intro t ht
      have ht' : t < (cellsL l).length := by simpa using ht
      have e : cur.toList[t]? = some (cellsL l)[t] := by
        have h2 : (cur.toList.take (l.length * 2))[t]? = some (cellsL l)[t] := by rw [htk, List.getElem?_eq_getElem ht']
        rw [List.getElem?_take_of_lt (by rw [← cellsL_len]; exact ht')] at h2
        exact h2
      refine ⟨?_, by simp [World.frozen?, hg]⟩
      rw [Nat.zero_add, getElem!_pos _ _ (by simpa using ht')]
      simp only [World.cell?, hg, Option.isSome_none, Bool.false_eq_true, if_false]
      rw [← Array.getElem?_toList, e]
      simp
    · intro j x hx
      have hlt : ∀ t u, (cellsL l)[t]? = some u → w.cell? ⟨g, 0 + t, none⟩ = some u := by
        intro t u hu
        have ht' : t < l.length * 2 := by rw [← cellsL_len]; exact (List.getElem?_eq_some_iff.1 hu).1
        have h2 : (cur.toList.take (l.length * 2))[t]? = some u := by rw [htk]; exact hu
        rw [List.getElem?_take_of_lt ht'] at h2
        rw [Nat.zero_add]
        simp only [World.cell?, hg, Option.isSome_none, Bool.false_eq_true, if_false]
        rw [← Array.getElem?_toList]
        exact h2
      obtain ⟨c1, c2⟩ := cellsL_fst l j x hx
      exact ⟨g, 0, rfl, (Array.getElem?_eq_some_iff.1 hg).1, hlt _ _ c1, hlt _ _ c2⟩
theorem OwnL.kept {w w' : World} {base : Nat} {v : Value} {l : List Lab} (h : OwnL w base v l) (hb : Below w.heap.size w w') : OwnL w' base v l :=
  World.ownsRow.kept (row := none) h ⟨hb.os, hb.tape, hb.output, hb.size, fun i hi _ => hb.block i hi⟩ (by cases hv : v.ownBlock <;> simp)
theorem OwnL.below_of {w : World} {base : Nat} {v : Value} {l : List Lab} (h : OwnL w base v l) : ∀ k, v.ownBlock = some k → base ≤ k := fun k hk => (World.ownsRow.lt h k hk).1

theorem info_label : (Try.prog.info? 33).map (fun i => (i.zero, i.size, i.bytes)) = some (some (.agg #[.string ByteArray.empty, .string ByteArray.empty]), 2, 32) := by kernel_rfl
theorem info_label_parts : ∃ i : TypeInfo, Try.prog.info? 33 = some i ∧ i.zero = some (.agg #[.string ByteArray.empty, .string ByteArray.empty]) ∧ i.size = 2 ∧ i.bytes = 32 := by
  have h := info_label
  cases hi : Try.prog.info? 33 with
  | none => rw [hi] at h; cases h
  | some i =>
    rw [hi] at h
    simp only [Option.map_some, Option.some.injEq, Prod.mk.injEq] at h
    exact ⟨i, rfl, h.1, h.2.1, h.2.2⟩

/-- 'append(v, src...)' onto a row of the call's own. -/
theorem wpList_append_labs {w : World} {ops : Array Oper} {rest : List Oper} {o : Oper} {a : Act} {Q : Exit → Act → World → Prop} (hgd : o.guard = none) (s x : Operand)
    (ho : o.op = .call { callee := .builtin .append, args := #[s, x], argTypes := #[22, 22] })
    (base : Nat) (v : Value) (l : List Lab) (hs : a.eval s = v) (hown : OwnL w base v l)
    (q : Option Addr) (c : Nat) (m : List Lab) (hx : a.eval x = .slice q m.length c) (hr : Labs w q m) (hq : q = none → c = 0 ∧ m = []) (hlen : l.length + m.length ≤ 1000000) (hbase : base ≤ w.heap.size)
    (h : ∀ v' w', OwnL w' base v' (l ++ m) → Below base w w' → wpList Try.prog ops Q rest (a.put o.dst v') w') :
    wpList Try.prog ops Q (o :: rest) a w := by
  obtain ⟨i, hi, hz0, hz1, hz2⟩ := info_label_parts
  cases q with
  | none =>
    obtain ⟨rfl, rfl⟩ := hq rfl
    refine wpList_append_own_none hgd s x _ ho base 33 i 2 Try.underlying22 hi v l.length (cellsL l) hs hown hx ?_
    exact h v w (by simpa using hown) (Below.refl _ _)
  | some ad =>
    have hnews : ∀ j u, (cellsL m)[j]? = some u → w.cell? (ad.add j) = some u := by
      intro j u hu
      obtain ⟨t, y, hy, hc⟩ := cellsL_get m j u hu
      obtain ⟨b, off, e, h1, h2, h3⟩ := hr t y hy
      injection e with e
      subst e
      have ea : (⟨b, off, none⟩ : Addr).add j = ⟨b, off + j, none⟩ := by unfold Addr.add; split <;> simp_all
      rw [ea]
      rcases hc with ⟨rfl, rfl⟩ | ⟨rfl, rfl⟩
      · exact h2
      · rw [← Nat.add_assoc]; exact h3
    refine wpList_append_own_at w hgd s x _ ho base 33 i (.agg #[.string ByteArray.empty, .string ByteArray.empty]) 2 32 Try.underlying22 hi hz0 hz1 hz2 rfl (by decide) v l.length (cellsL l) hs hown ad m.length c (cellsL m) hx
      (cellsL_len m) hnews (cellsL_one m) (by unfold maxLen; omega) (by omega) hbase ?_
    intro v' w' h1 h2 h3 h4
    refine h v' w' ?_ ?_
    · unfold OwnL
      rw [cellsL_app, List.length_append]
      exact h1
    · exact (Below.refl base w).grown h2 hbase (OwnL.below_of hown)

theorem below_sort {w W : World} {B g off : Nat} {d : Array Lab} (hB : B ≤ g) (hw : B ≤ w.heap.size) (h : SWK encL 2 w g off d W) : Below B w W := by
  obtain ⟨n, os, rfl⟩ := h
  refine ⟨rfl, rfl, rfl, by simp [sortWorldK, putRowK, putRow, mapBlock, Sort.ahead], fun k hk => ?_⟩
  unfold sortWorldK
  rw [heap_grow_old _ _ (by simp [putRowK, putRow, mapBlock, Sort.ahead]; omega)]
  have : g ≠ k := by omega
  simp [putRowK, putRow, mapBlock, Sort.ahead, Array.getElem?_modify, this]
/-- A row in a world of the sort's, as labels. -/
theorem labs_sort {w W : World} {g off : Nat} {l s : List Lab} (hH : HoldsK encL 2 w g off l.toArray) (hg : g < w.heap.size) (hs : s.length = l.length) (h : SWK encL 2 w g off s.toArray W) : Labs W (some ⟨g, off, none⟩) s := by
  have H := h.holds hg hH (by simpa using hs)
  intro j x hx
  have hj := List.getElem?_eq_some_iff.1 hx
  have e : s.toArray[j]! = x := by rw [getElem!_pos _ _ (by simpa using hj.1)]; simpa using hj.2
  have c0 := HoldsK.cell H (i := j) (by simpa using hj.1) (c := 0) (by decide)
  have c1 := HoldsK.cell H (i := j) (by simpa using hj.1) (c := 1) (by decide)
  rw [e] at c0 c1
  exact ⟨g, off, rfl, h.lt hg, c0.1, c1.1⟩
end Go.Proofs.Ytmdpkblkbokhoaa
