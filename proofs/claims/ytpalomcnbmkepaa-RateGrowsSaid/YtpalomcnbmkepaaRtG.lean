/- Layer 12: a row of samples of the call's own, that is appended to; the law's row. -/
import Derived.Test.YtpalomcnbmkepaaRtL
import Derived.Maps.AppendAt
import Derived.Laws.AppendOwn
namespace Go.Proofs.Ytpalomcnbmkepaa.Rt
open Go.RowKit Go.Lib
open Go.Joins (cell_of_block unfrozen_of_block block_setCell)
set_option linter.unusedVariables false
set_option linter.unusedSimpArgs false
set_option maxRecDepth 20000

def fl (l : List Sam) : List Value := l.flatMap (fun x => [.int .i64 x.1, .int .i64 x.2])
theorem fl_snoc (l : List Sam) (x : Sam) : fl (l ++ [x]) = fl l ++ [.int .i64 x.1, .int .i64 x.2] := by unfold fl; rw [List.flatMap_append]; rfl
theorem fl_len : ∀ l : List Sam, (fl l).length = l.length * 2
  | [] => rfl
  | x :: l => by
    have := fl_len l
    unfold fl at this ⊢
    rw [List.flatMap_cons, List.length_append, this]
    simp
    omega
theorem fl_at : ∀ (l : List Sam) (i : Nat) (x : Sam), l[i]? = some x → (fl l)[i * 2]? = some (.int .i64 x.1) ∧ (fl l)[i * 2 + 1]? = some (.int .i64 x.2)
  | [], i, x, h => by simp at h
  | y :: l, 0, x, h => by
    simp at h
    subst h
    exact ⟨rfl, rfl⟩
  | y :: l, i + 1, x, h => by
    have := fl_at l i x (by simpa using h)
    have e : (i + 1) * 2 = i * 2 + 1 + 1 := by omega
    unfold fl at this ⊢
    rw [List.flatMap_cons, e]
    exact ⟨by simpa using this.1, by simpa using this.2⟩
/-- The call owns the slice, which reads as 'l'. -/
def OwnSm (w : World) (base : Nat) (v : Value) (l : List Sam) : Prop := w.ownsRow base TSQ 2 v l.length (fl l)
theorem OwnSm.lies {w : World} {base : Nat} {v : Value} {l : List Sam} (h : OwnSm w base v l) (hn : 0 < l.length) (hf : ∀ (i : Nat) (x : Sam), l[i]? = some x → Fits64 x.1 ∧ Fits64 x.2) :
    ∃ g c, v = .slice (some ⟨g, 0, none⟩) l.length c ∧ base ≤ g ∧ g < w.heap.size ∧ RowS w (some ⟨g, 0, none⟩) l := by
  obtain ⟨_, h⟩ := h
  rcases h with ⟨_, h1⟩ | ⟨g, c, cur, rfl, hb, hg, hc, hm, hsz, htk⟩
  · omega
  · have hlt : ∀ t u, (fl l)[t]? = some u → w.cell? ⟨g, t, none⟩ = some u := by
      intro t u hu
      have ht : t < l.length * 2 := by rw [← fl_len]; exact (List.getElem?_eq_some_iff.1 hu).1
      rw [cell_of_block hg, ← Array.getElem?_toList, ← List.getElem?_take_of_lt ht, htk]
      exact hu
    refine ⟨g, c, rfl, hb, (Array.getElem?_eq_some_iff.1 hg).1, fun i x hx => ⟨hf i x hx, g, 0, rfl, (Array.getElem?_eq_some_iff.1 hg).1, ?_, ?_⟩⟩
    · rw [Nat.zero_add]; exact hlt _ _ (fl_at l i x hx).1
    · rw [Nat.zero_add]; exact hlt _ _ (fl_at l i x hx).2
theorem OwnSm.one (w : World) (base : Nat) (hb : base ≤ w.heap.size) (x : Sam) : OwnSm (w.alloc (.cells #[.int .i64 x.1, .int .i64 x.2] TSQ)) base (.slice (some ⟨w.heap.size, 0, none⟩) 1 1) [x] :=
  ⟨rfl, .inr ⟨w.heap.size, 1, #[.int .i64 x.1, .int .i64 x.2], rfl, hb, heap_alloc_new w _, Nat.le_refl _, by unfold maxLen; omega, rfl, rfl⟩⟩
theorem OwnSm.alloc {w : World} {base : Nat} {v : Value} {l : List Sam} (h : OwnSm w base v l) (o : Obj) : OwnSm (w.alloc o) base v l := World.ownsRow.alloc h o
theorem OwnSm.below_of {w : World} {base : Nat} {v : Value} {l : List Sam} (h : OwnSm w base v l) : ∀ k, v.ownBlock = some k → base ≤ k := fun k hk => (World.ownsRow.lt h k hk).1
theorem info_sam : (Try.prog.info? TSQ).map (fun i => (i.zero, i.size, i.bytes)) = some (some (.agg #[.int .i64 0, .int .i64 0]), 2, 16) := by kernel_rfl
theorem info_sam_parts : ∃ i : TypeInfo, Try.prog.info? TSQ = some i ∧ i.zero = some (.agg #[.int .i64 0, .int .i64 0]) ∧ i.size = 2 ∧ i.bytes = 16 := by
  have h := info_sam
  cases hi : Try.prog.info? TSQ with
  | none => rw [hi] at h; cases h
  | some i =>
    rw [hi] at h
    simp only [Option.map_some, Option.some.injEq, Prod.mk.injEq] at h
    exact ⟨i, rfl, h.1, h.2.1, h.2.2⟩
/-- 'append(v, x)' onto a row of the call's own. -/
theorem wpList_append_sam {w : World} {ops : Array Oper} {rest : List Oper} {o : Oper} {a : Act} {Q : Exit → Act → World → Prop} (hgd : o.guard = none) (s x : Operand)
    (ho : o.op = .call { callee := .builtin .append, args := #[s, x], argTypes := #[22, 22] })
    (base : Nat) (v : Value) (l : List Sam) (hs : a.eval s = v) (hown : OwnSm w base v l) (b c : Nat) (y : Sam) (hx : a.eval x = .slice (some ⟨b, 0, none⟩) 1 c)
    (h0 : w.cell? ⟨b, 0, none⟩ = some (.int .i64 y.1)) (h1 : w.cell? ⟨b, 1, none⟩ = some (.int .i64 y.2)) (hlen : l.length ≤ 1000000) (hbase : base ≤ w.heap.size)
    (h : ∀ v' w', OwnSm w' base v' (l ++ [y]) → Below base w w' → wpList Try.prog ops Q rest (a.put o.dst v') w') :
    wpList Try.prog ops Q (o :: rest) a w := by
  obtain ⟨i, hi, hz0, hz1, hz2⟩ := info_sam_parts
  refine wpList_append_own_at w hgd s x _ ho base TSQ i (.agg #[.int .i64 0, .int .i64 0]) 2 16 Try.underlying22 hi hz0 hz1 hz2 rfl (by decide) v l.length (fl l) hs hown ⟨b, 0, none⟩ 1 c [.int .i64 y.1, .int .i64 y.2] hx
    rfl ?_ ?_ (by unfold maxLen; omega) (by omega) hbase ?_
  · intro j u hu
    match j, hu with
    | 0, hu => cases hu; exact h0
    | 1, hu => cases hu; exact h1
    | j + 2, hu => simp at hu
  · intro u hu
    simp at hu
    rcases hu with rfl | rfl <;> rfl
  · intro v' w' g1 g2 g3 g4
    refine h v' w' ?_ ?_
    · unfold OwnSm
      rw [fl_snoc, List.length_append]
      exact g1
    · exact (Below.refl base w).grown g2 hbase (OwnSm.below_of hown)

/-! ### The law's row -/
def tot (D : List Int) (i : Nat) : Int := (D.take i).sum
theorem tot_more {D : List Int} {k : Nat} {x : Int} (h : D[k]? = some x) : tot D (k + 1) = tot D k + x := by
  unfold tot
  rw [List.take_add_one, h, List.sum_append]
  simp
theorem tot_zero (D : List Int) : tot D 0 = 0 := rfl
/-- The row behind so many turns. -/
def gr (F : Int) (D : List Int) (k : Nat) : List Sam := (List.range (k + 1)).map fun (i : Nat) => ((i : Int) + 1, F + tot D i)
theorem gr_len (F : Int) (D : List Int) (k : Nat) : (gr F D k).length = k + 1 := by simp [gr]
theorem gr_zero (F : Int) (D : List Int) : gr F D 0 = [(1, F)] := by simp [gr, tot]
theorem gr_more (F : Int) (D : List Int) (k : Nat) : gr F D (k + 1) = gr F D k ++ [((k : Int) + 2, F + tot D (k + 1))] := by
  unfold gr
  rw [List.range_succ, List.map_append]
  simp
  omega
theorem gr_at (F : Int) (D : List Int) {k i : Nat} (h : i ≤ k) : (gr F D k)[i]? = some ((i : Int) + 1, F + tot D i) := by
  unfold gr
  rw [List.getElem?_map, List.getElem?_range (by omega)]
  rfl
theorem gr_out (F : Int) (D : List Int) {k i : Nat} {x : Sam} (h : (gr F D k)[i]? = some x) : i ≤ k ∧ x = ((i : Int) + 1, F + tot D i) := by
  have hi : i ≤ k := by have := (List.getElem?_eq_some_iff.1 h).1; rw [gr_len] at this; omega
  rw [gr_at F D hi] at h
  cases h
  exact ⟨hi, rfl⟩
/-- Small steps. -/
def Small (D : List Int) : Prop := ∀ (i : Nat) x, D[i]? = some x → 0 ≤ x ∧ x < 65536
theorem tot_rng {D : List Int} (h : Small D) : ∀ k, 0 ≤ tot D k ∧ tot D k ≤ 65536 * (k : Int)
  | 0 => ⟨Int.le_refl _, Int.le_refl _⟩
  | k + 1 => by
    have ih := tot_rng h k
    by_cases hk : k < D.length
    · have hx : D[k]? = some D[k] := List.getElem?_eq_getElem hk
      have := h k _ hx
      rw [tot_more hx]
      push_cast
      omega
    · have e : tot D (k + 1) = tot D k := by unfold tot; rw [List.take_of_length_le (by omega), List.take_of_length_le (by omega)]
      rw [e]
      push_cast
      omega
theorem gr_good {F : Int} {D : List Int} {k : Nat} (h : Small D) (hF : 0 ≤ F) (hF1 : F < 4294967296) (hk : k ≤ 100) : Good (gr F D k) := by
  refine ⟨fun i x hx => ?_, fun i x y hx hy => ?_⟩
  · obtain ⟨hi, rfl⟩ := gr_out F D hx
    have := tot_rng h i
    constructor
    · show 0 ≤ F + tot D i; omega
    · show F + tot D i ≤ _; omega
  · obtain ⟨hi, rfl⟩ := gr_out F D hx
    obtain ⟨hi, rfl⟩ := gr_out F D hy
    show (i : Int) + 1 < ((i + 1 : Nat) : Int) + 1
    omega
theorem gr_fits {F : Int} {D : List Int} {k : Nat} (h : Small D) (hF : 0 ≤ F) (hF1 : F < 4294967296) (hk : k ≤ 100) : ∀ (i : Nat) (x : Sam), (gr F D k)[i]? = some x → Fits64 x.1 ∧ Fits64 x.2 := fun i x hx => by
  obtain ⟨hi, rfl⟩ := gr_out F D hx
  have := tot_rng h i
  exact ⟨⟨by show _ ≤ (i : Int) + 1; omega, by show (i : Int) + 1 ≤ _; omega⟩, ⟨by show _ ≤ F + tot D i; omega, by show F + tot D i ≤ _; omega⟩⟩
theorem tot_step {D : List Int} (h : Small D) (k : Nat) : tot D k ≤ tot D (k + 1) := by
  by_cases hk : k < D.length
  · have hx : D[k]? = some D[k] := List.getElem?_eq_getElem hk
    have := h k _ hx
    rw [tot_more hx]
    omega
  · have e : tot D (k + 1) = tot D k := by unfold tot; rw [List.take_of_length_le (by omega), List.take_of_length_le (by omega)]
    rw [e]
    exact Int.le_refl _
theorem gr_inc {F : Int} {D : List Int} {n : Nat} (h : Small D) : ∀ k, k ≤ n → inc (gr F D n) k = tot D k ∧ fal (gr F D n) k = 0
  | 0, _ => ⟨rfl, rfl⟩
  | k + 1, hk => by
    have ih := gr_inc (F := F) (n := n) h k (by omega)
    have hx := gr_at F D (k := n) (i := k) (by omega)
    have hy := gr_at F D (k := n) (i := k + 1) hk
    have hs := tot_step h k
    rw [inc_more hx hy, fal_more hx hy, ih.1, ih.2]
    have hlt : ¬ F + tot D (k + 1) < F + tot D k := by omega
    constructor
    · show tot D k + stp (F + tot D k) (F + tot D (k + 1)) = _
      rw [stp_up hlt]
      omega
    · show (0 : Int) + (if F + tot D (k + 1) < F + tot D k then 1 else 0) = 0
      rw [if_neg hlt]
      rfl
end Go.Proofs.Ytpalomcnbmkepaa.Rt
