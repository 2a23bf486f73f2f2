/- One thing of a row of a call's own is written anew, for whatever layer. -/
import Derived.Test.YtfmllfolpcimpaaObSub
namespace Go.Proofs.Ytfmllfolpcimpaa.Ow
open Go.RowKit Go.Shelf Go.Lib Go.Sort Go.Deep
open Go.Joins (cell_of_block unfrozen_of_block block_setCell)
set_option linter.unusedVariables false
set_option linter.unusedSimpArgs false
set_option maxRecDepth 20000

theorem setAt_beside : ∀ (vs : List Value) (L : Array Value) (i j : Nat), (j < i ∨ i + vs.length ≤ j) → (setAt L i vs)[j]? = L[j]?
  | [], L, i, j, h => rfl
  | v :: r, L, i, j, h => by
    simp only [List.length_cons] at h
    rw [setAt, setAt_beside r _ (i + 1) j (by omega), Array.getElem?_setIfInBounds_ne (by omega)]
/-- One thing of a row of the call's own is written anew. -/
theorem set_own {α : Type} {enc : α → List Value} {k base : Nat} {E : TypeId} (hk : ∀ x, (enc x).length = k) {w : World} {v : Value} {l : List α} (h : w.ownsRow base E k v l.length (flat enc l)) {p : Nat} (hp : p < l.length) (x : α) :
    ∃ g c, v = .slice (some ⟨g, 0, none⟩) l.length c ∧ base ≤ g ∧ g < w.heap.size ∧ (w.setCells g (p * k) (enc x)).ownsRow base E k v l.length (flat enc (l.set p x)) ∧ w.there g (p * k) k := by
  obtain ⟨h0, h⟩ := h
  rcases h with ⟨_, h⟩ | ⟨g, cap, cur, rfl, hb, hg, hn, hm, hc, ht⟩
  · omega
  · have hpk : p * k + k ≤ l.length * k := by rw [← Nat.succ_mul]; exact Nat.mul_le_mul_right _ hp
    have hlk : l.length * k ≤ cap * k := Nat.mul_le_mul_right _ hn
    refine ⟨g, cap, rfl, hb, (Array.getElem?_eq_some_iff.1 hg).1, ⟨by rw [flat_length hk, List.length_set], .inr ⟨g, cap, setAt cur (p * k) (enc x), rfl, hb, setCells_block _ _ _ _ _ _ _ hg, hn, hm, by rw [setAt_size, hc], ?_⟩⟩, fun t htk => ⟨?_, unfrozen_of_block hg _⟩⟩
    · apply List.ext_getElem?
      intro j
      rw [List.getElem?_take]
      split
      · rename_i hj
        rw [Array.getElem?_toList]
        have hk0 : 0 < k := by
          rcases Nat.eq_zero_or_pos k with e | e
          · subst e; omega
          · exact e
        have hi : j / k < l.length := Nat.div_lt_of_lt_mul (by rw [Nat.mul_comm]; exact hj)
        have hr : j % k < k := Nat.mod_lt _ hk0
        have ej : j = j / k * k + j % k := by rw [Nat.mul_comm]; exact (Nat.div_add_mod j k).symm
        by_cases e : j / k = p
        · rw [e] at ej
          have := flat_at hk (l.set p x) p (j % k) x (List.getElem?_set_self hp) hr
          rw [ej, this, setAt_get _ _ _ _ (by rw [hk]; exact hr) (by rw [hk]; omega)]
        · have hjj : j < p * k ∨ p * k + k ≤ j := by
            rcases Nat.lt_or_gt_of_ne e with e1 | e1
            · left
              have : (j / k + 1) * k ≤ p * k := Nat.mul_le_mul_right _ e1
              rw [Nat.add_mul] at this
              omega
            · right
              have : (p + 1) * k ≤ j / k * k := Nat.mul_le_mul_right _ e1
              rw [Nat.add_mul] at this
              omega
          rw [setAt_beside _ _ _ _ (by rw [hk]; exact hjj)]
          have a1 := flat_at hk l (j / k) (j % k) _ (List.getElem?_eq_getElem hi) hr
          have a2 := flat_at hk (l.set p x) (j / k) (j % k) l[j / k] (by rw [List.getElem?_set_ne (fun e2 => e e2.symm)]; exact List.getElem?_eq_getElem hi) hr
          rw [← ej] at a1 a2
          rw [a2, ← a1, ← ht, List.getElem?_take, if_pos hj, Array.getElem?_toList]
      · rename_i hj
        rw [List.getElem?_eq_none]
        rw [flat_length hk, List.length_set]
        omega
    · rw [cell_of_block hg]
      rw [Array.getElem?_eq_getElem (by omega)]
      rfl

theorem grown_setCells {w : World} {v : Value} {g o : Nat} (h : v.ownBlock = some g) (vs : List Value) : w.grownBy (w.setCells g o vs) v.ownBlock := by
  obtain ⟨r1, r2, r3⟩ := setCells_rest vs w g o
  exact ⟨r1, r2, r3, by rw [setCells_size]; exact Nat.le_refl _, fun k _ hk => setCells_out _ _ _ _ _ (by intro e; subst e; exact hk h.symm)⟩
theorem grown_trans {w1 w2 w3 : World} {r : Option Nat} (h : w1.grownBy w2 r) (g : w2.grownBy w3 r) : w1.grownBy w3 r :=
  ⟨g.os.trans h.os, g.tape.trans h.tape, g.output.trans h.output, Nat.le_trans h.size g.size, fun k hk hn => (g.block k (Nat.lt_of_lt_of_le hk h.size) hn).trans (h.block k hk hn)⟩
theorem grown_below {w1 w2 : World} {r : Option Nat} (h : Below w1.heap.size w1 w2) : w1.grownBy w2 r := ⟨h.os, h.tape, h.output, h.size, fun k hk _ => h.block k hk⟩
/-- A row of the call's own that is made behind a point stays, whatever is written into another one. -/
theorem own_beside {w w' : World} {N k n : Nat} {T : TypeId} {v : Value} {xs : List Value} (h : w.ownsRow N T k v n xs) {r : Option Nat} (g : w.grownBy w' r) (hr : ∀ b, r = some b → v.ownBlock ≠ some b) : w'.ownsRow N T k v n xs := by
  obtain ⟨h0, h1⟩ := h
  refine ⟨h0, ?_⟩
  rcases h1 with h1 | ⟨b, cap, cur, rfl, hb, hg, rest⟩
  · exact .inl h1
  · exact .inr ⟨b, cap, cur, rfl, hb, (g.block b (Array.getElem?_eq_some_iff.1 hg).1 (fun e => hr b e.symm rfl)).trans hg, rest⟩
/-- The thing at a place of a row of own. -/
theorem own_el {α : Type} {enc : α → List Value} {k : Nat} (hk : ∀ x, (enc x).length = k) {N : Nat} {w : World} {E : TypeId} {q : Option Addr} {n c : Nat} {s : List α} (h : w.ownsRow N E k (.slice q n c) n (flat enc s)) (hn : n = s.length) {j : Nat} {x : α} (hx : s[j]? = some x) : ∃ g, q = some ⟨g, 0, none⟩ ∧ N ≤ g ∧ g < w.heap.size ∧ w.rangeAt g (j * k) (enc x) := by
  rcases h.2 with ⟨e, e0⟩ | ⟨g, cap, cur, e, hb, hg, hc, hm, hsz, htk⟩
  · have := (List.getElem?_eq_some_iff.1 hx).1; omega
  · simp only [Value.slice.injEq] at e
    obtain ⟨rfl, _, _⟩ := e
    refine ⟨g, rfl, hb, (Array.getElem?_eq_some_iff.1 hg).1, fun t v hv => ?_⟩
    have ht : t < k := by rw [← hk x]; exact (List.getElem?_eq_some_iff.1 hv).1
    have e1 := flat_at hk s j t x hx ht
    rw [hv, ← htk] at e1
    have hj : j < s.length := (List.getElem?_eq_some_iff.1 hx).1
    have hlt : j * k + t < n * k := by
      have : (j + 1) * k ≤ n * k := Nat.mul_le_mul_right _ (by omega)
      rw [Nat.add_mul] at this
      omega
    rw [List.getElem?_take_of_lt hlt, Array.getElem?_toList] at e1
    rw [cell_of_block hg]
    exact e1
/-- What lies in a block that stays lies there. -/
theorem range_stays {w w' : World} {g o : Nat} {cs : List Value} (h : w.rangeAt g o cs) (e : w'.heap[g]? = w.heap[g]?) : w'.rangeAt g o cs := fun t v hv => (World.cell?_of_block (a := ⟨g, o + t, none⟩) e).trans (h t v hv)
theorem step_mk {P : Program} {ops : Array Oper} {Q : Exit → Act → World → Prop} {w : World} {o : Oper} {a : Act} {K : Act → World → Prop} (hw : Region.wanted o (yielded ops a.tmps) = true) (t e : TypeId) (x : Operand) (ho : o.op = .buildSlice t 1 #[(0, x)]) (z : Value) (s : Nat) (X : Array Value) (hx : a.eval x = .agg X) (hX : X.size = s) (h0 : 0 < s) (h1 : s ≤ 1000000)
    (hu : P.underlying t = some (.slice e)) (hinfo : (P.info? e).map (fun i => (i.zero, i.size)) = some (some z, s)) (k : K (a.put o.dst (.slice (some ⟨w.heap.size, 0, none⟩) 1 1)) (w.alloc (.cells X e))) :
    if Region.wanted o (yielded ops a.tmps) = true then Oper.wp P o a w K Q else K (a.put o.dst undef) w := by
  rw [if_pos hw]
  cases hie : P.info? e with
  | none => rw [hie] at hinfo; cases hinfo
  | some i =>
    rw [hie] at hinfo
    simp only [Option.map_some, Option.some.injEq, Prod.mk.injEq] at hinfo
    obtain ⟨hz, hs⟩ := hinfo
    refine wp_buildSlice t e 1 _ ho X i z hu hie hz (by rw [hs]; omega) (by rw [hs]; omega) ?_ k
    have hc : (Value.agg X).cells = X := rfl
    have := Great.fill_whole h0 [Value.agg X] ((Array.range (1 * i.size)).map (z.cells[· % z.cells.size]!)) (fun v hv => by rw [List.mem_singleton.1 hv, hc]; exact hX) (by simp [hs])
    rw [hs] at this ⊢
    simp [hx, hc] at this ⊢
    exact this
end Go.Proofs.Ytfmllfolpcimpaa.Ow
