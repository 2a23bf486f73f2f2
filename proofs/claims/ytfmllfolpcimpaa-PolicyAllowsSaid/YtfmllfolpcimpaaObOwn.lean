/- Rows of a call's own; appended anew. -/
import Derived.Test.YtfmllfolpcimpaaObX
import Derived.Test.YtfmllfolpcimpaaObLd
import Derived.Maps.AppendAt
import Derived.Laws.AppendOwnNone
namespace Go.Proofs.Ytfmllfolpcimpaa
open Go.RowKit Go.Shelf Go.Lib Go.Sort
open Go.Joins (cell_of_block unfrozen_of_block block_setCell)
set_option linter.unusedVariables false
set_option maxRecDepth 20000

def flat {α : Type} (enc : α → List Value) (l : List α) : List Value := l.flatMap enc
theorem flat_length {α : Type} {enc : α → List Value} {k : Nat} (hk : ∀ x, (enc x).length = k) : ∀ l : List α, (flat enc l).length = l.length * k
  | [] => by simp [flat]
  | x :: l => by
    have := flat_length hk l
    unfold flat at this ⊢
    rw [List.flatMap_cons, List.length_append, this, hk, List.length_cons, Nat.add_mul]
    omega
theorem flat_at {α : Type} {enc : α → List Value} {k : Nat} (hk : ∀ x, (enc x).length = k) : ∀ (l : List α) (i t : Nat) (x : α), l[i]? = some x → t < k → (flat enc l)[i * k + t]? = (enc x)[t]?
  | [], i, t, x, h, _ => by simp at h
  | y :: l, 0, t, x, h, ht => by
    simp at h
    subst h
    unfold flat
    rw [List.flatMap_cons, Nat.zero_mul, Nat.zero_add, List.getElem?_append_left (by rw [hk]; exact ht)]
  | y :: l, i + 1, t, x, h, ht => by
    have := flat_at hk l i t x (by simpa using h) ht
    unfold flat at this ⊢
    rw [List.flatMap_cons, List.getElem?_append_right (by rw [hk, Nat.add_mul]; omega), hk, ← this]
    congr 1
    rw [Nat.add_mul]
    omega
theorem flat_get {α : Type} {enc : α → List Value} {k : Nat} (hk : ∀ x, (enc x).length = k) (h0 : 0 < k) {l : List α} {j : Nat} {u : Value} (h : (flat enc l)[j]? = some u) : ∃ i t x, l[i]? = some x ∧ t < k ∧ (enc x)[t]? = some u ∧ j = i * k + t := by
  have hj : j < l.length * k := by rw [← flat_length hk]; exact (List.getElem?_eq_some_iff.1 h).1
  have hi : j / k < l.length := Nat.div_lt_of_lt_mul (by rw [Nat.mul_comm]; exact hj)
  have ht : j % k < k := Nat.mod_lt _ h0
  have e : j = j / k * k + j % k := by rw [Nat.mul_comm]; exact (Nat.div_add_mod j k).symm
  refine ⟨j / k, j % k, l[j / k], List.getElem?_eq_getElem hi, ht, ?_, e⟩
  rw [← flat_at hk l (j / k) (j % k) _ (List.getElem?_eq_getElem hi) ht, ← e]
  exact h
theorem flat_one {α : Type} {enc : α → List Value} (h1 : ∀ x, ∀ u ∈ enc x, u.oneCell' = true) (l : List α) : ∀ u ∈ flat enc l, u.oneCell' = true := by
  intro u hu
  obtain ⟨x, _, hx⟩ := List.mem_flatMap.1 hu
  exact h1 x u hx

theorem lenL (x : Lab) : (encL x).length = 2 := rfl
theorem lenR (x : Req) : (encR x).length = 3 := rfl
theorem lenM (x : Met) : (encM x).length = 3 := rfl
theorem lenP (x : Pol) : (encP x).length = 3 := rfl
theorem lenS (x : Sca) : (encS x).length = 3 := rfl
theorem oneL (x : Lab) : ∀ u ∈ encL x, u.oneCell' = true := by intro u hu; simp [encL] at hu; rcases hu with rfl | rfl <;> rfl
theorem oneR (x : Req) : ∀ u ∈ encR x, u.oneCell' = true := by intro u hu; simp [encR] at hu; rcases hu with rfl | rfl | rfl <;> rfl
theorem oneM (x : Met) : ∀ u ∈ encM x, u.oneCell' = true := by intro u hu; simp [encM] at hu; rcases hu with rfl | rfl | rfl <;> rfl
theorem oneP (x : Pol) : ∀ u ∈ encP x, u.oneCell' = true := by intro u hu; simp [encP] at hu; rcases hu with rfl | rfl | rfl <;> rfl
theorem oneS (x : Sca) : ∀ u ∈ encS x, u.oneCell' = true := by intro u hu; simp [encS] at hu; rcases hu with rfl | rfl | rfl <;> rfl

/-- How an owned row lies. -/
theorem own_lies {α : Type} {enc : α → List Value} {k : Nat} (hk : ∀ x, (enc x).length = k) {w : World} {N : Nat} {E : TypeId} {v : Value} {l : List α} (h : w.ownsRow N E k v l.length (flat enc l)) :
    ∃ q c, v = .slice q l.length c ∧ RowR k enc w q l ∧ (q = none → c = 0) ∧ ∀ ad, q = some ad → ∃ g cur, ad = ⟨g, 0, none⟩ ∧ N ≤ g ∧ w.heap[g]? = some (.cells cur E (0, 0)) ∧ l.length * k ≤ cur.size := by
  obtain ⟨h0, h⟩ := h
  rcases h with ⟨rfl, h1⟩ | ⟨g, c, cur, rfl, hb, hg, hc, hm, hsz, htk⟩
  · have : l = [] := List.eq_nil_of_length_eq_zero h1
    subst this
    exact ⟨none, 0, rfl, RowR.nil _ _ _ _, fun _ => rfl, fun ad e => by cases e⟩
  · refine ⟨some ⟨g, 0, none⟩, c, rfl, ?_, fun e => (by cases e), fun ad e => ⟨g, cur, (Option.some.inj e).symm, hb, hg, by rw [hsz]; exact Nat.mul_le_mul hc (Nat.le_refl _)⟩⟩
    intro j x hx
    refine ⟨g, 0, rfl, (Array.getElem?_eq_some_iff.1 hg).1, fun t v hv => ?_⟩
    have ht : t < k := by rw [← hk x]; exact (List.getElem?_eq_some_iff.1 hv).1
    have e1 := flat_at hk l j t x hx ht
    rw [hv, ← htk] at e1
    have hj : j < l.length := (List.getElem?_eq_some_iff.1 hx).1
    have hlt : j * k + t < l.length * k := by
      have : (j + 1) * k ≤ l.length * k := Nat.mul_le_mul hj (Nat.le_refl _)
      rw [Nat.add_mul] at this
      omega
    rw [List.getElem?_take_of_lt hlt, Array.getElem?_toList] at e1
    rw [cell_of_block hg, Nat.zero_add]
    exact e1
/-- It stays where what is the call's own stays. -/
theorem own_stays {w w' : World} {N n : Nat} {e : TypeId} {s : Nat} {v : Value} {xs : List Value} (h : w.ownsRow N e s v n xs) (k : ∀ g, N ≤ g → g < w.heap.size → w'.heap[g]? = w.heap[g]?) : w'.ownsRow N e s v n xs := by
  obtain ⟨h0, h⟩ := h
  refine ⟨h0, ?_⟩
  rcases h with h | ⟨g, cap, cur, e1, hb, hg, r⟩
  · exact .inl h
  · exact .inr ⟨g, cap, cur, e1, hb, (k g hb (Array.getElem?_eq_some_iff.1 hg).1).trans hg, r⟩
theorem own_mono {w : World} {N M n : Nat} {e : TypeId} {s : Nat} {v : Value} {xs : List Value} (h : w.ownsRow N e s v n xs) (hM : M ≤ N) : w.ownsRow M e s v n xs := by
  obtain ⟨h0, h⟩ := h
  refine ⟨h0, ?_⟩
  rcases h with h | ⟨g, cap, cur, e1, hb, r⟩
  · exact .inl h
  · exact .inr ⟨g, cap, cur, e1, Nat.le_trans hM hb, r⟩

/-- 'append([]T(nil), row...)'. -/
theorem wpList_append_new {α : Type} {enc : α → List Value} {k bytes : Nat} {z : Value} {w : World} {ops : Array Oper} {rest : List Oper} {o : Oper} {a : Act} {Q : Exit → Act → World → Prop} (hgd : o.guard = none) (s x : Operand) (T E : TypeId)
    (ho : o.op = .call { callee := .builtin .append, args := #[s, x], argTypes := #[T, T] })
    (ht : Try.prog.underlying T = some (.slice E)) (hinfo : (Try.prog.info? E).map (fun i => (i.zero, i.size, i.bytes)) = some (some z, k, bytes)) (hz : z.cells.size = k) (h0 : 0 < k)
    (hk : ∀ x, (enc x).length = k) (h1 : ∀ x, ∀ u ∈ enc x, u.oneCell' = true)
    (hs : a.eval s = .slice none 0 0) (q : Option Addr) (c : Nat) (l : List α) (hx : a.eval x = .slice q l.length c) (hr : RowR k enc w q l) (hq : q = none → c = 0) (hb : l.length * bytes ≤ 140737488355328) (hm : l.length ≤ 9223372036854775807)
    (h : ∀ v' w', w'.ownsRow w.heap.size E k v' l.length (flat enc l) → Below w.heap.size w w' → wpList Try.prog ops Q rest (a.put o.dst v') w') :
    wpList Try.prog ops Q (o :: rest) a w := by
  cases hi : Try.prog.info? E with
  | none => rw [hi] at hinfo; cases hinfo
  | some i =>
    rw [hi] at hinfo
    simp only [Option.map_some, Option.some.injEq, Prod.mk.injEq] at hinfo
    obtain ⟨i0, i1, i2⟩ := hinfo
    cases q with
    | none =>
      obtain rfl := hq rfl
      have hl : l = [] := by
        cases l with
        | nil => rfl
        | cons x l =>
          obtain ⟨_, _, e, _⟩ := hr 0 x rfl
          cases e
      subst hl
      refine wpList_append_own_none hgd s x _ ho w.heap.size E i k ht hi (.slice none 0 0) 0 [] hs (World.ownsRow_nil _ _ _ _) hx ?_
      exact h _ w (World.ownsRow_nil _ _ _ _) (Below.refl _ _)
    | some ad =>
      refine wpList_append_own_at w hgd s x _ ho w.heap.size E i z k bytes ht hi i0 i1 i2 hz h0 (.slice none 0 0) 0 [] hs (World.ownsRow_nil _ _ _ _) ad l.length c (flat enc l) hx
        (flat_length hk l) ?_ (flat_one h1 l) (by unfold maxLen; omega) (by rw [Nat.zero_add]; exact hb) (Nat.le_refl _) ?_
      · intro j u hu
        obtain ⟨i', t, x', hx', ht', hu', rfl⟩ := flat_get hk h0 hu
        obtain ⟨b, off, e, _, hc⟩ := hr i' x' hx'
        cases e
        have ea : (⟨b, off, none⟩ : Addr).add (i' * k + t) = ⟨b, off + (i' * k + t), none⟩ := by unfold Addr.add; split <;> simp_all
        rw [ea, ← Nat.add_assoc]
        exact hc t u hu'
      · intro v' w' h2 h3 _ _
        refine h v' w' ?_ ⟨h3.os, h3.tape, h3.output, h3.size, fun b hb => h3.block b hb (by simp [Value.ownBlock])⟩
        simpa using h2

/-- Of the blocks that were there one alone was changed; how often the tape was asked isn't said. -/
structure Xb (L : Nat) (w w' : World) : Prop where
  os : w'.os = w.os
  tape : w'.tape = w.tape
  output : w'.output = w.output
  size : w.heap.size ≤ w'.heap.size
  block : ∀ k, k < w.heap.size → k ≠ L → w'.heap[k]? = w.heap[k]?
theorem Xb.refl (L : Nat) (w : World) : Xb L w w := ⟨rfl, rfl, rfl, Nat.le_refl _, fun _ _ _ => rfl⟩
theorem Xb.trans {L : Nat} {a b c : World} (h : Xb L a b) (k : Xb L b c) : Xb L a c :=
  ⟨k.os.trans h.os, k.tape.trans h.tape, k.output.trans h.output, Nat.le_trans h.size k.size, fun i hi hn => (k.block i (Nat.lt_of_lt_of_le hi h.size) hn).trans (h.block i hi hn)⟩
theorem Xb.ofBelow {w w' : World} (h : Below w.heap.size w w') (L : Nat) : Xb L w w' := ⟨h.os, h.tape, h.output, h.size, fun k hk _ => h.block k hk⟩
theorem Xb.ofGr {w w' : World} (h : Gr w w') (L : Nat) : Xb L w w' := Xb.ofBelow h.below L
theorem Xb.setCell {L : Nat} {a b : World} (h : Xb L a b) (i : Nat) (v : Value) : Xb L a (b.setCell ⟨L, i, none⟩ v) :=
  h.trans ⟨rfl, rfl, rfl, by simp [World.setCell], fun k _ hn => Below.heap_setCell _ _ _ _ hn⟩
theorem Xb.below {L : Nat} {w w' : World} (h : Xb L w w') {N : Nat} (hN : N ≤ L) (hw : N ≤ w.heap.size) : Below N w w' :=
  ⟨h.os, h.tape, h.output, h.size, fun k hk => h.block k (by omega) (by omega)⟩
theorem Xb.cell {L : Nat} {w w' : World} (h : Xb L w w') {p : Addr} {v : Value} (hp : w.cell? p = some v) (hn : p.block ≠ L) : w'.cell? p = some v :=
  (World.cell?_of_block (h.block _ (World.block_lt_of_cell? w p hp) hn)).trans hp
end Go.Proofs.Ytfmllfolpcimpaa
