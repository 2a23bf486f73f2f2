/- An object that came in: its fields, its rows, how long its texts and rows can be. -/
import Derived.Test.YtfmllfolpcimpaaObS
import Derived.SizedLaws
import Derived.ProofKit
import Derived.OpenShut
import Derived.Deep.Strs
import Derived.Deep.Slices
namespace Go.Proofs.Ytfmllfolpcimpaa
open Go.ChangeShapes Go.WideShapes Go.ChangeAt Go.RowKit Go.Deep Go.Lib Go.Shelf
open Go.Joins (cell_of_block unfrozen_of_block block_setCell)
set_option linter.unusedVariables false
set_option maxRecDepth 20000

theorem add_none' (b off n : Nat) : (⟨b, off, none⟩ : Addr).add n = ⟨b, off + n, none⟩ := by unfold Addr.add; split <;> simp_all
theorem spot_none' {w : World} {a : Addr} {u : Value} (h : w.cell? a = some u) : ∃ b off, a = ⟨b, off, none⟩ ∧ b < w.heap.size := by
  obtain ⟨b, off, s⟩ := a
  unfold World.cell? at h
  split at h
  · rename_i c t f hb
    cases s with
    | none => exact ⟨b, off, rfl, (Array.getElem?_eq_some_iff.1 hb).1⟩
    | some s => simp at h
  · cases h
theorem choose_lt {α : Type} [Inhabited α] {n : Nat} {p : Nat → α → Prop} (h : ∀ i, i < n → ∃ x, p i x) : ∃ f : Nat → α, ∀ i, i < n → p i (f i) := by
  have : ∀ i, ∃ x, i < n → p i x := fun i => by
    by_cases hi : i < n
    · obtain ⟨x, hx⟩ := h i hi
      exact ⟨x, fun _ => hx⟩
    · exact ⟨default, fun h => absurd h hi⟩
  exact ⟨fun i => Classical.choose (this i), fun i hi => Classical.choose_spec (this i) hi⟩
/-- No weight is more than memory. -/
def Wt {H : Type} (T : TypeId) (d : DataW H) : Prop := ∀ n ∈ d.weights Try.prog T, n ≤ reachBytes
theorem reach_eq : reachBytes = 140737488351232 := rfl
theorem wt_mem {H : Type} {E : TypeId} {D : Nat → DataW H} {n i : Nat} (hi : i < n) {m : Nat} (h : m ∈ (D i).weights Try.prog E) : m ∈ DataW.weightsAll Try.prog E ((List.range n).map D) := by
  have : ∀ (l : List (DataW H)) (d : DataW H), d ∈ l → ∀ m ∈ d.weights Try.prog E, m ∈ DataW.weightsAll Try.prog E l := by
    intro l
    induction l with
    | nil => intro d hd; cases hd
    | cons a l ih =>
      intro d hd m hm
      rw [DataW.weightsAll, List.mem_append]
      rcases List.mem_cons.1 hd with rfl | hd
      · exact .inl hm
      · exact .inr (ih d hd m hm)
  exact this _ _ (List.mem_map.2 ⟨i, List.mem_range.2 hi, rfl⟩) m h
theorem at1 {cs : List Value} {o : Nat} {v : Value} (h : (cs.drop o).take 1 = [v]) : cs[o]? = some v := by
  have h1 : ((cs.drop o).take 1)[0]? = some v := by rw [h]; rfl
  rw [List.getElem?_take_of_lt (by decide), List.getElem?_drop, Nat.add_zero] at h1
  exact h1
theorem sub1 {cs : List Value} {o k j : Nat} {v : Value} (h : ((cs.drop o).take k)[j]? = some v) : cs[o + j]? = some v := by
  have hj : j < k := by
    have := (List.getElem?_eq_some_iff.1 h).1
    rw [List.length_take] at this
    omega
  rw [List.getElem?_take_of_lt hj, List.getElem?_drop] at h
  exact h
theorem fld {H : Type} {enc : TypeId × Value → H} {W : World} {T F : TypeId} {off k n : Nat} {fs : Array Field} {cs : List Value} {y : DataW H × List MemPlace} (i : Nat) (ht : Try.prog.underlying T = some (.struct fs)) (hi : (fs[i]?).map (fun f => (f.type, f.offset, Try.prog.cellsOf f.type)) = some (F, off, k)) (h : DataW.trod enc Try.prog W 0 (fun _ => true) true n T cs = some y) (wt : Wt T y.1) :
    ∃ n' y', (DataW.trod enc Try.prog W 0 (fun _ => true) true n' F ((cs.drop off).take k) = some y') ∧ Wt F y'.1 := by
  obtain ⟨xs, m, _, hxe, _, hl, hf⟩ := DataW.trod_struct ht h
  cases hfi : fs[i]? with
  | none => rw [hfi] at hi; cases hi
  | some f =>
    rw [hfi] at hi
    simp only [Option.map_some, Option.some.injEq, Prod.mk.injEq] at hi
    obtain ⟨rfl, rfl, rfl⟩ := hi
    have := hf i f hfi
    have hlt : i < xs.length := by rw [hl]; exact (Array.getElem?_eq_some_iff.1 hfi).1
    refine ⟨m, xs[i], by rw [this, List.getElem?_eq_getElem hlt], fun n hn => wt n ?_⟩
    rw [hxe]
    unfold DataW.weights
    simp only [ht]
    exact DataW.weights_mem_each (j := i) (by rw [List.getElem?_map, Array.getElem?_toList, hfi]; rfl) (by rw [List.getElem?_map, List.getElem?_eq_getElem hlt]; rfl) n hn
def I64 (z : Int) : Prop := -9223372036854775808 ≤ z ∧ z < 9223372036854775808
theorem wf_i64 {z : Int} (h : (Lit.int .i64 z).wf = true) : I64 z := by
  simp [Lit.wf, IntKind.min, IntKind.max, IntKind.signed, IntKind.bits] at h
  unfold I64
  omega
theorem leaf_i {H : Type} {enc : TypeId × Value → H} {W : World} {T : TypeId} {n o : Nat} {cs : List Value} {y : DataW H × List MemPlace} (ht : Try.prog.underlying T = some (.int .i64)) (h : DataW.trod enc Try.prog W 0 (fun _ => true) true n T ((cs.drop o).take 1) = some y) : ∃ z, cs[o]? = some (.int .i64 z) ∧ I64 z := by
  obtain ⟨z, e, _, w⟩ := DataW.trod_int ht h
  exact ⟨z, at1 e, wf_i64 w⟩
theorem leaf_u {H : Type} {enc : TypeId × Value → H} {W : World} {T : TypeId} {n o : Nat} {cs : List Value} {y : DataW H × List MemPlace} (ht : Try.prog.underlying T = some (.int .u64)) (h : DataW.trod enc Try.prog W 0 (fun _ => true) true n T ((cs.drop o).take 1) = some y) : ∃ z : Nat, cs[o]? = some (.int .u64 (z : Int)) ∧ z < 18446744073709551616 := by
  obtain ⟨z, e, _, w⟩ := DataW.trod_int ht h
  have h2 : 0 ≤ z ∧ z < 18446744073709551616 := by
    simp [Lit.wf, IntKind.min, IntKind.max, IntKind.signed, IntKind.bits] at w
    omega
  obtain ⟨m, rfl⟩ := Int.eq_ofNat_of_zero_le h2.1
  exact ⟨m, at1 e, by omega⟩
theorem leaf_s {H : Type} {enc : TypeId × Value → H} {W : World} {T : TypeId} {n o : Nat} {cs : List Value} {y : DataW H × List MemPlace} (ht : Try.prog.underlying T = some .string) (h : DataW.trod enc Try.prog W 0 (fun _ => true) true n T ((cs.drop o).take 1) = some y) (wt : Wt T y.1) : ∃ s, cs[o]? = some (.string s) ∧ ftT s = true := by
  obtain ⟨s, e, hx, _⟩ := DataW.trod_string ht h
  refine ⟨s, at1 e, ftT_iff.2 ?_⟩
  have := wt s.data.toList.length (by rw [hx]; simp [DataW.weights])
  rw [reach_eq] at this
  simpa using this
theorem leaf_b {H : Type} {enc : TypeId × Value → H} {W : World} {T : TypeId} {n o : Nat} {cs : List Value} {y : DataW H × List MemPlace} (ht : Try.prog.underlying T = some .bool) (h : DataW.trod enc Try.prog W 0 (fun _ => true) true n T ((cs.drop o).take 1) = some y) : ∃ b, cs[o]? = some (.bool b) ∧ True := by
  obtain ⟨s, e, _⟩ := DataW.trod_bool ht h
  exact ⟨s, at1 e, trivial⟩
theorem mapM_at {α β : Type} {f : α → Option β} : ∀ (l : List α) (r : List β), l.mapM f = some r → r.length = l.length ∧ ∀ (i : Nat) (x : α), l[i]? = some x → ∃ v, r[i]? = some v ∧ f x = some v
  | [], r, h => by
    simp at h
    subst h
    exact ⟨rfl, fun i x hx => by simp at hx⟩
  | a :: l, r, h => by
    simp only [List.mapM_cons, Option.bind_eq_bind, Option.bind_eq_some_iff, Option.pure_def, Option.some.injEq] at h
    obtain ⟨v, hv, r', hr, rfl⟩ := h
    obtain ⟨h1, h2⟩ := mapM_at l r' hr
    refine ⟨by simp [h1], fun i x hx => ?_⟩
    cases i with
    | zero => simp at hx; subst hx; exact ⟨v, rfl, hv⟩
    | succ i => simpa using h2 i x (by simpa using hx)
theorem cells_at {w : World} {a : Addr} {k : Nat} {cs : List Value} (h : w.cells? 0 a k = some cs) : cs.length = k ∧ ∀ (t : Nat) (v : Value), cs[t]? = some v → w.cell? (a.add t) = some v := by
  unfold World.cells? at h
  rw [if_pos (Nat.zero_le _)] at h
  obtain ⟨h1, h2⟩ := mapM_at _ _ h
  rw [List.length_range] at h1
  refine ⟨h1, fun t v hv => ?_⟩
  have ht : t < k := by have := (List.getElem?_eq_some_iff.1 hv).1; omega
  obtain ⟨u, hu, hc⟩ := h2 t t (by rw [List.getElem?_range ht])
  rw [hu] at hv
  cases hv
  exact hc
theorem open_rowG {α : Type} [Inhabited α] {H : Type} {enc : TypeId × Value → H} {W : World} {S E : TypeId} {k n o : Nat} (e : α → List Value) (ok : α → Prop) (hS : Try.prog.underlying S = some (.slice E)) (hk : Try.prog.cellsOf E = k) (h0 : 0 < k)
    (hb : 0 < Try.prog.bytesOf E) (each : ∀ n cs y, DataW.trod enc Try.prog W 0 (fun _ => true) true n E cs = some y → Wt E y.1 → ∃ x, (∀ (t : Nat) (v : Value), (e x)[t]? = some v → cs[t]? = some v) ∧ ok x) {cs : List Value} {y : DataW H × List MemPlace} (h : DataW.trod enc Try.prog W 0 (fun _ => true) true n S ((cs.drop o).take 1) = some y) (wt : Wt S y.1) :
    ∃ l : List α, SlR k e W cs[o]? l ∧ (∀ x ∈ l, ok x) ∧ l.length ≤ 140737488351232 := by
  rcases open_slice hS h with ⟨hcs, hx⟩ | ⟨a, len, cap, m, n', D, Pl, hcs, _, hl, hm, hmm, hx, hcell⟩
  · exact ⟨[], ⟨none, 0, at1 hcs, RowR.nil _ _ _ _⟩, by simp, by simp⟩
  · simp only [if_true] at hmm
    have each2 : ∀ i, i < len → ∃ x : α, ∃ b off, a = ⟨b, off, none⟩ ∧ b < W.heap.size ∧ ok x ∧ ∀ (t : Nat) (u : Value), (e x)[t]? = some u → W.cell? ⟨b, off + i * k + t, none⟩ = some u := by
      intro i hi
      obtain ⟨c0, g1, g2⟩ := hcell 0 (by omega)
      rw [hk] at g1
      obtain ⟨l0, p0⟩ := cells_at g1
      obtain ⟨b, off, ha, hbl⟩ := spot_none' (by have := p0 0 (c0[0]'(by omega)) (List.getElem?_eq_getElem (by omega)); simpa [Addr.add] using this)
      subst ha
      obtain ⟨c1, g3, g4⟩ := hcell i (by omega)
      rw [hk] at g3
      obtain ⟨l1, p1⟩ := cells_at g3
      obtain ⟨x, hx1, hx2⟩ := each _ _ _ g4 (fun n hn => wt n (by rw [hx, DataW.weights, hS]; exact List.mem_cons_of_mem _ (List.mem_append_left _ (wt_mem hi hn))))
      refine ⟨x, b, off, rfl, hbl, hx2, fun t u hu => ?_⟩
      have := p1 t u (hx1 t u hu)
      rw [add_none', add_none'] at this
      exact this
    obtain ⟨f, hf⟩ := choose_lt each2
    have hlen : len ≤ 140737488351232 := by
      have h1 := wt ((((List.range len).map D).length + ((List.range (m - len)).map fun j => D (len + j)).length) * Try.prog.bytesOf E) (by rw [hx, DataW.weights, hS]; exact List.mem_cons_self)
      rw [reach_eq] at h1
      simp only [List.length_map, List.length_range] at h1
      have h2 : len + (m - len) ≤ (len + (m - len)) * Try.prog.bytesOf E := Nat.le_mul_of_pos_right _ hb
      omega
    refine ⟨(List.range len).map f, ⟨some a, cap, by rw [at1 hcs]; simp, ?_⟩, ?_, by simp; exact hlen⟩
    · intro j x hj
      rw [List.getElem?_map, Option.map_eq_some_iff] at hj
      obtain ⟨i, hi, rfl⟩ := hj
      obtain ⟨hlt, rfl⟩ := List.getElem?_eq_some_iff.1 hi
      rw [List.getElem_range] at *
      obtain ⟨b, off, e, h1, _, h3⟩ := hf j (by simpa using hlt)
      exact ⟨b, off, by rw [e], h1, h3⟩
    · intro x hx
      obtain ⟨i, hi, rfl⟩ := List.mem_map.1 hx
      obtain ⟨b, off, e, h1, h2, h3⟩ := hf i (by simpa using hi)
      exact h2
theorem enc2 {cs : List Value} {a b : Value} (h0 : cs[0]? = some a) (h1 : cs[1]? = some b) : ∀ (t : Nat) (v : Value), [a, b][t]? = some v → cs[t]? = some v := fun t v hv => by
  match t, hv with
  | 0, hv => simp at hv; rw [h0, hv]
  | 1, hv => simp at hv; rw [h1, hv]
  | t + 2, hv => simp at hv
theorem enc3 {cs : List Value} {a b c : Value} (h0 : cs[0]? = some a) (h1 : cs[1]? = some b) (h2 : cs[2]? = some c) : ∀ (t : Nat) (v : Value), [a, b, c][t]? = some v → cs[t]? = some v := fun t v hv => by
  match t, hv with
  | 0, hv => simp at hv; rw [h0, hv]
  | 1, hv => simp at hv; rw [h1, hv]
  | 2, hv => simp at hv; rw [h2, hv]
  | t + 3, hv => simp at hv
theorem open_P {H : Type} {enc : TypeId × Value → H} {W : World} {n o : Nat} {cs : List Value} {y : DataW H × List MemPlace} (h : DataW.trod enc Try.prog W 0 (fun _ => true) true n 32 ((cs.drop o).take 1) = some y) (wt : Wt 32 y.1) : ∃ l : List Pol, SlR 3 encP W cs[o]? l ∧ (∀ x ∈ l, True) ∧ l.length ≤ 140737488351232 := by
  refine open_rowG (k := 3) encP (fun x => True) Try.underlying32 (by kernel_rfl) (by decide) (of_decide_eq_true (by kernel_rfl)) (fun n cs y h wt => ?_) h wt
  obtain ⟨n0, y0, t0, z0⟩ := fld (F := 4) (off := 0) (k := 1) 0 Try.underlying31 (by kernel_rfl) h wt
  obtain ⟨v0, a0, w0⟩ := leaf_b Try.underlying4 t0
  obtain ⟨n1, y1, t1, z1⟩ := fld (F := 3) (off := 1) (k := 1) 1 Try.underlying31 (by kernel_rfl) h wt
  obtain ⟨v1, a1, w1⟩ := leaf_i Try.underlying3 t1
  obtain ⟨n2, y2, t2, z2⟩ := fld (F := 3) (off := 2) (k := 1) 2 Try.underlying31 (by kernel_rfl) h wt
  obtain ⟨v2, a2, w2⟩ := leaf_i Try.underlying3 t2
  exact ⟨(v0, v1, v2), enc3 a0 a1 a2, trivial⟩
theorem open_S {H : Type} {enc : TypeId × Value → H} {W : World} {n o : Nat} {cs : List Value} {y : DataW H × List MemPlace} (h : DataW.trod enc Try.prog W 0 (fun _ => true) true n 22 ((cs.drop o).take 1) = some y) (wt : Wt 22 y.1) : ∃ l : List Sca, SlR 3 encS W cs[o]? l ∧ (∀ x ∈ l, True) ∧ l.length ≤ 140737488351232 := by
  refine open_rowG (k := 3) encS (fun x => True) Try.underlying22 (by kernel_rfl) (by decide) (of_decide_eq_true (by kernel_rfl)) (fun n cs y h wt => ?_) h wt
  obtain ⟨n0, y0, t0, z0⟩ := fld (F := 2) (off := 0) (k := 1) 0 Try.underlying27 (by kernel_rfl) h wt
  obtain ⟨v0, a0, w0⟩ := leaf_i Try.underlying2 t0
  obtain ⟨n1, y1, t1, z1⟩ := fld (F := 3) (off := 1) (k := 1) 1 Try.underlying27 (by kernel_rfl) h wt
  obtain ⟨v1, a1, w1⟩ := leaf_i Try.underlying3 t1
  obtain ⟨n2, y2, t2, z2⟩ := fld (F := 3) (off := 2) (k := 1) 2 Try.underlying27 (by kernel_rfl) h wt
  obtain ⟨v2, a2, w2⟩ := leaf_i Try.underlying3 t2
  exact ⟨(v0, v1, v2), enc3 a0 a1 a2, trivial⟩
theorem slr_sub {α : Type} {k o m j : Nat} {e : α → List Value} {w : World} {cs : List Value} {l : List α} (h : SlR k e w ((cs.drop o).take m)[j]? l) : SlR k e w cs[o + j]? l := by
  obtain ⟨q, c, h1, h2⟩ := h
  exact ⟨q, c, sub1 h1, h2⟩
theorem slr_at {α : Type} {k o m j : Nat} {e : α → List Value} {w : World} {cs : Array Value} {l : List α} (h : SlR k e w ((cs.toList.drop o).take m)[j]? l) : SlR k e w cs[o + j]? l := by
  obtain ⟨q, c, h1, h2⟩ := h
  exact ⟨q, c, by have := sub1 h1; rwa [Array.getElem?_toList] at this, h2⟩
theorem el_at {o m j : Nat} {cs : Array Value} {v : Value} (h : ((cs.toList.drop o).take m)[j]? = some v) : cs[o + j]? = some v := by
  have := sub1 h
  rwa [Array.getElem?_toList] at this
end Go.Proofs.Ytfmllfolpcimpaa
