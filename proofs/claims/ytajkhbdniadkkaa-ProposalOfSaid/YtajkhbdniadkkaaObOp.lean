/- An object that came in: its fields, its rows, how long its texts and rows can be. -/
import Derived.Test.YtajkhbdniadkkaaObS
import Derived.SizedLaws
import Derived.ProofKit
import Derived.OpenShut
import Derived.Deep.Strs
import Derived.Deep.Slices
namespace Go.Proofs.Ytajkhbdniadkkaa
open Go.ChangeShapes Go.WideShapes Go.ChangeAt Go.RowKit Go.Deep Go.Lib Go.Shelf
open Go.Joins (cell_of_block unfrozen_of_block block_setCell)
set_option linter.unusedVariables false
set_option maxRecDepth 20000

theorem add_none' (b off n : Nat) : (⟨b, off, none⟩ : Addr).add n = ⟨b, off + n, none⟩ := by unfold Addr.add; split <;> simp_all
theorem spot_none' {w : World} {a : Addr} {u : Value} (h : w.cell? a = some u) : ∃ b off, a = ⟨b, off, none⟩ ∧ b < w.heap.size := by
  obtain ⟨b, off, s⟩ := a
  unfold World.cell? at h
  split at h
  · rename_i c t f hb
    cases s with
    | none => exact ⟨b, off, rfl, (Array.getElem?_eq_some_iff.1 hb).1⟩
    | some s => simp at h
  · cases h
theorem choose_lt {α : Type} [Inhabited α] {n : Nat} {p : Nat → α → Prop} (h : ∀ i, i < n → ∃ x, p i x) : ∃ f : Nat → α, ∀ i, i < n → p i (f i) := by
  have : ∀ i, ∃ x, i < n → p i x := fun i => by
    by_cases hi : i < n
    · obtain ⟨x, hx⟩ := h i hi
      exact ⟨x, fun _ => hx⟩
    · exact ⟨default, fun h => absurd h hi⟩
  exact ⟨fun i => Classical.choose (this i), fun i hi => Classical.choose_spec (this i) hi⟩
/-- No weight is more than memory. -/
def Wt {H : Type} (T : TypeId) (d : DataW H) : Prop := ∀ n ∈ d.weights Try.prog T, n ≤ reachBytes
theorem reach_eq : reachBytes = 140737488351232 := rfl
theorem wt_mem {H : Type} {E : TypeId} {D : Nat → DataW H} {n i : Nat} (hi : i < n) {m : Nat} (h : m ∈ (D i).weights Try.prog E) : m ∈ DataW.weightsAll Try.prog E ((List.range n).map D) := by
  have : ∀ (l : List (DataW H)) (d : DataW H), d ∈ l → ∀ m ∈ d.weights Try.prog E, m ∈ DataW.weightsAll Try.prog E l := by
    intro l
    induction l with
    | nil => intro d hd; cases hd
    | cons a l ih =>
      intro d hd m hm
      rw [DataW.weightsAll, List.mem_append]
      rcases List.mem_cons.1 hd with rfl | hd
      · exact .inl hm
      · exact .inr (ih d hd m hm)
  exact this _ _ (List.mem_map.2 ⟨i, List.mem_range.2 hi, rfl⟩) m h
theorem at1 {cs : List Value} {o : Nat} {v : Value} (h : (cs.drop o).take 1 = [v]) : cs[o]? = some v := by
  have h1 : ((cs.drop o).take 1)[0]? = some v := by rw [h]; rfl
  rw [List.getElem?_take_of_lt (by decide), List.getElem?_drop, Nat.add_zero] at h1
  exact h1
theorem sub1 {cs : List Value} {o k j : Nat} {v : Value} (h : ((cs.drop o).take k)[j]? = some v) : cs[o + j]? = some v := by
  have hj : j < k := by
    have := (List.getElem?_eq_some_iff.1 h).1
    rw [List.length_take] at this
    omega
  rw [List.getElem?_take_of_lt hj, List.getElem?_drop] at h
  exact h
theorem fld {H : Type} {enc : TypeId × Value → H} {W : World} {T F : TypeId} {off k n : Nat} {fs : Array Field} {cs : List Value} {y : DataW H × List MemPlace} (i : Nat) (ht : Try.prog.underlying T = some (.struct fs)) (hi : (fs[i]?).map (fun f => (f.type, f.offset, Try.prog.cellsOf f.type)) = some (F, off, k)) (h : DataW.trod enc Try.prog W 0 (fun _ => true) true n T cs = some y) (wt : Wt T y.1) :
    ∃ n' y', (DataW.trod enc Try.prog W 0 (fun _ => true) true n' F ((cs.drop off).take k) = some y') ∧ Wt F y'.1 := by
  obtain ⟨xs, m, _, hxe, _, hl, hf⟩ := DataW.trod_struct ht h
  cases hfi : fs[i]? with
  | none => rw [hfi] at hi; cases hi
  | some f =>
    rw [hfi] at hi
    simp only [Option.map_some, Option.some.injEq, Prod.mk.injEq] at hi
    obtain ⟨rfl, rfl, rfl⟩ := hi
    have := hf i f hfi
    have hlt : i < xs.length := by rw [hl]; exact (Array.getElem?_eq_some_iff.1 hfi).1
    refine ⟨m, xs[i], by rw [this, List.getElem?_eq_getElem hlt], fun n hn => wt n ?_⟩
    rw [hxe]
    unfold DataW.weights
    simp only [ht]
    exact DataW.weights_mem_each (j := i) (by rw [List.getElem?_map, Array.getElem?_toList, hfi]; rfl) (by rw [List.getElem?_map, List.getElem?_eq_getElem hlt]; rfl) n hn
def I64 (z : Int) : Prop := -9223372036854775808 ≤ z ∧ z < 9223372036854775808
theorem wf_i64 {z : Int} (h : (Lit.int .i64 z).wf = true) : I64 z := by
  simp [Lit.wf, IntKind.min, IntKind.max, IntKind.signed, IntKind.bits] at h
  unfold I64
  omega
theorem leaf_i {H : Type} {enc : TypeId × Value → H} {W : World} {T : TypeId} {n o : Nat} {cs : List Value} {y : DataW H × List MemPlace} (ht : Try.prog.underlying T = some (.int .i64)) (h : DataW.trod enc Try.prog W 0 (fun _ => true) true n T ((cs.drop o).take 1) = some y) : ∃ z, cs[o]? = some (.int .i64 z) ∧ I64 z := by
  obtain ⟨z, e, _, w⟩ := DataW.trod_int ht h
  exact ⟨z, at1 e, wf_i64 w⟩
theorem leaf_u {H : Type} {enc : TypeId × Value → H} {W : World} {T : TypeId} {n o : Nat} {cs : List Value} {y : DataW H × List MemPlace} (ht : Try.prog.underlying T = some (.int .u64)) (h : DataW.trod enc Try.prog W 0 (fun _ => true) true n T ((cs.drop o).take 1) = some y) : ∃ z : Nat, cs[o]? = some (.int .u64 (z : Int)) ∧ z < 18446744073709551616 := by
  obtain ⟨z, e, _, w⟩ := DataW.trod_int ht h
  have h2 : 0 ≤ z ∧ z < 18446744073709551616 := by
    simp [Lit.wf, IntKind.min, IntKind.max, IntKind.signed, IntKind.bits] at w
    omega
  obtain ⟨m, rfl⟩ := Int.eq_ofNat_of_zero_le h2.1
  exact ⟨m, at1 e, by omega⟩
theorem leaf_s {H : Type} {enc : TypeId × Value → H} {W : World} {T : TypeId} {n o : Nat} {cs : List Value} {y : DataW H × List MemPlace} (ht : Try.prog.underlying T = some .string) (h : DataW.trod enc Try.prog W 0 (fun _ => true) true n T ((cs.drop o).take 1) = some y) (wt : Wt T y.1) : ∃ s, cs[o]? = some (.string s) ∧ ftT s = true := by
  obtain ⟨s, e, hx, _⟩ := DataW.trod_string ht h
  refine ⟨s, at1 e, ftT_iff.2 ?_⟩
  have := wt s.data.toList.length (by rw [hx]; simp [DataW.weights])
  rw [reach_eq] at this
  simpa using this
theorem leaf_b {H : Type} {enc : TypeId × Value → H} {W : World} {T : TypeId} {n o : Nat} {cs : List Value} {y : DataW H × List MemPlace} (ht : Try.prog.underlying T = some .bool) (h : DataW.trod enc Try.prog W 0 (fun _ => true) true n T ((cs.drop o).take 1) = some y) : ∃ b, cs[o]? = some (.bool b) ∧ True := by
  obtain ⟨s, e, _⟩ := DataW.trod_bool ht h
  exact ⟨s, at1 e, trivial⟩
theorem mapM_at {α β : Type} {f : α → Option β} : ∀ (l : List α) (r : List β), l.mapM f = some r → r.length = l.length ∧ ∀ (i : Nat) (x : α), l[i]? = some x → ∃ v, r[i]? = some v ∧ f x = some v
  | [], r, h => by
    simp at h
    subst h
    exact ⟨rfl, fun i x hx => by simp at hx⟩
  | a :: l, r, h => by
    simp only [List.mapM_cons, Option.bind_eq_bind, Option.bind_eq_some_iff, Option.pure_def, Option.some.injEq] at h
    obtain ⟨v, hv, r', hr, rfl⟩ := h
    obtain ⟨h1, h2⟩ := mapM_at l r' hr
    refine ⟨by simp [h1], fun i x hx => ?_⟩
    cases i with
    | zero => simp at hx; subst hx; exact ⟨v, rfl, hv⟩
    | succ i => simpa using h2 i x (by simpa using hx)
theorem cells_at {w : World} {a : Addr} {k : Nat} {cs : List Value} (h : w.cells? 0 a k = some cs) : cs.length = k ∧ ∀ (t : Nat) (v : Value), cs[t]? = some v → w.cell? (a.add t) = some v := by
  unfold World.cells? at h
  rw [if_pos (Nat.zero_le _)] at h
  obtain ⟨h1, h2⟩ := mapM_at _ _ h
  rw [List.length_range] at h1
  refine ⟨h1, fun t v hv => ?_⟩
  have ht : t < k := by have := (List.getElem?_eq_some_iff.1 hv).1; omega
  obtain ⟨u, hu, hc⟩ := h2 t t (by rw [List.getElem?_range ht])
  rw [hu] at hv
  cases hv
  exact hc
theorem open_rowG {α : Type} [Inhabited α] {H : Type} {enc : TypeId × Value → H} {W : World} {S E : TypeId} {k n o : Nat} (e : α → List Value) (ok : α → Prop) (hS : Try.prog.underlying S = some (.slice E)) (hk : Try.prog.cellsOf E = k) (h0 : 0 < k)
    (hb : 0 < Try.prog.bytesOf E) (each : ∀ n cs y, DataW.trod enc Try.prog W 0 (fun _ => true) true n E cs = some y → Wt E y.1 → ∃ x, (∀ (t : Nat) (v : Value), (e x)[t]? = some v → cs[t]? = some v) ∧ ok x) {cs : List Value} {y : DataW H × List MemPlace} (h : DataW.trod enc Try.prog W 0 (fun _ => true) true n S ((cs.drop o).take 1) = some y) (wt : Wt S y.1) :
    ∃ l : List α, SlR k e W cs[o]? l ∧ (∀ x ∈ l, ok x) ∧ l.length ≤ 140737488351232 := by
  rcases open_slice hS h with ⟨hcs, hx⟩ | ⟨a, len, cap, m, n', D, Pl, hcs, _, hl, hm, hmm, hx, hcell⟩
  · exact ⟨[], ⟨none, 0, at1 hcs, RowR.nil _ _ _ _⟩, by simp, by simp⟩
  · simp only [if_true] at hmm
    have each2 : ∀ i, i < len → ∃ x : α, ∃ b off, a = ⟨b, off, none⟩ ∧ b < W.heap.size ∧ ok x ∧ ∀ (t : Nat) (u : Value), (e x)[t]? = some u → W.cell? ⟨b, off + i * k + t, none⟩ = some u := by
      intro i hi
      obtain ⟨c0, g1, g2⟩ := hcell 0 (by omega)
      rw [hk] at g1
      obtain ⟨l0, p0⟩ := cells_at g1
      obtain ⟨b, off, ha, hbl⟩ := spot_none' (by have := p0 0 (c0[0]'(by omega)) (List.getElem?_eq_getElem (by omega)); simpa [Addr.add] using this)
      subst ha
      obtain ⟨c1, g3, g4⟩ := hcell i (by omega)
      rw [hk] at g3
      obtain ⟨l1, p1⟩ := cells_at g3
      obtain ⟨x, hx1, hx2⟩ := each _ _ _ g4 (fun n hn => wt n (by rw [hx, DataW.weights, hS]; exact List.mem_cons_of_mem _ (List.mem_append_left _ (wt_mem hi hn))))
      refine ⟨x, b, off, rfl, hbl, hx2, fun t u hu => ?_⟩
      have := p1 t u (hx1 t u hu)
      rw [add_none', add_none'] at this
      exact this
    obtain ⟨f, hf⟩ := choose_lt each2
    have hlen : len ≤ 140737488351232 := by
      have h1 := wt ((((List.range len).map D).length + ((List.range (m - len)).map fun j => D (len + j)).length) * Try.prog.bytesOf E) (by rw [hx, DataW.weights, hS]; exact List.mem_cons_self)
      rw [reach_eq] at h1
      simp only [List.length_map, List.length_range] at h1
      have h2 : len + (m - len) ≤ (len + (m - len)) * Try.prog.bytesOf E := Nat.le_mul_of_pos_right _ hb
      omega
    refine ⟨(List.range len).map f, ⟨some a, cap, by rw [at1 hcs]; simp, ?_⟩, ?_, by simp; exact hlen⟩
    · intro j x hj
      rw [List.getElem?_map, Option.map_eq_some_iff] at hj
      obtain ⟨i, hi, rfl⟩ := hj
      obtain ⟨hlt, rfl⟩ := List.getElem?_eq_some_iff.1 hi
      rw [List.getElem_range] at *
      obtain ⟨b, off, e, h1, _, h3⟩ := hf j (by simpa using hlt)
      exact ⟨b, off, by rw [e], h1, h3⟩
    · intro x hx
      obtain ⟨i, hi, rfl⟩ := List.mem_map.1 hx
      obtain ⟨b, off, e, h1, h2, h3⟩ := hf i (by simpa using hi)
      exact h2
theorem enc2 {cs : List Value} {a b : Value} (h0 : cs[0]? = some a) (h1 : cs[1]? = some b) : ∀ (t : Nat) (v : Value), [a, b][t]? = some v → cs[t]? = some v := fun t v hv => by
  match t, hv with
  | 0, hv => simp at hv; rw [h0, hv]
  | 1, hv => simp at hv; rw [h1, hv]
  | t + 2, hv => simp at hv
theorem enc3 {cs : List Value} {a b c : Value} (h0 : cs[0]? = some a) (h1 : cs[1]? = some b) (h2 : cs[2]? = some c) : ∀ (t : Nat) (v : Value), [a, b, c][t]? = some v → cs[t]? = some v := fun t v hv => by
  match t, hv with
  | 0, hv => simp at hv; rw [h0, hv]
  | 1, hv => simp at hv; rw [h1, hv]
  | 2, hv => simp at hv; rw [h2, hv]
  | t + 3, hv => simp at hv
theorem open_L {H : Type} {enc : TypeId × Value → H} {W : World} {n o : Nat} {cs : List Value} {y : DataW H × List MemPlace} (h : DataW.trod enc Try.prog W 0 (fun _ => true) true n 81 ((cs.drop o).take 1) = some y) (wt : Wt 81 y.1) : ∃ l : List Lab, SlR 2 encL W cs[o]? l ∧ (∀ x ∈ l, ftL x = true) ∧ l.length ≤ 140737488351232 := by
  refine open_rowG (k := 2) encL (fun x => ftL x = true) Try.underlying81 (by kernel_rfl) (by decide) (of_decide_eq_true (by kernel_rfl)) (fun n cs y h wt => ?_) h wt
  obtain ⟨n0, y0, t0, z0⟩ := fld (F := 9) (off := 0) (k := 1) 0 Try.underlying203 (by kernel_rfl) h wt
  obtain ⟨v0, a0, w0⟩ := leaf_s Try.underlying9 t0 z0
  obtain ⟨n1, y1, t1, z1⟩ := fld (F := 9) (off := 1) (k := 1) 1 Try.underlying203 (by kernel_rfl) h wt
  obtain ⟨v1, a1, w1⟩ := leaf_s Try.underlying9 t1 z1
  exact ⟨(v0, v1), enc2 a0 a1, by simp only [ftL, Bool.and_eq_true]; exact ⟨w0, w1⟩⟩
theorem open_R {H : Type} {enc : TypeId × Value → H} {W : World} {n o : Nat} {cs : List Value} {y : DataW H × List MemPlace} (h : DataW.trod enc Try.prog W 0 (fun _ => true) true n 82 ((cs.drop o).take 1) = some y) (wt : Wt 82 y.1) : ∃ l : List Req, SlR 3 encR W cs[o]? l ∧ (∀ x ∈ l, ftR x = true) ∧ l.length ≤ 140737488351232 := by
  refine open_rowG (k := 3) encR (fun x => ftR x = true) Try.underlying82 (by kernel_rfl) (by decide) (of_decide_eq_true (by kernel_rfl)) (fun n cs y h wt => ?_) h wt
  obtain ⟨n0, y0, t0, z0⟩ := fld (F := 9) (off := 0) (k := 1) 0 Try.underlying205 (by kernel_rfl) h wt
  obtain ⟨v0, a0, w0⟩ := leaf_s Try.underlying9 t0 z0
  obtain ⟨n1, y1, t1, z1⟩ := fld (F := 9) (off := 1) (k := 1) 1 Try.underlying205 (by kernel_rfl) h wt
  obtain ⟨v1, a1, w1⟩ := leaf_s Try.underlying9 t1 z1
  obtain ⟨n2, y2, t2, z2⟩ := fld (F := 3) (off := 2) (k := 1) 2 Try.underlying205 (by kernel_rfl) h wt
  obtain ⟨v2, a2, w2⟩ := leaf_i Try.underlying3 t2
  exact ⟨(v0, v1, v2), enc3 a0 a1 a2, by simp only [ftR, Bool.and_eq_true]; exact ⟨w0, w1⟩⟩
theorem open_M {H : Type} {enc : TypeId × Value → H} {W : World} {n o : Nat} {cs : List Value} {y : DataW H × List MemPlace} (h : DataW.trod enc Try.prog W 0 (fun _ => true) true n 91 ((cs.drop o).take 1) = some y) (wt : Wt 91 y.1) : ∃ l : List Met, SlR 3 encM W cs[o]? l ∧ (∀ x ∈ l, ftM x = true) ∧ l.length ≤ 140737488351232 := by
  refine open_rowG (k := 3) encM (fun x => ftM x = true) Try.underlying91 (by kernel_rfl) (by decide) (of_decide_eq_true (by kernel_rfl)) (fun n cs y h wt => ?_) h wt
  obtain ⟨n0, y0, t0, z0⟩ := fld (F := 3) (off := 0) (k := 1) 0 Try.underlying24 (by kernel_rfl) h wt
  obtain ⟨v0, a0, w0⟩ := leaf_i Try.underlying3 t0
  obtain ⟨n1, y1, t1, z1⟩ := fld (F := 9) (off := 1) (k := 1) 1 Try.underlying24 (by kernel_rfl) h wt
  obtain ⟨v1, a1, w1⟩ := leaf_s Try.underlying9 t1 z1
  obtain ⟨n2, y2, t2, z2⟩ := fld (F := 22) (off := 2) (k := 1) 2 Try.underlying24 (by kernel_rfl) h wt
  obtain ⟨v2, a2, w2⟩ := leaf_i Try.underlying22 t2
  exact ⟨(v0, v1, v2), enc3 a0 a1 a2, by simp only [ftM]; exact w1⟩
theorem open_P {H : Type} {enc : TypeId × Value → H} {W : World} {n o : Nat} {cs : List Value} {y : DataW H × List MemPlace} (h : DataW.trod enc Try.prog W 0 (fun _ => true) true n 92 ((cs.drop o).take 1) = some y) (wt : Wt 92 y.1) : ∃ l : List Pol, SlR 3 encP W cs[o]? l ∧ (∀ x ∈ l, True) ∧ l.length ≤ 140737488351232 := by
  refine open_rowG (k := 3) encP (fun x => True) Try.underlying92 (by kernel_rfl) (by decide) (of_decide_eq_true (by kernel_rfl)) (fun n cs y h wt => ?_) h wt
  obtain ⟨n0, y0, t0, z0⟩ := fld (F := 4) (off := 0) (k := 1) 0 Try.underlying207 (by kernel_rfl) h wt
  obtain ⟨v0, a0, w0⟩ := leaf_b Try.underlying4 t0
  obtain ⟨n1, y1, t1, z1⟩ := fld (F := 3) (off := 1) (k := 1) 1 Try.underlying207 (by kernel_rfl) h wt
  obtain ⟨v1, a1, w1⟩ := leaf_i Try.underlying3 t1
  obtain ⟨n2, y2, t2, z2⟩ := fld (F := 3) (off := 2) (k := 1) 2 Try.underlying207 (by kernel_rfl) h wt
  obtain ⟨v2, a2, w2⟩ := leaf_i Try.underlying3 t2
  exact ⟨(v0, v1, v2), enc3 a0 a1 a2, trivial⟩
theorem open_S {H : Type} {enc : TypeId × Value → H} {W : World} {n o : Nat} {cs : List Value} {y : DataW H × List MemPlace} (h : DataW.trod enc Try.prog W 0 (fun _ => true) true n 95 ((cs.drop o).take 1) = some y) (wt : Wt 95 y.1) : ∃ l : List Sca, SlR 3 encS W cs[o]? l ∧ (∀ x ∈ l, True) ∧ l.length ≤ 140737488351232 := by
  refine open_rowG (k := 3) encS (fun x => True) Try.underlying95 (by kernel_rfl) (by decide) (of_decide_eq_true (by kernel_rfl)) (fun n cs y h wt => ?_) h wt
  obtain ⟨n0, y0, t0, z0⟩ := fld (F := 2) (off := 0) (k := 1) 0 Try.underlying209 (by kernel_rfl) h wt
  obtain ⟨v0, a0, w0⟩ := leaf_i Try.underlying2 t0
  obtain ⟨n1, y1, t1, z1⟩ := fld (F := 3) (off := 1) (k := 1) 1 Try.underlying209 (by kernel_rfl) h wt
  obtain ⟨v1, a1, w1⟩ := leaf_i Try.underlying3 t1
  obtain ⟨n2, y2, t2, z2⟩ := fld (F := 3) (off := 2) (k := 1) 2 Try.underlying209 (by kernel_rfl) h wt
  obtain ⟨v2, a2, w2⟩ := leaf_i Try.underlying3 t2
  exact ⟨(v0, v1, v2), enc3 a0 a1 a2, trivial⟩
theorem open_wl {H : Type} {enc : TypeId × Value → H} {W : World} {n : Nat} {ds : List Value} {y : DataW H × List MemPlace} (h : DataW.trod enc Try.prog W 0 (fun _ => true) true n 84 ds = some y) (wt : Wt 84 y.1) : ∃ x : Wl, ((∀ z ∈ x.lab, ftL z = true) ∧ (∀ z ∈ x.sel, ftR z = true) ∧ (∀ z ∈ x.tol, ftL z = true)) ∧ (x.lab.length ≤ 140737488351232 ∧ x.sel.length ≤ 140737488351232 ∧ x.tol.length ≤ 140737488351232) ∧ ds[0]? = some (.int .i64 x.rep) ∧ ds[1]? = some (.int .i64 x.cpu) ∧ ds[2]? = some (.int .i64 x.mem) ∧ SlR 2 encL W ds[3]? x.lab ∧ SlR 3 encR W ds[4]? x.sel ∧ SlR 2 encL W ds[5]? x.tol ∧ ds[6]? = some (.int .i64 x.warm) := by
  obtain ⟨nrep, yrep, trep, zrep⟩ := fld (F := 3) (off := 0) (k := 1) 0 Try.underlying84 (by kernel_rfl) h wt
  obtain ⟨v_rep, a_rep, w_rep⟩ := leaf_i Try.underlying3 trep
  obtain ⟨nr, yr, tr, zr⟩ := fld (F := 80) (off := 1) (k := 2) 1 Try.underlying84 (by kernel_rfl) h wt
  obtain ⟨ncpu, ycpu, tcpu, zcpu⟩ := fld (F := 22) (off := 0) (k := 1) 0 Try.underlying80 (by kernel_rfl) tr zr
  obtain ⟨v_cpu, a_cpu, w_cpu⟩ := leaf_i Try.underlying22 tcpu
  obtain ⟨nmem, ymem, tmem, zmem⟩ := fld (F := 22) (off := 1) (k := 1) 1 Try.underlying80 (by kernel_rfl) tr zr
  obtain ⟨v_mem, a_mem, w_mem⟩ := leaf_i Try.underlying22 tmem
  obtain ⟨nlab, ylab, tlab, zlab⟩ := fld (F := 81) (off := 3) (k := 1) 2 Try.underlying84 (by kernel_rfl) h wt
  obtain ⟨v_lab, a_lab, w_lab, l_lab⟩ := open_L tlab zlab
  obtain ⟨nsel, ysel, tsel, zsel⟩ := fld (F := 82) (off := 4) (k := 1) 3 Try.underlying84 (by kernel_rfl) h wt
  obtain ⟨v_sel, a_sel, w_sel, l_sel⟩ := open_R tsel zsel
  obtain ⟨ntol, ytol, ttol, ztol⟩ := fld (F := 81) (off := 5) (k := 1) 4 Try.underlying84 (by kernel_rfl) h wt
  obtain ⟨v_tol, a_tol, w_tol, l_tol⟩ := open_L ttol ztol
  obtain ⟨nwarm, ywarm, twarm, zwarm⟩ := fld (F := 3) (off := 6) (k := 1) 5 Try.underlying84 (by kernel_rfl) h wt
  obtain ⟨v_warm, a_warm, w_warm⟩ := leaf_i Try.underlying3 twarm
  exact ⟨⟨v_rep, v_cpu, v_mem, v_lab, v_sel, v_tol, v_warm⟩, ⟨w_lab, w_sel, w_tol⟩, ⟨l_lab, l_sel, l_tol⟩, a_rep, sub1 a_cpu, sub1 a_mem, a_lab, a_sel, a_tol, a_warm⟩
theorem open_pd {H : Type} {enc : TypeId × Value → H} {W : World} {n : Nat} {ds : List Value} {y : DataW H × List MemPlace} (h : DataW.trod enc Try.prog W 0 (fun _ => true) true n 86 ds = some y) (wt : Wt 86 y.1) : ∃ x : Pd, (ftT x.own = true ∧ ftT x.node = true ∧ (∀ z ∈ x.lab, ftL z = true) ∧ (∀ z ∈ x.sel, ftR z = true) ∧ (∀ z ∈ x.tol, ftL z = true)) ∧ (x.lab.length ≤ 140737488351232 ∧ x.sel.length ≤ 140737488351232 ∧ x.tol.length ≤ 140737488351232) ∧ ds[0]? = some (.string x.own) ∧ ds[1]? = some (.string x.node) ∧ ds[2]? = some (.int .i64 x.ph) ∧ ds[3]? = some (.int .i64 x.since) ∧ ds[4]? = some (.int .i64 x.cpu) ∧ ds[5]? = some (.int .i64 x.mem) ∧ SlR 2 encL W ds[6]? x.lab ∧ SlR 3 encR W ds[7]? x.sel ∧ SlR 2 encL W ds[8]? x.tol ∧ ds[9]? = some (.int .i64 x.warm) := by
  obtain ⟨nown, yown, town, zown⟩ := fld (F := 9) (off := 0) (k := 1) 0 Try.underlying86 (by kernel_rfl) h wt
  obtain ⟨v_own, a_own, w_own⟩ := leaf_s Try.underlying9 town zown
  obtain ⟨nnode, ynode, tnode, znode⟩ := fld (F := 9) (off := 1) (k := 1) 1 Try.underlying86 (by kernel_rfl) h wt
  obtain ⟨v_node, a_node, w_node⟩ := leaf_s Try.underlying9 tnode znode
  obtain ⟨nph, yph, tph, zph⟩ := fld (F := 3) (off := 2) (k := 1) 2 Try.underlying86 (by kernel_rfl) h wt
  obtain ⟨v_ph, a_ph, w_ph⟩ := leaf_i Try.underlying3 tph
  obtain ⟨nsince, ysince, tsince, zsince⟩ := fld (F := 2) (off := 3) (k := 1) 3 Try.underlying86 (by kernel_rfl) h wt
  obtain ⟨v_since, a_since, w_since⟩ := leaf_i Try.underlying2 tsince
  obtain ⟨nr, yr, tr, zr⟩ := fld (F := 80) (off := 4) (k := 2) 4 Try.underlying86 (by kernel_rfl) h wt
  obtain ⟨ncpu, ycpu, tcpu, zcpu⟩ := fld (F := 22) (off := 0) (k := 1) 0 Try.underlying80 (by kernel_rfl) tr zr
  obtain ⟨v_cpu, a_cpu, w_cpu⟩ := leaf_i Try.underlying22 tcpu
  obtain ⟨nmem, ymem, tmem, zmem⟩ := fld (F := 22) (off := 1) (k := 1) 1 Try.underlying80 (by kernel_rfl) tr zr
  obtain ⟨v_mem, a_mem, w_mem⟩ := leaf_i Try.underlying22 tmem
  obtain ⟨nlab, ylab, tlab, zlab⟩ := fld (F := 81) (off := 6) (k := 1) 5 Try.underlying86 (by kernel_rfl) h wt
  obtain ⟨v_lab, a_lab, w_lab, l_lab⟩ := open_L tlab zlab
  obtain ⟨nsel, ysel, tsel, zsel⟩ := fld (F := 82) (off := 7) (k := 1) 6 Try.underlying86 (by kernel_rfl) h wt
  obtain ⟨v_sel, a_sel, w_sel, l_sel⟩ := open_R tsel zsel
  obtain ⟨ntol, ytol, ttol, ztol⟩ := fld (F := 81) (off := 8) (k := 1) 7 Try.underlying86 (by kernel_rfl) h wt
  obtain ⟨v_tol, a_tol, w_tol, l_tol⟩ := open_L ttol ztol
  obtain ⟨nwarm, ywarm, twarm, zwarm⟩ := fld (F := 3) (off := 9) (k := 1) 8 Try.underlying86 (by kernel_rfl) h wt
  obtain ⟨v_warm, a_warm, w_warm⟩ := leaf_i Try.underlying3 twarm
  exact ⟨⟨v_own, v_node, v_ph, v_since, v_cpu, v_mem, v_lab, v_sel, v_tol, v_warm⟩, ⟨w_own, w_node, w_lab, w_sel, w_tol⟩, ⟨l_lab, l_sel, l_tol⟩, a_own, a_node, a_ph, a_since, sub1 a_cpu, sub1 a_mem, a_lab, a_sel, a_tol, a_warm⟩
theorem open_nd {H : Type} {enc : TypeId × Value → H} {W : World} {n : Nat} {ds : List Value} {y : DataW H × List MemPlace} (h : DataW.trod enc Try.prog W 0 (fun _ => true) true n 88 ds = some y) (wt : Wt 88 y.1) : ∃ x : Nd, (ftT x.grp = true ∧ (∀ z ∈ x.lab, ftL z = true) ∧ (∀ z ∈ x.tnt, ftL z = true)) ∧ (x.lab.length ≤ 140737488351232 ∧ x.tnt.length ≤ 140737488351232) ∧ ds[0]? = some (.string x.grp) ∧ ds[1]? = some (.int .i64 x.cpu) ∧ ds[2]? = some (.int .i64 x.mem) ∧ SlR 2 encL W ds[3]? x.lab ∧ SlR 2 encL W ds[4]? x.tnt ∧ ds[5]? = some (.int .i64 x.since) ∧ ds[6]? = some (.bool x.closed) := by
  obtain ⟨ngrp, ygrp, tgrp, zgrp⟩ := fld (F := 9) (off := 0) (k := 1) 0 Try.underlying88 (by kernel_rfl) h wt
  obtain ⟨v_grp, a_grp, w_grp⟩ := leaf_s Try.underlying9 tgrp zgrp
  obtain ⟨nr, yr, tr, zr⟩ := fld (F := 80) (off := 1) (k := 2) 1 Try.underlying88 (by kernel_rfl) h wt
  obtain ⟨ncpu, ycpu, tcpu, zcpu⟩ := fld (F := 22) (off := 0) (k := 1) 0 Try.underlying80 (by kernel_rfl) tr zr
  obtain ⟨v_cpu, a_cpu, w_cpu⟩ := leaf_i Try.underlying22 tcpu
  obtain ⟨nmem, ymem, tmem, zmem⟩ := fld (F := 22) (off := 1) (k := 1) 1 Try.underlying80 (by kernel_rfl) tr zr
  obtain ⟨v_mem, a_mem, w_mem⟩ := leaf_i Try.underlying22 tmem
  obtain ⟨nlab, ylab, tlab, zlab⟩ := fld (F := 81) (off := 3) (k := 1) 2 Try.underlying88 (by kernel_rfl) h wt
  obtain ⟨v_lab, a_lab, w_lab, l_lab⟩ := open_L tlab zlab
  obtain ⟨ntnt, ytnt, ttnt, ztnt⟩ := fld (F := 81) (off := 4) (k := 1) 3 Try.underlying88 (by kernel_rfl) h wt
  obtain ⟨v_tnt, a_tnt, w_tnt, l_tnt⟩ := open_L ttnt ztnt
  obtain ⟨nsince, ysince, tsince, zsince⟩ := fld (F := 2) (off := 5) (k := 1) 4 Try.underlying88 (by kernel_rfl) h wt
  obtain ⟨v_since, a_since, w_since⟩ := leaf_i Try.underlying2 tsince
  obtain ⟨nclosed, yclosed, tclosed, zclosed⟩ := fld (F := 4) (off := 6) (k := 1) 5 Try.underlying88 (by kernel_rfl) h wt
  obtain ⟨v_closed, a_closed, w_closed⟩ := leaf_b Try.underlying4 tclosed
  exact ⟨⟨v_grp, v_cpu, v_mem, v_lab, v_tnt, v_since, v_closed⟩, ⟨w_grp, w_lab, w_tnt⟩, ⟨l_lab, l_tnt⟩, a_grp, sub1 a_cpu, sub1 a_mem, a_lab, a_tnt, a_since, a_closed⟩
theorem open_gp {H : Type} {enc : TypeId × Value → H} {W : World} {n : Nat} {ds : List Value} {y : DataW H × List MemPlace} (h : DataW.trod enc Try.prog W 0 (fun _ => true) true n 90 ds = some y) (wt : Wt 90 y.1) : ∃ x : Gp, ((∀ z ∈ x.lab, ftL z = true) ∧ (∀ z ∈ x.tnt, ftL z = true)) ∧ (x.lab.length ≤ 140737488351232 ∧ x.tnt.length ≤ 140737488351232) ∧ ds[0]? = some (.int .i64 x.mn) ∧ ds[1]? = some (.int .i64 x.mx) ∧ ds[2]? = some (.int .i64 x.tg) ∧ ds[3]? = some (.int .i64 x.cpu) ∧ ds[4]? = some (.int .i64 x.mem) ∧ SlR 2 encL W ds[5]? x.lab ∧ SlR 2 encL W ds[6]? x.tnt ∧ ds[7]? = some (.int .i64 x.prio) := by
  obtain ⟨nmn, ymn, tmn, zmn⟩ := fld (F := 3) (off := 0) (k := 1) 0 Try.underlying90 (by kernel_rfl) h wt
  obtain ⟨v_mn, a_mn, w_mn⟩ := leaf_i Try.underlying3 tmn
  obtain ⟨nmx, ymx, tmx, zmx⟩ := fld (F := 3) (off := 1) (k := 1) 1 Try.underlying90 (by kernel_rfl) h wt
  obtain ⟨v_mx, a_mx, w_mx⟩ := leaf_i Try.underlying3 tmx
  obtain ⟨ntg, ytg, ttg, ztg⟩ := fld (F := 3) (off := 2) (k := 1) 2 Try.underlying90 (by kernel_rfl) h wt
  obtain ⟨v_tg, a_tg, w_tg⟩ := leaf_i Try.underlying3 ttg
  obtain ⟨nr, yr, tr, zr⟩ := fld (F := 80) (off := 3) (k := 2) 3 Try.underlying90 (by kernel_rfl) h wt
  obtain ⟨ncpu, ycpu, tcpu, zcpu⟩ := fld (F := 22) (off := 0) (k := 1) 0 Try.underlying80 (by kernel_rfl) tr zr
  obtain ⟨v_cpu, a_cpu, w_cpu⟩ := leaf_i Try.underlying22 tcpu
  obtain ⟨nmem, ymem, tmem, zmem⟩ := fld (F := 22) (off := 1) (k := 1) 1 Try.underlying80 (by kernel_rfl) tr zr
  obtain ⟨v_mem, a_mem, w_mem⟩ := leaf_i Try.underlying22 tmem
  obtain ⟨nlab, ylab, tlab, zlab⟩ := fld (F := 81) (off := 5) (k := 1) 4 Try.underlying90 (by kernel_rfl) h wt
  obtain ⟨v_lab, a_lab, w_lab, l_lab⟩ := open_L tlab zlab
  obtain ⟨ntnt, ytnt, ttnt, ztnt⟩ := fld (F := 81) (off := 6) (k := 1) 5 Try.underlying90 (by kernel_rfl) h wt
  obtain ⟨v_tnt, a_tnt, w_tnt, l_tnt⟩ := open_L ttnt ztnt
  obtain ⟨nprio, yprio, tprio, zprio⟩ := fld (F := 3) (off := 7) (k := 1) 6 Try.underlying90 (by kernel_rfl) h wt
  obtain ⟨v_prio, a_prio, w_prio⟩ := leaf_i Try.underlying3 tprio
  exact ⟨⟨v_mn, v_mx, v_tg, v_cpu, v_mem, v_lab, v_tnt, v_prio⟩, ⟨w_lab, w_tnt⟩, ⟨l_lab, l_tnt⟩, a_mn, a_mx, a_tg, sub1 a_cpu, sub1 a_mem, a_lab, a_tnt, a_prio⟩
theorem slr_sub {α : Type} {k o m j : Nat} {e : α → List Value} {w : World} {cs : List Value} {l : List α} (h : SlR k e w ((cs.drop o).take m)[j]? l) : SlR k e w cs[o + j]? l := by
  obtain ⟨q, c, h1, h2⟩ := h
  exact ⟨q, c, sub1 h1, h2⟩
theorem open_hp {H : Type} {enc : TypeId × Value → H} {W : World} {n : Nat} {ds : List Value} {y : DataW H × List MemPlace} (h : DataW.trod enc Try.prog W 0 (fun _ => true) true n 97 ds = some y) (wt : Wt 97 y.1) : ∃ x : Hp, (ftT x.tg = true ∧ (∀ z ∈ x.met, ftM z = true)) ∧ (x.met.length ≤ 140737488351232 ∧ x.upol.length ≤ 140737488351232 ∧ x.dpol.length ≤ 140737488351232 ∧ x.past.length ≤ 140737488351232) ∧ ds[0]? = some (.string x.tg) ∧ ds[1]? = some (.int .i64 x.mn) ∧ ds[2]? = some (.int .i64 x.mx) ∧ SlR 3 encM W ds[3]? x.met ∧ ds[4]? = some (.int .i64 x.tol) ∧ ds[5]? = some (.int .i64 x.uw) ∧ ds[6]? = some (.int .i64 x.up) ∧ SlR 3 encP W ds[7]? x.upol ∧ ds[8]? = some (.int .i64 x.dw) ∧ ds[9]? = some (.int .i64 x.dp) ∧ SlR 3 encP W ds[10]? x.dpol ∧ SlR 3 encS W ds[11]? x.past := by
  obtain ⟨ntg, ytg, ttg, ztg⟩ := fld (F := 9) (off := 0) (k := 1) 0 Try.underlying97 (by kernel_rfl) h wt
  obtain ⟨v_tg, a_tg, w_tg⟩ := leaf_s Try.underlying9 ttg ztg
  obtain ⟨nmn, ymn, tmn, zmn⟩ := fld (F := 3) (off := 1) (k := 1) 1 Try.underlying97 (by kernel_rfl) h wt
  obtain ⟨v_mn, a_mn, w_mn⟩ := leaf_i Try.underlying3 tmn
  obtain ⟨nmx, ymx, tmx, zmx⟩ := fld (F := 3) (off := 2) (k := 1) 2 Try.underlying97 (by kernel_rfl) h wt
  obtain ⟨v_mx, a_mx, w_mx⟩ := leaf_i Try.underlying3 tmx
  obtain ⟨nmet, ymet, tmet, zmet⟩ := fld (F := 91) (off := 3) (k := 1) 3 Try.underlying97 (by kernel_rfl) h wt
  obtain ⟨v_met, a_met, w_met, l_met⟩ := open_M tmet zmet
  obtain ⟨ntol, ytol, ttol, ztol⟩ := fld (F := 3) (off := 4) (k := 1) 4 Try.underlying97 (by kernel_rfl) h wt
  obtain ⟨v_tol, a_tol, w_tol⟩ := leaf_i Try.underlying3 ttol
  obtain ⟨nbuw, ybuw, tbuw, zbuw⟩ := fld (F := 94) (off := 5) (k := 3) 5 Try.underlying97 (by kernel_rfl) h wt
  obtain ⟨nuw, yuw, tuw, zuw⟩ := fld (F := 3) (off := 0) (k := 1) 0 Try.underlying94 (by kernel_rfl) tbuw zbuw
  obtain ⟨v_uw, a_uw, w_uw⟩ := leaf_i Try.underlying3 tuw
  obtain ⟨nup, yup, tup, zup⟩ := fld (F := 3) (off := 1) (k := 1) 1 Try.underlying94 (by kernel_rfl) tbuw zbuw
  obtain ⟨v_up, a_up, w_up⟩ := leaf_i Try.underlying3 tup
  obtain ⟨nupol, yupol, tupol, zupol⟩ := fld (F := 92) (off := 2) (k := 1) 2 Try.underlying94 (by kernel_rfl) tbuw zbuw
  obtain ⟨v_upol, a_upol, w_upol, l_upol⟩ := open_P tupol zupol
  obtain ⟨nbdw, ybdw, tbdw, zbdw⟩ := fld (F := 94) (off := 8) (k := 3) 6 Try.underlying97 (by kernel_rfl) h wt
  obtain ⟨ndw, ydw, tdw, zdw⟩ := fld (F := 3) (off := 0) (k := 1) 0 Try.underlying94 (by kernel_rfl) tbdw zbdw
  obtain ⟨v_dw, a_dw, w_dw⟩ := leaf_i Try.underlying3 tdw
  obtain ⟨ndp, ydp, tdp, zdp⟩ := fld (F := 3) (off := 1) (k := 1) 1 Try.underlying94 (by kernel_rfl) tbdw zbdw
  obtain ⟨v_dp, a_dp, w_dp⟩ := leaf_i Try.underlying3 tdp
  obtain ⟨ndpol, ydpol, tdpol, zdpol⟩ := fld (F := 92) (off := 2) (k := 1) 2 Try.underlying94 (by kernel_rfl) tbdw zbdw
  obtain ⟨v_dpol, a_dpol, w_dpol, l_dpol⟩ := open_P tdpol zdpol
  obtain ⟨npast, ypast, tpast, zpast⟩ := fld (F := 95) (off := 11) (k := 1) 7 Try.underlying97 (by kernel_rfl) h wt
  obtain ⟨v_past, a_past, w_past, l_past⟩ := open_S tpast zpast
  exact ⟨⟨v_tg, v_mn, v_mx, v_met, v_tol, v_uw, v_up, v_upol, v_dw, v_dp, v_dpol, v_past⟩, ⟨w_tg, w_met⟩, ⟨l_met, l_upol, l_dpol, l_past⟩, a_tg, a_mn, a_mx, a_met, a_tol, sub1 a_uw, sub1 a_up, slr_sub a_upol, sub1 a_dw, sub1 a_dp, slr_sub a_dpol, a_past⟩
theorem slr_at {α : Type} {k o m j : Nat} {e : α → List Value} {w : World} {cs : Array Value} {l : List α} (h : SlR k e w ((cs.toList.drop o).take m)[j]? l) : SlR k e w cs[o + j]? l := by
  obtain ⟨q, c, h1, h2⟩ := h
  exact ⟨q, c, by have := sub1 h1; rwa [Array.getElem?_toList] at this, h2⟩
theorem el_at {o m j : Nat} {cs : Array Value} {v : Value} (h : ((cs.toList.drop o).take m)[j]? = some v) : cs[o + j]? = some v := by
  have := sub1 h
  rwa [Array.getElem?_toList] at this
theorem open_ob {H : Type} {enc : TypeId × Value → H} {W : World} {base : Nat} {v : Value} {d : DataW H} {p : List MemPlace} (ok : Value.okWide Try.prog W .any base 99 v)
    (h : DataW.Trod enc Try.prog W 0 (fun _ => true) true 99 v d p) (wt : Wt 99 d) : ∃ cs o, v = .agg cs ∧ ObjV W cs o ∧ FitsO o := by
  obtain ⟨cs, rfl, hs⟩ := okWide_struct Try.underlying99 ok
  obtain ⟨fuel, hf⟩ := h
  have hf : DataW.trod enc Try.prog W 0 (fun _ => true) true fuel 99 cs.toList = some (d, p) := hf
  obtain ⟨nk, yk, tk, zk⟩ := fld (F := 3) (off := 0) (k := 1) 0 Try.underlying99 (by kernel_rfl) hf wt
  obtain ⟨k, a0, w0⟩ := leaf_i Try.underlying3 tk
  obtain ⟨ns, ys, ts, zs⟩ := fld (F := 9) (off := 1) (k := 1) 1 Try.underlying99 (by kernel_rfl) hf wt
  obtain ⟨s, a1, w1⟩ := leaf_s Try.underlying9 ts zs
  obtain ⟨nu, yu, tu, zu⟩ := fld (F := 61) (off := 2) (k := 1) 2 Try.underlying99 (by kernel_rfl) hf wt
  obtain ⟨u, a2, w2⟩ := leaf_u Try.underlying61 tu
  obtain ⟨nx0, yx0, tx0, zx0⟩ := fld (F := 84) (off := 3) (k := 7) 3 Try.underlying99 (by kernel_rfl) hf wt
  obtain ⟨x0, ⟨r0_0, r0_1, r0_2⟩, ⟨m0_0, m0_1, m0_2⟩, f0_0, f0_1, f0_2, f0_3, f0_4, f0_5, f0_6⟩ := open_wl tx0 zx0
  obtain ⟨nx1, yx1, tx1, zx1⟩ := fld (F := 86) (off := 10) (k := 10) 4 Try.underlying99 (by kernel_rfl) hf wt
  obtain ⟨x1, ⟨r1_0, r1_1, r1_2, r1_3, r1_4⟩, ⟨m1_0, m1_1, m1_2⟩, f1_0, f1_1, f1_2, f1_3, f1_4, f1_5, f1_6, f1_7, f1_8, f1_9⟩ := open_pd tx1 zx1
  obtain ⟨nx2, yx2, tx2, zx2⟩ := fld (F := 88) (off := 20) (k := 7) 5 Try.underlying99 (by kernel_rfl) hf wt
  obtain ⟨x2, ⟨r2_0, r2_1, r2_2⟩, ⟨m2_0, m2_1⟩, f2_0, f2_1, f2_2, f2_3, f2_4, f2_5, f2_6⟩ := open_nd tx2 zx2
  obtain ⟨nx3, yx3, tx3, zx3⟩ := fld (F := 90) (off := 27) (k := 8) 6 Try.underlying99 (by kernel_rfl) hf wt
  obtain ⟨x3, ⟨r3_0, r3_1⟩, ⟨m3_0, m3_1⟩, f3_0, f3_1, f3_2, f3_3, f3_4, f3_5, f3_6, f3_7⟩ := open_gp tx3 zx3
  obtain ⟨nx4, yx4, tx4, zx4⟩ := fld (F := 97) (off := 35) (k := 12) 7 Try.underlying99 (by kernel_rfl) hf wt
  obtain ⟨x4, ⟨r4_0, r4_1⟩, ⟨m4_0, m4_1, m4_2, m4_3⟩, f4_0, f4_1, f4_2, f4_3, f4_4, f4_5, f4_6, f4_7, f4_8, f4_9, f4_10, f4_11⟩ := open_hp tx4 zx4
  have e0 : cs[0]? = some (.int .i64 k) := by rw [← Array.getElem?_toList]; exact a0
  have e1 : cs[1]? = some (.string s) := by rw [← Array.getElem?_toList]; exact a1
  have e2 : cs[2]? = some (.int .u64 (u : Int)) := by rw [← Array.getElem?_toList]; exact a2
  exact ⟨cs, ⟨k, s, u, x0, x1, x2, x3, x4⟩, rfl, ⟨by rw [hs]; kernel_rfl, ⟨e0, e1, e2, w2⟩, ⟨el_at f0_0, el_at f0_1, el_at f0_2, slr_at f0_3, slr_at f0_4, slr_at f0_5, el_at f0_6⟩, ⟨el_at f1_0, el_at f1_1, el_at f1_2, el_at f1_3, el_at f1_4, el_at f1_5, slr_at f1_6, slr_at f1_7, slr_at f1_8, el_at f1_9⟩, ⟨el_at f2_0, el_at f2_1, el_at f2_2, slr_at f2_3, slr_at f2_4, el_at f2_5, el_at f2_6⟩, ⟨el_at f3_0, el_at f3_1, el_at f3_2, el_at f3_3, el_at f3_4, slr_at f3_5, slr_at f3_6, el_at f3_7⟩, ⟨el_at f4_0, el_at f4_1, el_at f4_2, slr_at f4_3, el_at f4_4, el_at f4_5, el_at f4_6, slr_at f4_7, el_at f4_8, el_at f4_9, slr_at f4_10, slr_at f4_11⟩⟩, { name := w1, w_lab := List.all_eq_true.2 r0_0, w_sel := List.all_eq_true.2 r0_1, w_tol := List.all_eq_true.2 r0_2, w_lab_r := m0_0, w_sel_r := m0_1, w_tol_r := m0_2, p_own := r1_0, p_node := r1_1, p_lab := List.all_eq_true.2 r1_2, p_sel := List.all_eq_true.2 r1_3, p_tol := List.all_eq_true.2 r1_4, p_lab_r := m1_0, p_sel_r := m1_1, p_tol_r := m1_2, n_grp := r2_0, n_lab := List.all_eq_true.2 r2_1, n_tnt := List.all_eq_true.2 r2_2, n_lab_r := m2_0, n_tnt_r := m2_1, g_lab := List.all_eq_true.2 r3_0, g_tnt := List.all_eq_true.2 r3_1, g_lab_r := m3_0, g_tnt_r := m3_1, h_tg := r4_0, h_met := List.all_eq_true.2 r4_1, h_met_r := m4_0, h_upol_r := m4_1, h_dpol_r := m4_2, h_past_r := m4_3 }⟩
end Go.Proofs.Ytajkhbdniadkkaa
