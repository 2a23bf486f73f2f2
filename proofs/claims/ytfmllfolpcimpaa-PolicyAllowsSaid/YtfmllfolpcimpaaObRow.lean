/- A row of objects that came in, for whatever layer: how it lies; how long its objects' rows can be. -/
import Derived.Test.YtfmllfolpcimpaaObNil
import Derived.Test.YtfmllfolpcimpaaObOwn
import Derived.Test.YtfmllfolpcimpaaObD
namespace Go.Proofs.Ytfmllfolpcimpaa.Ow
open Go.ChangeShapes Go.WideShapes Go.ChangeAt Go.RowKit Go.Deep Go.Lib Go.Shelf
open Go.Joins (cell_of_block unfrozen_of_block block_setCell)
set_option linter.unusedVariables false
set_option maxRecDepth 20000

/-- The cells of an object. -/
abbrev Cs := { a : Array Value // a.size = 47 ∧ a.all (·.oneCell') = true }
abbrev Obv := Cs × Ob
def encOb (x : Obv) : List Value := x.1.1.toList
theorem lenOb (x : Obv) : (encOb x).length = 47 := by unfold encOb; rw [Array.length_toList]; exact x.1.2.1
theorem oneOb (x : Obv) : ∀ u ∈ encOb x, u.oneCell' = true := by
  intro u hu
  have h := x.1.2.2
  rw [← Array.all_toList] at h
  exact List.all_eq_true.1 h u hu
instance : Inhabited Cs := ⟨⟨zerC, rfl, by kernel_rfl⟩⟩
instance : Inhabited Ob := ⟨zerO⟩
/-- None of its rows is longer than memory. -/
def FitR (cs : Array Value) (i b : Nat) : Prop := ∀ q n c, cs[i]? = some (.slice q n c) → n * b ≤ 140737488351232
def FitH (cs : Array Value) : Prop := FitR cs 38 32 ∧ FitR cs 42 24 ∧ FitR cs 45 24 ∧ FitR cs 46 24
/-- .. told of the object. -/
def FitO (o : Ob) : Prop := o.h.met.length * 32 ≤ 140737488351232 ∧ o.h.upol.length * 24 ≤ 140737488351232 ∧ o.h.dpol.length * 24 ≤ 140737488351232 ∧ o.h.past.length * 24 ≤ 140737488351232
theorem FitH.ob {W : World} {cs : Array Value} {o : Ob} (h : FitH cs) (hv : ObjV W cs o) : FitO o := by
  obtain ⟨hsz, _, _, _, _, _, hH⟩ := hv
  obtain ⟨_, _, _, ⟨q1, k1, e1, r1⟩, _, _, _, ⟨q2, k2, e2, r2⟩, _, _, ⟨q3, k3, e3, r3⟩, ⟨q4, k4, e4, r4⟩⟩ := hH
  exact ⟨h.1 _ _ _ e1, h.2.1 _ _ _ e2, h.2.2.1 _ _ _ e3, h.2.2.2 _ _ _ e4⟩
def okOb (W : World) (x : Obv) : Prop := ObjV W x.1.1 x.2 ∧ NilO x.1.1 ∧ FitsO x.2 ∧ I64 x.2.kind ∧ FitO x.2
theorem fit_leaf {H : Type} {enc : TypeId × Value → H} {W : World} {S E : TypeId} {n o b : Nat} {cs : List Value} {y : DataW H × List MemPlace} (hS : Try.prog.underlying S = some (.slice E)) (hb : Try.prog.bytesOf E = b)
    (h : DataW.trod enc Try.prog W 0 (fun _ => true) true n S ((cs.drop o).take 1) = some y) (wt : Wt S y.1) : ∀ q m c, cs[o]? = some (.slice q m c) → m * b ≤ 140737488351232 := by
  intro q m0 c0 hc
  rcases open_slice hS h with ⟨hcs, hx⟩ | ⟨a, len, cap, m, n', D, Pl, hcs, _, hl, hm, hmm, hx, hcell⟩
  · have := at1 hcs
    rw [hc] at this
    injection this with this
    injection this with _ e _
    rw [e]
    omega
  · have e0 := at1 hcs
    rw [hc] at e0
    injection e0 with e0
    injection e0 with _ e _
    have h1 := wt ((((List.range len).map D).length + ((List.range (m - len)).map fun j => D (len + j)).length) * Try.prog.bytesOf E) (by rw [hx, DataW.weights, hS]; exact List.mem_cons_self)
    rw [reach_eq, hb] at h1
    simp only [List.length_map, List.length_range] at h1
    rw [e]
    exact Nat.le_trans (Nat.mul_le_mul_right b (by omega)) h1
theorem open_rowK {α : Type} [Inhabited α] {H : Type} {enc : TypeId × Value → H} {W : World} {S E : TypeId} {k n o : Nat} (e : α → List Value) (ok : α → Prop) (hS : Try.prog.underlying S = some (.slice E)) (hk : Try.prog.cellsOf E = k) (h0 : 0 < k)
    (hb : 0 < Try.prog.bytesOf E) (each : ∀ n cs y, cs.length = k → DataW.trod enc Try.prog W 0 (fun _ => true) true n E cs = some y → Wt E y.1 → ∃ x, (∀ (t : Nat) (v : Value), (e x)[t]? = some v → cs[t]? = some v) ∧ ok x) {cs : List Value} {y : DataW H × List MemPlace} (h : DataW.trod enc Try.prog W 0 (fun _ => true) true n S ((cs.drop o).take 1) = some y) (wt : Wt S y.1) :
    ∃ l : List α, SlR k e W cs[o]? l ∧ (∀ x ∈ l, ok x) ∧ l.length ≤ 140737488351232 := by
  rcases open_slice hS h with ⟨hcs, hx⟩ | ⟨a, len, cap, m, n', D, Pl, hcs, _, hl, hm, hmm, hx, hcell⟩
  · exact ⟨[], ⟨none, 0, at1 hcs, RowR.nil _ _ _ _⟩, by simp, by simp⟩
  · simp only [if_true] at hmm
    have each2 : ∀ i, i < len → ∃ x : α, ∃ b off, a = ⟨b, off, none⟩ ∧ b < W.heap.size ∧ ok x ∧ ∀ (t : Nat) (u : Value), (e x)[t]? = some u → W.cell? ⟨b, off + i * k + t, none⟩ = some u := by
      intro i hi
      obtain ⟨c0, g1, g2⟩ := hcell 0 (by omega)
      rw [hk] at g1
      obtain ⟨l0, p0⟩ := cells_at g1
      obtain ⟨b, off, ha, hbl⟩ := spot_none' (by have := p0 0 (c0[0]'(by omega)) (List.getElem?_eq_getElem (by omega)); simpa [Addr.add] using this)
      subst ha
      obtain ⟨c1, g3, g4⟩ := hcell i (by omega)
      rw [hk] at g3
      obtain ⟨l1, p1⟩ := cells_at g3
      obtain ⟨x, hx1, hx2⟩ := each _ _ _ l1 g4 (fun n hn => wt n (by rw [hx, DataW.weights, hS]; exact List.mem_cons_of_mem _ (List.mem_append_left _ (wt_mem hi hn))))
      refine ⟨x, b, off, rfl, hbl, hx2, fun t u hu => ?_⟩
      have := p1 t u (hx1 t u hu)
      rw [add_none', add_none'] at this
      exact this
    obtain ⟨f, hf⟩ := choose_lt each2
    have hlen : len ≤ 140737488351232 := by
      have h1 := wt ((((List.range len).map D).length + ((List.range (m - len)).map fun j => D (len + j)).length) * Try.prog.bytesOf E) (by rw [hx, DataW.weights, hS]; exact List.mem_cons_self)
      rw [reach_eq] at h1
      simp only [List.length_map, List.length_range] at h1
      have h2 : len + (m - len) ≤ (len + (m - len)) * Try.prog.bytesOf E := Nat.le_mul_of_pos_right _ hb
      omega
    refine ⟨(List.range len).map f, ⟨some a, cap, by rw [at1 hcs]; simp, ?_⟩, ?_, by simp; exact hlen⟩
    · intro j x hj
      rw [List.getElem?_map, Option.map_eq_some_iff] at hj
      obtain ⟨i, hi, rfl⟩ := hj
      obtain ⟨hlt, rfl⟩ := List.getElem?_eq_some_iff.1 hi
      rw [List.getElem_range] at *
      obtain ⟨b, off, e, h1, _, h3⟩ := hf j (by simpa using hlt)
      exact ⟨b, off, by rw [e], h1, h3⟩
    · intro x hx
      obtain ⟨i, hi, rfl⟩ := List.mem_map.1 hx
      obtain ⟨b, off, e, h1, h2, h3⟩ := hf i (by simpa using hi)
      exact h2
theorem rangeAt_obs {W : World} {b off : Nat} {l : List Obv} {j : Nat} {x : Obv} (h : RowR 47 encOb W (some ⟨b, off, none⟩) l) (hx : l[j]? = some x) : b < W.heap.size ∧ W.rangeAt b (off + j * 47) (encOb x) := by
  obtain ⟨b', off', e, h1, h2⟩ := h j x hx
  simp only [Option.some.injEq, Addr.mk.injEq] at e
  obtain ⟨rfl, rfl, _⟩ := e
  exact ⟨h1, fun t v hv => h2 t v hv⟩
end Go.Proofs.Ytfmllfolpcimpaa.Ow
