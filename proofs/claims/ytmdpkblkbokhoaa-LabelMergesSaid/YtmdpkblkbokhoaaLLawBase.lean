/- What the laws of layer 5 have in common: rows of labels and of asks, opened. -/
import Derived.Test.YtmdpkblkbokhoaaRows
import Derived.Test.YtmdpkblkbokhoaaLabE
import Derived.Test.YtmdpkblkbokhoaaPost
import Derived.Test.YtmdpkblkbokhoaaArgs
import Derived.ProofKit
import Derived.OpenShut
import Derived.Deep.Strs
namespace Go.Proofs.Ytmdpkblkbokhoaa
open Go.ChangeShapes Go.WideShapes Go.ChangeAt Go.RowKit Go.Deep
set_option linter.unusedVariables false

theorem own : ownKnob Try.prog.godebug = none := by kernel_rfl
theorem c_label : Try.prog.cellsOf 33 = 2 := by kernel_rfl
theorem c_string : Try.prog.cellsOf 9 = 1 := by kernel_rfl
theorem c_int : Try.prog.cellsOf 3 = 1 := by kernel_rfl

theorem cells_two {w : World} {a : Addr} {cs : List Value} (h : w.cells? 0 a 2 = some cs) : ∃ u v, cs = [u, v] ∧ w.cell? (a.add 0) = some u ∧ w.cell? (a.add 1) = some v := by
  unfold World.cells? at h
  rw [if_pos (Nat.zero_le _)] at h
  simp only [show List.range 2 = [0, 1] from rfl, List.mapM_cons, List.mapM_nil, Option.bind_eq_bind, Option.bind_eq_some_iff, Option.pure_def, Option.some.injEq] at h
  obtain ⟨u, hu, x, ⟨v, hv, y, rfl, rfl⟩, rfl⟩ := h
  exact ⟨u, v, rfl, hu, hv⟩
theorem cells_three {w : World} {a : Addr} {cs : List Value} (h : w.cells? 0 a 3 = some cs) : ∃ u v x, cs = [u, v, x] ∧ w.cell? (a.add 0) = some u ∧ w.cell? (a.add 1) = some v ∧ w.cell? (a.add 2) = some x := by
  unfold World.cells? at h
  rw [if_pos (Nat.zero_le _)] at h
  simp only [show List.range 3 = [0, 1, 2] from rfl, List.mapM_cons, List.mapM_nil, Option.bind_eq_bind, Option.bind_eq_some_iff, Option.pure_def, Option.some.injEq] at h
  obtain ⟨u, hu, x, ⟨v, hv, y, ⟨z, hz, t, rfl, rfl⟩, rfl⟩, rfl⟩ := h
  exact ⟨u, v, z, rfl, hu, hv, hz⟩
theorem spot_none {w : World} {a : Addr} {u : Value} (h : w.cell? a = some u) : ∃ b off, a = ⟨b, off, none⟩ ∧ b < w.heap.size := by
  obtain ⟨b, off, s⟩ := a
  unfold World.cell? at h
  split at h
  · rename_i c t f hb
    cases s with
    | none => exact ⟨b, off, rfl, (Array.getElem?_eq_some_iff.1 hb).1⟩
    | some s => simp at h
  · cases h
theorem add_none (b off n : Nat) : (⟨b, off, none⟩ : Addr).add n = ⟨b, off + n, none⟩ := by unfold Addr.add; split <;> simp_all

theorem open_labs {H : Type} {enc : TypeId × Value → H} {W : World} {base : Nat} {v : Value} {d : DataW H} {p : List MemPlace} (o : Value.okWide Try.prog W .any base 22 v)
    (h : DataW.Trod enc Try.prog W 0 (fun _ => true) true 22 v d p) : ∃ q c l, v = .slice q l.length c ∧ Labs W q l ∧ l.length ≤ maxLen := by
  obtain ⟨a0, len, cap, rfl⟩ := okWide_slice Try.underlying22 o
  obtain ⟨fuel, hf⟩ := h
  rcases open_slice Try.underlying22 hf with ⟨hcs, hx⟩ | ⟨a, len', cap', m, n, D, Pl, hcs, _, hl, hm, hmm, hx, hcell⟩
  · simp [Value.cells] at hcs
    obtain ⟨rfl, rfl, rfl⟩ := hcs
    exact ⟨none, 0, [], rfl, Labs.nil _ _, Nat.zero_le _⟩
  · simp [Value.cells] at hcs
    obtain ⟨rfl, rfl, rfl⟩ := hcs
    simp only [if_true] at hmm
    have each : ∀ i, i < len → ∃ x : Lab, ∃ b off, a = ⟨b, off, none⟩ ∧ b < W.heap.size ∧ W.cell? ⟨b, off + i * 2, none⟩ = some (.string x.1) ∧ W.cell? ⟨b, off + i * 2 + 1, none⟩ = some (.string x.2) := by
      intro i hi
      obtain ⟨cs, h1, h2⟩ := hcell i (by omega)
      rw [c_label] at h1
      obtain ⟨u, v, rfl, hu, hv⟩ := cells_two h1
      have h0 : ∃ u0, W.cell? (a.add 0) = some u0 := by
        obtain ⟨cs, h1, _⟩ := hcell 0 (by omega)
        rw [c_label] at h1
        obtain ⟨u0, v0, _, hu0, _⟩ := cells_two h1
        exact ⟨u0, by simpa [Addr.add] using hu0⟩
      obtain ⟨u0, hu0⟩ := h0
      obtain ⟨b, off, ha, hb⟩ := spot_none (by simpa [Addr.add] using hu0)
      subst ha
      obtain ⟨y0, y1, k, _, _, t0, t1⟩ := trod_struct2 Try.underlying33 h2
      obtain ⟨s, e0, _, _⟩ := DataW.trod_string Try.underlying9 t0
      obtain ⟨s', e1, _, _⟩ := DataW.trod_string Try.underlying9 t1
      simp [c_string] at e0 e1
      subst e0 e1
      rw [add_none, add_none] at hu hv
      exact ⟨(s, s'), b, off, rfl, hb, hu, hv⟩
    obtain ⟨f, hf⟩ := choose_lt each
    refine ⟨some a, cap, (List.range len).map f, by simp, ?_, by simp; omega⟩
    intro j x hj
    rw [List.getElem?_map, Option.map_eq_some_iff] at hj
    obtain ⟨i, hi, rfl⟩ := hj
    obtain ⟨hlt, rfl⟩ := List.getElem?_eq_some_iff.1 hi
    rw [List.getElem_range] at *
    obtain ⟨b, off, e, r⟩ := hf j (by simpa using hlt)
    exact ⟨b, off, by rw [e], r⟩

theorem open_reqs {H : Type} {enc : TypeId × Value → H} {W : World} {base : Nat} {v : Value} {d : DataW H} {p : List MemPlace} (o : Value.okWide Try.prog W .any base 23 v)
    (h : DataW.Trod enc Try.prog W 0 (fun _ => true) true 23 v d p) : ∃ q c l, v = .slice q l.length c ∧ Reqs W q l ∧ l.length ≤ maxLen := by
  obtain ⟨a0, len, cap, rfl⟩ := okWide_slice Try.underlying23 o
  obtain ⟨fuel, hf⟩ := h
  have c3 : Try.prog.cellsOf 35 = 3 := by kernel_rfl
  rcases open_slice Try.underlying23 hf with ⟨hcs, hx⟩ | ⟨a, len', cap', m, n, D, Pl, hcs, _, hl, hm, hmm, hx, hcell⟩
  · simp [Value.cells] at hcs
    obtain ⟨rfl, rfl, rfl⟩ := hcs
    exact ⟨none, 0, [], rfl, Reqs.nil _ _, Nat.zero_le _⟩
  · simp [Value.cells] at hcs
    obtain ⟨rfl, rfl, rfl⟩ := hcs
    simp only [if_true] at hmm
    have each : ∀ i, i < len → ∃ x : Req, ∃ b off, a = ⟨b, off, none⟩ ∧ b < W.heap.size ∧ W.cell? ⟨b, off + i * 3, none⟩ = some (.string x.1) ∧ W.cell? ⟨b, off + i * 3 + 1, none⟩ = some (.string x.2.1) ∧ W.cell? ⟨b, off + i * 3 + 2, none⟩ = some (.int .i64 x.2.2) := by
      intro i hi
      obtain ⟨cs, h1, h2⟩ := hcell i (by omega)
      rw [c3] at h1
      obtain ⟨u, v, x, rfl, hu, hv, hx⟩ := cells_three h1
      have h0 : ∃ u0, W.cell? (a.add 0) = some u0 := by
        obtain ⟨cs, h1, _⟩ := hcell 0 (by omega)
        rw [c3] at h1
        obtain ⟨u0, v0, x0, _, hu0, _⟩ := cells_three h1
        exact ⟨u0, by simpa [Addr.add] using hu0⟩
      obtain ⟨u0, hu0⟩ := h0
      obtain ⟨b, off, ha, hb⟩ := spot_none (by simpa [Addr.add] using hu0)
      subst ha
      obtain ⟨y0, y1, y2, k, _, _, t0, t1, t2⟩ := trod_struct3 Try.underlying35 h2
      obtain ⟨s, e0, _, _⟩ := DataW.trod_string Try.underlying9 t0
      obtain ⟨s', e1, _, _⟩ := DataW.trod_string Try.underlying9 t1
      obtain ⟨z, e2, _, _⟩ := DataW.trod_int Try.underlying3 t2
      simp [c_string, c_int] at e0 e1 e2
      subst e0 e1 e2
      rw [add_none, add_none] at hu hv hx
      exact ⟨(s, s', z), b, off, rfl, hb, hu, hv, hx⟩
    obtain ⟨f, hf⟩ := choose_lt each
    refine ⟨some a, cap, (List.range len).map f, by simp, ?_, by simp; omega⟩
    intro j x hj
    rw [List.getElem?_map, Option.map_eq_some_iff] at hj
    obtain ⟨i, hi, rfl⟩ := hj
    obtain ⟨hlt, rfl⟩ := List.getElem?_eq_some_iff.1 hi
    rw [List.getElem_range] at *
    obtain ⟨b, off, e, r⟩ := hf j (by simpa using hlt)
    exact ⟨b, off, by rw [e], r⟩
end Go.Proofs.Ytmdpkblkbokhoaa
