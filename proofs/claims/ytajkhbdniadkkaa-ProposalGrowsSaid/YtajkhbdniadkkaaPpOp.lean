/- Layer 20: what comes in: a metric, a row of uses, a row of numbers. -/
import Derived.Test.YtajkhbdniadkkaaPpB
import Derived.Test.YtajkhbdniadkkaaObOp
namespace Go.Proofs.Ytajkhbdniadkkaa.Pp
open Go.ChangeShapes Go.WideShapes Go.ChangeAt Go.RowKit Go.Deep Go.Lib Go.Shelf
open Go.Joins (cell_of_block unfrozen_of_block block_setCell)
open Go.Proofs.Ytajkhbdniadkkaa.Ow
set_option linter.unusedVariables false
set_option maxRecDepth 20000

theorem open_met {H : Type} {enc : TypeId × Value → H} {W : World} {base : Nat} {v : Value} {d : DataW H} {p : List MemPlace} (o : Value.okWide Try.prog W .any base 24 v)
    (h : DataW.Trod enc Try.prog W 0 (fun _ => true) true 24 v d p) (wt : Wt 24 d) : ∃ k s t, v = .agg (metC k s t) ∧ I64 k ∧ ftT s = true ∧ I64 t := by
  have c3 : Try.prog.cellsOf 24 = 3 := by kernel_rfl
  obtain ⟨cs, rfl, hs⟩ := okWide_struct Try.underlying24 o
  obtain ⟨fuel, hf⟩ := h
  have hf : DataW.trod enc Try.prog W 0 (fun _ => true) true fuel 24 cs.toList = some (d, p) := hf
  rw [c3] at hs
  obtain ⟨n0, y0, t0, z0⟩ := fld (F := 3) (off := 0) (k := 1) 0 Try.underlying24 (by kernel_rfl) hf wt
  obtain ⟨v0, a0, w0⟩ := leaf_i Try.underlying3 t0
  obtain ⟨n1, y1, t1, z1⟩ := fld (F := 9) (off := 1) (k := 1) 1 Try.underlying24 (by kernel_rfl) hf wt
  obtain ⟨v1, a1, w1⟩ := leaf_s Try.underlying9 t1 z1
  obtain ⟨n2, y2, t2, z2⟩ := fld (F := 22) (off := 2) (k := 1) 2 Try.underlying24 (by kernel_rfl) hf wt
  obtain ⟨v2, a2, w2⟩ := leaf_i Try.underlying22 t2
  refine ⟨v0, v1, v2, ?_, w0, w1, w2⟩
  obtain ⟨l⟩ := cs
  match l, hs with
  | [a, b, c], _ =>
    simp at a0 a1 a2
    subst a0 a1 a2
    rfl
instance : Inhabited Ut := ⟨⟨⟨#[]⟩, false, false, 0, 0⟩⟩
def okUt (x : Ut) : Prop := ftT x.pod = true ∧ I64 x.ask ∧ I64 x.use
theorem open_uts {H : Type} {enc : TypeId × Value → H} {W : World} {base : Nat} {v : Value} {d : DataW H} {p : List MemPlace} (ok : Value.okWide Try.prog W .any base 38 v)
    (h : DataW.Trod enc Try.prog W 0 (fun _ => true) true 38 v d p) (wt : Wt 38 d) : ∃ q c l, v = .slice q l.length c ∧ RowR 5 encT W q l ∧ (∀ x ∈ l, okUt x) ∧ l.length ≤ 140737488351232 := by
  obtain ⟨a0, len, cap, rfl⟩ := okWide_slice Try.underlying38 ok
  obtain ⟨fuel, hf⟩ := h
  have hf : DataW.trod enc Try.prog W 0 (fun _ => true) true fuel 38 (([Value.slice a0 len cap].drop 0).take 1) = some (d, p) := hf
  obtain ⟨l, ⟨q, c, h1, h2⟩, h3, h4⟩ := open_rowG (k := 5) encT okUt Try.underlying38 (by kernel_rfl) (by decide) (of_decide_eq_true (by kernel_rfl)) (fun n cs y h wt => by
    obtain ⟨n0, y0, t0, z0⟩ := fld (F := 9) (off := 0) (k := 1) 0 Try.underlying52 (by kernel_rfl) h wt
    obtain ⟨v0, a0, w0⟩ := leaf_s Try.underlying9 t0 z0
    obtain ⟨n1, y1, t1, z1⟩ := fld (F := 4) (off := 1) (k := 1) 1 Try.underlying52 (by kernel_rfl) h wt
    obtain ⟨v1, a1, _⟩ := leaf_b Try.underlying4 t1
    obtain ⟨n2, y2, t2, z2⟩ := fld (F := 4) (off := 2) (k := 1) 2 Try.underlying52 (by kernel_rfl) h wt
    obtain ⟨v2, a2, _⟩ := leaf_b Try.underlying4 t2
    obtain ⟨n3, y3, t3, z3⟩ := fld (F := 22) (off := 3) (k := 1) 3 Try.underlying52 (by kernel_rfl) h wt
    obtain ⟨v3, a3, w3⟩ := leaf_i Try.underlying22 t3
    obtain ⟨n4, y4, t4, z4⟩ := fld (F := 22) (off := 4) (k := 1) 4 Try.underlying52 (by kernel_rfl) h wt
    obtain ⟨v4, a4, w4⟩ := leaf_i Try.underlying22 t4
    refine ⟨⟨v0, v1, v2, v3, v4⟩, fun t v hv => ?_, w0, w3, w4⟩
    match t, hv with
    | 0, hv => cases hv; exact a0
    | 1, hv => cases hv; exact a1
    | 2, hv => cases hv; exact a2
    | 3, hv => cases hv; exact a3
    | 4, hv => cases hv; exact a4) hf wt
  simp at h1
  obtain ⟨rfl, rfl, rfl⟩ := h1
  exact ⟨a0, cap, l, rfl, h2, h3, h4⟩
def encN (z : Int) : List Value := [.int .i64 z]
theorem open_nums {H : Type} {enc : TypeId × Value → H} {W : World} {base : Nat} {v : Value} {d : DataW H} {p : List MemPlace} (ok : Value.okWide Try.prog W .any base 45 v)
    (h : DataW.Trod enc Try.prog W 0 (fun _ => true) true 45 v d p) (wt : Wt 45 d) : ∃ q c l, v = .slice q l.length c ∧ RowR 1 encN W q l ∧ (∀ x ∈ l, I64 x) ∧ l.length ≤ 140737488351232 := by
  obtain ⟨a0, len, cap, rfl⟩ := okWide_slice Try.underlying45 ok
  obtain ⟨fuel, hf⟩ := h
  have hf : DataW.trod enc Try.prog W 0 (fun _ => true) true fuel 45 (([Value.slice a0 len cap].drop 0).take 1) = some (d, p) := hf
  obtain ⟨l, ⟨q, c, h1, h2⟩, h3, h4⟩ := open_rowG (k := 1) encN I64 Try.underlying45 (by kernel_rfl) (by decide) (of_decide_eq_true (by kernel_rfl)) (fun n cs y h wt => by
    obtain ⟨z, hz, _, wf⟩ := DataW.trod_int Try.underlying3 h
    exact ⟨z, fun t v hv => by rw [hz]; exact hv, wf_i64 wf⟩) hf wt
  simp at h1
  obtain ⟨rfl, rfl, rfl⟩ := h1
  exact ⟨a0, cap, l, rfl, h2, h3, h4⟩
theorem open_errs {H : Type} {enc : TypeId × Value → H} {W : World} {base : Nat} {v : Value} {d : DataW H} {p : List MemPlace} (ok : Value.okWide Try.prog W .any base 46 v)
    (h : DataW.Trod enc Try.prog W 0 (fun _ => true) true 46 v d p) (wt : Wt 46 d) : ∃ q c l, v = .slice q l.length c ∧ RowR 1 encN W q l ∧ (∀ x ∈ l, I64 x) ∧ l.length ≤ 140737488351232 := by
  obtain ⟨a0, len, cap, rfl⟩ := okWide_slice Try.underlying46 ok
  obtain ⟨fuel, hf⟩ := h
  have hf : DataW.trod enc Try.prog W 0 (fun _ => true) true fuel 46 (([Value.slice a0 len cap].drop 0).take 1) = some (d, p) := hf
  obtain ⟨l, ⟨q, c, h1, h2⟩, h3, h4⟩ := open_rowG (k := 1) encN I64 Try.underlying46 (by kernel_rfl) (by decide) (of_decide_eq_true (by kernel_rfl)) (fun n cs y h wt => by
    obtain ⟨z, hz, _, wf⟩ := DataW.trod_int Try.underlying26 h
    exact ⟨z, fun t v hv => by rw [hz]; exact hv, wf_i64 wf⟩) hf wt
  simp at h1
  obtain ⟨rfl, rfl, rfl⟩ := h1
  exact ⟨a0, cap, l, rfl, h2, h3, h4⟩
end Go.Proofs.Ytajkhbdniadkkaa.Pp
