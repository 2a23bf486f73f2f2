/- What came in: series, acts, looks. -/
import Derived.Test.YtajkhbdniadkkaaScA
import Derived.ProofKit
import Derived.OpenShut
import Derived.Deep.Strs
namespace Go.Proofs.Ytajkhbdniadkkaa
open Go.ChangeShapes Go.WideShapes Go.ChangeAt Go.RowKit Go.Deep Go.Lib Go.Shelf
open Go.Joins (cell_of_block unfrozen_of_block block_setCell)
set_option linter.unusedVariables false
set_option linter.unusedSimpArgs false
set_option maxRecDepth 20000

theorem open_ser {H : Type} {enc : TypeId × Value → H} {W : World} {base : Nat} {v : Value} {d : DataW H} {p : List MemPlace} (o : Value.okWide Try.prog W .any base 43 v)
    (h : DataW.Trod enc Try.prog W 0 (fun _ => true) true 43 v d p) : ∃ s, v = ser s ∧ OkS s := by
  have c1 : Try.prog.cellsOf 9 = 1 := by kernel_rfl
  have c2 : Try.prog.cellsOf 43 = 2 := by kernel_rfl
  obtain ⟨cs, rfl, hs⟩ := okWide_struct Try.underlying43 o
  obtain ⟨fuel, hf⟩ := h
  have hf : DataW.trod enc Try.prog W 0 (fun _ => true) true fuel 43 cs.toList = some (d, p) := hf
  rw [c2] at hs
  obtain ⟨a, b, rfl⟩ : ∃ a b, cs = #[a, b] := by
    obtain ⟨l⟩ := cs
    match l, hs with
    | [a, b], _ => exact ⟨a, b, rfl⟩
  obtain ⟨y0, y1, k, _, _, t0, t1⟩ := trod_struct2 Try.underlying43 hf
  obtain ⟨s1, e1, _, z1⟩ := DataW.trod_string Try.underlying9 t0
  obtain ⟨s2, e2, _, z2⟩ := DataW.trod_string Try.underlying9 t1
  simp [c1] at e1 e2
  subst e1 e2
  exact ⟨(s1, s2), rfl, z1, z2⟩
end Go.Proofs.Ytajkhbdniadkkaa
