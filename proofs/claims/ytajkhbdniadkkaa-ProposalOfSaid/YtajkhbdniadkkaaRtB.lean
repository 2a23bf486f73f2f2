/- Layer 12: which rows may be, by the program and by the law. -/
import Derived.Test.YtajkhbdniadkkaaRtA
namespace Go.Proofs.Ytajkhbdniadkkaa.Rt
open Go.RowKit Go.Lib
open Go.Joins (cell_of_block unfrozen_of_block block_setCell)
set_option linter.unusedVariables false
set_option linter.unusedSimpArgs false
set_option maxRecDepth 20000

/-- A sample in a cell of its own. -/
structure BoxR (w w1 : World) (N : Nat) (x : Sam) : Prop where
  eq : w.alloc (.cells #[.int .i64 x.1, .int .i64 x.2] TSQ) = w1
  at_ : w.heap.size = N
  b : Below w.heap.size w w1
  c0 : w1.cell? ⟨N, 0, none⟩ = some (.int .i64 x.1)
  c1 : w1.cell? ⟨N, 1, none⟩ = some (.int .i64 x.2)
theorem boxR (w : World) (x : Sam) : ∃ w1 N, BoxR w w1 N x :=
  ⟨_, _, rfl, rfl, (Below.refl _ _).alloc (Nat.le_refl _) _, cell_of_block (heap_alloc_new w _) 0, cell_of_block (heap_alloc_new w _) 1⟩

/-- What the law finds. -/
def Finds (w : World) (l : List Sam) (e : Ending) (w' : World) : Prop := ∃ b : Bool, e = .returned (.bool b) ∧ (b = true → Good l) ∧ Below w.heap.size w w'
end Go.Proofs.Ytajkhbdniadkkaa.Rt
