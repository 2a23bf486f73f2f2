/-
  No cell of these rows narrows 'for every input' (looked for: loops, veiled, ifaces, maps, wideKeys, modest, calm, conditions, laid).
  DERIVED. THE GIVEN ROWS OF THIS SEAT. 5 by the template 'for every input the law returns true; each argument reads behind the call as it read before'; 0 by the template 'total and deterministic' (their statements: YtalhajnekpbkoaaTotals.lean).
  GIVEN WITH THE SEED: the statements are not yours to turn. If you find one false, say at which input.
  Laid BY PROGRAM, IN A SANDBOX (cutbox-rows.mjs): the forced cells as the released guide's own fill.sh prints them over the translation 3d638a8c1dd43c88… (all of the seat's roots in one cut). By AI agents, Wed Nov 11 2026. No macro, syntax, notation, axiom, sorry.
-/
import Derived.Test.YtalhajnekpbkoaaChecked
import GoSem.Claim
import GoSem.ClaimJoined
import GoSem.ClaimMapViews
import Derived.JoinedTies
import Derived.KernelRfl
namespace Go.Proofs.Ytalhajnekpbkoaa
/- THE CELL 'sum', in the pinned program and in every row, IS THE sha256 OF THE DUMP (.gsa) THAT YtalhajnekpbkoaaProg.lean LOADS. Nothing in Lean hashes anything: it is a label: what it is worth is what the hold of that sum in a sandbox is worth. -/
noncomputable def Try.pinned : Pinned := { name := "ytalhajnekpbkoaa", sum := "3d638a8c1dd43c88c6a6ec8b244861b89bda057575b1558a5c38416fb1ab90f5", checked := Try.checked }
namespace Rows
def none {H : Type} : Left H := { results := [], args := [] }

/-- 'trimtablaw04.GaugeReads': WHATEVER THE INPUT: true; the input reads as it did. -/
def gaugeReadsSpec : ChangeSpec := { name := "gaugeReads", fn := fun _ => fun
  | [d] => { results := [.lit (.bool true)], args := [d] }
  | _ => none }
def gaugeReadsRow : OpenClaim := { program := "ytalhajnekpbkoaa", sum := "3d638a8c1dd43c88c6a6ec8b244861b89bda057575b1558a5c38416fb1ab90f5", func := "trimtab/trimtablaw04.GaugeReads", spec := "gaugeReads", inPlace := ["math.Float64frombits", "math.Float64bits"], apart := false }
def GaugeReadsSaid : Prop := gaugeReadsRow.holds Try.pinned (OpenSpec.ofChange gaugeReadsSpec)

/-- ITS FALSE NEIGHBOUR: 'it returns false'. Refute it at one input. -/
def gaugeReadsWrong : ChangeSpec := { name := "gaugeReads", fn := fun _ => fun
  | [d] => { results := [.lit (.bool false)], args := [d] }
  | _ => none }
def GaugeReadsWrongFalsely : Prop := gaugeReadsRow.holds Try.pinned (OpenSpec.ofChange gaugeReadsWrong)

/-- 'trimtablaw04.GaugeWrites': WHATEVER THE INPUT: true; the input reads as it did. -/
def gaugeWritesSpec : ChangeSpec := { name := "gaugeWrites", fn := fun _ => fun
  | [d] => { results := [.lit (.bool true)], args := [d] }
  | _ => none }
def gaugeWritesRow : OpenClaim := { program := "ytalhajnekpbkoaa", sum := "3d638a8c1dd43c88c6a6ec8b244861b89bda057575b1558a5c38416fb1ab90f5", func := "trimtab/trimtablaw04.GaugeWrites", spec := "gaugeWrites", inPlace := ["math.Float64frombits", "math.Float64bits"], apart := false }
def GaugeWritesSaid : Prop := gaugeWritesRow.holds Try.pinned (OpenSpec.ofChange gaugeWritesSpec)

/-- ITS FALSE NEIGHBOUR: 'it returns false'. Refute it at one input. -/
def gaugeWritesWrong : ChangeSpec := { name := "gaugeWrites", fn := fun _ => fun
  | [d] => { results := [.lit (.bool false)], args := [d] }
  | _ => none }
def GaugeWritesWrongFalsely : Prop := gaugeWritesRow.holds Try.pinned (OpenSpec.ofChange gaugeWritesWrong)

/-- 'trimtablaw04.GaugeNearest': WHATEVER THE INPUT: true; the input reads as it did. -/
def gaugeNearestSpec : ChangeSpec := { name := "gaugeNearest", fn := fun _ => fun
  | [d] => { results := [.lit (.bool true)], args := [d] }
  | _ => none }
def gaugeNearestRow : OpenClaim := { program := "ytalhajnekpbkoaa", sum := "3d638a8c1dd43c88c6a6ec8b244861b89bda057575b1558a5c38416fb1ab90f5", func := "trimtab/trimtablaw04.GaugeNearest", spec := "gaugeNearest", inPlace := ["math.Float64frombits", "math.Float64bits"], unfollowed := true, recurses := true, apart := false }
def GaugeNearestSaid : Prop := gaugeNearestRow.holds Try.pinned (OpenSpec.ofChange gaugeNearestSpec)

/-- ITS FALSE NEIGHBOUR: 'it returns false'. Refute it at one input. -/
def gaugeNearestWrong : ChangeSpec := { name := "gaugeNearest", fn := fun _ => fun
  | [d] => { results := [.lit (.bool false)], args := [d] }
  | _ => none }
def GaugeNearestWrongFalsely : Prop := gaugeNearestRow.holds Try.pinned (OpenSpec.ofChange gaugeNearestWrong)

/-- 'trimtablaw04.GaugeSorts': WHATEVER THE INPUT: true; the input reads as it did. -/
def gaugeSortsSpec : ChangeSpec := { name := "gaugeSorts", fn := fun _ => fun
  | [d] => { results := [.lit (.bool true)], args := [d] }
  | _ => none }
def gaugeSortsRow : OpenClaim := { program := "ytalhajnekpbkoaa", sum := "3d638a8c1dd43c88c6a6ec8b244861b89bda057575b1558a5c38416fb1ab90f5", func := "trimtab/trimtablaw04.GaugeSorts", spec := "gaugeSorts", inPlace := ["math.Float64frombits", "math.Float64bits"], unfollowed := true, recurses := true, apart := false }
def GaugeSortsSaid : Prop := gaugeSortsRow.holds Try.pinned (OpenSpec.ofChange gaugeSortsSpec)

/-- ITS FALSE NEIGHBOUR: 'it returns false'. Refute it at one input. -/
def gaugeSortsWrong : ChangeSpec := { name := "gaugeSorts", fn := fun _ => fun
  | [d] => { results := [.lit (.bool false)], args := [d] }
  | _ => none }
def GaugeSortsWrongFalsely : Prop := gaugeSortsRow.holds Try.pinned (OpenSpec.ofChange gaugeSortsWrong)

/-- 'trimtablaw04.GaugeMeans': WHATEVER THE INPUT: true; the input reads as it did. -/
def gaugeMeansSpec : ChangeSpec := { name := "gaugeMeans", fn := fun _ => fun
  | [d] => { results := [.lit (.bool true)], args := [d] }
  | _ => none }
def gaugeMeansRow : OpenClaim := { program := "ytalhajnekpbkoaa", sum := "3d638a8c1dd43c88c6a6ec8b244861b89bda057575b1558a5c38416fb1ab90f5", func := "trimtab/trimtablaw04.GaugeMeans", spec := "gaugeMeans", inPlace := ["math.Float64frombits", "math.Float64bits", "math/bits.Add64"], named := ["math/bits.divideError", "math/bits.overflowError"], apart := false }
def GaugeMeansSaid : Prop := gaugeMeansRow.holds Try.pinned (OpenSpec.ofChange gaugeMeansSpec)

/-- ITS FALSE NEIGHBOUR: 'it returns false'. Refute it at one input. -/
def gaugeMeansWrong : ChangeSpec := { name := "gaugeMeans", fn := fun _ => fun
  | [d] => { results := [.lit (.bool false)], args := [d] }
  | _ => none }
def GaugeMeansWrongFalsely : Prop := gaugeMeansRow.holds Try.pinned (OpenSpec.ofChange gaugeMeansWrong)

/- THE SECOND FORM. 'bulk': how many values and letters a reading holds, each counted each time it is reached (what is shared counts as often as it is met; a slice's spare places count too). A statement '..UptoSaid' is the law's where the arguments, and the package variables that the reading takes, are together of bulk at most 1048576: NARROWER than '..Said'. Prove '..Said' where nothing that the law and all that it calls make is longer than what came in: it says more and counts as full. Else prove '..UptoSaid'. A law counts once. -/
mutual
def uptoBulk {H : Type} : DataW H → Nat
  | .lit (.string bytes) => bytes.length + 1
  | .lit _ => 1
  | .nil => 1
  | .ptr d => uptoBulk d + 1
  | .slice elems spare => uptoBulkAll elems + uptoBulkAll spare + 1
  | .agg parts => uptoBulkAll parts + 1
  | .iface _ d => uptoBulk d + 1
  | .map entries => uptoBulkEntries entries + 1
  | .held _ => 1
def uptoBulkAll {H : Type} : List (DataW H) → Nat
  | [] => 0
  | d :: r => uptoBulk d + uptoBulkAll r
def uptoBulkEntries {H : Type} : List (Lit × DataW H) → Nat
  | [] => 0
  | x :: r => uptoBulkEntry x + uptoBulkEntries r
def uptoBulkEntry {H : Type} : Lit × DataW H → Nat
  | (.string bytes, d) => bytes.length + uptoBulk d + 1
  | (_, d) => uptoBulk d + 1
 end
def uptoSmall : (H : Type) → List (DataW H) → Bool := fun _ ds => decide (uptoBulkAll ds ≤ 1048576)
def OpenSpec.upto (s : _root_.Go.ChangeSpec) : _root_.Go.OpenSpec := { _root_.Go.OpenSpec.ofChange s with cond := some uptoSmall }

/-- 'trimtablaw04.GaugeReads', WHERE WHAT IT READS IS OF BULK AT MOST 1048576: true; the input reads as it did. -/
def gaugeReadsUptoRow : OpenClaim := { program := "ytalhajnekpbkoaa", sum := "3d638a8c1dd43c88c6a6ec8b244861b89bda057575b1558a5c38416fb1ab90f5", func := "trimtab/trimtablaw04.GaugeReads", spec := "gaugeReads", inPlace := ["math.Float64frombits", "math.Float64bits"], apart := false, narrowed := true }
def GaugeReadsUptoSaid : Prop := gaugeReadsUptoRow.holds Try.pinned (OpenSpec.upto gaugeReadsSpec)

/-- 'trimtablaw04.GaugeWrites', WHERE WHAT IT READS IS OF BULK AT MOST 1048576: true; the input reads as it did. -/
def gaugeWritesUptoRow : OpenClaim := { program := "ytalhajnekpbkoaa", sum := "3d638a8c1dd43c88c6a6ec8b244861b89bda057575b1558a5c38416fb1ab90f5", func := "trimtab/trimtablaw04.GaugeWrites", spec := "gaugeWrites", inPlace := ["math.Float64frombits", "math.Float64bits"], apart := false, narrowed := true }
def GaugeWritesUptoSaid : Prop := gaugeWritesUptoRow.holds Try.pinned (OpenSpec.upto gaugeWritesSpec)

/-- 'trimtablaw04.GaugeNearest', WHERE WHAT IT READS IS OF BULK AT MOST 1048576: true; the input reads as it did. -/
def gaugeNearestUptoRow : OpenClaim := { program := "ytalhajnekpbkoaa", sum := "3d638a8c1dd43c88c6a6ec8b244861b89bda057575b1558a5c38416fb1ab90f5", func := "trimtab/trimtablaw04.GaugeNearest", spec := "gaugeNearest", inPlace := ["math.Float64frombits", "math.Float64bits"], unfollowed := true, recurses := true, apart := false, narrowed := true }
def GaugeNearestUptoSaid : Prop := gaugeNearestUptoRow.holds Try.pinned (OpenSpec.upto gaugeNearestSpec)

/-- 'trimtablaw04.GaugeSorts', WHERE WHAT IT READS IS OF BULK AT MOST 1048576: true; the input reads as it did. -/
def gaugeSortsUptoRow : OpenClaim := { program := "ytalhajnekpbkoaa", sum := "3d638a8c1dd43c88c6a6ec8b244861b89bda057575b1558a5c38416fb1ab90f5", func := "trimtab/trimtablaw04.GaugeSorts", spec := "gaugeSorts", inPlace := ["math.Float64frombits", "math.Float64bits"], unfollowed := true, recurses := true, apart := false, narrowed := true }
def GaugeSortsUptoSaid : Prop := gaugeSortsUptoRow.holds Try.pinned (OpenSpec.upto gaugeSortsSpec)

/-- 'trimtablaw04.GaugeMeans', WHERE WHAT IT READS IS OF BULK AT MOST 1048576: true; the input reads as it did. -/
def gaugeMeansUptoRow : OpenClaim := { program := "ytalhajnekpbkoaa", sum := "3d638a8c1dd43c88c6a6ec8b244861b89bda057575b1558a5c38416fb1ab90f5", func := "trimtab/trimtablaw04.GaugeMeans", spec := "gaugeMeans", inPlace := ["math.Float64frombits", "math.Float64bits", "math/bits.Add64"], named := ["math/bits.divideError", "math/bits.overflowError"], apart := false, narrowed := true }
def GaugeMeansUptoSaid : Prop := gaugeMeansUptoRow.holds Try.pinned (OpenSpec.upto gaugeMeansSpec)

end Rows
end Go.Proofs.Ytalhajnekpbkoaa
