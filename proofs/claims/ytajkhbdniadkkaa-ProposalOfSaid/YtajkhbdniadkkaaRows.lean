/-
  No cell of these rows narrows 'for every input' (looked for: loops, veiled, ifaces, maps, wideKeys, modest, calm, conditions, laid).
  DERIVED. THE GIVEN ROWS OF THIS SEAT. 4 by the template 'for every input the law returns true; each argument reads behind the call as it read before'; 0 by the template 'total and deterministic' (their statements: YtajkhbdniadkkaaTotals.lean).
  GIVEN WITH THE SEED: the statements are not yours to turn. If you find one false, say at which input.
  Laid BY PROGRAM, IN A SANDBOX (cutbox-rows.mjs): the forced cells as the released guide's own fill.sh prints them over the translation d136bb5813b47bd8… (all of the seat's roots in one cut). By AI agents, Wed Nov 11 2026. No macro, syntax, notation, axiom, sorry.
-/
import Derived.Test.YtajkhbdniadkkaaChecked
import GoSem.Claim
import GoSem.ClaimJoined
import GoSem.ClaimMapViews
import Derived.JoinedTies
import Derived.KernelRfl
namespace Go.Proofs.Ytajkhbdniadkkaa
/- THE CELL 'sum', in the pinned program and in every row, IS THE sha256 OF THE DUMP (.gsa) THAT YtajkhbdniadkkaaProg.lean LOADS. Nothing in Lean hashes anything: it is a label: what it is worth is what the hold of that sum in a sandbox is worth. -/
noncomputable def Try.pinned : Pinned := { name := "ytajkhbdniadkkaa", sum := "d136bb5813b47bd8856ae1a2e982e217e0021acadf04f6b034edb7407c1a4ae4", checked := Try.checked }
namespace Rows
def none {H : Type} : Left H := { results := [], args := [] }

/-- 'trimtablaw20.ProposalOnes': WHATEVER THE INPUT: true; the input reads as it did. -/
def proposalOnesSpec : ChangeSpec := { name := "proposalOnes", fn := fun _ => fun
  | [d1, d2, d3, d4] => { results := [.lit (.bool true)], args := [d1, d2, d3, d4] }
  | _ => none }
def proposalOnesRow : OpenClaim := { program := "ytajkhbdniadkkaa", sum := "d136bb5813b47bd8856ae1a2e982e217e0021acadf04f6b034edb7407c1a4ae4", func := "trimtab/trimtablaw20.ProposalOnes", spec := "proposalOnes", unfollowed := true, recurses := true, named := ["math/bits.divideError", "math/bits.overflowError"], plainKeys := false, apart := false }
def ProposalOnesSaid : Prop := proposalOnesRow.holds Try.pinned (OpenSpec.ofChange proposalOnesSpec)

/-- ITS FALSE NEIGHBOUR: 'it returns false'. Refute it at one input. -/
def proposalOnesWrong : ChangeSpec := { name := "proposalOnes", fn := fun _ => fun
  | [d1, d2, d3, d4] => { results := [.lit (.bool false)], args := [d1, d2, d3, d4] }
  | _ => none }
def ProposalOnesWrongFalsely : Prop := proposalOnesRow.holds Try.pinned (OpenSpec.ofChange proposalOnesWrong)

/-- 'trimtablaw20.ProposalOf': WHATEVER THE INPUT: true; the input reads as it did. -/
def proposalOfSpec : ChangeSpec := { name := "proposalOf", fn := fun _ => fun
  | [d1, d2, d3, d4, d5, d6, d7, d8] => { results := [.lit (.bool true)], args := [d1, d2, d3, d4, d5, d6, d7, d8] }
  | _ => none }
def proposalOfRow : OpenClaim := { program := "ytajkhbdniadkkaa", sum := "d136bb5813b47bd8856ae1a2e982e217e0021acadf04f6b034edb7407c1a4ae4", func := "trimtab/trimtablaw20.ProposalOf", spec := "proposalOf", inPlace := ["math.Float64frombits", "math.Float64bits", "internal/bytealg.abigen_runtime_cmpstring"], unfollowed := true, recurses := true, named := ["math/bits.divideError", "math/bits.overflowError"], plainKeys := false, apart := false }
def ProposalOfSaid : Prop := proposalOfRow.holds Try.pinned (OpenSpec.ofChange proposalOfSpec)

/-- ITS FALSE NEIGHBOUR: 'it returns false'. Refute it at one input. -/
def proposalOfWrong : ChangeSpec := { name := "proposalOf", fn := fun _ => fun
  | [d1, d2, d3, d4, d5, d6, d7, d8] => { results := [.lit (.bool false)], args := [d1, d2, d3, d4, d5, d6, d7, d8] }
  | _ => none }
def ProposalOfWrongFalsely : Prop := proposalOfRow.holds Try.pinned (OpenSpec.ofChange proposalOfWrong)

/-- 'trimtablaw20.ProposalMost': WHATEVER THE INPUT: true; the input reads as it did. -/
def proposalMostSpec : ChangeSpec := { name := "proposalMost", fn := fun _ => fun
  | [d1, d2, d3] => { results := [.lit (.bool true)], args := [d1, d2, d3] }
  | _ => none }
def proposalMostRow : OpenClaim := { program := "ytajkhbdniadkkaa", sum := "d136bb5813b47bd8856ae1a2e982e217e0021acadf04f6b034edb7407c1a4ae4", func := "trimtab/trimtablaw20.ProposalMost", spec := "proposalMost", unfollowed := true, recurses := true, named := ["math/bits.divideError", "math/bits.overflowError"], plainKeys := false, apart := false }
def ProposalMostSaid : Prop := proposalMostRow.holds Try.pinned (OpenSpec.ofChange proposalMostSpec)

/-- ITS FALSE NEIGHBOUR: 'it returns false'. Refute it at one input. -/
def proposalMostWrong : ChangeSpec := { name := "proposalMost", fn := fun _ => fun
  | [d1, d2, d3] => { results := [.lit (.bool false)], args := [d1, d2, d3] }
  | _ => none }
def ProposalMostWrongFalsely : Prop := proposalMostRow.holds Try.pinned (OpenSpec.ofChange proposalMostWrong)

/-- 'trimtablaw20.ProposalGrows': WHATEVER THE INPUT: true; the input reads as it did. -/
def proposalGrowsSpec : ChangeSpec := { name := "proposalGrows", fn := fun _ => fun
  | [d1, d2, d3, d4, d5, d6] => { results := [.lit (.bool true)], args := [d1, d2, d3, d4, d5, d6] }
  | _ => none }
def proposalGrowsRow : OpenClaim := { program := "ytajkhbdniadkkaa", sum := "d136bb5813b47bd8856ae1a2e982e217e0021acadf04f6b034edb7407c1a4ae4", func := "trimtab/trimtablaw20.ProposalGrows", spec := "proposalGrows", unfollowed := true, recurses := true, named := ["math/bits.divideError", "math/bits.overflowError"], plainKeys := false, apart := false }
def ProposalGrowsSaid : Prop := proposalGrowsRow.holds Try.pinned (OpenSpec.ofChange proposalGrowsSpec)

/-- ITS FALSE NEIGHBOUR: 'it returns false'. Refute it at one input. -/
def proposalGrowsWrong : ChangeSpec := { name := "proposalGrows", fn := fun _ => fun
  | [d1, d2, d3, d4, d5, d6] => { results := [.lit (.bool false)], args := [d1, d2, d3, d4, d5, d6] }
  | _ => none }
def ProposalGrowsWrongFalsely : Prop := proposalGrowsRow.holds Try.pinned (OpenSpec.ofChange proposalGrowsWrong)

/- THE SECOND FORM. 'bulk': how many values and letters a reading holds, each counted each time it is reached (what is shared counts as often as it is met; a slice's spare places count too). A statement '..UptoSaid' is the law's where the arguments, and the package variables that the reading takes, are together of bulk at most 1048576: NARROWER than '..Said'. Prove '..Said' where nothing that the law and all that it calls make is longer than what came in: it says more and counts as full. Else prove '..UptoSaid'. A law counts once. -/
mutual
def uptoBulk {H : Type} : DataW H → Nat
  | .lit (.string bytes) => bytes.length + 1
  | .lit _ => 1
  | .nil => 1
  | .ptr d => uptoBulk d + 1
  | .slice elems spare => uptoBulkAll elems + uptoBulkAll spare + 1
  | .agg parts => uptoBulkAll parts + 1
  | .iface _ d => uptoBulk d + 1
  | .map entries => uptoBulkEntries entries + 1
  | .held _ => 1
def uptoBulkAll {H : Type} : List (DataW H) → Nat
  | [] => 0
  | d :: r => uptoBulk d + uptoBulkAll r
def uptoBulkEntries {H : Type} : List (Lit × DataW H) → Nat
  | [] => 0
  | x :: r => uptoBulkEntry x + uptoBulkEntries r
def uptoBulkEntry {H : Type} : Lit × DataW H → Nat
  | (.string bytes, d) => bytes.length + uptoBulk d + 1
  | (_, d) => uptoBulk d + 1
 end
def uptoSmall : (H : Type) → List (DataW H) → Bool := fun _ ds => decide (uptoBulkAll ds ≤ 1048576)
def OpenSpec.upto (s : _root_.Go.ChangeSpec) : _root_.Go.OpenSpec := { _root_.Go.OpenSpec.ofChange s with cond := some uptoSmall }

/-- 'trimtablaw20.ProposalOnes', WHERE WHAT IT READS IS OF BULK AT MOST 1048576: true; the input reads as it did. -/
def proposalOnesUptoRow : OpenClaim := { program := "ytajkhbdniadkkaa", sum := "d136bb5813b47bd8856ae1a2e982e217e0021acadf04f6b034edb7407c1a4ae4", func := "trimtab/trimtablaw20.ProposalOnes", spec := "proposalOnes", unfollowed := true, recurses := true, named := ["math/bits.divideError", "math/bits.overflowError"], plainKeys := false, apart := false, narrowed := true }
def ProposalOnesUptoSaid : Prop := proposalOnesUptoRow.holds Try.pinned (OpenSpec.upto proposalOnesSpec)

/-- 'trimtablaw20.ProposalOf', WHERE WHAT IT READS IS OF BULK AT MOST 1048576: true; the input reads as it did. -/
def proposalOfUptoRow : OpenClaim := { program := "ytajkhbdniadkkaa", sum := "d136bb5813b47bd8856ae1a2e982e217e0021acadf04f6b034edb7407c1a4ae4", func := "trimtab/trimtablaw20.ProposalOf", spec := "proposalOf", inPlace := ["math.Float64frombits", "math.Float64bits", "internal/bytealg.abigen_runtime_cmpstring"], unfollowed := true, recurses := true, named := ["math/bits.divideError", "math/bits.overflowError"], plainKeys := false, apart := false, narrowed := true }
def ProposalOfUptoSaid : Prop := proposalOfUptoRow.holds Try.pinned (OpenSpec.upto proposalOfSpec)

/-- 'trimtablaw20.ProposalMost', WHERE WHAT IT READS IS OF BULK AT MOST 1048576: true; the input reads as it did. -/
def proposalMostUptoRow : OpenClaim := { program := "ytajkhbdniadkkaa", sum := "d136bb5813b47bd8856ae1a2e982e217e0021acadf04f6b034edb7407c1a4ae4", func := "trimtab/trimtablaw20.ProposalMost", spec := "proposalMost", unfollowed := true, recurses := true, named := ["math/bits.divideError", "math/bits.overflowError"], plainKeys := false, apart := false, narrowed := true }
def ProposalMostUptoSaid : Prop := proposalMostUptoRow.holds Try.pinned (OpenSpec.upto proposalMostSpec)

/-- 'trimtablaw20.ProposalGrows', WHERE WHAT IT READS IS OF BULK AT MOST 1048576: true; the input reads as it did. -/
def proposalGrowsUptoRow : OpenClaim := { program := "ytajkhbdniadkkaa", sum := "d136bb5813b47bd8856ae1a2e982e217e0021acadf04f6b034edb7407c1a4ae4", func := "trimtab/trimtablaw20.ProposalGrows", spec := "proposalGrows", unfollowed := true, recurses := true, named := ["math/bits.divideError", "math/bits.overflowError"], plainKeys := false, apart := false, narrowed := true }
def ProposalGrowsUptoSaid : Prop := proposalGrowsUptoRow.holds Try.pinned (OpenSpec.upto proposalGrowsSpec)

end Rows
end Go.Proofs.Ytajkhbdniadkkaa
