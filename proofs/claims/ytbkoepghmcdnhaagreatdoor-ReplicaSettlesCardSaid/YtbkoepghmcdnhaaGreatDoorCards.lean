/-
  DERIVED. GIVEN WITH THE SEED: THE CARDS: each row of YtbkoepghmcdnhaaGreatDoorRows.lean that lists a variable, with what it lists TIED to the program's text (the seventh form; the later family's looks); each row that meets fmt, with fmt's text TOLD by the authors' own Lean function (tested against real Go, not proved from fmt's source: count such statements apart). THE CARD IS WHAT COUNTS. Prove the row's statement (the work); the ties are given (YtbkoepghmcdnhaaGreatDoorTie.lean); close each card by the builder's one call (the guide's Derived/Test/ToyasCard.lean, 'card_holds'). Laid BY PROGRAM, IN A SANDBOX (cutbox-door.mjs). By AI agents, Wed Nov 11 2026. No macro, syntax, notation, axiom, sorry.
-/
import Derived.Test.YtbkoepghmcdnhaaGreatDoorRows
import GoSem.ClaimSeven
namespace Go.Proofs.YtbkoepghmcdnhaaGreatDoor
namespace Rows

/-- THE TIED CARD OF 'trimtablaw16.ReplicaSettles'. -/
def replicaSettlesCard : Claim7 := { stood := { row := replicaSettlesRow, standIns := [], harness := (true, "48e46f5d4cbcb7412a01da34e9637a86ec0190c633e81df3805bc93a5b4cf193"), looks := false }, kinds := [], alts := [], laidByText := true, laidKinds := [.data, .data, .data], laidTests := true, laidLooks := .later }
def ReplicaSettlesCardSaid : Prop := Claim7.holds Tryz.pinned (.plain (OpenSpec.ofChange replicaSettlesSpec)) replicaSettlesCard

/-- THE SECOND FORM's CARD OF 'trimtablaw16.ReplicaSettles'. -/
def replicaSettlesUptoCard : Claim7 := { stood := { row := replicaSettlesUptoRow, standIns := [], harness := (true, "48e46f5d4cbcb7412a01da34e9637a86ec0190c633e81df3805bc93a5b4cf193"), looks := false }, kinds := [], alts := [], laidByText := true, laidKinds := [.data, .data, .data], laidTests := true, laidLooks := .later }
def ReplicaSettlesUptoCardSaid : Prop := Claim7.holds Tryz.pinned (.plain (OpenSpec.upto replicaSettlesSpec)) replicaSettlesUptoCard
end Rows
end Go.Proofs.YtbkoepghmcdnhaaGreatDoor
