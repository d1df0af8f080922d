/-
  DERIVED. GIVEN WITH THE SEED: THE CARDS: each row of YtdffhnfjcbnioaaDoorRows.lean that lists a variable, with what it lists TIED to the program's text (the seventh form; the later family's looks); each row that meets fmt, with fmt's text TOLD by the authors' own Lean function (tested against real Go, not proved from fmt's source: count such statements apart). THE CARD IS WHAT COUNTS. Prove the row's statement (the work); the ties are given (YtdffhnfjcbnioaaDoorTie.lean); close each card by the builder's one call (the guide's Derived/Test/ToyasCard.lean, 'card_holds'). Laid BY PROGRAM, IN A SANDBOX (cutbox-door.mjs). By AI agents, Wed Nov 11 2026. No macro, syntax, notation, axiom, sorry.
-/
import Derived.Test.YtdffhnfjcbnioaaDoorRows
import GoSem.ClaimSeven
namespace Go.Proofs.YtdffhnfjcbnioaaDoor
namespace Rows

/-- THE TIED CARD OF 'triforiumlaw05.ProofLimits'. -/
def proofLimitsCard : Claim7 := { stood := { row := proofLimitsRow, standIns := [], harness := (true, "5f7ef21002ffc9902778325b77e385bf9a7f44d4393e088e0368cd50e75f1fae"), looks := true }, kinds := [], alts := [], laidByText := true, laidKinds := [.data, .data, .data, .data], laidTests := true, laidLooks := .later }
def ProofLimitsCardSaid : Prop := Claim7.holds Tryd.pinned (.plain (OpenSpec.ofChange proofLimitsSpec)) proofLimitsCard

/-- THE SECOND FORM's CARD OF 'triforiumlaw05.ProofLimits'. -/
def proofLimitsUptoCard : Claim7 := { stood := { row := proofLimitsUptoRow, standIns := [], harness := (true, "5f7ef21002ffc9902778325b77e385bf9a7f44d4393e088e0368cd50e75f1fae"), looks := true }, kinds := [], alts := [], laidByText := true, laidKinds := [.data, .data, .data, .data], laidTests := true, laidLooks := .later }
def ProofLimitsUptoCardSaid : Prop := Claim7.holds Tryd.pinned (.plain (OpenSpec.upto proofLimitsSpec)) proofLimitsUptoCard
end Rows
end Go.Proofs.YtdffhnfjcbnioaaDoor
