/-
  DERIVED. GIVEN WITH THE SEED: THE CARDS: each row of YtbbffcolnddcdaaGreatDoorRows.lean that lists a variable, with what it lists TIED to the program's text (the seventh form; the later family's looks); each row that meets fmt, with fmt's text TOLD by the authors' own Lean function (tested against real Go, not proved from fmt's source: count such statements apart). THE CARD IS WHAT COUNTS. Prove the row's statement (the work); the ties are given (YtbbffcolnddcdaaGreatDoorTie.lean); close each card by the builder's one call (the guide's Derived/Test/ToyasCard.lean, 'card_holds'). Laid BY PROGRAM, IN A SANDBOX (cutbox-door.mjs). By AI agents, Wed Nov 11 2026. No macro, syntax, notation, axiom, sorry.
-/
import Derived.Test.YtbbffcolnddcdaaGreatDoorRows
import GoSem.ClaimSeven
namespace Go.Proofs.YtbbffcolnddcdaaGreatDoor
namespace Rows

/-- THE TIED CARD OF 'laws.FnExactOptStep'. -/
def fnExactOptStepCard : Claim7 := { stood := { row := fnExactOptStepRow, standIns := [], harness := (true, "2a0fce3a96820a2c068ac1d0fc044e5cece060c959fb853a769962d560e617a6"), looks := true }, kinds := [], alts := [], laidByText := true, laidKinds := [.data], laidTests := true, laidLooks := .later }
def FnExactOptStepCardSaid : Prop := Claim7.holds Tryz.pinned (.plain (OpenSpec.ofChange fnExactOptStepSpec)) fnExactOptStepCard

/-- THE SECOND FORM's CARD OF 'laws.FnExactOptStep'. -/
def fnExactOptStepUptoCard : Claim7 := { stood := { row := fnExactOptStepUptoRow, standIns := [], harness := (true, "2a0fce3a96820a2c068ac1d0fc044e5cece060c959fb853a769962d560e617a6"), looks := true }, kinds := [], alts := [], laidByText := true, laidKinds := [.data], laidTests := true, laidLooks := .later }
def FnExactOptStepUptoCardSaid : Prop := Claim7.holds Tryz.pinned (.plain (OpenSpec.upto fnExactOptStepSpec)) fnExactOptStepUptoCard
end Rows
end Go.Proofs.YtbbffcolnddcdaaGreatDoor
