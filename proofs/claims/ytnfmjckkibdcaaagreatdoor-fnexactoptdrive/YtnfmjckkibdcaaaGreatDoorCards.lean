/-
  DERIVED. GIVEN WITH THE SEED: THE CARDS: each row of YtnfmjckkibdcaaaGreatDoorRows.lean that lists a variable, with what it lists TIED to the program's text (the seventh form; the later family's looks); each row that meets fmt, with fmt's text TOLD by the authors' own Lean function (tested against real Go, not proved from fmt's source: count such statements apart). THE CARD IS WHAT COUNTS. Prove the row's statement (the work); the ties are given (YtnfmjckkibdcaaaGreatDoorTie.lean); close each card by the builder's one call (the guide's Derived/Test/ToyasCard.lean, 'card_holds'). Laid BY PROGRAM, IN A SANDBOX (cutbox-door.mjs). By AI agents, Wed Nov 11 2026. No macro, syntax, notation, axiom, sorry.
-/
import Derived.Test.YtnfmjckkibdcaaaGreatDoorRows
import GoSem.ClaimSeven
namespace Go.Proofs.YtnfmjckkibdcaaaGreatDoor
namespace Rows

/-- THE TIED CARD OF 'laws.FnExactPackRef'. -/
def fnExactPackRefCard : Claim7 := { stood := { row := fnExactPackRefRow, standIns := [], harness := (true, "f542581b8bd9b71df43fc06131fba770209f535c987870ab1810285ea4c08079"), looks := true }, kinds := [], alts := [], laidByText := true, laidKinds := [.data], laidTests := true, laidLooks := .later }
def FnExactPackRefCardSaid : Prop := Claim7.holds Tryz.pinned (.plain (OpenSpec.ofChange fnExactPackRefSpec)) fnExactPackRefCard

/-- THE TIED CARD OF 'laws.FnExactOptDrive'. -/
def fnExactOptDriveCard : Claim7 := { stood := { row := fnExactOptDriveRow, standIns := [], harness := (true, "f542581b8bd9b71df43fc06131fba770209f535c987870ab1810285ea4c08079"), looks := true }, kinds := [], alts := [], laidByText := true, laidKinds := [.data], laidTests := true, laidLooks := .later }
def FnExactOptDriveCardSaid : Prop := Claim7.holds Tryz.pinned (.plain (OpenSpec.ofChange fnExactOptDriveSpec)) fnExactOptDriveCard

/-- THE SECOND FORM's CARD OF 'laws.FnExactPackRef'. -/
def fnExactPackRefUptoCard : Claim7 := { stood := { row := fnExactPackRefUptoRow, standIns := [], harness := (true, "f542581b8bd9b71df43fc06131fba770209f535c987870ab1810285ea4c08079"), looks := true }, kinds := [], alts := [], laidByText := true, laidKinds := [.data], laidTests := true, laidLooks := .later }
def FnExactPackRefUptoCardSaid : Prop := Claim7.holds Tryz.pinned (.plain (OpenSpec.upto fnExactPackRefSpec)) fnExactPackRefUptoCard

/-- THE SECOND FORM's CARD OF 'laws.FnExactOptDrive'. -/
def fnExactOptDriveUptoCard : Claim7 := { stood := { row := fnExactOptDriveUptoRow, standIns := [], harness := (true, "f542581b8bd9b71df43fc06131fba770209f535c987870ab1810285ea4c08079"), looks := true }, kinds := [], alts := [], laidByText := true, laidKinds := [.data], laidTests := true, laidLooks := .later }
def FnExactOptDriveUptoCardSaid : Prop := Claim7.holds Tryz.pinned (.plain (OpenSpec.upto fnExactOptDriveSpec)) fnExactOptDriveUptoCard
end Rows
end Go.Proofs.YtnfmjckkibdcaaaGreatDoor
