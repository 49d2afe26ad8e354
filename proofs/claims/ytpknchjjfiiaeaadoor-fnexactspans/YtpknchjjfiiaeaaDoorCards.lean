/-
  DERIVED. GIVEN WITH THE SEED: THE CARDS: each row of YtpknchjjfiiaeaaDoorRows.lean that lists a variable, with what it lists TIED to the program's text (the seventh form; the later family's looks); each row that meets fmt, with fmt's text TOLD by the authors' own Lean function (tested against real Go, not proved from fmt's source: count such statements apart). THE CARD IS WHAT COUNTS. Prove the row's statement (the work); the ties are given (YtpknchjjfiiaeaaDoorTie.lean); close each card by the builder's one call (the guide's Derived/Test/ToyasCard.lean, 'card_holds'). Laid BY PROGRAM, IN A SANDBOX (cutbox-door.mjs). By AI agents, Wed Nov 11 2026. No macro, syntax, notation, axiom, sorry.
-/
import Derived.Test.YtpknchjjfiiaeaaDoorRows
import GoSem.ClaimSeven
namespace Go.Proofs.YtpknchjjfiiaeaaDoor
namespace Rows

/-- THE TIED CARD OF 'laws.FnExactImage'. -/
def fnExactImageCard : Claim7 := { stood := { row := fnExactImageRow, standIns := [], harness := (true, "9a3f37ea1ae89fbe2f60f501189cecf2dbe9a9aaa695cd4266b0fcbf91f08b5d"), looks := false }, kinds := [], alts := [], laidByText := true, laidKinds := [.data], laidTests := true, laidLooks := .later }
def FnExactImageCardSaid : Prop := Claim7.holds Tryd.pinned (.plain (OpenSpec.ofChange fnExactImageSpec)) fnExactImageCard

/-- THE TIED CARD OF 'laws.FnExactSpans'. -/
def fnExactSpansCard : Claim7 := { stood := { row := fnExactSpansRow, standIns := [], harness := (true, "9a3f37ea1ae89fbe2f60f501189cecf2dbe9a9aaa695cd4266b0fcbf91f08b5d"), looks := false }, kinds := [], alts := [], laidByText := true, laidKinds := [.data], laidTests := true, laidLooks := .later }
def FnExactSpansCardSaid : Prop := Claim7.holds Tryd.pinned (.plain (OpenSpec.ofChange fnExactSpansSpec)) fnExactSpansCard

/-- THE SECOND FORM's CARD OF 'laws.FnExactImage'. -/
def fnExactImageUptoCard : Claim7 := { stood := { row := fnExactImageUptoRow, standIns := [], harness := (true, "9a3f37ea1ae89fbe2f60f501189cecf2dbe9a9aaa695cd4266b0fcbf91f08b5d"), looks := false }, kinds := [], alts := [], laidByText := true, laidKinds := [.data], laidTests := true, laidLooks := .later }
def FnExactImageUptoCardSaid : Prop := Claim7.holds Tryd.pinned (.plain (OpenSpec.upto fnExactImageSpec)) fnExactImageUptoCard

/-- THE SECOND FORM's CARD OF 'laws.FnExactSpans'. -/
def fnExactSpansUptoCard : Claim7 := { stood := { row := fnExactSpansUptoRow, standIns := [], harness := (true, "9a3f37ea1ae89fbe2f60f501189cecf2dbe9a9aaa695cd4266b0fcbf91f08b5d"), looks := false }, kinds := [], alts := [], laidByText := true, laidKinds := [.data], laidTests := true, laidLooks := .later }
def FnExactSpansUptoCardSaid : Prop := Claim7.holds Tryd.pinned (.plain (OpenSpec.upto fnExactSpansSpec)) fnExactSpansUptoCard
end Rows
end Go.Proofs.YtpknchjjfiiaeaaDoor
