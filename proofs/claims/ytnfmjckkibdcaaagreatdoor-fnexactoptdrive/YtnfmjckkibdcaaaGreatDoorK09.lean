import Derived.Test.YtnfmjckkibdcaaaGreatDoorK03
import Derived.Deep.RegionHeld
namespace Go.Proofs.YtnfmjckkibdcaaaGreatDoor
set_option linter.all false
open Go.RowKit
def Q9:=@AllReadyH.cons
def za:=@AllReadyH.nil
end Go.Proofs.YtnfmjckkibdcaaaGreatDoor
