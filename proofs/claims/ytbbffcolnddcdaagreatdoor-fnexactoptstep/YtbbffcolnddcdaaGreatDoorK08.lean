import Derived.Test.YtbbffcolnddcdaaGreatDoorK03
import Derived.Deep.RegionHeld
namespace Go.Proofs.YtbbffcolnddcdaaGreatDoor
set_option linter.all false
open Go.RowKit
def QT:=@AllReadyH.cons
def QU:=@AllReadyH.nil
end Go.Proofs.YtbbffcolnddcdaaGreatDoor
