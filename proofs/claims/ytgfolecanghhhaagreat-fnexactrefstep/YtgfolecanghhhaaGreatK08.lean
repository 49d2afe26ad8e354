import Derived.Test.YtgfolecanghhhaaGreatK03
import Derived.Deep.RegionHeld
namespace Go.Proofs.YtgfolecanghhhaaGreat
set_option linter.all false
open Go.RowKit
def Q8:=@AllReadyH.cons
def Q9:=@AllReadyH.nil
end Go.Proofs.YtgfolecanghhhaaGreat
