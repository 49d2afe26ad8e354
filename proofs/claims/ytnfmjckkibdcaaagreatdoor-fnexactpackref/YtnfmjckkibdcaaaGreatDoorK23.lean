import Derived.Test.YtnfmjckkibdcaaaGreatDoorK14
import Derived.Test.YtnfmjckkibdcaaaGreatDoorK22
import Derived.Deep.RegionHeld3
import Derived.Maps.AppendAt
namespace Go.Proofs.YtnfmjckkibdcaaaGreatDoor
set_option linter.all false
open Go.RowKit
namespace Wk
end Wk
set_option linter.unusedSimpArgs false
end Go.Proofs.YtnfmjckkibdcaaaGreatDoor
