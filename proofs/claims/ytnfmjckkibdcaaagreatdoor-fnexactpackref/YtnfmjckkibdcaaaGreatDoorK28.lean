import Derived.Test.YtnfmjckkibdcaaaGreatDoorK23
import Derived.Test.YtnfmjckkibdcaaaGreatDoorK27
namespace Go.Proofs.YtnfmjckkibdcaaaGreatDoor
set_option linter.all false
open Go.RowKit
end Go.Proofs.YtnfmjckkibdcaaaGreatDoor
