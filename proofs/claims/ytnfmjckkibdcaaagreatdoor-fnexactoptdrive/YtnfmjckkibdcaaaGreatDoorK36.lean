import Derived.Shelf.Strings.Prefix
import Derived.Test.YtnfmjckkibdcaaaGreatDoorProg
import Derived.Test.YtnfmjckkibdcaaaGreatDoorK35
namespace Go.Proofs.YtnfmjckkibdcaaaGreatDoor
open Go.RowKit
set_option linter.all false
open Go.Value renaming int->I,slice->sL,bool->bO,pointer->pT,agg->aG
open Go.IntKind renaming i64->J
open Go.Ending renaming returned->rT
def Z22:List Value:=[I J 0,I J 0,I J 0,bO false,bO false,bO false,bO false,bO false,I J 0,I J 0,I J 0,I J 0,I J 0,I J 0,I J 0,sL none 0 0,sL none 0 0,sL none 0 0,sL none 0 0,I J 0,I J 0,.string ⟨#[]⟩]
end Go.Proofs.YtnfmjckkibdcaaaGreatDoor
