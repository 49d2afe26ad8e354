import Derived.Test.YtnfmjckkibdcaaaGreatDoorK04
import Derived.Test.YtnfmjckkibdcaaaGreatDoorK00
import Derived.Deep.RegionWith
import Derived.Deep.DeepCutAuto
namespace Go.Proofs.YtnfmjckkibdcaaaGreatDoor
open Go.RowKit
set_option linter.all false
set_option maxHeartbeats 16000000
open Go.Value renaming int->I,slice->sL,bool->bO,pointer->pT,agg->aG
open Go.IntKind renaming i64->J
open Go.Ending renaming returned->rT
open Go.Proofs.Tryz renaming prog->Tp
def GL (w:World) (b:Bool):Calls Tp 367 #[bO b] w fun o w'=>o = rT (I J (if b=true then 0 else 1))/\w'=w:=by
 cases b
 .go_enter Tryz.func367,Tryz.ntmps367;go_wp2_with fail;go_ret;exact⟨rfl,rfl⟩
 .go_enter Tryz.func367,Tryz.ntmps367;go_wp2_with fail;go_ret;exact⟨rfl,rfl⟩
end Go.Proofs.YtnfmjckkibdcaaaGreatDoor
