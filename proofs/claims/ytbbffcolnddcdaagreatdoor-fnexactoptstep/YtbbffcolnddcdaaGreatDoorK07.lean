import Derived.Test.YtbbffcolnddcdaaGreatDoorK04
import Derived.Test.YtbbffcolnddcdaaGreatDoorK00
import Derived.Deep.RegionWith
import Derived.Deep.DeepCutAuto
namespace Go.Proofs.YtbbffcolnddcdaaGreatDoor
open Go.Proofs.Tryz
open Go.RowKit
set_option linter.all false
set_option maxHeartbeats 16000000
open Go.Value renaming int->I,slice->sL,bool->bO,pointer->pT,agg->aG
open Go.IntKind renaming i64->J
open Go.Ending renaming returned->rT
open Go.Proofs.Tryz renaming prog->Tp
def oJ(w:World)(b:Bool):ce 350 #[bO b] w fun o w'=>o=rT (I J (if b=true then 0 else 1))/\w'=w:=by
 cases b
 .go_enter func350,ntmps350;go_wp2_with fail;go_ret;exact⟨rfl,rfl⟩
 .go_enter func350,ntmps350;go_wp2_with fail;go_ret;exact⟨rfl,rfl⟩
end Go.Proofs.YtbbffcolnddcdaaGreatDoor
