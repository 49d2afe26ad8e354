import Derived.Test.YtnfmjckkibdcaaaGreatDoorPE
import Derived.ShutString
import Derived.Test.YtnfmjckkibdcaaaGreatDoorRows
import Derived.Test.YtnfmjckkibdcaaaGreatDoorCards
import Derived.Test.YtnfmjckkibdcaaaGreatDoorTie
import Derived.WalkKit
import Derived.ProofKit
import Derived.OpenShut
import Derived.Carry
import Derived.ChangeVars
import Derived.ChangeOld
import Derived.Below
import Derived.Deep.DeepHandedRow
import Derived.Lib.LaidTab
namespace Go.Proofs.YtnfmjckkibdcaaaGreatDoor
open Go.ChangeShapes Go.WideShapes Go.ChangeAt Go.RowKit
set_option linter.all false
set_option maxHeartbeats 16000000
def Ec {a b:Bool} (ha:a=true) (hb:b=true):(a && b)=true:=by rw[ha,hb];rfl
theorem fnExactOptDrive_facts:joinedFacts Tryz.pinned.checked.prog 4 Tryz.f4 (OpenSpec.ofChange Rows.fnExactOptDriveSpec).bare Rows.fnExactOptDriveRow=true:=by
 unfold joinedFacts;repeat refine Ec ?_ (by as_aux_lemma=>kernel_rfl)
 as_aux_lemma=>kernel_rfl
end Go.Proofs.YtnfmjckkibdcaaaGreatDoor
