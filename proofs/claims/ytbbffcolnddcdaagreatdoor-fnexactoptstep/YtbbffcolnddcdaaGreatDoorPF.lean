import Derived.Test.YtbbffcolnddcdaaGreatDoorPE
import Derived.ShutString
import Derived.Test.YtbbffcolnddcdaaGreatDoorRows
import Derived.Test.YtbbffcolnddcdaaGreatDoorCards
import Derived.Test.YtbbffcolnddcdaaGreatDoorTie
import Derived.WalkKit
import Derived.ProofKit
import Derived.OpenShut
import Derived.Carry
import Derived.ChangeVars
import Derived.ChangeOld
import Derived.Below
import Derived.Deep.DeepHandedRow
import Derived.Lib.LaidTab
namespace Go.Proofs.YtbbffcolnddcdaaGreatDoor
open Go.ChangeShapes Go.WideShapes Go.ChangeAt Go.RowKit
set_option linter.all false
set_option maxHeartbeats 16000000
def Fz {a b:Bool} (c:a=true) (d:b=true):(a && b)=true:=by rw[c,d];rfl
theorem fnExactOptStep_facts:joinedFacts Tryz.pinned.checked.prog 3 Tryz.f3 (OpenSpec.ofChange Rows.fnExactOptStepSpec).bare Rows.fnExactOptStepRow=true:=by
 unfold joinedFacts;repeat refine Fz ?_ (by as_aux_lemma=>kernel_rfl)
 as_aux_lemma=>kernel_rfl
end Go.Proofs.YtbbffcolnddcdaaGreatDoor
