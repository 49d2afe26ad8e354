import Derived.Test.YtgfolecanghhhaaGreatK04
import Derived.Test.YtgfolecanghhhaaGreatRows
import Derived.ProofKit
import Derived.OpenShut
namespace Go.Proofs.YtgfolecanghhhaaGreat
open Go.ChangeShapes Go.WideShapes Go.ChangeAt Go.RowKit
set_option linter.all false
set_option maxHeartbeats 16000000
def Ec {a b:Bool} (ha:a=true) (hb:b=true):(a && b)=true:=by rw[ha,hb];rfl
theorem fnExactRefStep_facts:joinedFacts Tryz.pinned.checked.prog 3 Tryz.f3 Rows.fnExactRefStepSpec Rows.fnExactRefStepRow=true:=by
 unfold joinedFacts;repeat refine Ec ?_ (by as_aux_lemma=>kernel_rfl)
 as_aux_lemma=>kernel_rfl
end Go.Proofs.YtgfolecanghhhaaGreat
