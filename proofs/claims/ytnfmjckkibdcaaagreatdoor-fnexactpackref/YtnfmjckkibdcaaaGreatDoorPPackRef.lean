import Derived.Test.YtnfmjckkibdcaaaGreatDoorPC
import Derived.ShutString
import Derived.Test.YtnfmjckkibdcaaaGreatDoorRows
import Derived.Test.YtnfmjckkibdcaaaGreatDoorCards
import Derived.Test.YtnfmjckkibdcaaaGreatDoorTie
import Derived.WalkKit
import Derived.ProofKit
import Derived.OpenShut
import Derived.Carry
import Derived.ChangeVars
import Derived.ChangeOld
import Derived.Below
import Derived.Deep.DeepHandedRow
import Derived.Lib.LaidTab
namespace Go.Proofs.YtnfmjckkibdcaaaGreatDoor
open Go.ChangeShapes Go.WideShapes Go.ChangeAt Go.RowKit
set_option linter.all false
open Go.Proofs.Tryz renaming prog->Tp
theorem fnExactPackRef_said:Rows.FnExactPackRefSaid:=
 OpenClaim.holds_of_cond 3 Tryz.f3 rfl rfl rfl rfl rfl rfl rfl ⟨rfl,rfl,rfl,rfl,rfl⟩ rfl rfl rfl rfl rfl kr Tryz.func3 fnExactPackRef_facts
  (qP kr) (by unfold Func.isWrapper;first | (rw[qc (by decide +kernel)];kernel_rfl) | (rw[qa (by decide +kernel)];exact⟨rfl,rfl⟩))
  (fun os started H enc _ F=>by rw[OpenClaim.pre_eq_preRow];exact fnExactPackRef_lifted os started H enc F)
theorem fnExactPackRef_plain (f : FuncId) (fn : Func) (hf : Tryz.pinned.checked.prog.funcNamed "loop.example/s01647/laws.FnExactPackRef" = some f) (hfn : Tryz.pinned.checked.prog.funcs[f]? = some fn) :
  true=Tryz.pinned.checked.prog.looks []/\∀ (j:Nat) t,fn.params[j]?=some t->Tryz.pinned.checked.prog.wantsStandIn t=false:=by
 obtain rfl : f = 3 := Qd ((show Tp.funcNamed "loop.example/s01647/laws.FnExactPackRef" = some 3 by kernel_rfl).symm.trans hf) |>.symm;obtain rfl:fn=Tryz.f3:=(Qd (Tryz.func3.symm.trans hfn)).symm;refine⟨by kernel_rfl,fun j t ht=>?_⟩;rw[Tryz.params3] at ht;have hm:t ∈ [33]:=by simpa using Array.mem_of_getElem? ht
 have hall:([33].all fun u=>!Tp.wantsStandIn u)=true:=kr;exact (show Tp.wantsStandIn t=false by simpa using List.all_eq_true.1 hall t hm)
theorem fnExactPackRef_card:Rows.FnExactPackRefCardSaid:=
 Claim7.holds_tied_plain_at .later [] _ _ _ _ fnExactPackRef_said (fun _ h=>by cases h) kr (fun _ h=>by cases h) fnExactPackRef_row_tie rfl ⟨rfl,rfl⟩ kr rfl fnExactPackRef_plain kr
end Go.Proofs.YtnfmjckkibdcaaaGreatDoor
