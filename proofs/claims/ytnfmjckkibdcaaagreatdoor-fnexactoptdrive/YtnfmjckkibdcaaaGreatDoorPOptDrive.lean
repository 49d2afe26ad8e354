import Derived.Test.YtnfmjckkibdcaaaGreatDoorPF
import Derived.ShutString
import Derived.Test.YtnfmjckkibdcaaaGreatDoorRows
import Derived.Test.YtnfmjckkibdcaaaGreatDoorCards
import Derived.Test.YtnfmjckkibdcaaaGreatDoorTie
import Derived.WalkKit
import Derived.ProofKit
import Derived.OpenShut
import Derived.Carry
import Derived.ChangeVars
import Derived.ChangeOld
import Derived.Below
import Derived.Deep.DeepHandedRow
import Derived.Lib.LaidTab
namespace Go.Proofs.YtnfmjckkibdcaaaGreatDoor
open Go.ChangeShapes Go.WideShapes Go.ChangeAt Go.RowKit
set_option linter.all false
open Go.Proofs.Tryz renaming prog->Tp
theorem fnExactOptDrive_said:Rows.FnExactOptDriveSaid:=
 OpenClaim.holds_of_cond 4 Tryz.f4 rfl rfl rfl rfl rfl rfl rfl ⟨rfl,rfl,rfl,rfl,rfl⟩ rfl rfl rfl rfl rfl kr Tryz.func4 fnExactOptDrive_facts
  (qP kr) (by unfold Func.isWrapper;first | (rw[zc (by decide +kernel)];kernel_rfl) | (rw[zb (by decide +kernel)];exact⟨rfl,rfl⟩))
  (fun os started H enc _ F=>by rw[OpenClaim.pre_eq_preRow];exact fnExactOptDrive_lifted os started H enc F)
theorem fnExactOptDrive_plain (f : FuncId) (fn : Func) (hf : Tryz.pinned.checked.prog.funcNamed "loop.example/s01647/laws.FnExactOptDrive" = some f) (hfn : Tryz.pinned.checked.prog.funcs[f]? = some fn) :
  true=Tryz.pinned.checked.prog.looks []/\∀ (j:Nat) t,fn.params[j]?=some t->Tryz.pinned.checked.prog.wantsStandIn t=false:=by
 obtain rfl : f = 4 := Qd ((show Tp.funcNamed "loop.example/s01647/laws.FnExactOptDrive" = some 4 by kernel_rfl).symm.trans hf) |>.symm;obtain rfl:fn=Tryz.f4:=(Qd (Tryz.func4.symm.trans hfn)).symm;refine⟨by kernel_rfl,fun j t ht=>?_⟩;rw[Tryz.params4] at ht;have hm:t ∈ [69]:=by simpa using Array.mem_of_getElem? ht
 have hall:([69].all fun u=>!Tp.wantsStandIn u)=true:=kr;exact (show Tp.wantsStandIn t=false by simpa using List.all_eq_true.1 hall t hm)
theorem fnExactOptDrive_card:Rows.FnExactOptDriveCardSaid:=
 Claim7.holds_tied_plain_at .later [] _ _ _ _ fnExactOptDrive_said (fun _ h=>by cases h) kr (fun _ h=>by cases h) fnExactOptDrive_row_tie rfl ⟨rfl,rfl⟩ kr rfl fnExactOptDrive_plain kr
end Go.Proofs.YtnfmjckkibdcaaaGreatDoor
