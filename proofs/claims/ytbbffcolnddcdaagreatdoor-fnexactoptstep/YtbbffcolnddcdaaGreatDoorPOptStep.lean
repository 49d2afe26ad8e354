import Derived.Test.YtbbffcolnddcdaaGreatDoorPF
import Derived.ShutString
import Derived.Test.YtbbffcolnddcdaaGreatDoorRows
import Derived.Test.YtbbffcolnddcdaaGreatDoorCards
import Derived.Test.YtbbffcolnddcdaaGreatDoorTie
import Derived.WalkKit
import Derived.ProofKit
import Derived.OpenShut
import Derived.Carry
import Derived.ChangeVars
import Derived.ChangeOld
import Derived.Below
import Derived.Deep.DeepHandedRow
import Derived.Lib.LaidTab
namespace Go.Proofs.YtbbffcolnddcdaaGreatDoor
open Go.Proofs.Tryz
open Go.ChangeShapes Go.WideShapes Go.ChangeAt Go.RowKit
set_option linter.all false
open Go.Proofs.Tryz renaming prog->Tp
theorem fnExactOptStep_said:Rows.FnExactOptStepSaid:=
 OpenClaim.holds_of_cond 3 Tryz.f3 rfl rfl rfl rfl rfl rfl rfl ⟨rfl,rfl,rfl,rfl,rfl⟩ rfl rfl rfl rfl rfl kr func3 fnExactOptStep_facts
  (qJ kr) (by unfold Func.isWrapper;first | (rw[QW (by decide +kernel)];kernel_rfl) | (rw[QV (by decide +kernel)];exact⟨rfl,rfl⟩))
  (fun a b H enc _ F=>by rw[OpenClaim.pre_eq_preRow];exact fnExactOptStep_lifted a b H enc F)
theorem fnExactOptStep_plain (f : FuncId) (a : Func) (d : Tryz.pinned.checked.prog.funcNamed "loop.example/s01647/laws.FnExactOptStep" = some f) (e : Tryz.pinned.checked.prog.funcs[f]? = some a) :
  true=Tryz.pinned.checked.prog.looks []/\∀ (j:Nat) t,a.params[j]?=some t->Tryz.pinned.checked.prog.wantsStandIn t=false:=by
 obtain rfl : f = 3 := qX ((show Tp.funcNamed "loop.example/s01647/laws.FnExactOptStep" = some 3 by kernel_rfl).symm.trans d) |>.symm;obtain rfl:a=Tryz.f3:=(qX (func3.symm.trans e)).symm;refine⟨by kernel_rfl,fun j t b=>?_⟩;rw[params3] at b;have g:t ∈ [42,3]:=by simpa using Array.mem_of_getElem? b
 have c:([42,3].all fun u=>!Tp.wantsStandIn u)=true:=kr;exact (show Tp.wantsStandIn t=false by simpa using List.all_eq_true.1 c t g)
theorem fnExactOptStep_card:Rows.FnExactOptStepCardSaid:=
 Claim7.holds_tied_plain_at .later [] _ _ _ _ fnExactOptStep_said (fun _ h=>by cases h) kr (fun _ h=>by cases h) fnExactOptStep_row_tie rfl ⟨rfl,rfl⟩ kr rfl fnExactOptStep_plain kr
end Go.Proofs.YtbbffcolnddcdaaGreatDoor
