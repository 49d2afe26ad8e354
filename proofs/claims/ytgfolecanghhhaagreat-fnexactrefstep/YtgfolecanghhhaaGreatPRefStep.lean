import Derived.Test.YtgfolecanghhhaaGreatK48
import Derived.Test.YtgfolecanghhhaaGreatK46
import Derived.Test.YtgfolecanghhhaaGreatRows
import Derived.Test.YtgfolecanghhhaaGreatPC
import Derived.WalkKit
import Derived.ProofKit
import Derived.OpenShut
import Derived.ShutString
import Derived.ChangeOld
import Derived.Below
namespace Go.Proofs.YtgfolecanghhhaaGreat
open Go.Proofs.Tryz
set_option maxRecDepth 100000
open Go.ChangeShapes Go.WideShapes Go.ChangeAt Go.RowKit
open Go.ChangeMaps (open_string shut_string)
set_option linter.all false
open Go.Value renaming int->I,slice->sL,bool->bO,pointer->pT,agg->aG
open Go.IntKind renaming i64->J
open Go.Ending renaming returned->rT
open Go.Proofs.Tryz renaming prog->Tp
theorem fnExactRefStep_own:ownKnob Tp.godebug=none:=kr
theorem fnExactRefStep_laidOut:laidOutB Tp=true:=kr
theorem fnExactRefStep_lifted (os:Os) (started:os.Started) (H:Type) (enc:TypeId × Value->H) :
  ReturnsInHanded {} Tryz.checked os 3 .any (Rows.fnExactRefStepSpec.pre6 enc Tp Tryz.f3 Rows.fnExactRefStepRow.domain false) (Rows.fnExactRefStepSpec.post enc Tp Tryz.f3 false true false false):=by
 refine returnsInHanded_of_change (C:=Tryz.checked) fnExactRefStep_own started kr func3
  (ChangeSpec.witness6 (enc:=enc) (C:=Tryz.checked) false ⟨#[],#[aG #[I J 0,I J 0,I J 0,bO false,bO false,bO false,bO false,bO false,I J 0,I J 0,I J 0,I J 0,I J 0,I J 0,I J 0,sL none 0 0,sL none 0 0,sL none 0 0,sL none 0 0,I J 0,I J 0,.string ⟨#[]⟩],I J 0],[]⟩ 8 kr kr kr kr) ?_
 intro W base args ds gs before hval0 hW hcnd _;have hval:∀ (j:Nat) t v,Tryz.f3.params[j]?=some t->args[j]?=some v->Value.okWide Tp W .any base t v:=hval0;have hW':=hW;obtain⟨p,q,hA0,hV,rfl,hfz,hnd⟩:=hW;have hA:DataW.TrodAll enc Tp W 0 (fun _=>true) true Tryz.f3.params.toList args.toList ds p:=hA0;rw[params3] at hA hval;obtain⟨v0,vs0,d0,ds0,p0,q0,hargs,rfl,rfl,h0,r0⟩:=trodAll_cons hA;obtain⟨v1,vs1,d1,ds1,p1,q1,rfl,rfl,rfl,h1,r1⟩:=trodAll_cons r0;obtain⟨rfl,rfl,rfl⟩:=trodAll_nil r1;obtain rfl:args = #[v0,v1]:=by cases args;simp_all
 obtain⟨rfl,rfl⟩:=trodVars_none hV;have k0:=h0;have lt0:∀ x ∈ p0,x.block<W.heap.size:=by obtain⟨m,hm⟩:=k0;exact DataW.trod_lt m _ _ _ hm
 obtain⟨C0,s0,hd0,rfl,w0,mm0,sz0⟩:=yo (hval 0 33 v0 rfl rfl) h0;obtain⟨z1,rfl,rfl,rfl,w1⟩:=open_int underlying3 (hval 1 3 v1 rfl rfl) h1;clear hA0 hval0;refine (JE C0 s0 hd0 z1 W w0 mm0 sz0).mono fun e W' ⟨he,bel⟩=>?_;subst he;exact⟨_,rfl,_,_,_,[],_,[],hW',trodAll_mk1 (shut_bool underlying4 _),(trodAll_cons_mk (Below.trod fnExactRefStep_laidOut kr (qO kr) k0 bel lt0) (trodAll_cons_mk (shut_int underlying3 w1) trodAll_mk0)),rfl,bel.frame _,fun h=>by cases h⟩
theorem fnExactRefStep_proved:Rows.FnExactRefStepSaid:=
 OpenClaim.holds_of_wide 3 Tryz.f3 rfl rfl rfl rfl rfl rfl rfl ⟨rfl,rfl,rfl,rfl,rfl⟩ rfl rfl rfl rfl rfl kr func3 fnExactRefStep_facts
  (qO kr) (by unfold Func.isWrapper;first | (rw[qc (by decide +kernel)];kernel_rfl) | (rw[qa (by decide +kernel)];exact⟨rfl,rfl⟩))
  (fun os started H enc _=>fnExactRefStep_lifted os started H enc)
end Go.Proofs.YtgfolecanghhhaaGreat
