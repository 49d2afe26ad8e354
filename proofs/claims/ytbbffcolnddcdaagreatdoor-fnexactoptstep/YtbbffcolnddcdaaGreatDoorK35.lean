import Derived.Test.YtbbffcolnddcdaaGreatDoorK34
import Derived.Test.YtbbffcolnddcdaaGreatDoorK24
namespace Go.Proofs.YtbbffcolnddcdaaGreatDoor
open Go.RowKit
set_option linter.all false
def CE(E:ByteArray)(i:Nat)(h:i<E.size):E[i]=E.data.toList[i]'(by rw[<- Go.Lib.size_eq];exact h):=by
 rw[Array.getElem_toList];rfl
def BI(l:List Nat)(h:∀x∈l,M.isL x)(i:Nat)(hi:i<(ag l).size):(ag l)[i].toNat=48\/(ag l)[i].toNat=49:=by
 have b:i<l.length:=by rw[<- aW];exact hi
 have e:(ag l)[i].toNat=l[i]%256:=by
  rw[CE _ i hi];simp[ag]
 have a:=h l[i] (ql b);rw[e];rcases a with a|a<;>rw[a]<;>decide
def sY(e:Bool)(i:Nat)(r:Bool)(d:Int)(l:List Nat)(h:vB e i r d l.length=true)(j:l.length<=8):10<=(eP e i r d l.length l).size/\(eP e i r d l.length l).size<=1000/\∀k(a:k<(eP e i r d l.length l).size),(eP e i r d l.length l)[k].toNat=48\/(eP e i r d l.length l)[k].toNat=49:=by
 have b:eP e i r d l.length l=ag (M.fV (aj e i r d.toNat l)++List.replicate 10 49):=by unfold eP;rw[QW h]
 rw[b];have f:∀x∈M.fV (aj e i r d.toNat l)++List.replicate 10 49,M.isL x:=by
  intro x g;rcases List.mem_append.1 g with h1|h1
  .exact M.FO _ (cZ e i r d.toNat l) x h1
  .exact qt (List.eq_of_mem_replicate h1)
 refine⟨?_,?_,fun k a=>BI _ f k a⟩
 .rw[aW,QX,List.length_replicate];omega
 .rw[aW,QX,List.length_replicate];have h1:=M.FN (aj e i r d.toNat l);have c:=fW e i r d.toNat l;split at c<;>omega
def eU(C:Co)(h:cH C)(f:wrP C.ho.bx):10<=(aq C).size/\(aq C).size<=1000/\∀i(hi:i<(aq C).size),(aq C)[i].toNat=48\/(aq C)[i].toNat=49:=by
 have a:=lu f;have h1:=h.h.bx.1 (onI C.ho.bx) a;have g:C.ho.bx[onI C.ho.bx].x≠0:=by
  have:=List.findIdx_getElem (xs:=C.ho.bx) (p:=fun b:R8=>b.x==2||b.x==3) (w:=a);intro e;have c:(C.ho.bx[onI C.ho.bx].x==2||C.ho.bx[onI C.ho.bx].x==3)=true:=this;rw[e]at c;simp at c
 unfold cV at h1;rw[QV g]at h1;rw[jG C a];have d:=h1.2.2.2;generalize C.ho.bx[onI C.ho.bx]=b at*;exact sY _ _ _ _ _ d (cW d).2.2.2.2
open Go.Proofs.Tryz
set_option maxRecDepth 20000
set_option maxHeartbeats 16000000
open Go.Value renaming int->I,slice->sL,bool->bO,pointer->pT,agg->aG
open Go.IntKind renaming i64->J
open Go.Ending renaming returned->rT
open Go.Proofs.Tryz renaming prog->Tp
def zq(W:World)(M:Nat)(p:Int)(a wk:Bool)(b:(p==2)=a)(c:W.cell? ⟨M,3,none⟩=some (I J p))(d:W.cell? ⟨M,6,none⟩=some (bO wk)):ce 351 #[ap M] W fun o w'=>o=rT (I J (if(a&& !wk)=true then 0 else 1))/\w'=W:=by
 cases a<;>cases wk;all_goals
  go_enter func351,ntmps351;go_wp2_with fail;go_ret;exact⟨rfl,rfl⟩
end Go.Proofs.YtbbffcolnddcdaaGreatDoor
