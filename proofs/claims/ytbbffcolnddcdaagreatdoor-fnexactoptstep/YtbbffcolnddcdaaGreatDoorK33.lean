import Derived.Test.YtbbffcolnddcdaaGreatDoorK17
import Derived.StillTailTactics
namespace Go.Proofs.YtbbffcolnddcdaaGreatDoor
open Go.Proofs.Tryz
open Option renaming none->nn,some->sQ
set_option maxRecDepth 20000
open Go.RowKit
set_option linter.all false
set_option maxHeartbeats 16000000
open Go.Value renaming int->I,slice->sL,bool->bO,pointer->pT,agg->aG
open Go.IntKind renaming i64->J
open Go.Ending renaming returned->rT
open Go.Proofs.Tryz renaming prog->Tp
section
variable{ops:Array Oper}{rest:List Oper}{op:Oper}{a:Act}{w:World}{Q:Act->Prop}
def dD(hw:Region.wanted op (yielded ops a.tmps)=true)(ty:TypeId)(x:Operand)(ho:op.op= .load ty x)
  (b o:Nat) (hx:a.eval x=pT (sQ ⟨b,o,nn⟩)) (cs:List Value) (d:TypeDesc) (hc:w.rangeAt b o cs)
  (hu:Tp.underlying ty=sQ d) (hd:d.isRow=true) (hi:(Tp.info? ty).map (·.size)=sQ cs.length)
  (h:wpStill Tp ops w Q rest (a.put op.dst (aG cs.toArray))):wpStill Tp ops w Q (op::rest) a:=
 wpStill_step fun K hK=>by
  simp only[hw,if_true];unfold Oper.still execOp;simp only[ho,hx,Instr.loadAt,Instr.sureAddr,QS,Sem.run_pure,Result.andThen_ok,Qt w b o ty cs d hc hu hd hi];exact⟨rfl,hK _ h⟩
def iW(hw:Region.wanted op (yielded ops a.tmps)=true)(ty:TypeId)(ps:Array (Nat × Operand))(ho:op.op= .build ty ps)
  (pv:Array (Nat × Value)) (hp:(ps.map fun p=>(p.1,a.eval p.2))=pv) (v:Value) (hr:(Instr.build ty pv).run Tp w= .ok v w)
  (h:wpStill Tp ops w Q rest (a.put op.dst v)):wpStill Tp ops w Q (op::rest) a:=
 wpStill_step fun K hK=>by
  simp only[hw,if_true];unfold Oper.still execOp;simp only[ho,hp,QS,hr,Result.andThen_ok,Sem.run_pure];exact⟨rfl,hK _ h⟩
def Z35:List Value:=[I J 0,I J 0,I J 0,bO false,bO false,bO false,bO false,bO false,I J 0,I J 0,I J 0,I J 0,I J 0,I J 0,I J 0,sL nn 0 0,sL nn 0 0,sL nn 0 0,sL nn 0 0,I J 0,I J 0,I J 0,I J 0,I J 0,I J 0,I J 0,I J 0,bO false,I .u32 0,bO false,I J 0,sL nn 0 0,I J 0,sL nn 0 0,I J 0]
def rfL(C:Co)(s:Sl)(hd:ByteArray):List Value:=coL C s++[.string hd]
def Z57:List Value:=[I J 0,I J 0,I J 0,bO false,bO false,bO false,bO false,bO false,I J 0,I J 0,I J 0,I J 0,I J 0,I J 0,I J 0,sL nn 0 0,sL nn 0 0,sL nn 0 0,sL nn 0 0,I J 0,I J 0,.string ⟨#[]⟩,I J 0,I J 0,I J 0,bO false,bO false,bO false,bO false,bO false,I J 0,I J 0,I J 0,I J 0,I J 0,I J 0,I J 0,sL nn 0 0,sL nn 0 0,sL nn 0 0,sL nn 0 0,I J 0,I J 0,I J 0,I J 0,I J 0,I J 0,I J 0,I J 0,bO false,I .u32 0,bO false,I J 0,sL nn 0 0,I J 0,sL nn 0 0,I J 0]
def AX(W:World)(M:Nat):ce 345 #[ap M] W fun o w'=>o=rT (ap M)/\w'=W:=by
 go_enter func345,ntmps345;go_wp2_with fail;go_ret;exact⟨rfl,rfl⟩
def BH:(Tp.info? 87).map (·.size)=sQ 57:=kr
end
end Go.Proofs.YtbbffcolnddcdaaGreatDoor
