import Derived.Test.YtnfmjckkibdcaaaGreatDoorK15
import Derived.StillTailTactics
namespace Go.Proofs.YtnfmjckkibdcaaaGreatDoor
open Option renaming none->nn,some->sQ
set_option maxRecDepth 20000
open Go.RowKit
set_option linter.all false
set_option maxHeartbeats 16000000
open Go.Value renaming int->I,slice->sL,bool->bO,pointer->pT,agg->aG
open Go.IntKind renaming i64->J
open Go.Ending renaming returned->rT
open Go.Proofs.Tryz renaming prog->Tp
variable {ops:Array Oper} {rest:List Oper} {op:Oper} {a:Act} {w:World} {Q:Act->Prop}
def dK (hw:Region.wanted op (yielded ops a.tmps)=true) (ty:TypeId) (x:Operand) (ho:op.op = .load ty x)
  (b o:Nat) (hx:a.eval x = pT (sQ ⟨b,o,nn⟩)) (cs:List Value) (d:TypeDesc) (hc:w.rangeAt b o cs)
  (hu:Tp.underlying ty=sQ d) (hd:d.isRow=true) (hi:(Tp.info? ty).map (·.size)=sQ cs.length)
  (h:wpStill Tp ops w Q rest (a.put op.dst (aG cs.toArray))):wpStill Tp ops w Q (op :: rest) a:=
 wpStill_step fun K hK=>by
  simp only[hw,if_true];unfold Oper.still execOp;simp only[ho,hx,Instr.loadAt,Instr.sureAddr,Q8,Sem.run_pure,Result.andThen_ok,QJ w b o ty cs d hc hu hd hi];exact⟨rfl,hK _ h⟩
def iH (hw:Region.wanted op (yielded ops a.tmps)=true) (ty:TypeId) (ps:Array (Nat × Operand)) (ho:op.op = .build ty ps)
  (pv:Array (Nat × Value)) (hp:(ps.map fun p=>(p.1,a.eval p.2))=pv) (v:Value) (hr:(Instr.build ty pv).run Tp w = .ok v w)
  (h:wpStill Tp ops w Q rest (a.put op.dst v)):wpStill Tp ops w Q (op :: rest) a:=
 wpStill_step fun K hK=>by
  simp only[hw,if_true];unfold Oper.still execOp;simp only[ho,hp,Q8,hr,Result.andThen_ok,Sem.run_pure];exact⟨rfl,hK _ h⟩
def Z35:List Value:=[I J 0,I J 0,I J 0,bO false,bO false,bO false,bO false,bO false,I J 0,I J 0,I J 0,I J 0,I J 0,I J 0,I J 0,sL nn 0 0,sL nn 0 0,sL nn 0 0,sL nn 0 0,I J 0,I J 0,I J 0,I J 0,I J 0,I J 0,I J 0,I J 0,bO false,I .u32 0,bO false,I J 0,sL nn 0 0,I J 0,sL nn 0 0,I J 0]
def Z57:List Value:=[I J 0,I J 0,I J 0,bO false,bO false,bO false,bO false,bO false,I J 0,I J 0,I J 0,I J 0,I J 0,I J 0,I J 0,sL nn 0 0,sL nn 0 0,sL nn 0 0,sL nn 0 0,I J 0,I J 0,.string ⟨#[]⟩,I J 0,I J 0,I J 0,bO false,bO false,bO false,bO false,bO false,I J 0,I J 0,I J 0,I J 0,I J 0,I J 0,I J 0,sL nn 0 0,sL nn 0 0,sL nn 0 0,sL nn 0 0,I J 0,I J 0,I J 0,I J 0,I J 0,I J 0,I J 0,I J 0,bO false,I .u32 0,bO false,I J 0,sL nn 0 0,I J 0,sL nn 0 0,I J 0]
def Ab (W:World) (M:Nat):Calls Tp 363 #[pT (sQ ⟨M,0,nn⟩)] W fun o w'=>o = rT (pT (sQ ⟨M,0,nn⟩))/\w'=W:=by
 go_enter Tryz.func363,Tryz.ntmps363;go_wp2_with fail;go_ret;exact⟨rfl,rfl⟩
def Ez:(Tp.info? 88).map (·.size)=sQ 57:=kr
end Go.Proofs.YtnfmjckkibdcaaaGreatDoor
