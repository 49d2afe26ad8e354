import Derived.Test.YtbbffcolnddcdaaGreatDoorK24
import Derived.StillTailTactics
namespace Go.Proofs.YtbbffcolnddcdaaGreatDoor
open Go.RowKit
set_option linter.all false
open Go.Value renaming int->I,slice->sL,bool->bO,pointer->pT,agg->aG
open Go.IntKind renaming i64->J
open Go.Ending renaming returned->rT
open Go.Proofs.Tryz renaming prog->Tp
def dT{ops:Array Oper}{rest:List Oper}{op:Oper}{a:Act}{w:World}{Q:Act->Prop}(hw:Region.wanted op (yielded ops a.tmps)=true)(ty:TypeId)(x:Operand)(ho:op.op= .load ty x)
  (b o:Nat) (hx:a.eval x=pT (some ⟨b,o,none⟩)) (cs:List Value) (d:TypeDesc) (hc:w.rangeAt b o cs)
  (hu:Tp.underlying ty=some d) (hd:d.isRow=true) (hi:(Tp.info? ty).map (·.size)=some cs.length)
  (h:wpStill Tp ops w Q rest (a.put op.dst (aG cs.toArray))):wpStill Tp ops w Q (op::rest) a:=
 wpStill_step fun K hK=>by
  simp only[hw,if_true];unfold Oper.still execOp;simp only[ho,hx,Instr.loadAt,Instr.sureAddr,QS,Sem.run_pure,Result.andThen_ok,Qt w b o ty cs d hc hu hd hi];exact⟨rfl,hK _ h⟩
abbrev evF(x y z:Int)(f:R5):R8:=⟨x,y,z,f.e,f.i,f.r,f.d,f.l⟩
abbrev fSl(s:Sl)(gq o n k:Nat):Sl:={s with a3:=some ⟨gq,o,none⟩,n3:=n,k3:=k}
abbrev fHo(H:Ho)(r:List R5):Ho:={H with ff:=r}
end Go.Proofs.YtbbffcolnddcdaaGreatDoor
