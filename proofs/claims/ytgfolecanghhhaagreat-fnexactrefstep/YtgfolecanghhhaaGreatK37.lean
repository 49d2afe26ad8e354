import Derived.Test.YtgfolecanghhhaaGreatK14
import Derived.StillTailTactics
namespace Go.Proofs.YtgfolecanghhhaaGreat
open Go.Proofs.Tryz
open Option renaming none->nn,some->sQ
set_option maxRecDepth 20000
open Go.RowKit
set_option linter.all false
set_option maxHeartbeats 16000000
open Go.Value renaming int->I,slice->sL,bool->bO,pointer->pT,agg->aG
open Go.IntKind renaming i64->J
open Go.Ending renaming returned->rT
open Go.Proofs.Tryz renaming prog->Tp
section
variable {ops:Array Oper} {rest:List Oper} {op:Oper} {a:Act} {w:World} {Q:Act->Prop}
def JD (w : World) (R : Nat) : (method 472 60 (pT (sQ ⟨R, 0, nn⟩)) "loop.example/s01647/impl.core").run Tp w = (do let v <- loadVar 92 ⟨R, 0, nn⟩; pure ((283 : FuncId), v) : Sem (FuncId × Value)).run Tp w := by kernel_rfl
def Kl (w : World) (M R : Nat) (y0 : w.cell? ⟨R, 0, nn⟩ = sQ (pT (sQ ⟨M, 0, nn⟩))) : (method 472 60 (pT (sQ ⟨R, 0, nn⟩)) "loop.example/s01647/impl.core").run Tp w = .ok (283, pT (sQ ⟨M, 0, nn⟩)) w := by
 rw[JD];have:(loadVar 92 ⟨R,0,nn⟩).run Tp w = .ok (pT (sQ ⟨M,0,nn⟩)) w:=by go_simp
 rw[Q7,this];rfl
def dK (hw:Region.wanted op (yielded ops a.tmps)=true) (ty:TypeId) (x:Operand) (ho:op.op = .load ty x)
  (b o:Nat) (hx:a.eval x = pT (sQ ⟨b,o,nn⟩)) (cs:List Value) (d:TypeDesc) (hc:w.rangeAt b o cs)
  (hu:Tp.underlying ty=sQ d) (hd:d.isRow=true) (hi:(Tp.info? ty).map (·.size)=sQ cs.length)
  (h:wpStill Tp ops w Q rest (a.put op.dst (aG cs.toArray))):wpStill Tp ops w Q (op :: rest) a:=
 wpStill_step fun K hK=>by
  simp only[hw,if_true];unfold Oper.still execOp;simp only[ho,hx,Instr.loadAt,Instr.sureAddr,Q7,Sem.run_pure,Result.andThen_ok,QI w b o ty cs d hc hu hd hi];exact⟨rfl,hK _ h⟩
def iH (hw:Region.wanted op (yielded ops a.tmps)=true) (ty:TypeId) (ps:Array (Nat × Operand)) (ho:op.op = .build ty ps)
  (pv:Array (Nat × Value)) (hp:(ps.map fun p=>(p.1,a.eval p.2))=pv) (v:Value) (hr:(Instr.build ty pv).run Tp w = .ok v w)
  (h:wpStill Tp ops w Q rest (a.put op.dst v)):wpStill Tp ops w Q (op :: rest) a:=
 wpStill_step fun K hK=>by
  simp only[hw,if_true];unfold Oper.still execOp;simp only[ho,hp,Q7,hr,Result.andThen_ok,Sem.run_pure];exact⟨rfl,hK _ h⟩
def MK (w:World) (a:Addr):(Instr.typeAssert (.iface 60 (pT (sQ a))) 98 60 true).run Tp w = .ok (.tuple #[pT (sQ a),bO true]) w:=kr
def Z35:List Value:=[I J 0,I J 0,I J 0,bO false,bO false,bO false,bO false,bO false,I J 0,I J 0,I J 0,I J 0,I J 0,I J 0,I J 0,sL nn 0 0,sL nn 0 0,sL nn 0 0,sL nn 0 0,I J 0,I J 0,I J 0,I J 0,I J 0,I J 0,I J 0,I J 0,bO false,I .u32 0,bO false,I J 0,sL nn 0 0,I J 0,sL nn 0 0,I J 0]
def acL (C:Co) (s:Sl) (hd:ByteArray):List Value:=(coL C s++[.string hd])++Z35
def rfL (C:Co) (s:Sl) (hd:ByteArray):List Value:=coL C s++[.string hd]
def Z57:List Value:=[I J 0,I J 0,I J 0,bO false,bO false,bO false,bO false,bO false,I J 0,I J 0,I J 0,I J 0,I J 0,I J 0,I J 0,sL nn 0 0,sL nn 0 0,sL nn 0 0,sL nn 0 0,I J 0,I J 0,.string ⟨#[]⟩,I J 0,I J 0,I J 0,bO false,bO false,bO false,bO false,bO false,I J 0,I J 0,I J 0,I J 0,I J 0,I J 0,I J 0,sL nn 0 0,sL nn 0 0,sL nn 0 0,sL nn 0 0,I J 0,I J 0,I J 0,I J 0,I J 0,I J 0,I J 0,I J 0,bO false,I .u32 0,bO false,I J 0,sL nn 0 0,I J 0,sL nn 0 0,I J 0]
def Ab (W:World) (M:Nat):Calls Tp 283 #[pT (sQ ⟨M,0,nn⟩)] W fun o w'=>o = rT (pT (sQ ⟨M,0,nn⟩))/\w'=W:=by
 go_enter func283,ntmps283;go_wp2_with fail;go_ret;exact⟨rfl,rfl⟩
def IW (w:World) (C:Co) (s:Sl) (hd:ByteArray):(Instr.build 45 #[(0,aG (coL C s).toArray),(1,.string hd)]).run Tp w = .ok (aG (rfL C s hd).toArray) w:=kr
def LR (w:World) (C:Co) (s:Sl) (hd:ByteArray):(Instr.build 76 #[(0,aG (rfL C s hd).toArray)]).run Tp w = .ok (aG (acL C s hd).toArray) w:=kr
def Ez:(Tp.info? 76).map (·.size)=sQ 57:=kr
def vI:(Tp.info? 45).map (·.size)=sQ 22:=kr
def Hk (C:Co) (s:Sl) (hd:ByteArray):(acL C s hd).length=57:=rfl
def uI (C:Co) (s:Sl) (hd:ByteArray):(rfL C s hd).length=22:=rfl
def J9 (C:Co) (s:Sl) (hd:ByteArray):(acL C s hd).toArray.all (·.oneCell')=true:=QK (by simp[acL,coL,Z35,Value.oneCell'])
def uH (C:Co) (s:Sl) (hd:ByteArray):(rfL C s hd).toArray.all (·.oneCell')=true:=QK (by simp[rfL,coL,Value.oneCell'])
end
end Go.Proofs.YtgfolecanghhhaaGreat
