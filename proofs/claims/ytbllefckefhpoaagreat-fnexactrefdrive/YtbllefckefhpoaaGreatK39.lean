import Derived.Test.YtbllefckefhpoaaGreatK11
import Derived.StillTailTactics
namespace Go.Proofs.YtbllefckefhpoaaGreat
open Go.RowKit
set_option linter.unusedVariables false
set_option maxHeartbeats 16000000
open Go.Value renaming int→I,slice→sL,bool→bO,pointer→pT,agg→aG
open Go.IntKind renaming i64→J
open Go.Ending renaming returned→rT
open Go.Proofs.Tryz renaming prog→Tp
set_option maxRecDepth 20000 in
theorem meth_drive (w : World) (a : Addr) : (method 457 61 (pT (some a)) "loop.example/s01647/impl.drive").run Tp w = .ok (261, pT (some a)) w := by kernel_rfl
set_option maxRecDepth 20000 in
theorem meth_core0 (w : World) (R : Nat) : (method 457 61 (pT (some ⟨R, 0, none⟩)) "loop.example/s01647/impl.core").run Tp w = (do let v ← loadVar 93 ⟨R, 0, none⟩; pure ((260 : FuncId), v) : Sem (FuncId × Value)).run Tp w := by kernel_rfl
theorem meth_core (w : World) (M R : Nat) (y0 : w.cell? ⟨R, 0, none⟩ = some (pT (some ⟨M, 0, none⟩))) : (method 457 61 (pT (some ⟨R, 0, none⟩)) "loop.example/s01647/impl.core").run Tp w = .ok (260, pT (some ⟨M, 0, none⟩)) w := by
 rw[meth_core0]
 have:(loadVar 93 ⟨R,0,none⟩).run Tp w = .ok (pT (some ⟨M,0,none⟩)) w:=by go_simp
 rw[Sem.run_bind,this]
 rfl
theorem wpStill_load_midX {ops:Array Oper} {rest:List Oper} {op:Oper} {a:Act} {w:World} {Q:Act→Prop} (hw:Region.wanted op (yielded ops a.tmps)=true) (ty:TypeId) (x:Operand) (ho:op.op = .load ty x)
  (b o:Nat) (hx:a.eval x = pT (some ⟨b,o,none⟩)) (cs:List Value) (d:TypeDesc) (hc:w.rangeAt b o cs)
  (hu:Tp.underlying ty=some d) (hd:d.isRow=true) (hi:(Tp.info? ty).map (·.size)=some cs.length)
  (h:wpStill Tp ops w Q rest (a.put op.dst (aG cs.toArray))):wpStill Tp ops w Q (op :: rest) a:=
 wpStill_step fun K hK=>by
  simp only[hw,if_true]
  unfold Oper.still execOp
  simp only[ho,hx,Instr.loadAt,Instr.sureAddr,Sem.run_bind,Sem.run_pure,Result.andThen_ok,run_loadVar_mid w b o ty cs d hc hu hd hi]
  exact⟨rfl,hK _ h⟩
theorem wpStill_build {ops:Array Oper} {rest:List Oper} {op:Oper} {a:Act} {w:World} {Q:Act→Prop} (hw:Region.wanted op (yielded ops a.tmps)=true) (ty:TypeId) (ps:Array (Nat × Operand)) (ho:op.op = .build ty ps)
  (pv:Array (Nat × Value)) (hp:(ps.map fun p=>(p.1,a.eval p.2))=pv) (v:Value) (hr:(Instr.build ty pv).run Tp w = .ok v w)
  (h:wpStill Tp ops w Q rest (a.put op.dst v)):wpStill Tp ops w Q (op :: rest) a:=
 wpStill_step fun K hK=>by
  simp only[hw,if_true]
  unfold Oper.still execOp
  simp only[ho,hp,Sem.run_bind,hr,Result.andThen_ok,Sem.run_pure]
  exact⟨rfl,hK _ h⟩
theorem ta63 (w:World) (a:Addr):(Instr.typeAssert (.iface 61 (pT (some a))) 99 61 true).run Tp w = .ok (.tuple #[pT (some a),bO true]) w:=by kernel_rfl
def Z35:List Value:=[I J 0,I J 0,I J 0,bO false,bO false,bO false,bO false,bO false,I J 0,I J 0,I J 0,I J 0,I J 0,I J 0,I J 0,sL none 0 0,sL none 0 0,sL none 0 0,sL none 0 0,I J 0,I J 0,I J 0,I J 0,I J 0,I J 0,I J 0,I J 0,bO false,I .u32 0,bO false,I J 0,sL none 0 0,I J 0,sL none 0 0,I J 0]
def acL (C:Co) (s:Sl) (hd:ByteArray):List Value:=(coL C s++[.string hd])++Z35
def rfL (C:Co) (s:Sl) (hd:ByteArray):List Value:=coL C s++[.string hd]
def Z57:List Value:=[I J 0,I J 0,I J 0,bO false,bO false,bO false,bO false,bO false,I J 0,I J 0,I J 0,I J 0,I J 0,I J 0,I J 0,sL none 0 0,sL none 0 0,sL none 0 0,sL none 0 0,I J 0,I J 0,.string ⟨#[]⟩,I J 0,I J 0,I J 0,bO false,bO false,bO false,bO false,bO false,I J 0,I J 0,I J 0,I J 0,I J 0,I J 0,I J 0,sL none 0 0,sL none 0 0,sL none 0 0,sL none 0 0,I J 0,I J 0,I J 0,I J 0,I J 0,I J 0,I J 0,I J 0,bO false,I .u32 0,bO false,I J 0,sL none 0 0,I J 0,sL none 0 0,I J 0]
set_option maxRecDepth 20000 in
theorem core_any (W:World) (M:Nat):Calls Tp 260 #[pT (some ⟨M,0,none⟩)] W fun o w'=>o = rT (pT (some ⟨M,0,none⟩))∧w'=W:=by
 go_enter Tryz.func260,Tryz.ntmps260
 go_wp2_with fail;go_ret;exact⟨rfl,rfl⟩
theorem build43 (w:World) (C:Co) (s:Sl) (hd:ByteArray):(Instr.build 45 #[(0,aG (coL C s).toArray),(1,.string hd)]).run Tp w = .ok (aG (rfL C s hd).toArray) w:=by kernel_rfl
theorem build74 (w:World) (C:Co) (s:Sl) (hd:ByteArray):(Instr.build 76 #[(0,aG (rfL C s hd).toArray)]).run Tp w = .ok (aG (acL C s hd).toArray) w:=by kernel_rfl
theorem sz74:(Tp.info? 76).map (·.size)=some 57:=by kernel_rfl
theorem sz43:(Tp.info? 45).map (·.size)=some 22:=by kernel_rfl
theorem acL_len (C:Co) (s:Sl) (hd:ByteArray):(acL C s hd).length=57:=rfl
theorem rfL_len (C:Co) (s:Sl) (hd:ByteArray):(rfL C s hd).length=22:=rfl
theorem acL_one (C:Co) (s:Sl) (hd:ByteArray):(acL C s hd).toArray.all (·.oneCell')=true:=all_oneCell_toArray (by simp[acL,coL,Z35,Value.oneCell'])
theorem rfL_one (C:Co) (s:Sl) (hd:ByteArray):(rfL C s hd).toArray.all (·.oneCell')=true:=all_oneCell_toArray (by simp[rfL,coL,Value.oneCell'])
end Go.Proofs.YtbllefckefhpoaaGreat
