import Derived.Test.YtaamahohdnbpiaaGreatNP
import Derived.StillTailTactics
namespace Go.Proofs.YtaamahohdnbpiaaGreat
open Go.RowKit
set_option linter.unusedVariables false
theorem rowQ5.ghi {B T E g n k:Nat} {bs:List R5} {W:World} (h:rowQ5 B T E g n k bs W):g<T:=by
 obtain⟨rs,_,_,_,h4,_⟩:=h
 exact h4
theorem wpStill_load_mid {ops:Array Oper} {rest:List Oper} {op:Oper} {a:Act} {w:World} {Q:Act→Prop} (hw:Region.wanted op (yielded ops a.tmps)=true) (ty:TypeId) (x:Operand) (ho:op.op = .load ty x)
  (b o:Nat) (hx:a.eval x = .pointer (some ⟨b,o,none⟩)) (cs:List Value) (d:TypeDesc) (hc:w.rangeAt b o cs)
  (hu:Tryz.prog.underlying ty=some d) (hd:d.isRow=true) (hi:(Tryz.prog.info? ty).map (·.size)=some cs.length)
  (h:wpStill Tryz.prog ops w Q rest (a.put op.dst (.agg cs.toArray))):wpStill Tryz.prog ops w Q (op :: rest) a:=
 wpStill_step fun K hK=>by
  simp only[hw,if_true]
  unfold Oper.still execOp
  simp only[ho,hx,Instr.loadAt,Instr.sureAddr,Sem.run_bind,Sem.run_pure,Result.andThen_ok,run_loadVar_mid w b o ty cs d hc hu hd hi]
  exact⟨rfl,hK _ h⟩
end Go.Proofs.YtaamahohdnbpiaaGreat
