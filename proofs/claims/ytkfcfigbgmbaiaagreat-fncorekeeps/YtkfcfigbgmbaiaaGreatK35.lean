import Derived.Test.YtkfcfigbgmbaiaaGreatK24
import Derived.StillTailTactics
namespace Go.Proofs.YtkfcfigbgmbaiaaGreat
open Go.RowKit
set_option linter.unusedVariables false
open Go.Value renaming int→I,slice→sL,bool→bO,pointer→pT,agg→aG
open Go.IntKind renaming i64→J
open Go.Ending renaming returned→rT
open Go.Proofs.Tryz renaming prog→Tp
variable {g n k:Nat} {W:World} {f:R5} {r:List R5}
theorem rowQ5.ghi {B T E:Nat} {bs:List R5} (h:rowQ5 B T E g n k bs W):g<T:=by
 obtain⟨rs,_,_,_,h4,_⟩:=h
 exact h4
theorem wpStill_load_mid {ops:Array Oper} {rest:List Oper} {op:Oper} {a:Act} {w:World} {Q:Act→Prop} (hw:Region.wanted op (yielded ops a.tmps)=true) (ty:TypeId) (x:Operand) (ho:op.op = .load ty x)
  (b o:Nat) (hx:a.eval x = pT (some ⟨b,o,none⟩)) (cs:List Value) (d:TypeDesc) (hc:w.rangeAt b o cs)
  (hu:Tp.underlying ty=some d) (hd:d.isRow=true) (hi:(Tp.info? ty).map (·.size)=some cs.length)
  (h:wpStill Tp ops w Q rest (a.put op.dst (aG cs.toArray))):wpStill Tp ops w Q (op :: rest) a:=
 wpStill_step fun K hK=>by
  simp only[hw,if_true]
  unfold Oper.still execOp
  simp only[ho,hx,Instr.loadAt,Instr.sureAddr,Sem.run_bind,Sem.run_pure,Result.andThen_ok,run_loadVar_mid w b o ty cs d hc hu hd hi]
  exact⟨rfl,hK _ h⟩
abbrev evF (x y z:Int) (f:R5):R8:=⟨x,y,z,f.e,f.i,f.r,f.d,f.l⟩
def fetHo (H:Ho):Ho:=match H.ff with
 | []=>pH H (ev3 12 0 0)
 | f :: r=>{ pH H (evF 12 1 0 f) with ff:=r }
theorem isR5s.tail (h:isR5s W (some ⟨g,0,none⟩) n k (f :: r)):isR5s W (some ⟨g,5,none⟩) (n-1) (k-1) r:=by
 have hl:=h.len
 have hc:=h.cap
 simp only[List.length_cons] at hl
 refine⟨by omega,by omega,fun _=>⟨g,5,rfl,fun j hj=>?_⟩⟩
 obtain⟨g',off,e,hx⟩:=h.cells (by simp)
 cases e
 obtain⟨ao,m,c,q⟩:=hx (j+1) (by simpa using hj)
 refine⟨ao,m,c,?_⟩
 have e2:0+(j+1)*5=5+j*5:=by omega
 rw[e2] at q
 simpa using q
theorem isR5s.tail1 {W':World} (h:isR5s W (some ⟨g,0,none⟩) n k (f :: r)) (hk:k=1):isR5s W' (some ⟨g,0,none⟩) r.length 0 r:=by
 have hl:=h.len
 have hc:=h.cap
 simp only[List.length_cons] at hl
 have e:r=[]:=List.length_eq_zero_iff.1 (by omega)
 subst e;exact⟨rfl,nR _,fun e=>absurd rfl e⟩
abbrev fSl (s:Sl) (gq o n k:Nat):Sl:={ s with a3:=some ⟨gq,o,none⟩,n3:=n,k3:=k }
abbrev fHo (H:Ho) (r:List R5):Ho:={ H with ff:=r }
end Go.Proofs.YtkfcfigbgmbaiaaGreat
