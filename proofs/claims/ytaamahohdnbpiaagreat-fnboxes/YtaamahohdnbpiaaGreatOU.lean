import Derived.Test.YtaamahohdnbpiaaGreatG41
namespace Go.Proofs.YtaamahohdnbpiaaGreat
open Go.RowKit
set_option linter.unusedVariables false
theorem wpStill_skip {ops:Array Oper} {rest:List Oper} {op:Oper} {a:Act} {w:World} {Q:Act→Prop} (hw:Region.wanted op (yielded ops a.tmps)=false) (h:wpStill Tryz.prog ops w Q rest (a.put op.dst undef)):wpStill Tryz.prog ops w Q (op :: rest) a:=
 wpStill_step fun K hK=>by
  rw[hw]
  exact hK _ h
theorem wpStill_ok {ops:Array Oper} {rest:List Oper} {op:Oper} {a:Act} {w:World} {Q:Act→Prop} (v:Value) (hw:Region.wanted op (yielded ops a.tmps)=true) (hx:(execOp a.eval op).run Tryz.prog w = .ok (.value v) w) (h:wpStill Tryz.prog ops w Q rest (a.put op.dst v)):wpStill Tryz.prog ops w Q (op :: rest) a:=
 wpStill_step fun K hK=>by
  simp only[hw,if_true]
  unfold Oper.still
  rw[hx]
  exact⟨rfl,hK _ h⟩
def offB (j t:Nat) (o:Oper):Bool:=(match o.guard with | some (i,true)=>i == j | _=>false) && (match o.dst with | some d=>d != t | none=>true)
theorem wpStill_skips {ops:Array Oper} {w:World} {Q:Act→Prop} {j t:Nat} (hj:((ops[j]?).bind (·.dst))=some t) {rest:List Oper}:∀ (l:List Oper) (a:Act),l.all (offB j t)=true→a.tmps[t]?=some (.bool false)→wpStill Tryz.prog ops w Q rest (l.foldl (fun a o=>a.put o.dst undef) a)→wpStill Tryz.prog ops w Q (l++rest) a
 | [],a,_,_,h=>h
 | o :: l,a,hall,ht,h=>by
  simp only[List.all_cons,Bool.and_eq_true] at hall
  obtain⟨ho,hall⟩:=hall
  unfold offB at ho
  simp only[Bool.and_eq_true] at ho
  refine wpStill_skip ?_ (wpStill_skips hj l _ hall ?_ h)
  ·unfold Region.wanted
   revert ho
   rcases o.guard with _|⟨i,b⟩
   ·simp
   ·cases b
    ·simp
    ·intro ho;have e:i=j:=by simpa using ho.1
     subst e;simp only[yielded,hj,Option.bind_some,ht]
     rfl
  ·revert ho
   rcases hd:o.dst with _|d
   ·intro _;simpa[Act.put] using ht
   ·intro ho;have hne:d≠t:=by simpa using ho.2
    simp only[Act.put]
    rw[Array.getElem?_setIfInBounds_ne hne]
    exact ht
theorem b0 (n:Nat):((n:Int) == 0)=(n == 0):=by
 rw[Bool.eq_iff_iff]
 simp
end Go.Proofs.YtaamahohdnbpiaaGreat
