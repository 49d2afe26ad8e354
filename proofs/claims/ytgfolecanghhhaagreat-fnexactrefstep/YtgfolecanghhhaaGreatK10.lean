import Derived.Test.YtgfolecanghhhaaGreatK08
import Derived.Test.YtgfolecanghhhaaGreatK04
import Derived.Deep.RegionHeld
namespace Go.Proofs.YtgfolecanghhhaaGreat
set_option linter.all false
open Go renaming World->Wd
open Go.Proofs.Tryz renaming prog->Tp
def tk {ops:Array Oper} {Q:Exit->Act->Wd->Prop} {md:Region.Mode} {S:Wd->Prop} {fuel:Nat} {listed:Array Bool} {a:Act} {w:Wd} (i:Nat) {oi:Oper} {v:Value} {a':Act}
  (h:wpAnyH Tp md ops Q S fuel (listed.setIfInBounds i true) a' w)
  (hS:S w:=by assumption)
  (hi:ops[i]?=some oi:=by rfl)
  (hc:(Region.noSelect ops && Region.free md ops listed i && (Region.ready md ops listed).contains i)=true:=by kernel_rfl)
  (hQ:∀ c a w,Q (.panic c) (a.put oi.dst v) w->Q (.panic c) a w:=by exact fun _ _ _ h=>h)
  (hw:Region.wanted oi (yielded ops a.tmps)=true:=by rfl)
  (hy:∀ w,S w->(execOp a.eval oi).run Tp w = .ok (.value v) w:=by (intro W hW;go_simp;try rfl))
  (hn:a.put oi.dst v=a':=by (simp only[aZ];try rfl)) :
  wpAnyH Tp md ops Q S (fuel+1) listed a w:=by
 simp only[qw] at hc;subst hn;exact wT hi hc.1.1 hc.1.2 hc.2 hQ (qr ⟨hw,hy⟩) hS h
def tn {ops:Array Oper} {Q:Exit->Act->Wd->Prop} {md:Region.Mode} {S:Wd->Prop} {fuel:Nat} {listed:Array Bool} {a:Act} {w:Wd} (i:Nat) {oi:Oper} {a':Act}
  (h:wpAnyH Tp md ops Q S fuel (listed.setIfInBounds i true) a' w)
  (hS:S w:=by assumption)
  (hi:ops[i]?=some oi:=by rfl)
  (hc:(Region.noSelect ops && Region.free md ops listed i && (Region.ready md ops listed).contains i)=true:=by kernel_rfl)
  (hQ:∀ c a w,Q (.panic c) (a.put oi.dst undef) w->Q (.panic c) a w:=by exact fun _ _ _ h=>h)
  (hw:Region.wanted oi (yielded ops a.tmps)=false:=by rfl)
  (hn:a.put oi.dst undef=a':=by (simp only[aZ];try rfl)) :
  wpAnyH Tp md ops Q S (fuel+1) listed a w:=by
 simp only[qw] at hc;subst hn;exact wT hi hc.1.1 hc.1.2 hc.2 hQ (qx ⟨hw,rfl⟩) hS h
def al {ops:Array Oper} {Q:Exit->Act->Wd->Prop} {md:Region.Mode} {S:Wd->Prop} {fuel:Nat} {listed:Array Bool} {a:Act} {w:Wd} (i:Nat) {o:Oper}
  (h:∀ K':Act->Wd->Prop,Shut (∀ a w,S w->(S w->wpAnyH Tp md ops Q S fuel (listed.setIfInBounds i true) a w)->K' a w)->if Region.wanted o (yielded ops a.tmps)=true then Oper.wp Tp o a w K' Q else K' (a.put o.dst undef) w)
  (hr:Region.ready md ops listed=[i]:=by kernel_rfl) (ho:ops[i]?=some o:=by rfl):wpAnyH Tp md ops Q S (fuel+1) listed a w:=
 wpAnyH_ready hr pQ (Q8 ho h Q9)
end Go.Proofs.YtgfolecanghhhaaGreat
