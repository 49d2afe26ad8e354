import Derived.Test.YtbbffcolnddcdaaGreatDoorK08
import Derived.Test.YtbbffcolnddcdaaGreatDoorK04
import Derived.Deep.RegionHeld
namespace Go.Proofs.YtbbffcolnddcdaaGreatDoor
set_option linter.all false
open Go renaming World->Wd
open Go.Proofs.Tryz renaming prog->Tp
def tk{b:Array Oper}{Q:Exit->Act->Wd->Prop}{g:Region.Mode}{S:Wd->Prop}{k:Nat}{f:Array Bool}{a:Act}{w:Wd}(i:Nat){d:Oper}{v:Value}{j:Act}
  (h:wpAnyH Tp g b Q S k (f.setIfInBounds i true) j w)
  (hS:S w:=by assumption)
  (hi:b[i]?=some d:=by rfl)
  (e:(Region.noSelect b&&Region.free g b f i&&(Region.ready g b f).contains i)=true:=by kernel_rfl)
  (l:∀c a w,Q (.panic c) (a.put d.dst v) w->Q (.panic c) a w:=by exact fun _ _ _ h=>h)
  (p:Region.wanted d (yielded b a.tmps)=true:=by rfl)
  (hy:∀w,S w->(execOp a.eval d).run Tp w= .ok (.value v) w:=by(intro W r;go_simp;try rfl))
  (n:a.put d.dst v=j:=by(simp only[aZ];try rfl)) :
  wpAnyH Tp g b Q S (k+1) f a w:=by
 simp only[Q3]at e;subst n;exact wT hi e.1.1 e.1.2 e.2 l (qp ⟨p,hy⟩) hS h
def tn{b:Array Oper}{Q:Exit->Act->Wd->Prop}{f:Region.Mode}{S:Wd->Prop}{k:Nat}{e:Array Bool}{a:Act}{w:Wd}(i:Nat){g:Oper}{j:Act}
  (h:wpAnyH Tp f b Q S k (e.setIfInBounds i true) j w)
  (hS:S w:=by assumption)
  (hi:b[i]?=some g:=by rfl)
  (d:(Region.noSelect b&&Region.free f b e i&&(Region.ready f b e).contains i)=true:=by kernel_rfl)
  (l:∀c a w,Q (.panic c) (a.put g.dst undef) w->Q (.panic c) a w:=by exact fun _ _ _ h=>h)
  (p:Region.wanted g (yielded b a.tmps)=false:=by rfl)
  (n:a.put g.dst undef=j:=by(simp only[aZ];try rfl)) :
  wpAnyH Tp f b Q S (k+1) e a w:=by
 simp only[Q3]at d;subst n;exact wT hi d.1.1 d.1.2 d.2 l (qt ⟨p,rfl⟩) hS h
def al{b:Array Oper}{Q:Exit->Act->Wd->Prop}{e:Region.Mode}{S:Wd->Prop}{f:Nat}{d:Array Bool}{a:Act}{w:Wd}(i:Nat){o:Oper}
  (h:∀c:Act->Wd->Prop,Shut (∀a w,S w->(S w->wpAnyH Tp e b Q S f (d.setIfInBounds i true) a w)->c a w)->if Region.wanted o (yielded b a.tmps)=true then Oper.wp Tp o a w c Q else c (a.put o.dst undef) w)
  (g:Region.ready e b d=[i]:=by kernel_rfl) (ho:b[i]?=some o:=by rfl):wpAnyH Tp e b Q S (f+1) d a w:=
 wpAnyH_ready g pQ (QT ho h QU)
end Go.Proofs.YtbbffcolnddcdaaGreatDoor
