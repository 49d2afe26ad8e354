import Derived.Test.YtbbffcolnddcdaaGreatDoorK39
import Derived.Test.YtbbffcolnddcdaaGreatDoorK27
namespace Go.Proofs.YtbbffcolnddcdaaGreatDoor
open Go.Proofs.Tryz
open Option renaming none->nn,some->sQ
open Go renaming World->Wd
set_option maxRecDepth 20000
open Go.RowKit
set_option linter.all false
set_option maxHeartbeats 16000000
open Go.Value renaming int->I,slice->sL,bool->bO,pointer->pT,agg->aG
open Go.IntKind renaming i64->J
open Go.Ending renaming returned->rT
open Go.Proofs.Tryz renaming prog->Tp
section
variable{κ κ' κ0:Nat->Nat}{C C' C2:Co}{H H' H2:Ho}{s s0 s' s1 s2:Sl}{w W W':Wd}{p r q:Nat}{FL:List Value}{T:TypeId}
def cA(w:Wd)(κ:Nat->Nat)(C':Co)(o:Ending)(w':Wd):Prop:=∃s' κ',o=rT (aG (coL C' s').toArray)/\Hid (hG κ' C'.ho s' w'/\mvH κ w κ' w')
structure fc(w:Wd)(κ0:Nat->Nat)(vp vr vq:Nat)(FL:List Value)(T:TypeId)(κ:Nat->Nat)(C:Co)(s0:Sl)(H:Ho)(s:Sl)(W:Wd):Prop where
 p:blk W vp (coL C s0) 52
 r:blk W vr Z21 52
 f:blk W vq FL T
 g:hG κ H s W
 m:mvH κ0 w κ W
 z:κ vp=0/\κ vr=0/\κ vq=0/\vp≠vr/\vp≠vq/\w.heap.size<=vp/\w.heap.size<=vr
def fc.call(h:fc w κ0 p r q FL T κ C s0 H s W)(hg:hG κ' H' s' W'/\mvH κ W κ' W'):fc w κ0 p r q FL T κ' C s0 H' s' W':=
 ⟨hg.2.blk h.p h.z.1,hg.2.blk h.r h.z.2.1,hg.2.blk h.f h.z.2.2.1,hg.1,h.m.trans hg.2,by rw[hg.2.c p h.p.lt,hg.2.c r h.r.lt,hg.2.c q h.f.lt];exact h.z⟩
def fc.below(h:fc w κ0 p r q FL T κ C s0 H s W)(hb:Bl W W'):fc w κ0 p r q FL T κ C s0 H s W':=h.call ⟨h.g.below hb,mvH.of hb⟩
def fc.cells(h:fc w κ0 p r q FL T κ C s0 H s W)(o:Nat)(vs:List Value)(hL:blk (W.setCells p o vs) p (coL C' s') 52):fc w κ0 p r q FL T κ C' s' H s (W.setCells p o vs):=
 ⟨hL,h.r.other h.z.2.2.2.1.symm _ _,h.f.other h.z.2.2.2.2.1.symm _ _,h.g.cells h.z.1 _ _,h.m.cells (qp h.z.2.2.2.2.2.1) _ _,h.z⟩
def fc.set(h:fc w κ0 p r q FL T κ C s0 H s W)(i:Nat)(v:Value)(C':Co)(e:(coL C s0).set i v=coL C' s0):fc w κ0 p r q FL T κ C' s0 H s (W.setCell ⟨p,i,nn⟩ v):=h.cells i [v] (by rw[<- e];exact h.p.set i v)
def fc.new2(h:hG κ C.ho s w):fc w κ w.heap.size (w.heap.size+1) (w.heap.size+1) Z21 52 κ C s C.ho s ((w.alloc (.cells (coL C s).toArray 52)).alloc (.cells Z21.toArray 52)):=by
 have b:Bl w ((w.alloc (.cells (coL C s).toArray 52)).alloc (.cells Z21.toArray 52)):=Zw.alloc pQ _;have c:blk ((w.alloc (.cells (coL C s).toArray 52)).alloc (.cells Z21.toArray 52)) (w.heap.size+1) Z21 52:=by simpa using blk.new (w.alloc (.cells (coL C s).toArray 52)) Z21 52
 exact⟨(blk.new w _ 52).alloc _,c,c,h.below b,mvH.of b,h.no (nR _),h.no (nA _ _),h.no (nA _ _),om,om,om,om⟩
def fc.new3(h:hG κ C.ho s w)(FL:List Value):fc w κ w.heap.size (w.heap.size+1+1) (w.heap.size+1) FL 53 κ C s C.ho s (((w.alloc (.cells (coL C s).toArray 52)).alloc (.cells FL.toArray 53)).alloc (.cells Z21.toArray 52)):=by
 have b:Bl w (((w.alloc (.cells (coL C s).toArray 52)).alloc (.cells FL.toArray 53)).alloc (.cells Z21.toArray 52)):=(Zw.alloc pQ _).alloc (by simp;omega) _;have d:blk (((w.alloc (.cells (coL C s).toArray 52)).alloc (.cells FL.toArray 53)).alloc (.cells Z21.toArray 52)) (w.heap.size+1+1) Z21 52:=by simpa using blk.new ((w.alloc (.cells (coL C s).toArray 52)).alloc (.cells FL.toArray 53)) Z21 52
 have c:blk ((w.alloc (.cells (coL C s).toArray 52)).alloc (.cells FL.toArray 53)) (w.heap.size+1) FL 53:=by simpa using blk.new (w.alloc (.cells (coL C s).toArray 52)) FL 53
 exact⟨((blk.new w _ 52).alloc _).alloc _,d,c.alloc _,h.below b,mvH.of b,h.no (nR _),h.no (by rw[Nat.add_assoc];exact nA _ _),h.no (nA _ _),om,om,om,om⟩
abbrev fc2(w:Wd)(κ0 κ:Nat->Nat)(C:Co)(s0:Sl)(H:Ho)(s:Sl)(W:Wd):Prop:=fc w κ0 w.heap.size (w.heap.size+1) (w.heap.size+1) Z21 52 κ C s0 H s W
section
variable{ops:Array Oper}{rest:List Oper}{op:Oper}{a:Act}{Q:Exit->Act->Wd->Prop}{x y:Operand}
def fc.ld(h:fc w κ0 p r q FL T κ C s0 H s W)(K:wpList Tp ops Q rest (a.put op.dst (aG (coL C s0).toArray)) W)(b:op.guard=nn:=by rfl)(ho:op.op= .load 52 x:=by rfl)(c:a.eval x=ap p:=by rfl):wpList Tp ops Q (op::rest) a W:=
 Qk (P:=Tp) b 52 x ho p 0 c (coL C s0) _ h.p.load underlying52 rfl (aV _ _) K
def fc.lh(h:fc w κ0 p r q FL T κ C s0 H s W)(K:wpList Tp ops Q rest (a.put op.dst (aG (hoL C.ho s0).toArray)) W)(b:op.guard=nn:=by rfl)(ho:op.op= .load 50 x:=by rfl)(c:a.eval x=pT (sQ ⟨p,11,nn⟩):=by rfl):wpList Tp ops Q (op::rest) a W:=
 Qk (P:=Tp) b 50 x ho p 11 c (hoL C.ho s0) _ h.p.hostAt underlying50 rfl (jv _ _) K
def fc.sv(h:fc w κ0 p r q FL T κ C s0 H s W)(K:∀b,Hid (fc w κ0 p r q FL T κ C2 s2 H s b)->wpList Tp ops Q rest (a.put op.dst undef) b)(c:op.guard=nn:=by rfl)(ho:op.op= .store 52 x y:=by rfl)(d:a.eval x=ap p:=by rfl)(hy:a.eval y=aG (coL C2 s2).toArray:=by rfl):wpList Tp ops Q (op::rest) a W:=
 Qo (P:=Tp) c 52 x y ho p 0 (coL C2 s2).toArray d hy (h.p.there 0 21 (nR _)) (eY _ _) (cO _ _) (K _ (h.cells 0 _ (h.p.core rfl C2 s2)))
def fc.sh(h:fc w κ0 p r q FL T κ C s0 H s W)(K:∀b,Hid (fc w κ0 p r q FL T κ {C with ho:=H2} s2 H s b)->wpList Tp ops Q rest (a.put op.dst undef) b)(c:op.guard=nn:=by rfl)(ho:op.op= .store 50 x y:=by rfl)(d:a.eval x=pT (sQ ⟨p,11,nn⟩):=by rfl)(hy:a.eval y=aG (hoL H2 s2).toArray:=by rfl):wpList Tp ops Q (op::rest) a W:=
 Qo (P:=Tp) c 50 x y ho p 11 (hoL H2 s2).toArray d hy (h.p.there 11 10 (nR _)) (Gh _ _) (gZ _ _) (K _ (h.cells 11 _ (h.p.host H2 s2)))
def fc.rt(h:fc w κ0 p r q FL T κ C s0 H s W)(K:∀b,blk b r (coL C2 s2) 52->Hid (hG κ H s b/\mvH κ0 w κ b)->wpList Tp ops Q rest (a.put op.dst undef) b)(c:op.guard=nn:=by rfl)(ho:op.op= .store 52 x y:=by rfl)(d:a.eval x=ap r:=by rfl)(hy:a.eval y=aG (coL C2 s2).toArray:=by rfl):wpList Tp ops Q (op::rest) a W:=
 Qo (P:=Tp) c 52 x y ho r 0 (coL C2 s2).toArray d hy (h.r.there 0 21 (nR _)) (eY _ _) (cO _ _) (K _ (h.r.core rfl C2 s2) ⟨h.g.cells h.z.2.1 _ _,h.m.cells (qp h.z.2.2.2.2.2.2) _ _⟩)
end
def dI(h:blk W p (coL C s) 52):(loadVar 52 ⟨p,0,nn⟩).run Tp W= .ok (aG (coL C s).toArray) W:=Qt (P:=Tp) W p 0 52 _ _ h.load underlying52 rfl (aV C s)
def pG(h:hG κ C.ho s w)(x y z:Int)(e:bdQ 1000 C.ho):ce 108 #[aG (coL C s).toArray,I J x,I J y,I J z] w (cA w κ {C with ho:=pH C.ho (ev3 x y z)}):=by
 have b:Hid _:=fc.new2 h;have d:=cw e;clear h e;go_enter func108,ntmps108;go_wp2_with(refine fc.lh b.o ?_);refine(Dt b.o.g x y z d.o.q d.o.lo).mono ?_;rintro o n ⟨s1,l,rfl,i⟩;have f:Hid _:=b.o.call i.o;go_wp2_with(first|(refine fc.sh f.o ?_;intro t c)|(refine fc.ld c.o ?_)|(refine fc.rt c.o ?_;intro u k j));exact bC results108 (dI k) ⟨s1,l,rfl,j⟩
def lX(h:hG κ C.ho s w)(c:Int)(t:bdQ 1000 C.ho):ce 57 #[aG (coL C s).toArray,I J c] w (cA w κ (tlC C c)):=by
 have n:Hid _:=fc.new2 h;have B:=cw t;have j:Hid (tlC C c=if esZ C.p C.te C.re=c then C else{C with ho:=pH C.ho (ev3 10 (esZ C.p C.te C.re) 0)}):=rfl;obtain⟨b,l⟩:∃b,esZ C.p C.te C.re=b:=⟨_,rfl⟩
 have D:Hid (∀W,ce 50 #[aG (coL C s).toArray] W fun o w'=>o=rT (I J b)/\Bl W w'):=fun W=>by rw[<- l];exact fA W C s
 rw[l]at j;clear h t l;go_enter func57,ntmps57;go_wp2_with(refine fc.ld n.o ?_);refine(D.o _).mono ?_;rintro o K ⟨rfl,u⟩;have d:Hid _:=n.o.below u;clear u;by_cases e:b=c
 .have hne:(b !=c)=false:=by simp[e]
  have i:=cw e;clear e;go_wp2_with(first|(refine fc.ld d.o ?_)|(refine fc.rt d.o ?_;intro E k f));refine bC results57 (dI k) ?_;rw[j.o,QW i.o];exact⟨s,κ,rfl,f⟩
 .have hne:(b !=c)=true:=by simp[e]
  have i:=cw e;clear e;go_wp2_with(refine fc.ld d.o ?_);refine(pG d.o.g 10 b 0 B.o).mono ?_;rintro o L ⟨s2,G,rfl,A⟩;have v:Hid _:=d.o.call A.o;go_wp2_with(refine fc.rt v.o ?_;intro E k f);refine bC results57 (dI k) ?_;rw[j.o,QV i.o];exact⟨s2,G,rfl,f⟩
end
end Go.Proofs.YtbbffcolnddcdaaGreatDoor
