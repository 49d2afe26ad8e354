import Derived.Test.YtbbffcolnddcdaaGreatDoorK20
import Derived.Deep.DeepCutAuto
namespace Go.Proofs.YtbbffcolnddcdaaGreatDoor
open Go.Proofs.Tryz
open Option renaming none->nn,some->sQ
open Go renaming World->Wd
set_option maxRecDepth 20000
open Go.RowKit
set_option linter.all false
set_option maxHeartbeats 16000000
open Go.Value renaming int->I,slice->sL,bool->bO,pointer->pT,agg->aG
open Go.IntKind renaming i64->J
open Go.Ending renaming returned->rT
open Go.Proofs.Tryz renaming prog->Tp
def liL(c0:Int)(r1:Nat)(c2:Int)(r3 gf n1 kf gb n2 kb mb gr f1 n3 gq f3 n4:Nat)(lo st:Int):List Value:=[I J c0,I J (r1:Int),I J c2,I J (r3:Int),sL (be gf) n1 kf,sL (be gb) n2 kb,.map (sQ mb),sL (be gr) r1 r1,I J (f1:Int),I J (n3:Int),sL (be gq) r3 r3,I J (f3:Int),I J (n4:Int),I J lo,I J st]
def dq.below{w0 w W:Wd}{g room first:Nat}{L:List R5}(h:dq w0 w g room first L)(hb:Bl w W):dq w0 W g room first L:=fun i hi=>by
 obtain⟨ao,m,c,h1,h2⟩:=h i hi;exact⟨ao,m,c,cY h1 hb (Qn w _ (h1 0 _ rfl)),h2⟩
def eI.below{w0 w W:Wd}{g room first:Nat}{L:List R8}(h:eI w0 w g room first L)(hb:Bl w W):eI w0 W g room first L:=fun i hi=>by
 obtain⟨ao,m,c,h1,h2⟩:=h i hi;exact⟨ao,m,c,cY h1 hb (Qn w _ (h1 0 _ rfl)),h2⟩
section
variable{w:Wd}{n1:Nat}{fs:List R3}{n2:Nat}{bx:List R8}{n3:Nat}{ff:List R5}{n4:Nat}{qu:List R8}{g1 k1 g2 k2:Nat}{h2:Nat->Hd}{a3:Option Addr}{k3:Nat}{h3:Nat->Hd}{a4:Option Addr}{k4:Nat}{h4:Nat->Hd}{j:Nat}{PH:Option Nat}{W W':Wd}
structure tU(w:Wd)(n1:Nat)(fs:List R3)(n2:Nat)(bx:List R8)(n3:Nat)(ff:List R5)(n4:Nat)(qu:List R8)(j:Nat)(PH:Option Nat)(g1 k1 g2 k2:Nat)(h2:Nat->Hd)(a3:Option Addr)(k3:Nat)(h3:Nat->Hd)(a4:Option Addr)(k4:Nat)(h4:Nat->Hd)(W:Wd):Prop where
 b:Bl w W
 fr:blk W w.heap.size Z10 50
 f1:1<=j->dr3 w g1 n1 fs W/\n1<=k1/\w.heap.size<g1
 f2:2<=j->dr8 w 0 g2 n2 bx h2 0 W/\n2<=k2/\g1<g2
 f3:3<=j->dx5 w 0 a3 n3 k3 ff h3 0 W/\∀g,a3=be g->g2<g
 f4:4<=j->dx8 w 0 a4 n4 k4 qu h4 0 W/\∀g,a4=be g->g2<g/\∀g',a3=be g'->g'<g
 fh:∀p,PH=sQ p->blk W p Z10 50/\w.heap.size<p/\(1<=j->p≠g1)/\(2<=j->p≠g2)/\(3<=j->∀g,a3=be g->p≠g)/\(4<=j->∀g,a4=be g->p≠g)
def tU.below(h:tU w n1 fs n2 bx n3 ff n4 qu j PH g1 k1 g2 k2 h2 a3 k3 h3 a4 k4 h4 W)(hb:Bl W W'):tU w n1 fs n2 bx n3 ff n4 qu j PH g1 k1 g2 k2 h2 a3 k3 h3 a4 k4 h4 W':=
 ⟨h.b.trans (hb.mono h.b.size),h.fr.below hb,fun e=>⟨(h.f1 e).1.below hb,(h.f1 e).2⟩,fun e=>⟨(h.f2 e).1.below hb,(h.f2 e).2⟩,fun e=>⟨(h.f3 e).1.below hb,(h.f3 e).2⟩,fun e=>⟨(h.f4 e).1.below hb,(h.f4 e).2⟩,fun p e=>⟨(h.fh p e).1.below hb,(h.fh p e).2⟩⟩
def tU.c1(h:tU w n1 fs n2 bx n3 ff n4 qu 0 PH 0 0 0 0 h2 a3 k3 h3 a4 k4 h4 W)(hb:Bl W W')(q1:W.heap.size<=g1)(q2:n1<=k1)(q3:dr3 w g1 n1 fs W'):tU w n1 fs n2 bx n3 ff n4 qu 1 PH g1 k1 0 0 h2 a3 k3 h3 a4 k4 h4 W':=
 have h':=h.below hb
 ⟨h'.b,h'.fr,fun _=>⟨q3,q2,by have:=h.fr.lt;omega⟩,fun e=>by omega,fun e=>by omega,fun e=>by omega,fun p e=>⟨(h'.fh p e).1,(h'.fh p e).2.1,fun _=>by have:=(h.fh p e).1.lt;omega,fun e=>by omega,fun e=>by omega,fun e=>by omega⟩⟩
def tU.c2(h:tU w n1 fs n2 bx n3 ff n4 qu 1 PH g1 k1 0 0 (fun _=>(nn,0,0)) a3 k3 h3 a4 k4 h4 W)(hb:Bl W W')(q1:W.heap.size<=g2)(q2:n2<=k2)(q3:dr8 w 0 g2 n2 bx h2 0 W'):tU w n1 fs n2 bx n3 ff n4 qu 2 PH g1 k1 g2 k2 h2 a3 k3 h3 a4 k4 h4 W':=
 have h':=h.below hb
 ⟨h'.b,h'.fr,fun _=>h'.f1 om,fun _=>⟨q3,q2,by have:=(h.f1 om).1.hi;omega⟩,fun e=>by omega,fun e=>by omega,fun p e=>⟨(h'.fh p e).1,(h'.fh p e).2.1,fun _=>(h'.fh p e).2.2.1 om,fun _=>by have:=(h.fh p e).1.lt;omega,fun e=>by omega,fun e=>by omega⟩⟩
def tU.c3(h:tU w n1 fs n2 bx n3 ff n4 qu 2 PH g1 k1 g2 k2 h2 nn 0 (fun _=>(nn,0,0)) a4 k4 h4 W)(hb:Bl W W')(q1:∀g,a3=be g->W.heap.size<=g)(q3:dx5 w 0 a3 n3 k3 ff h3 0 W'):tU w n1 fs n2 bx n3 ff n4 qu 3 PH g1 k1 g2 k2 h2 a3 k3 h3 a4 k4 h4 W':=
 have h':=h.below hb
 ⟨h'.b,h'.fr,fun _=>h'.f1 om,fun _=>h'.f2 om,fun _=>⟨q3,fun g e=>by have:=(h.f2 om).1.hi;have:=q1 g e;omega⟩,fun e=>by omega,fun p e=>⟨(h'.fh p e).1,(h'.fh p e).2.1,fun _=>(h'.fh p e).2.2.1 om,fun _=>(h'.fh p e).2.2.2.1 om,fun _ g e2=>by have:=(h.fh p e).1.lt;have:=q1 g e2;omega,fun e=>by omega⟩⟩
def tU.c4(h:tU w n1 fs n2 bx n3 ff n4 qu 3 PH g1 k1 g2 k2 h2 a3 k3 h3 nn 0 (fun _=>(nn,0,0)) W)(hb:Bl W W')(q1:∀g,a4=be g->W.heap.size<=g)(q3:dx8 w 0 a4 n4 k4 qu h4 0 W'):tU w n1 fs n2 bx n3 ff n4 qu 4 PH g1 k1 g2 k2 h2 a3 k3 h3 a4 k4 h4 W':=
 have h':=h.below hb
 ⟨h'.b,h'.fr,fun _=>h'.f1 om,fun _=>h'.f2 om,fun _=>h'.f3 om,fun _=>⟨q3,fun g e=>⟨by have:=(h.f2 om).1.hi;have:=q1 g e;omega,fun g' e'=>by have:=(h.f3 om).1.hi g' e';have:=q1 g e;omega⟩⟩,fun p e=>⟨(h'.fh p e).1,(h'.fh p e).2.1,fun _=>(h'.fh p e).2.2.1 om,fun _=>(h'.fh p e).2.2.2.1 om,fun _=>(h'.fh p e).2.2.2.2.1 om,fun _ g e2=>by have:=(h.fh p e).1.lt;have:=q1 g e2;omega⟩⟩
def tU.al(h:tU w n1 fs n2 bx n3 ff n4 qu j nn g1 k1 g2 k2 h2 a3 k3 h3 a4 k4 h4 W):tU w n1 fs n2 bx n3 ff n4 qu j (sQ W.heap.size) g1 k1 g2 k2 h2 a3 k3 h3 a4 k4 h4 (W.alloc (.cells Z10.toArray 50)):=
 have h':=h.below (W':=W.alloc (.cells Z10.toArray 50)) Zw
 ⟨h'.b,h'.fr,h'.f1,h'.f2,h'.f3,h'.f4,fun p e=>by cases e;exact⟨blk.new _ _ _,h.fr.lt,fun e=>by have:=(h.f1 e).1.hi;omega,fun e=>by have:=(h.f2 e).1.hi;omega,fun e g e2=>by have:=(h.f3 e).1.hi g e2;omega,fun e g e2=>by have:=(h.f4 e).1.hi g e2;omega⟩⟩
def tU.fin{p:Nat}(h:tU w n1 fs n2 bx n3 ff n4 qu 4 (sQ p) g1 k1 g2 k2 h2 a3 k3 h3 a4 k4 h4 W):tdE w n1 fs n2 bx n3 ff n4 qu g1 k1 g2 k2 h2 a3 k3 h3 a4 k4 h4 p W:=by
 obtain⟨g,i,k⟩:=h.f1 om;obtain⟨l,n,r⟩:=h.f2 om;obtain⟨s,t⟩:=h.f3 om;obtain⟨u1,u2⟩:=h.f4 om;obtain⟨a,b,c,d,e,f⟩:=h.fh p rfl;exact⟨g,i,l,n,s,u1,a,h.fr,r,t,u2,⟨c om,d om,e om,f om⟩,⟨k,b⟩⟩
def yx(w:Wd)(P mb:Nat)(Q c2:Int)(C D:Nat)(fs:List R3)(bx:List R8)(ff:List R5)(qu:List R8)(lo st:Int)(gf n1 kf gb n2 kb gr f1 n3 gq f3 n4:Nat)
  (Y:blk w P (liL Q C c2 D gf n1 kf gb n2 kb mb gr f1 n3 gq f3 n4 lo st) 232) (h1:bB w (be gf) n1 kf fs) (h2:aP w (be gb) n2 kb bx) (h3:dq w w gr C f1 ff) (h4:eI w w gq D f3 qu) (e3:n3=ff.length) (e4:n4=qu.length) (m1:n1<=1000) (m2:n2<=1000) (b1:f1<C/\C<=1000/\n3<=C) (b3:f3<D/\D<=1000/\n4<=D) (s2:∀j(bm:j<bx.length),bx[j].l.length<=1048576) (s3:∀j(bm:j<ff.length),ff[j].l.length<=1048576) (s4:∀j(bm:j<qu.length),qu[j].l.length<=1048576) :
  ce 199 #[ap P] w fun e w'=>∃s:Wh,e=rT (aG (hoL ⟨Q,(C:Int),c2,(D:Int),fs,bx,ff,qu,lo,st⟩ s.sl).toArray)/\St w.heap.size w' (fun W=>bj W ⟨Q,(C:Int),c2,(D:Int),fs,bx,ff,qu,lo,st⟩ s.sl)/\whS w.heap.size w'.heap.size w' s/\whD s/\whE s/\Bl w w':=by
 have b4:Hid (∀W,Bl w W->ce 210 #[sL (be gf) n1 kf] W fun e w'=>∃g' a9,e=rT (sL (be g') n1 a9)/\W.heap.size<=g'/\n1<=a9/\dr3 w g' n1 fs w'/\Bl W w'):=fun W n=>xT W w gf n1 kf fs (h1.below n) om n.size;have b5:Hid (∀W,Bl w W->ce 211 #[sL (be gb) n2 kb] W fun e w'=>∃g' a9 hs,e=rT (sL (be g') n2 a9)/\W.heap.size<=g'/\n2<=a9/\dr8 w 0 g' n2 bx hs 0 w'/\Bl W w'):=fun W n=>oy w W gb 0 n2 kb bx h2 n om s2;have b6:Hid (∀W,Bl w W->ce 236 #[pT (sQ ⟨P,7,nn⟩),I J (n3:Int)] W fun e w'=>∃a c hs,e=rT (sL a n3 c)/\(∀g,a=be g->W.heap.size<=g)/\dx5 w 0 a n3 c ff hs 0 w'/\Bl W w'):=fun W n=>sq ok5 (.inl ⟨rfl,rfl,rfl⟩) (fun _ _ _ _=>lN _ _ _ _ _ _ _) w W P 7 gr C f1 n3 ff e3 ((Y.below n).cell 7 _ rfl) ((Y.below n).cell 8 _ rfl) ((Y.below n).cell 9 _ rfl) (dq.below h3 n) b1.1 ⟨om,b1.2.1⟩ b1.2.2 n s3;have b7:Hid (∀W,Bl w W->ce 237 #[pT (sQ ⟨P,10,nn⟩),I J (n4:Int)] W fun e w'=>∃a c hs,e=rT (sL a n4 c)/\(∀g,a=be g->W.heap.size<=g)/\dx8 w 0 a n4 c qu hs 0 w'/\Bl W w'):=fun W n=>sq ok8 (.inr ⟨rfl,rfl,rfl⟩) (fun _ _ _ _=>by simp[f8,Value.oneCell']) w W P 10 gq D f3 n4 qu e4 ((Y.below n).cell 10 _ rfl) ((Y.below n).cell 11 _ rfl) ((Y.below n).cell 12 _ rfl) (eI.below h4 n) b3.1 ⟨om,b3.2.1⟩ b3.2.2 n s4;have H:=hI Y;have a5:Hid (n2=bx.length/\n3=ff.length/\n4=qu.length/\n1<=1000/\n2<=1000/\n3<=1000/\n4<=1000):=⟨h2.len,e3,e4,m1,m2,om,om⟩
 have hU:tU w n1 fs n2 bx n3 ff n4 qu 0 nn 0 0 0 0 (fun _=>(nn,0,0)) nn 0 (fun _=>(nn,0,0)) nn 0 (fun _=>(nn,0,0)) (w.alloc (.cells Z10.toArray 50)).drew:=⟨Zw.drew,blk.new w _ _,fun e=>by omega,fun e=>by omega,fun e=>by omega,fun e=>by omega,fun p e=>by cases e⟩
 clear Y h1 h2 h3 h4 s2 s3 s4 e3 e4 m1 m2 b1 b3;go_enter func199,ntmps199;go_upto_region 1 with fail
 go_cut [3] (fun t wx=>∃(p g1 k1 g2 k2:Nat)(h2:Nat->Hd)(a3:Option Addr)(k3:Nat)(h3:Nat->Hd)(a4:Option Addr)(k4:Nat)(h4:Nat->Hd)(W:Wd),t=ap p/\tU w n1 fs n2 bx n3 ff n4 qu 4 (sQ p) g1 k1 g2 k2 h2 a3 k3 h3 a4 k4 h4 W/\wx=W.setCells p 0 [I J Q,I J (C:Int),I J c2,I J (D:Int),sL (be g1) n1 k1,sL (be g2) n2 k2,sL a3 n3 k3,sL a4 n4 k4,I J lo,I J st]);case first=>
  refine Qu (S:=fun W=>Bl w W) kr ?_;change wpAnyH _ _ _ _ _ _ _ _ (w.alloc (.cells Z10.toArray 50)).drew;generalize (w.alloc (.cells Z10.toArray 50)).drew=v at*;have f:=hI hU;have hS:=hU.b;clear hU;refine tk 0 ?_;refine tk 1 ?_;refine tk 2 ?_;refine tk 3 ?_ (hy:=fun W n=>by(have y0:=(H.o.below n).cell 0 _ rfl;have y1:=(H.o.below n).cell 1 _ rfl;have y2:=(H.o.below n).cell 2 _ rfl;have y3:=(H.o.below n).cell 3 _ rfl;go_simp;try rfl));refine tk 4 ?_;refine tk 5 ?_;refine tk 6 ?_;refine tk 7 ?_ (hy:=fun W n=>by(have y:=(H.o.below n).cell 4 _ rfl;go_simp;try rfl));refine tk 9 ?_;refine tk 10 ?_;refine tk 11 ?_;refine tk 12 ?_ (hy:=fun W n=>by(have y:=(H.o.below n).cell 5 _ rfl;go_simp;try rfl));refine tk 14 ?_;refine tk 15 ?_;refine tk 16 ?_;refine tk 17 ?_;refine tk 18 ?_;refine tk 19 ?_;refine tk 20 ?_;refine tk 21 ?_ (hy:=fun W n=>by(have y:=(H.o.below n).cell 9 _ rfl;go_simp;try rfl));refine tk 23 ?_;refine tk 24 ?_;refine tk 25 ?_;refine tk 26 ?_;refine tk 27 ?_;refine tk 28 ?_;refine tk 29 ?_;refine tk 30 ?_ (hy:=fun W n=>by(have y:=(H.o.below n).cell 12 _ rfl;go_simp;try rfl));refine tk 32 ?_;refine tk 33 ?_;refine tk 34 ?_;refine tk 35 ?_ (hy:=fun W n=>by(have y:=(H.o.below n).cell 13 _ rfl;go_simp;try rfl));refine tk 36 ?_;refine tk 37 ?_;refine tk 38 ?_;refine tk 39 ?_ (hy:=fun W n=>by(have y:=(H.o.below n).cell 14 _ rfl;go_simp;try rfl));refine wpAnyH_ready (rs:=[8,41]) kr pQ (QT rfl (fun K h=>?_) (QT rfl (fun K h=>?_) QU));rotate_left
  go_simp;have d:=f.o.al;refine h.out _ _ d.b (fun _=>?_);clear h K f hS;have f:=hI d;have hS:=d.b;clear d;refine al 8 fun K h=>?_;rotate_left
  all_goals
   go_simp;refine(b4.o _ hS).mono ?_;rintro o v1 ⟨g1,k1,rfl,A,q2,B,M⟩;have d:=f.o.c1 M A q2 B;go_wp2_with fail;refine h.out _ _ d.b (fun _=>?_);clear h K f hS M A q2 B;have f:=hI d;have hS:=d.b;clear d
  refine wpAnyH_ready (rs:=[13,41]) kr pQ (QT rfl (fun K h=>?_) (QT rfl (fun K h=>?_) QU));rotate_left
  go_simp;have d:=f.o.al;refine h.out _ _ d.b (fun _=>?_);clear h K f hS;have f:=hI d;have hS:=d.b;clear d;refine al 13 fun K h=>?_;rotate_left
  refine al 13 fun K h=>?_;rotate_left
  all_goals
   go_simp;refine(b5.o _ hS).mono ?_;rintro o v2 ⟨g2,k2,h2,rfl,A,q2,B,M⟩;have d:=f.o.c2 M A q2 B;go_wp2_with fail;refine h.out _ _ d.b (fun _=>?_);clear h K f hS M A q2 B;have f:=hI d;have hS:=d.b;clear d
  refine wpAnyH_ready (rs:=[22,41]) kr pQ (QT rfl (fun K h=>?_) (QT rfl (fun K h=>?_) QU));rotate_left
  go_simp;have d:=f.o.al;refine h.out _ _ d.b (fun _=>?_);clear h K f hS;have f:=hI d;have hS:=d.b;clear d;refine al 22 fun K h=>?_;rotate_left
  refine al 22 fun K h=>?_;rotate_left
  refine al 22 fun K h=>?_;rotate_left
  all_goals
   go_simp;refine(b6.o _ hS).mono ?_;rintro o v3 ⟨a3,k3,h3,rfl,A,B,M⟩;have d:=f.o.c3 M A B;go_wp2_with fail;refine h.out _ _ d.b (fun _=>?_);clear h K f hS M A B;have f:=hI d;have hS:=d.b;clear d
  refine wpAnyH_ready (rs:=[31,41]) kr pQ (QT rfl (fun K h=>?_) (QT rfl (fun K h=>?_) QU));rotate_left
  go_simp;have d:=f.o.al;refine h.out _ _ d.b (fun _=>?_);clear h K f hS;have f:=hI d;have hS:=d.b;clear d;refine al 31 fun K h=>?_;rotate_left
  refine al 31 fun K h=>?_;rotate_left
  refine al 31 fun K h=>?_;rotate_left
  refine al 31 fun K h=>?_;rotate_left
  all_goals
   go_simp;refine(b7.o _ hS).mono ?_;rintro o v4 ⟨a4,k4,h4,rfl,A,B,M⟩;have d:=f.o.c4 M A B;go_wp2_with fail;refine h.out _ _ d.b (fun _=>?_);clear h K f hS M A B;have f:=hI d;have hS:=d.b;clear d
  all_goals refine tk 40 ?_ (v:=.agg [I J Q,I J (C:Int),I J c2,I J (D:Int),sL (be g1) n1 k1,sL (be g2) n2 k2,sL a3 n3 k3,sL a4 n4 k4,I J lo,I J st].toArray)
  refine al 41 fun K h=>?_;go_simp;have d:=f.o.al;refine h.out _ _ d.b (fun _=>?_);clear h K f hS;have f:=hI d;have hS:=d.b;clear d;all_goals
   refine al 42 fun K h=>?_;rw[QW (by rfl)];have E:=f.o.fin;refine QE (P:=Tp) 50 (.tmp 3) (.tmp 47) rfl _ 0 [I J Q,I J (C:Int),I J c2,I J (D:Int),sL (be g1) n1 k1,sL (be g2) n2 k2,sL a3 n3 k3,sL a4 n4 k4,I J lo,I J st].toArray rfl rfl (E.fh.there 0 10 (by simp[Z10])) yJ (zH _ _ _ _ _ _ _ _ _ _ _ _ _ _ _ _ _ _) ?_;refine h.out _ _ (sW (by have:=E.r1.2;omega) _ _ hS) (fun _=>?_);refine Qs kr ?_ _;clear h K hS E;go_wp2_with fail;go_meet;case rel=>exact⟨_,_,_,_,_,_,_,_,_,_,_,_,_,rfl,f.o,rfl⟩
 case rest=>
  obtain⟨PH,g1,k1,g2,k2,h2,a3,k3,h3,a4,k4,h4,W,rfl,hU,rfl⟩:=hcut;have E:=hU.fin;have bt:=hU.b;obtain⟨L,X⟩:∃L:List Value,L=[I J Q,I J (C:Int),I J c2,I J (D:Int),sL (be g1) n1 k1,sL (be g2) n2 k2,sL a3 n3 k3,sL a4 n4 k4,I J lo,I J st]:=⟨_,rfl⟩
  have hl:L.length=10:=by rw[X];rfl
  have l5:L[5]?=sQ (sL (be g2) n2 k2):=by rw[X];rfl
  have l6:L[6]?=sQ (sL a3 n3 k3):=by rw[X];rfl
  have l7:L[7]?=sQ (sL a4 n4 k4):=by rw[X];rfl
  have HL:=hI X;have b8:=hI hl;have b2:Hid ((Tp.info? 50).map (·.size)=sQ L.length):=by show _=_;rw[hl];exact yJ
  have bE:Hid (L.toArray.all (·.oneCell')=true):=by show _=_;rw[X];exact zH _ _ _ _ _ _ _ _ _ _ _ _ _ _ _ _ _ _
  rw[<- X];clear X hU;obtain⟨F0,bk⟩:=E.put bt L hl W.heap.size 0 0;have f:Hid (g1<W.heap.size/\g2<W.heap.size/\(∀g,a3=be g->g<W.heap.size)/\(∀g,a4=be g->g<W.heap.size)/\PH<W.heap.size/\w.heap.size<W.heap.size/\(World.setCells W PH 0 L).heap.size=W.heap.size):=⟨E.f1.hi,E.f2.hi,E.f3.hi,E.f4.hi,E.fh.lt,E.fr.lt,sZ ..⟩
  have b9:=hI l5;have bb:=hI l6;have bc:=hI l7;clear l5 l6 l7 hl;have HO:=hI bk;have am:=hI F0;clear E bt F0 bk b4 b5 b6 b7 H;generalize World.setCells W PH 0 L=W2 at*;generalize W.heap.size=U at*;have x5:W2.cell? ⟨PH,5,nn⟩=sQ (sL (be g2) n2 k2):=am.o.fh.cell 5 _ b9.o;go_wp2_with fail;go_loopw [51] (fun i wr=>∃(k:Nat)(u:Nat->Hd),k<=n2/\i=I J (k:Int)/\tdF w n1 fs n2 bx n3 ff n4 qu g1 g2 u a3 k3 h3 a4 k4 h4 PH L U k 0 0 0 0 wr/\U<=wr.heap.size) (fun i _=>n2-(intOf i).toNat);case atStart=>exact⟨0,h2,nZ _,rfl,am.o,by have:=f.o.2.2.2.2.2.2;omega⟩
  case round=>
   obtain⟨k,u,hk,rfl,hF,Z⟩:=hrel;have r:Hid (tdF w n1 fs n2 bx n3 ff n4 qu g1 g2 u a3 k3 h3 a4 k4 h4 PH L U k 0 0 0 0 wr):=hF;have N:Hid (U<=wr.heap.size):=Z;clear hF Z x5 am;have x5:wr.cell? ⟨PH,5,nn⟩=sQ (sL (be g2) n2 k2):=r.o.fh.cell 5 _ b9.o;have ad:=a5.o.2.2.2.2.1;by_cases ac:k<n2
   .have a7:Hid (ce 82 #[pT (sQ ⟨g2,k*8+3,nn⟩)] wr fun e w'=>∃u,e=rT (.tuple #[])/\tdF w n1 fs n2 bx n3 ff n4 qu g1 g2 u a3 k3 h3 a4 k4 h4 PH L U (k+1) 0 0 0 0 w'/\U<=w'.heap.size):=r.o.own2 HO.o f.o.2.1 N.o ac;go_wp2_with(go_at_call 82;refine a7.o.mono ?_;rintro o w5 ⟨bn,rfl,R,a0⟩;have a6:Hid (tdF w n1 fs n2 bx n3 ff n4 qu g1 g2 bn a3 k3 h3 a4 k4 h4 PH L U (k+1) 0 0 0 0 w5):=R;have a8:Hid (U<=w5.heap.size):=a0;clear R a0);go_roundw;case rel=>exact⟨k+1,bn,om,by go_num,a6.o,a8.o⟩
    case measure=>simp[intOf];omega
   .have hkn:n2=k:=om;subst hkn;have ao:Hid (tdF w n1 fs n2 bx n3 ff n4 qu g1 g2 u a3 k3 h3 a4 k4 h4 PH L U n2 wr.heap.size 0 0 0 wr):=r.o.u3;have bw:Hid (∀j,j<n2->∀b,(u j).1=be b->b<wr.heap.size):=fun j hj b hb=>((r.o.f2.sh ok8 f.o.2.1).2 j hj b hb).2;clear r x5;have bX:=hI N.o;clear N;generalize br:wr.heap.size=G at*;have bf:Hid (G<=wr.heap.size):=by have:=br;show _<=_;omega
    clear br;have x6:=ao.o.fh.cell 6 _ bb.o;go_wp2_with fail;clear ad;have af:=hI bX.o;go_loopw [64] (fun i wr=>∃(k:Nat)(a1:Nat->Hd),k<=n3/\i=I J (k:Int)/\tdF w n1 fs n2 bx n3 ff n4 qu g1 g2 u a3 k3 a1 a4 k4 h4 PH L U n2 G k 0 0 wr/\G<=wr.heap.size) (fun i _=>n3-(intOf i).toNat);case atStart=>exact⟨0,h3,nZ _,rfl,ao.o,bf.o⟩
    case round=>
     obtain⟨k,a1,hk,rfl,hF,Z⟩:=hrel;have r:Hid (tdF w n1 fs n2 bx n3 ff n4 qu g1 g2 u a3 k3 a1 a4 k4 h4 PH L U n2 G k 0 0 wr):=hF;have N:Hid (G<=wr.heap.size):=Z;clear hF Z x6 ao bf;have x6:wr.cell? ⟨PH,6,nn⟩=sQ (sL a3 n3 k3):=r.o.fh.cell 6 _ bb.o;have ad:=a5.o.2.2.2.2.2.1;by_cases ac:k<n3
     .obtain⟨O,hgx⟩:∃O,a3=be O:=by
       rcases r.o.f3 with⟨_,e,_⟩|⟨g,e,_⟩
       .omega
       .exact⟨g,e⟩
      have a7:Hid (ce 82 #[pT (sQ ⟨O,k*5,nn⟩)] wr fun e w'=>∃ak,e=rT (.tuple #[])/\tdF w n1 fs n2 bx n3 ff n4 qu g1 g2 u a3 k3 ak a4 k4 h4 PH L U n2 G (k+1) 0 0 w'/\G<=w'.heap.size):=r.o.own3 HO.o hgx (f.o.2.2.1 O hgx) af.o N.o ac;rw[hgx]at x6;have bD:Hid (a3=be O):=hgx;clear hgx;go_wp2_with(go_at_call 82;refine a7.o.mono ?_;rintro o w5 ⟨ak,rfl,R,a0⟩;have a6:Hid (tdF w n1 fs n2 bx n3 ff n4 qu g1 g2 u a3 k3 ak a4 k4 h4 PH L U n2 G (k+1) 0 0 w5):=R;have a8:Hid (G<=w5.heap.size):=a0;clear R a0);go_roundw;case rel=>exact⟨k+1,ak,om,by go_num,a6.o,a8.o⟩
      case measure=>simp[intOf];omega
     .have hkn:n3=k:=om;subst hkn;have aw:Hid (tdF w n1 fs n2 bx n3 ff n4 qu g1 g2 u a3 k3 a1 a4 k4 h4 PH L U n2 G n3 wr.heap.size 0 wr):=r.o.u4;have bA:Hid (∀j,j<n3->∀b,(a1 j).1=be b->b<wr.heap.size):=fun j hj b hb=>((r.o.f3.sx (fun g hg=>nL (f.o.2.2.1 g hg) af.o)).2.2.2 j hj b hb).2;clear r x6 ad;have bg:=hI N.o;clear N;generalize bs:wr.heap.size=U4 at*;have bi:Hid (U4<=wr.heap.size):=by have:=bs;show _<=_;omega
      clear bs;have x7:=aw.o.fh.cell 7 _ bc.o;go_wp2_with fail;go_loopw [76] (fun i wr=>∃(k:Nat)(bo:Nat->Hd),k<=n4/\i=I J (k:Int)/\tdF w n1 fs n2 bx n3 ff n4 qu g1 g2 u a3 k3 a1 a4 k4 bo PH L U n2 G n3 U4 k wr/\U4<=wr.heap.size) (fun i _=>n4-(intOf i).toNat);case atStart=>exact⟨0,h4,nZ _,rfl,aw.o,bi.o⟩
      case round=>
       obtain⟨k,bo,hk,rfl,hF,Z⟩:=hrel;have r:=hI hF;have N:=hI Z;clear hF Z x7 aw bi;have x7:=r.o.fh.cell 7 _ bc.o;have ad:=a5.o.2.2.2.2.2.2;by_cases ac:k<n4
       .obtain⟨O,hgx⟩:∃O,a4=be O:=by
         rcases r.o.f4 with⟨_,e,_⟩|⟨g,e,_⟩
         .omega
         .exact⟨g,e⟩
        have a7:=hI (r.o.own4 HO.o hgx (f.o.2.2.2.1 O hgx) ⟨af.o,bg.o⟩ N.o ac);rw[hgx]at x7;have bD:=hI hgx;clear hgx;go_wp2_with(go_at_call 82;refine a7.o.mono ?_;rintro o w5 ⟨bq,rfl,R,a0⟩;have a6:Hid (tdF w n1 fs n2 bx n3 ff n4 qu g1 g2 u a3 k3 a1 a4 k4 bq PH L U n2 G n3 U4 (k+1) w5):=R;have a8:Hid (U4<=w5.heap.size):=a0;clear R a0);go_roundw;case rel=>exact⟨k+1,bq,om,by go_num,a6.o,a8.o⟩
        case measure=>simp[intOf];omega
       .have hkn:n4=k:=om
        subst hkn;clear x7 ad;go_wp2_with(first|(refine ZG 50 r.o.fh.load underlying50 b2.o ?_)|(refine Zs 50 L.toArray (r.o.fr.there 0 _ (by rw[Q7,b8.o];decide)) (by rw[Q7];exact b2.o) bE.o ?_;generalize a2:World.setCells wr w.heap.size 0 _=w9;have bR:Hid (World.setCells wr w.heap.size 0 L=w9):=a2;clear a2))
        have a2:=bR.o;have R9:blk w9 w.heap.size L 50:=by
         rw[<- a2];have:=blk.put [] Z10 [] L (w:=wr) (b:=w.heap.size) (T:=50) (by simpa using r.o.fr) b8.o.symm;simpa using this
        have bI:∀x,x≠w.heap.size->x<wr.heap.size->w9.heap[x]?=wr.heap[x]?:=fun x hx _=>by rw[<- a2];exact sO w.heap.size x hx _ wr 0
        have bL:w9.heap.size=wr.heap.size:=by rw[<- a2];exact sZ ..
        have bu:Bl w w9:=by rw[<- a2];exact sW (nR _) 0 _ r.o.b
        refine bC results199 (Qt (P:=Tp) w9 w.heap.size 0 50 _ _ R9.load underlying50 rfl b2.o) ?_;obtain⟨s,hs,A,q2,B,q4⟩:=r.o.fin Q (C:Int) c2 (D:Int) lo st HO.o ⟨f.o.1,f.o.2.1,f.o.2.2.1,f.o.2.2.2.1,f.o.2.2.2.2.2.1⟩ ⟨af.o,bg.o⟩ bw.o bA.o ⟨a5.o.2.2.2.2.1,a5.o.2.2.2.2.2.1,a5.o.2.2.2.2.2.2⟩ bI bL;exact⟨s,by rw[hs,HL.o];rfl,A,q2,B,q4,bu⟩
end
end Go.Proofs.YtbbffcolnddcdaaGreatDoor
