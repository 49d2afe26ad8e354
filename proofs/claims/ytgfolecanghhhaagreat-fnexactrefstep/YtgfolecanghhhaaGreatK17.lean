import Derived.Test.YtgfolecanghhhaaGreatK16
import Derived.Deep.DeepCutAuto
namespace Go.Proofs.YtgfolecanghhhaaGreat
open Go.Proofs.Tryz
open Option renaming none->nn,some->sQ
open Go renaming World->Wd
set_option maxRecDepth 20000
open Go.RowKit
set_option linter.all false
set_option maxHeartbeats 16000000
open Go.Value renaming int->I,slice->sL,bool->bO,pointer->pT,agg->aG
open Go.IntKind renaming i64->J
open Go.Ending renaming returned->rT
open Go.Proofs.Tryz renaming prog->Tp
def liL (c0:Int) (r1:Nat) (c2:Int) (r3 gf n1 kf gb n2 kb mb gr f1 n3 gq f3 n4:Nat) (lo st:Int):List Value:=[I J c0,I J (r1:Int),I J c2,I J (r3:Int),sL (sQ ⟨gf,0,nn⟩) n1 kf,sL (sQ ⟨gb,0,nn⟩) n2 kb,.map (sQ mb),sL (sQ ⟨gr,0,nn⟩) r1 r1,I J (f1:Int),I J (n3:Int),sL (sQ ⟨gq,0,nn⟩) r3 r3,I J (f3:Int),I J (n4:Int),I J lo,I J st]
def cE.below {w0 w W:Wd} {g room first:Nat} {L:List R5} (h:cE w0 w g room first L) (hb:Bl w W):cE w0 W g room first L:=fun i hi=>by
 obtain⟨ao,m,c,h1,h2⟩:=h i hi;exact⟨ao,m,c,lW h1 hb (QC w _ (h1 0 _ rfl)),h2⟩
def cw.below {w0 w W:Wd} {g room first:Nat} {L:List R8} (h:cw w0 w g room first L) (hb:Bl w W):cw w0 W g room first L:=fun i hi=>by
 obtain⟨ao,m,c,h1,h2⟩:=h i hi;exact⟨ao,m,c,lW h1 hb (QC w _ (h1 0 _ rfl)),h2⟩
section
variable {w : Wd} {n1 : Nat} {fs : List R3} {n2 : Nat} {bx : List R8} {n3 : Nat} {ff : List R5} {n4 : Nat} {qu : List R8} {g1 k1 g2 k2 : Nat} {h2 : Nat -> Hd} {a3 : Option Addr} {k3 : Nat} {h3 : Nat -> Hd} {a4 : Option Addr} {k4 : Nat} {h4 : Nat -> Hd} {j : Nat} {PH : Option Nat} {W W' : Wd}
structure tU (w:Wd) (n1:Nat) (fs:List R3) (n2:Nat) (bx:List R8) (n3:Nat) (ff:List R5) (n4:Nat) (qu:List R8) (j:Nat) (PH:Option Nat) (g1 k1 g2 k2:Nat) (h2:Nat->Hd) (a3:Option Addr) (k3:Nat) (h3:Nat->Hd) (a4:Option Addr) (k4:Nat) (h4:Nat->Hd) (W:Wd):Prop where
 b:Bl w W
 fr:blk W w.heap.size Z10 41
 f1:1<=j->dr3 w g1 n1 fs W/\n1<=k1/\w.heap.size<g1
 f2:2<=j->dr8 w 0 g2 n2 bx h2 0 W/\n2<=k2/\g1<g2
 f3:3<=j->dx5 w 0 a3 n3 k3 ff h3 0 W/\∀ g,a3=sQ ⟨g,0,nn⟩->g2<g
 f4:4<=j->dx8 w 0 a4 n4 k4 qu h4 0 W/\∀ g,a4=sQ ⟨g,0,nn⟩->g2<g/\∀ g',a3=sQ ⟨g',0,nn⟩->g'<g
 fh:∀ p,PH=sQ p->blk W p Z10 41/\w.heap.size<p/\(1<=j->p≠g1)/\(2<=j->p≠g2)/\(3<=j->∀ g,a3=sQ ⟨g,0,nn⟩->p≠g)/\(4<=j->∀ g,a4=sQ ⟨g,0,nn⟩->p≠g)
def tU.below (h:tU w n1 fs n2 bx n3 ff n4 qu j PH g1 k1 g2 k2 h2 a3 k3 h3 a4 k4 h4 W) (hb:Bl W W'):tU w n1 fs n2 bx n3 ff n4 qu j PH g1 k1 g2 k2 h2 a3 k3 h3 a4 k4 h4 W':=
 ⟨h.b.trans (hb.mono h.b.size),h.fr.below hb,fun e=>⟨(h.f1 e).1.below hb,(h.f1 e).2⟩,fun e=>⟨(h.f2 e).1.below hb,(h.f2 e).2⟩,fun e=>⟨(h.f3 e).1.below hb,(h.f3 e).2⟩,fun e=>⟨(h.f4 e).1.below hb,(h.f4 e).2⟩,fun p e=>⟨(h.fh p e).1.below hb,(h.fh p e).2⟩⟩
def tU.c1 (h:tU w n1 fs n2 bx n3 ff n4 qu 0 PH 0 0 0 0 h2 a3 k3 h3 a4 k4 h4 W) (hb:Bl W W') (q1:W.heap.size<=g1) (q2:n1<=k1) (q3:dr3 w g1 n1 fs W'):tU w n1 fs n2 bx n3 ff n4 qu 1 PH g1 k1 0 0 h2 a3 k3 h3 a4 k4 h4 W':=
 have h':=h.below hb
 ⟨h'.b,h'.fr,fun _=>⟨q3,q2,by have:=h.fr.lt;omega⟩,fun e=>by omega,fun e=>by omega,fun e=>by omega,fun p e=>⟨(h'.fh p e).1,(h'.fh p e).2.1,fun _=>by have:=(h.fh p e).1.lt;omega,fun e=>by omega,fun e=>by omega,fun e=>by omega⟩⟩
def tU.c2 (h:tU w n1 fs n2 bx n3 ff n4 qu 1 PH g1 k1 0 0 (fun _=>(nn,0,0)) a3 k3 h3 a4 k4 h4 W) (hb:Bl W W') (q1:W.heap.size<=g2) (q2:n2<=k2) (q3:dr8 w 0 g2 n2 bx h2 0 W'):tU w n1 fs n2 bx n3 ff n4 qu 2 PH g1 k1 g2 k2 h2 a3 k3 h3 a4 k4 h4 W':=
 have h':=h.below hb
 ⟨h'.b,h'.fr,fun _=>h'.f1 om,fun _=>⟨q3,q2,by have:=(h.f1 om).1.hi;omega⟩,fun e=>by omega,fun e=>by omega,fun p e=>⟨(h'.fh p e).1,(h'.fh p e).2.1,fun _=>(h'.fh p e).2.2.1 om,fun _=>by have:=(h.fh p e).1.lt;omega,fun e=>by omega,fun e=>by omega⟩⟩
def tU.c3 (h:tU w n1 fs n2 bx n3 ff n4 qu 2 PH g1 k1 g2 k2 h2 nn 0 (fun _=>(nn,0,0)) a4 k4 h4 W) (hb:Bl W W') (q1:∀ g,a3=sQ ⟨g,0,nn⟩->W.heap.size<=g) (q3:dx5 w 0 a3 n3 k3 ff h3 0 W'):tU w n1 fs n2 bx n3 ff n4 qu 3 PH g1 k1 g2 k2 h2 a3 k3 h3 a4 k4 h4 W':=
 have h':=h.below hb
 ⟨h'.b,h'.fr,fun _=>h'.f1 om,fun _=>h'.f2 om,fun _=>⟨q3,fun g e=>by have:=(h.f2 om).1.hi;have:=q1 g e;omega⟩,fun e=>by omega,fun p e=>⟨(h'.fh p e).1,(h'.fh p e).2.1,fun _=>(h'.fh p e).2.2.1 om,fun _=>(h'.fh p e).2.2.2.1 om,fun _ g e2=>by have:=(h.fh p e).1.lt;have:=q1 g e2;omega,fun e=>by omega⟩⟩
def tU.c4 (h:tU w n1 fs n2 bx n3 ff n4 qu 3 PH g1 k1 g2 k2 h2 a3 k3 h3 nn 0 (fun _=>(nn,0,0)) W) (hb:Bl W W') (q1:∀ g,a4=sQ ⟨g,0,nn⟩->W.heap.size<=g) (q3:dx8 w 0 a4 n4 k4 qu h4 0 W'):tU w n1 fs n2 bx n3 ff n4 qu 4 PH g1 k1 g2 k2 h2 a3 k3 h3 a4 k4 h4 W':=
 have h':=h.below hb
 ⟨h'.b,h'.fr,fun _=>h'.f1 om,fun _=>h'.f2 om,fun _=>h'.f3 om,fun _=>⟨q3,fun g e=>⟨by have:=(h.f2 om).1.hi;have:=q1 g e;omega,fun g' e'=>by have:=(h.f3 om).1.hi g' e';have:=q1 g e;omega⟩⟩,fun p e=>⟨(h'.fh p e).1,(h'.fh p e).2.1,fun _=>(h'.fh p e).2.2.1 om,fun _=>(h'.fh p e).2.2.2.1 om,fun _=>(h'.fh p e).2.2.2.2.1 om,fun _ g e2=>by have:=(h.fh p e).1.lt;have:=q1 g e2;omega⟩⟩
def tU.al (h:tU w n1 fs n2 bx n3 ff n4 qu j nn g1 k1 g2 k2 h2 a3 k3 h3 a4 k4 h4 W):tU w n1 fs n2 bx n3 ff n4 qu j (sQ W.heap.size) g1 k1 g2 k2 h2 a3 k3 h3 a4 k4 h4 (W.alloc (.cells Z10.toArray 41)):=
 have h':=h.below (W':=W.alloc (.cells Z10.toArray 41)) Zw
 ⟨h'.b,h'.fr,h'.f1,h'.f2,h'.f3,h'.f4,fun p e=>by cases e;exact⟨blk.new _ _ _,h.fr.lt,fun e=>by have:=(h.f1 e).1.hi;omega,fun e=>by have:=(h.f2 e).1.hi;omega,fun e g e2=>by have:=(h.f3 e).1.hi g e2;omega,fun e g e2=>by have:=(h.f4 e).1.hi g e2;omega⟩⟩
def tU.fin {p:Nat} (h:tU w n1 fs n2 bx n3 ff n4 qu 4 (sQ p) g1 k1 g2 k2 h2 a3 k3 h3 a4 k4 h4 W):tdE w n1 fs n2 bx n3 ff n4 qu g1 k1 g2 k2 h2 a3 k3 h3 a4 k4 h4 p W:=by
 obtain⟨x1,x2,x3⟩:=h.f1 om;obtain⟨y1,y2,y3⟩:=h.f2 om;obtain⟨z1,z2⟩:=h.f3 om;obtain⟨u1,u2⟩:=h.f4 om;obtain⟨v1,v2,v3,v4,v5,v6⟩:=h.fh p rfl;exact⟨x1,x2,y1,y2,z1,u1,v1,h.fr,y3,z2,u2,⟨v3 om,v4 om,v5 om,v6 om⟩,⟨x3,v2⟩⟩
def xJ (w:Wd) (P mb:Nat) (c0 c2:Int) (r1 r3:Nat) (fs:List R3) (bx:List R8) (ff:List R5) (qu:List R8) (lo st:Int) (gf n1 kf gb n2 kb gr f1 n3 gq f3 n4:Nat)
  (hP:blk w P (liL c0 r1 c2 r3 gf n1 kf gb n2 kb mb gr f1 n3 gq f3 n4 lo st) 205) (h1:bj w (sQ ⟨gf,0,nn⟩) n1 kf fs) (h2:aM w (sQ ⟨gb,0,nn⟩) n2 kb bx) (h3:cE w w gr r1 f1 ff) (h4:cw w w gq r3 f3 qu) (e3:n3=ff.length) (e4:n4=qu.length) (m1:n1<=1000) (m2:n2<=1000) (b1:f1<r1/\r1<=1000/\n3<=r1) (b3:f3<r3/\r3<=1000/\n4<=r3) (s2:∀ j (h:j<bx.length),bx[j].l.length<=1048576) (s3:∀ j (h:j<ff.length),ff[j].l.length<=1048576) (s4:∀ j (h:j<qu.length),qu[j].l.length<=1048576) :
  Calls Tp 158 #[pT (sQ ⟨P,0,nn⟩)] w fun e w'=>∃ s:Wh,e = rT (aG (hoL ⟨c0,(r1:Int),c2,(r3:Int),fs,bx,ff,qu,lo,st⟩ s.sl).toArray)/\St w.heap.size w' (fun W=>aK W ⟨c0,(r1:Int),c2,(r3:Int),fs,bx,ff,qu,lo,st⟩ s.sl)/\whS w.heap.size w'.heap.size w' s/\whD s/\whE s/\Bl w w':=by
 have HC1:Hid (∀ W,Bl w W->Calls Tp 177 #[sL (sQ ⟨gf,0,nn⟩) n1 kf] W fun e w'=>∃ g' cap',e = rT (sL (sQ ⟨g',0,nn⟩) n1 cap')/\W.heap.size<=g'/\n1<=cap'/\dr3 w g' n1 fs w'/\Bl W w'):=fun W hW=>xn W w gf n1 kf fs (h1.below hW) om hW.size;have HC2:Hid (∀ W,Bl w W->Calls Tp 178 #[sL (sQ ⟨gb,0,nn⟩) n2 kb] W fun e w'=>∃ g' cap' hs,e = rT (sL (sQ ⟨g',0,nn⟩) n2 cap')/\W.heap.size<=g'/\n2<=cap'/\dr8 w 0 g' n2 bx hs 0 w'/\Bl W w'):=fun W hW=>ns w W gb 0 n2 kb bx h2 hW om s2;have HC3:Hid (∀ W,Bl w W->Calls Tp 201 #[pT (sQ ⟨P,7,nn⟩),I J (n3:Int)] W fun e w'=>∃ a c hs,e = rT (sL a n3 c)/\(∀ g,a=sQ ⟨g,0,nn⟩->W.heap.size<=g)/\dx5 w 0 a n3 c ff hs 0 w'/\Bl W w'):=fun W hW=>yX w W P 7 gr r1 f1 n3 ff e3 ((hP.below hW).cell 7 _ rfl) ((hP.below hW).cell 8 _ rfl) ((hP.below hW).cell 9 _ rfl) (cE.below h3 hW) b1.1 ⟨om,b1.2.1⟩ b1.2.2 hW s3;have HC4:Hid (∀ W,Bl w W->Calls Tp 202 #[pT (sQ ⟨P,10,nn⟩),I J (n4:Int)] W fun e w'=>∃ a c hs,e = rT (sL a n4 c)/\(∀ g,a=sQ ⟨g,0,nn⟩->W.heap.size<=g)/\dx8 w 0 a n4 c qu hs 0 w'/\Bl W w'):=fun W hW=>yV w W P 10 gq r3 f3 n4 qu e4 ((hP.below hW).cell 10 _ rfl) ((hP.below hW).cell 11 _ rfl) ((hP.below hW).cell 12 _ rfl) (cw.below h4 hW) b3.1 ⟨om,b3.2.1⟩ b3.2.2 hW s4;have HP:Hid (blk w P (liL c0 r1 c2 r3 gf n1 kf gb n2 kb mb gr f1 n3 gq f3 n4 lo st) 205):=hP;have HLN:Hid (n2=bx.length/\n3=ff.length/\n4=qu.length/\n1<=1000/\n2<=1000/\n3<=1000/\n4<=1000):=⟨h2.len,e3,e4,m1,m2,om,om⟩
 have hU:tU w n1 fs n2 bx n3 ff n4 qu 0 nn 0 0 0 0 (fun _=>(nn,0,0)) nn 0 (fun _=>(nn,0,0)) nn 0 (fun _=>(nn,0,0)) (w.alloc (.cells Z10.toArray 41)).drew:=⟨Zw.drew,blk.new w _ _,fun e=>by omega,fun e=>by omega,fun e=>by omega,fun e=>by omega,fun p e=>by cases e⟩
 clear hP h1 h2 h3 h4 s2 s3 s4 e3 e4 m1 m2 b1 b3;go_enter func158,ntmps158;go_upto_region 1 with fail
 go_cut [3] (fun t wx=>∃ (p g1 k1 g2 k2:Nat) (h2:Nat->Hd) (a3:Option Addr) (k3:Nat) (h3:Nat->Hd) (a4:Option Addr) (k4:Nat) (h4:Nat->Hd) (W:Wd),t = pT (sQ ⟨p,0,nn⟩)/\tU w n1 fs n2 bx n3 ff n4 qu 4 (sQ p) g1 k1 g2 k2 h2 a3 k3 h3 a4 k4 h4 W/\wx=W.setCells p 0 [I J c0,I J (r1:Int),I J c2,I J (r3:Int),sL (sQ ⟨g1,0,nn⟩) n1 k1,sL (sQ ⟨g2,0,nn⟩) n2 k2,sL a3 n3 k3,sL a4 n4 k4,I J lo,I J st]);case first=>
  refine QJ (S:=fun W=>Bl w W) kr ?_;change wpAnyH _ _ _ _ _ _ _ _ (w.alloc (.cells Z10.toArray 41)).drew;generalize (w.alloc (.cells Z10.toArray 41)).drew=v at *;have HU:Hid (tU w n1 fs n2 bx n3 ff n4 qu 0 nn 0 0 0 0 (fun _=>(nn,0,0)) nn 0 (fun _=>(nn,0,0)) nn 0 (fun _=>(nn,0,0)) v):=hU;have hS:=hU.b;clear hU;refine tk 0 ?_;refine tk 1 ?_;refine tk 2 ?_;refine tk 3 ?_ (hy:=fun W hW=>by (have y0:=(HP.o.below hW).cell 0 _ rfl;have y1:=(HP.o.below hW).cell 1 _ rfl;have y2:=(HP.o.below hW).cell 2 _ rfl;have y3:=(HP.o.below hW).cell 3 _ rfl;go_simp;try rfl));refine tk 4 ?_;refine tk 5 ?_;refine tk 6 ?_;refine tk 7 ?_ (hy:=fun W hW=>by (have y:=(HP.o.below hW).cell 4 _ rfl;go_simp;try rfl));refine tk 9 ?_;refine tk 10 ?_;refine tk 11 ?_;refine tk 12 ?_ (hy:=fun W hW=>by (have y:=(HP.o.below hW).cell 5 _ rfl;go_simp;try rfl));refine tk 14 ?_;refine tk 15 ?_;refine tk 16 ?_;refine tk 17 ?_;refine tk 18 ?_;refine tk 19 ?_;refine tk 20 ?_;refine tk 21 ?_ (hy:=fun W hW=>by (have y:=(HP.o.below hW).cell 9 _ rfl;go_simp;try rfl));refine tk 23 ?_;refine tk 24 ?_;refine tk 25 ?_;refine tk 26 ?_;refine tk 27 ?_;refine tk 28 ?_;refine tk 29 ?_;refine tk 30 ?_ (hy:=fun W hW=>by (have y:=(HP.o.below hW).cell 12 _ rfl;go_simp;try rfl));refine tk 32 ?_;refine tk 33 ?_;refine tk 34 ?_;refine tk 35 ?_ (hy:=fun W hW=>by (have y:=(HP.o.below hW).cell 13 _ rfl;go_simp;try rfl));refine tk 36 ?_;refine tk 37 ?_;refine tk 38 ?_;refine tk 39 ?_ (hy:=fun W hW=>by (have y:=(HP.o.below hW).cell 14 _ rfl;go_simp;try rfl));refine wpAnyH_ready (rs:=[8,41]) kr pQ (Q8 rfl (fun K hK=>?_) (Q8 rfl (fun K hK=>?_) Q9));rotate_left
  go_simp;have U7:=HU.o.al;refine hK.out _ _ U7.b (fun _=>?_);clear hK K HU hS;have HU:Hid (tU _ _ _ _ _ _ _ _ _ _ _ _ _ _ _ _ _ _ _ _ _ _ _):=U7;have hS:=U7.b;clear U7;refine al 8 fun K hK=>?_;rotate_left
  all_goals
   go_simp;refine (HC1.o _ hS).mono ?_;rintro o v1 ⟨g1,k1,rfl,q1,q2,q3,b7⟩;have U7:=HU.o.c1 b7 q1 q2 q3;go_wp2_with fail;refine hK.out _ _ U7.b (fun _=>?_);clear hK K HU hS b7 q1 q2 q3;have HU:Hid (tU _ _ _ _ _ _ _ _ _ _ _ _ _ _ _ _ _ _ _ _ _ _ _):=U7;have hS:=U7.b;clear U7
  refine wpAnyH_ready (rs:=[13,41]) kr pQ (Q8 rfl (fun K hK=>?_) (Q8 rfl (fun K hK=>?_) Q9));rotate_left
  go_simp;have U7:=HU.o.al;refine hK.out _ _ U7.b (fun _=>?_);clear hK K HU hS;have HU:Hid (tU _ _ _ _ _ _ _ _ _ _ _ _ _ _ _ _ _ _ _ _ _ _ _):=U7;have hS:=U7.b;clear U7;refine al 13 fun K hK=>?_;rotate_left
  refine al 13 fun K hK=>?_;rotate_left
  all_goals
   go_simp;refine (HC2.o _ hS).mono ?_;rintro o v2 ⟨g2,k2,h2,rfl,q1,q2,q3,b7⟩;have U7:=HU.o.c2 b7 q1 q2 q3;go_wp2_with fail;refine hK.out _ _ U7.b (fun _=>?_);clear hK K HU hS b7 q1 q2 q3;have HU:Hid (tU _ _ _ _ _ _ _ _ _ _ _ _ _ _ _ _ _ _ _ _ _ _ _):=U7;have hS:=U7.b;clear U7
  refine wpAnyH_ready (rs:=[22,41]) kr pQ (Q8 rfl (fun K hK=>?_) (Q8 rfl (fun K hK=>?_) Q9));rotate_left
  go_simp;have U7:=HU.o.al;refine hK.out _ _ U7.b (fun _=>?_);clear hK K HU hS;have HU:Hid (tU _ _ _ _ _ _ _ _ _ _ _ _ _ _ _ _ _ _ _ _ _ _ _):=U7;have hS:=U7.b;clear U7;refine al 22 fun K hK=>?_;rotate_left
  refine al 22 fun K hK=>?_;rotate_left
  refine al 22 fun K hK=>?_;rotate_left
  all_goals
   go_simp;refine (HC3.o _ hS).mono ?_;rintro o v3 ⟨a3,k3,h3,rfl,q1,q3,b7⟩;have U7:=HU.o.c3 b7 q1 q3;go_wp2_with fail;refine hK.out _ _ U7.b (fun _=>?_);clear hK K HU hS b7 q1 q3;have HU:Hid (tU _ _ _ _ _ _ _ _ _ _ _ _ _ _ _ _ _ _ _ _ _ _ _):=U7;have hS:=U7.b;clear U7
  refine wpAnyH_ready (rs:=[31,41]) kr pQ (Q8 rfl (fun K hK=>?_) (Q8 rfl (fun K hK=>?_) Q9));rotate_left
  go_simp;have U7:=HU.o.al;refine hK.out _ _ U7.b (fun _=>?_);clear hK K HU hS;have HU:Hid (tU _ _ _ _ _ _ _ _ _ _ _ _ _ _ _ _ _ _ _ _ _ _ _):=U7;have hS:=U7.b;clear U7;refine al 31 fun K hK=>?_;rotate_left
  refine al 31 fun K hK=>?_;rotate_left
  refine al 31 fun K hK=>?_;rotate_left
  refine al 31 fun K hK=>?_;rotate_left
  all_goals
   go_simp;refine (HC4.o _ hS).mono ?_;rintro o v4 ⟨a4,k4,h4,rfl,q1,q3,b7⟩;have U7:=HU.o.c4 b7 q1 q3;go_wp2_with fail;refine hK.out _ _ U7.b (fun _=>?_);clear hK K HU hS b7 q1 q3;have HU:Hid (tU _ _ _ _ _ _ _ _ _ _ _ _ _ _ _ _ _ _ _ _ _ _ _):=U7;have hS:=U7.b;clear U7
  all_goals refine tk 40 ?_ (v:=.agg [I J c0,I J (r1:Int),I J c2,I J (r3:Int),sL (sQ ⟨g1,0,nn⟩) n1 k1,sL (sQ ⟨g2,0,nn⟩) n2 k2,sL a3 n3 k3,sL a4 n4 k4,I J lo,I J st].toArray)
  refine al 41 fun K hK=>?_;go_simp;have U7:=HU.o.al;refine hK.out _ _ U7.b (fun _=>?_);clear hK K HU hS;have HU:Hid (tU _ _ _ _ _ _ _ _ _ _ _ _ _ _ _ _ _ _ _ _ _ _ _):=U7;have hS:=U7.b;clear U7;all_goals
   refine al 42 fun K hK=>?_;rw[qc (by rfl)];have E:=HU.o.fin;refine QT (P:=Tp) 41 (.tmp 3) (.tmp 47) rfl _ 0 [I J c0,I J (r1:Int),I J c2,I J (r3:Int),sL (sQ ⟨g1,0,nn⟩) n1 k1,sL (sQ ⟨g2,0,nn⟩) n2 k2,sL a3 n3 k3,sL a4 n4 k4,I J lo,I J st].toArray rfl rfl (E.fh.there 0 10 (by simp[Z10])) xU (yC _ _ _ _ _ _ _ _ _ _ _ _ _ _ _ _ _ _) ?_;refine hK.out _ _ (sW (by have:=E.r1.2;omega) _ _ hS) (fun _=>?_);refine QH kr ?_ _;clear hK K hS E;go_wp2_with fail;go_meet;case rel=>exact⟨_,_,_,_,_,_,_,_,_,_,_,_,_,rfl,HU.o,rfl⟩
 case rest=>
  obtain⟨PH,g1,k1,g2,k2,h2,a3,k3,h3,a4,k4,h4,W,rfl,hU,rfl⟩:=hcut;have E:=hU.fin;have hbW:=hU.b;obtain⟨L,hL⟩ : ∃ L:List Value,L=[I J c0,I J (r1:Int),I J c2,I J (r3:Int),sL (sQ ⟨g1,0,nn⟩) n1 k1,sL (sQ ⟨g2,0,nn⟩) n2 k2,sL a3 n3 k3,sL a4 n4 k4,I J lo,I J st]:=⟨_,rfl⟩
  have hl:L.length=10:=by rw[hL];rfl
  have l5:L[5]?=sQ (sL (sQ ⟨g2,0,nn⟩) n2 k2):=by rw[hL];rfl
  have l6:L[6]?=sQ (sL a3 n3 k3):=by rw[hL];rfl
  have l7:L[7]?=sQ (sL a4 n4 k4):=by rw[hL];rfl
  have HL:Hid (L=[I J c0,I J (r1:Int),I J c2,I J (r3:Int),sL (sQ ⟨g1,0,nn⟩) n1 k1,sL (sQ ⟨g2,0,nn⟩) n2 k2,sL a3 n3 k3,sL a4 n4 k4,I J lo,I J st]):=hL;have HL10:Hid (L.length=10):=hl;have HSL:Hid ((Tp.info? 41).map (·.size)=sQ L.length):=by show _=_;rw[hl];exact xU
  have HON:Hid (L.toArray.all (·.oneCell')=true):=by show _=_;rw[hL];exact yC _ _ _ _ _ _ _ _ _ _ _ _ _ _ _ _ _ _
  rw[<- hL];clear hL hU;obtain⟨F0,O⟩:=E.put hbW L hl W.heap.size 0 0;have HU:Hid (g1<W.heap.size/\g2<W.heap.size/\(∀ g,a3=sQ ⟨g,0,nn⟩->g<W.heap.size)/\(∀ g,a4=sQ ⟨g,0,nn⟩->g<W.heap.size)/\PH<W.heap.size/\w.heap.size<W.heap.size/\(World.setCells W PH 0 L).heap.size=W.heap.size):=⟨E.f1.hi,E.f2.hi,E.f3.hi,E.f4.hi,E.fh.lt,E.fr.lt,sZ ..⟩
  have HLL5:Hid (L[5]?=sQ (sL (sQ ⟨g2,0,nn⟩) n2 k2)):=l5;have HLL6:Hid (L[6]?=sQ (sL a3 n3 k3)):=l6;have HLL7:Hid (L[7]?=sQ (sL a4 n4 k4)):=l7;clear l5 l6 l7 hl;have HO:Hid (tdO w n1 k1 n2 k2 g1 g2 a3 a4 PH):=O;have HF0:Hid (tdF w n1 fs n2 bx n3 ff n4 qu g1 g2 h2 a3 k3 h3 a4 k4 h4 PH L W.heap.size 0 0 0 0 0 (World.setCells W PH 0 L)):=F0;clear E hbW F0 O HC1 HC2 HC3 HC4 HP;generalize World.setCells W PH 0 L=W2 at *;generalize W.heap.size=U at *;have x5:W2.cell? ⟨PH,5,nn⟩=sQ (sL (sQ ⟨g2,0,nn⟩) n2 k2):=HF0.o.fh.cell 5 _ HLL5.o;go_wp2_with fail;go_loopw [51] (fun i wr=>∃ (k:Nat) (h2':Nat->Hd),k<=n2/\i = I J (k:Int)/\tdF w n1 fs n2 bx n3 ff n4 qu g1 g2 h2' a3 k3 h3 a4 k4 h4 PH L U k 0 0 0 0 wr/\U<=wr.heap.size) (fun i _=>n2-(intOf i).toNat);case atStart=>exact⟨0,h2,nZ _,rfl,HF0.o,by have:=HU.o.2.2.2.2.2.2;omega⟩
  case round=>
   obtain⟨k,h2',hk,rfl,hF,hz⟩:=hrel;have HF:Hid (tdF w n1 fs n2 bx n3 ff n4 qu g1 g2 h2' a3 k3 h3 a4 k4 h4 PH L U k 0 0 0 0 wr):=hF;have HZ:Hid (U<=wr.heap.size):=hz;clear hF hz x5 HF0;have x5:wr.cell? ⟨PH,5,nn⟩=sQ (sL (sQ ⟨g2,0,nn⟩) n2 k2):=HF.o.fh.cell 5 _ HLL5.o;have hm2:=HLN.o.2.2.2.2.1;by_cases hlt:k<n2
   .have HOD:Hid (Calls Tp 203 #[pT (sQ ⟨g2,k*8+3,nn⟩)] wr fun e w'=>∃ h2',e = rT (.tuple #[])/\tdF w n1 fs n2 bx n3 ff n4 qu g1 g2 h2' a3 k3 h3 a4 k4 h4 PH L U (k+1) 0 0 0 0 w'/\U<=w'.heap.size):=HF.o.own2 HO.o HU.o.2.1 HZ.o hlt;go_wp2_with (go_at_call 203;refine HOD.o.mono ?_;rintro o w5 ⟨h2'',rfl,hF5,hz5⟩;have HF5:Hid (tdF w n1 fs n2 bx n3 ff n4 qu g1 g2 h2'' a3 k3 h3 a4 k4 h4 PH L U (k+1) 0 0 0 0 w5):=hF5;have HZ5:Hid (U<=w5.heap.size):=hz5;clear hF5 hz5);go_roundw;case rel=>exact⟨k+1,h2'',om,by go_num,HF5.o,HZ5.o⟩
    case measure=>simp[intOf];omega
   .have hkn:n2=k:=om;subst hkn;have HF3:Hid (tdF w n1 fs n2 bx n3 ff n4 qu g1 g2 h2' a3 k3 h3 a4 k4 h4 PH L U n2 wr.heap.size 0 0 0 wr):=HF.o.u3;have HD2:Hid (∀ j,j<n2->∀ b,(h2' j).1=sQ ⟨b,0,nn⟩->b<wr.heap.size):=fun j hj b hb=>((HF.o.f2.sh HU.o.2.1).2 j hj b hb).2;clear HF x5;have HZ3:Hid (U<=wr.heap.size):=HZ.o;clear HZ;generalize hU3:wr.heap.size=U3 at *;have HU3:Hid (U3<=wr.heap.size):=by have:=hU3;show _<=_;omega
    clear hU3;have x6:wr.cell? ⟨PH,6,nn⟩=sQ (sL a3 n3 k3):=HF3.o.fh.cell 6 _ HLL6.o;go_wp2_with fail;clear hm2;have HU23:Hid (U<=U3):=HZ3.o;go_loopw [64] (fun i wr=>∃ (k:Nat) (h3':Nat->Hd),k<=n3/\i = I J (k:Int)/\tdF w n1 fs n2 bx n3 ff n4 qu g1 g2 h2' a3 k3 h3' a4 k4 h4 PH L U n2 U3 k 0 0 wr/\U3<=wr.heap.size) (fun i _=>n3-(intOf i).toNat);case atStart=>exact⟨0,h3,nZ _,rfl,HF3.o,HU3.o⟩
    case round=>
     obtain⟨k,h3',hk,rfl,hF,hz⟩:=hrel;have HF:Hid (tdF w n1 fs n2 bx n3 ff n4 qu g1 g2 h2' a3 k3 h3' a4 k4 h4 PH L U n2 U3 k 0 0 wr):=hF;have HZ:Hid (U3<=wr.heap.size):=hz;clear hF hz x6 HF3 HU3;have x6:wr.cell? ⟨PH,6,nn⟩=sQ (sL a3 n3 k3):=HF.o.fh.cell 6 _ HLL6.o;have hm2:=HLN.o.2.2.2.2.2.1;by_cases hlt:k<n3
     .obtain⟨gx,hgx⟩ : ∃ gx,a3=sQ ⟨gx,0,nn⟩:=by
       rcases HF.o.f3 with⟨_,e,_⟩|⟨g,e,_⟩
       .omega
       .exact⟨g,e⟩
      have HOD:Hid (Calls Tp 203 #[pT (sQ ⟨gx,k*5,nn⟩)] wr fun e w'=>∃ h3'',e = rT (.tuple #[])/\tdF w n1 fs n2 bx n3 ff n4 qu g1 g2 h2' a3 k3 h3'' a4 k4 h4 PH L U n2 U3 (k+1) 0 0 w'/\U3<=w'.heap.size):=HF.o.own3 HO.o hgx (HU.o.2.2.1 gx hgx) HU23.o HZ.o hlt;rw[hgx] at x6;have HGX:Hid (a3=sQ ⟨gx,0,nn⟩):=hgx;clear hgx;go_wp2_with (go_at_call 203;refine HOD.o.mono ?_;rintro o w5 ⟨h3'',rfl,hF5,hz5⟩;have HF5:Hid (tdF w n1 fs n2 bx n3 ff n4 qu g1 g2 h2' a3 k3 h3'' a4 k4 h4 PH L U n2 U3 (k+1) 0 0 w5):=hF5;have HZ5:Hid (U3<=w5.heap.size):=hz5;clear hF5 hz5);go_roundw;case rel=>exact⟨k+1,h3'',om,by go_num,HF5.o,HZ5.o⟩
      case measure=>simp[intOf];omega
     .have hkn:n3=k:=om;subst hkn;have HF4:Hid (tdF w n1 fs n2 bx n3 ff n4 qu g1 g2 h2' a3 k3 h3' a4 k4 h4 PH L U n2 U3 n3 wr.heap.size 0 wr):=HF.o.u4;have HD3:Hid (∀ j,j<n3->∀ b,(h3' j).1=sQ ⟨b,0,nn⟩->b<wr.heap.size):=fun j hj b hb=>((HF.o.f3.sx (fun g hg=>nL (HU.o.2.2.1 g hg) HU23.o)).2.2.2 j hj b hb).2;clear HF x6 hm2;have HU34:Hid (U3<=wr.heap.size):=HZ.o;clear HZ;generalize hU4:wr.heap.size=U4 at *;have HU4:Hid (U4<=wr.heap.size):=by have:=hU4;show _<=_;omega
      clear hU4;have x7:wr.cell? ⟨PH,7,nn⟩=sQ (sL a4 n4 k4):=HF4.o.fh.cell 7 _ HLL7.o;go_wp2_with fail;go_loopw [76] (fun i wr=>∃ (k:Nat) (h4':Nat->Hd),k<=n4/\i = I J (k:Int)/\tdF w n1 fs n2 bx n3 ff n4 qu g1 g2 h2' a3 k3 h3' a4 k4 h4' PH L U n2 U3 n3 U4 k wr/\U4<=wr.heap.size) (fun i _=>n4-(intOf i).toNat);case atStart=>exact⟨0,h4,nZ _,rfl,HF4.o,HU4.o⟩
      case round=>
       obtain⟨k,h4',hk,rfl,hF,hz⟩:=hrel;have HF:Hid (tdF w n1 fs n2 bx n3 ff n4 qu g1 g2 h2' a3 k3 h3' a4 k4 h4' PH L U n2 U3 n3 U4 k wr):=hF;have HZ:Hid (U4<=wr.heap.size):=hz;clear hF hz x7 HF4 HU4;have x7:wr.cell? ⟨PH,7,nn⟩=sQ (sL a4 n4 k4):=HF.o.fh.cell 7 _ HLL7.o;have hm2:=HLN.o.2.2.2.2.2.2;by_cases hlt:k<n4
       .obtain⟨gx,hgx⟩ : ∃ gx,a4=sQ ⟨gx,0,nn⟩:=by
         rcases HF.o.f4 with⟨_,e,_⟩|⟨g,e,_⟩
         .omega
         .exact⟨g,e⟩
        have HOD:Hid (Calls Tp 203 #[pT (sQ ⟨gx,k*8+3,nn⟩)] wr fun e w'=>∃ h4'',e = rT (.tuple #[])/\tdF w n1 fs n2 bx n3 ff n4 qu g1 g2 h2' a3 k3 h3' a4 k4 h4'' PH L U n2 U3 n3 U4 (k+1) w'/\U4<=w'.heap.size):=HF.o.own4 HO.o hgx (HU.o.2.2.2.1 gx hgx) ⟨HU23.o,HU34.o⟩ HZ.o hlt;rw[hgx] at x7;have HGX:Hid (a4=sQ ⟨gx,0,nn⟩):=hgx;clear hgx;go_wp2_with (go_at_call 203;refine HOD.o.mono ?_;rintro o w5 ⟨h4'',rfl,hF5,hz5⟩;have HF5:Hid (tdF w n1 fs n2 bx n3 ff n4 qu g1 g2 h2' a3 k3 h3' a4 k4 h4'' PH L U n2 U3 n3 U4 (k+1) w5):=hF5;have HZ5:Hid (U4<=w5.heap.size):=hz5;clear hF5 hz5);go_roundw;case rel=>exact⟨k+1,h4'',om,by go_num,HF5.o,HZ5.o⟩
        case measure=>simp[intOf];omega
       .have hkn:n4=k:=om
        subst hkn;clear x7 hm2;go_wp2_with (first
         | (refine ZG 41 HF.o.fh.load underlying41 HSL.o ?_)
         | (refine Zs 41 L.toArray (HF.o.fr.there 0 _ (by rw[qR,HL10.o];decide)) (by rw[qR];exact HSL.o) HON.o ?_;generalize hW9:World.setCells wr w.heap.size 0 _=w9;have HW9:Hid (World.setCells wr w.heap.size 0 L=w9):=hW9;clear hW9))
        have hW9:=HW9.o;have R9:blk w9 w.heap.size L 41:=by
         rw[<- hW9];have:=blk.put [] Z10 [] L (w:=wr) (b:=w.heap.size) (T:=41) (by simpa using HF.o.fr) HL10.o.symm;simpa using this
        have HOT:∀ x,x≠w.heap.size->x<wr.heap.size->w9.heap[x]?=wr.heap[x]?:=fun x hx _=>by rw[<- hW9];exact sO w.heap.size x hx _ wr 0
        have HSZ:w9.heap.size=wr.heap.size:=by rw[<- hW9];exact sZ ..
        have HBL:Bl w w9:=by rw[<- hW9];exact sW (nR _) 0 _ HF.o.b
        refine bC results158 (QI (P:=Tp) w9 w.heap.size 0 41 _ _ R9.load underlying41 rfl HSL.o) ?_;obtain⟨s,hs,q1,q2,q3,q4⟩:=HF.o.fin c0 (r1:Int) c2 (r3:Int) lo st HO.o ⟨HU.o.1,HU.o.2.1,HU.o.2.2.1,HU.o.2.2.2.1,HU.o.2.2.2.2.2.1⟩ ⟨HU23.o,HU34.o⟩ HD2.o HD3.o ⟨HLN.o.2.2.2.2.1,HLN.o.2.2.2.2.2.1,HLN.o.2.2.2.2.2.2⟩ HOT HSZ;exact⟨s,by rw[hs,HL.o];rfl,q1,q2,q3,q4,HBL⟩
end
end Go.Proofs.YtgfolecanghhhaaGreat
