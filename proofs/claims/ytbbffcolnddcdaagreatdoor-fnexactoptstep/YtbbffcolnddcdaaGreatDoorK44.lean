import Derived.Test.YtbbffcolnddcdaaGreatDoorK43
import Derived.Test.YtbbffcolnddcdaaGreatDoorK42
import Derived.Test.YtbbffcolnddcdaaGreatDoorK41
import Derived.Deep.CutBlock
import Derived.Deep.DeepCutAuto
import Derived.Test.YtbbffcolnddcdaaGreatDoorK36
namespace Go.Proofs.YtbbffcolnddcdaaGreatDoor
open Go.Proofs.Tryz
set_option maxRecDepth 20000
open Go.RowKit
set_option linter.all false
set_option maxHeartbeats 16000000
open Go.Value renaming int->I,slice->sL,bool->bO,pointer->pT,agg->aG
open Go.IntKind renaming i64->J
open Go.Ending renaming returned->rT
open Go.Proofs.Tryz renaming prog->Tp
section
variable{κ κ' κ0:Nat->Nat}{C:Co}{s:Sl}{w:World}
def lY(h:hG κ C.ho s w)(c:bdQ 1000 C.ho):ce 54 #[aG (coL C s).toArray] w (cA w κ (ovC C)):=by
 have b:Hid _:=fc.new2 h;have u:=cw c;have k:Hid (ovC C={ {C with ho:=pH C.ho (ev3 9 0 0)}with p:=2,ct:=0,ov:=true}):=rfl;have f:Hid (∀W,hG κ C.ho s W->ce 108 #[aG (coL C s).toArray,I J 9,I J 0,I J 0] W (cA W κ {C with ho:=pH C.ho (ev3 9 0 0)})):=fun W n=>pG n 9 0 0 c;generalize ({C with ho:=pH C.ho (ev3 9 0 0)}:Co)=X at*;clear h c;go_enter func54,ntmps54;go_wp2_with(refine fc.ld b.o ?_);refine(f.o _ b.o.g).mono ?_;rintro o v ⟨s2,t,rfl,e⟩;have i:Hid _:=b.o.call e.o;clear f e;go_upto_region 2 with(refine fc.sv i.o ?_;intro r a)
 simp only[Act.put];have A:=a.o.p.cell 0 (I J X.p) rfl;have B:=a.o.p.cell 1 (I J X.ct) rfl;have D:=a.o.p.cell 4 (bO X.ov) rfl;have E:=a.o.p.free 0;have G:=a.o.p.free 1;have H:=a.o.p.free 4;have d:Hid _:=(((a.o.set 0 (I J 2) {X with p:=2} rfl).set 1 (I J 0) {X with p:=2,ct:=0} rfl).set 4 (bO true) {X with p:=2,ct:=0,ov:=true} rfl)
 go_upto_region 5 with fail
 generalize World.setCell (World.setCell (World.setCell r _ _) _ _) _ _=y at*;go_wp2_with(first|(refine fc.ld d.o ?_)|(refine fc.rt d.o ?_;intro x l j));refine bC results54 (dI l) ?_;rw[k.o];exact⟨s2,t,rfl,j⟩
def iD(b6:hG κ C.ho s w)(k:Int)(t:cH C)(hp:C.p≠7)(Z:C.ho.le 1048576):ce 52 #[aG (coL C s).toArray,I J k] w (cA w κ (au C (ba C k))):=by
 have F0:Hid _:=fc.new2 b6;obtain⟨f,U⟩:∃f,stZ C.te C.re=f:=⟨_,rfl⟩
 obtain⟨r,Y⟩:∃r:Int,r=if C.tx then 1 else 0:=⟨_,rfl⟩
 have a5:=t.h.bd;have a6:0<=C.te/\C.te<256:=⟨t.m.te.1,by have:=t.m.te.2;have:C.te≠256:=fun e=>hp (t.m.of.2 e);omega⟩
 have ac:Hid (∀W,ce 50 #[aG (coL C s).toArray] W fun o w'=>o=rT (I J f)/\Bl W w'):=fun W=>by
  have:=fA W C s;rw[show esZ C.p C.te C.re=f by rw[<- U];unfold esZ stZ;rw[QV hp,QV (show¬C.te=256 by omega)]]at this;exact this
 have G:Hid (tlC (ns (cN (eM C k) (fwZ C.tx (jJ C k) C.p k))) f=au C (ba C k)):=by rw[<- U];exact CI hp k
 obtain⟨l,x⟩:∃l,pH C.ho (ev3 8 k r)=l:=⟨_,rfl⟩
 have y:bdQ 901 l:=by rw[<- x];exact a5.post _
 have O:Hid (bz l false=dR C k):=by show _=_;unfold dR;rw[<- x,Y]
 have Q:Hid ((C.p==1&&C.tx)=false->dR C k=l):=fun hh=>by rw[<- O.o,<- x];exact Bp t k r (by simpa using hh)
 have am:Hid (∀W κ,hG κ C.ho s W->ce 108 #[aG (coL C s).toArray,I J 8,I J k,I J r] W (cA W κ {C with ho:=l})):=fun W κ L=>by rw[<- x];exact pG L 8 k r (a5.up (by decide))
 have ak:Hid (∀W κ h,hG κ l h W->ce 109 #[aG (hoL l h).toArray,bO false] W (hA W κ (dR C k))):=fun W κ h L=>by rw[<- O.o];exact nV L false (by rw[<- x];show C.ho.bx.length<=1000;have:=t.h.n2;omega) (y.up (by decide)).q y.lo (by rw[<- x];exact Z.bd)
 have bb:Hid (bdQ 902 (dR C k)):=by rw[<- O.o];exact y.rel false
 have a9:Hid (∀W n h,0<=n/\n<=8->ce 107 #[aG (coL (eM C k) h).toArray,I J n] W fun o w'=>o=rT (aG (coL (cN (eM C k) n) h).toArray)/\Bl W w'):=fun W n h Z=>j4 W (eM C k) h n Z a6 t.m.re;have ao:Hid (∀W κ X h,hG κ X.ho h W->X.ho=dR C k->ce 57 #[aG (coL X h).toArray,I J f] W (cA W κ (tlC X f))):=fun W κ X h L e=>lX L f (by rw[e];exact bb.o.up (by decide));have P:Hid ((C.tx=true->r=1)/\(C.tx=false->r=0)):=⟨fun e=>by rw[Y,e];rfl,fun e=>by rw[Y,e];rfl⟩
 obtain⟨oq,a3⟩:∃b,((f==1)&&C.tx&&(k==5))=b:=⟨_,rfl⟩
 have HM:Hid (eM C k={ {C with ho:=dR C k}with wk:=f==1,ow:=oq}):=by show _=_;rw[<- a3];unfold eM jJ CJ;rw[U]
 have R:Hid (((f==1)&&C.tx&&(k==5))=oq):=a3;have af:Hid (cN (eM C k) 0=eM C k):=FD _ a6 t.m.re;clear b6 t hp Z U Y a5 a6 x y a3;go_enter func52,ntmps52;go_wp2_with(refine fc.ld F0.o ?_);refine(ac.o _).mono ?_;rintro o w1 ⟨rfl,y⟩;have E:Hid (fc2 w κ κ C s C.ho s w1):=F0.o.below y;obtain⟨tx,T⟩:∃tx,C.tx=tx:=⟨_,rfl⟩
 have j:=E.o.p.cell 6 (bO C.tx) rfl;rw[T]at j;have H:Hid (C.tx=tx):=T;rw[T]at P;clear F0 y ac T;go_upto_if 10 with fail
 go_cut [6] (fun s6 i=>s6=I J r/\i=w1);case first=>
  cases tx
  .go_wp2_with fail;go_meet;case rel=>exact⟨by rw[P.o.2 trivial],rfl⟩
  .go_wp2_with fail;go_meet;case rel=>exact⟨by rw[P.o.1 trivial],rfl⟩
 case rest=>
 obtain⟨rfl,hw⟩:=hcut;subst hw;go_wp2_with(refine fc.ld E.o ?_);refine(am.o _ κ E.o.g).mono ?_;rintro o w2 ⟨s2,a7,rfl,G2⟩;have F2:Hid (fc2 w κ a7 C s l s2 w2):=E.o.call G2.o;clear G2 j E am P;go_upto_region 6 with(refine fc.sv F2.o ?_;intro w3 u)
 have M:=u.o.p.cell 0 (I J C.p) rfl;have j:=u.o.p.cell 6 (bO C.tx) rfl;rw[H.o]at j;obtain⟨b1,aw⟩:∃b,(C.p==1)=b:=⟨_,rfl⟩
 simp only[Act.put];go_cut [21] (fun bi i=>bi=bO (b1&&tx)/\i=w3);case first=>
  cases b1<;>cases tx<;>(
   go_wp2_with fail;go_meet
   case rel=>exact⟨rfl,rfl⟩)
 case rest=>
 obtain⟨rfl,hw⟩:=hcut;subst hw;rw[aw,H.o]at Q;clear aw M j F2;obtain⟨b2,a2⟩:∃b,(b1&&tx)=b:=⟨_,rfl⟩
 rw[a2];rw[a2]at Q;clear a2;go_upto_if 21 with fail
 go_cut [] (fun i=>∃d A,Hid (fc2 w κ A {C with ho:=dR C k} d (dR C k) d i));case first=>
  cases b2
  .go_wp2_with fail;go_meet;case rel=>exact⟨s2,a7,by rw[Q.o trivial];exact u.o⟩
  .go_wp2_with (refine fc.lh u.o ?_);refine(ak.o _ a7 s2 u.o.g).mono ?_;rintro o w4 ⟨s4,b9,rfl,G4⟩;have F4:Hid (fc2 w κ b9 {C with ho:=l} s2 (dR C k) s4 w4):=u.o.call G4.o;clear G4;go_wp2_with(refine fc.sh F4.o ?_;intro w5 B);go_meet;case rel=>exact⟨s4,b9,B.o⟩
 case rest=>
 obtain⟨d,A,B⟩:=hcut;clear u ak Q O;have f3:=B.o.p.free 3;obtain⟨wk,a4⟩:∃b,(f==1)=b:=⟨_,rfl⟩
 have y3:=B.o.p.cell 3 (bO C.wk) rfl;go_upto_region 9 with fail
 have D:Hid (fc2 w κ A {C with wk:=wk,ho:=dR C k} d (dR C k) d (World.setCell wc ⟨w.heap.size,3,none⟩ (bO wk))):=B.o.set 3 (bO wk) _ rfl;generalize World.setCell wc ⟨w.heap.size,3,none⟩ (bO wk)=w6 at*;clear f3 y3 B;have y3:=D.o.p.cell 3 (bO wk) rfl;have j:=D.o.p.cell 6 (bO C.tx) rfl;have f5:=D.o.p.free 5;obtain⟨k5,b3⟩:∃b,(k==5)=b:=⟨_,rfl⟩
 rw[H.o]at j;rw[H.o,b3,a4]at R;rw[a4]at HM;have y5:=D.o.p.cell 5 (bO C.ow) rfl;go_cut [] (fun i=>Hid (fc2 w κ A (eM C k) d (dR C k) d i));case first=>
  cases wk<;>cases tx<;>cases k5<;>(
   go_wp2_with fail;go_meet
   case rel=>rw[HM.o];exact D.o.set 5 _ _ (by first|(rw[<- R.o];rfl)|(rw[R.o];rfl)))
 case rest=>
 have v:=hcut;clear hcut D y3 y5 j f5 HM b3 a4 R;have M:=v.o.p.cell 0 (I J C.p) rfl;have y5:=v.o.p.cell 5 (bO (jJ C k)) rfl;have j:=v.o.p.cell 6 (bO C.tx) rfl;obtain⟨ow,b5⟩:∃b,jJ C k=b:=⟨_,rfl⟩
 rw[b5]at y5 G;rw[H.o]at j G;clear b5;go_upto_if 41 with fail
 go_cut [] (fun i=>Hid (fc2 w κ A (cN (eM C k) (fwZ tx ow C.p k)) d (dR C k) d i));case first=>
  obtain⟨p2,bf⟩:∃b,(C.p==2)=b:=⟨_,rfl⟩
  obtain⟨k6,b4⟩:∃b,(k==6)=b:=⟨_,rfl⟩
  have bm:(k !=6)= !k6:=by rw[<- b4];rfl
  obtain⟨fz,K⟩:∃fz,fwZ tx ow C.p k=fz:=⟨_,rfl⟩
  have ad:Hid (fwZ tx ow C.p k=fz):=K;unfold fwZ at K;rw[bf,b4]at K
  cases tx<;>cases ow<;>cases k6<;>cases p2<;>(
   simp at K
   subst K;go_wp2_with(refine fc.ld v.o ?_)
   first
    |(go_meet
      case rel=>rw[ad.o,af.o];exact v.o)
    |(refine(a9.o _ _ d (by decide)).mono ?_
      rintro o w8 ⟨rfl,b7⟩;have F8:Hid _:=v.o.below b7
      clear b7;go_wp2_with(refine fc.sv F8.o ?_;intro w9 c)
      go_meet
      case rel=>rw[ad.o];exact c.o))
 case rest=>
 obtain⟨a,a0⟩:∃X,cN (eM C k) (fwZ tx ow C.p k)=X:=⟨_,rfl⟩
 have bc:Hid (a.ho=dR C k):=by show _=_;rw[<- a0];exact rm _ _
 rw[a0]at hcut G;have c:=hcut;clear hcut a0 a9 af v M y5 j;have M:=c.o.p.cell 0 (I J a.p) rfl;have y1:=c.o.p.cell 1 (I J a.ct) rfl;have y2:=c.o.p.cell 2 (I J a.lv) rfl;have y4:=c.o.p.cell 4 (bO a.ov) rfl;have f0:=c.o.p.free 0;have f1:=c.o.p.free 1;have f2:=c.o.p.free 2;have f4:=c.o.p.free 4;obtain⟨p7,S⟩:∃b,(a.p==7)=b:=⟨_,rfl⟩
 have be:(a.p !=7)= !p7:=by rw[<- S];rfl
 go_upto_if 60 with fail
 go_cut [] (fun i=>Hid (fc2 w κ A (ns a) d (dR C k) d i));case first=>
  cases p7
  .have HFL:Hid (ns a={a with p:=2,ct:=0,lv:=0,ov:=false}):=QV (by simpa using S);go_wp2_with fail;go_meet;case rel=>rw[HFL.o];exact(((c.o.set 0 (I J 2) {a with p:=2} rfl).set 1 (I J 0) {a with p:=2,ct:=0} rfl).set 2 (I J 0) {a with p:=2,ct:=0,lv:=0} rfl).set 4 (bO false) _ rfl
  .have HFL:Hid (ns a=a):=QW (by simpa using S);go_wp2_with fail;go_meet;case rel=>rw[HFL.o];exact c.o
 case rest=>
 obtain⟨X4,a1⟩:∃X,ns a=X:=⟨_,rfl⟩
 have ap:Hid (X4.ho=dR C k):=by show _=_;rw[<- a1,<- bc.o];unfold ns;split<;>rfl
 rw[a1]at hcut G;have N:=hcut;clear hcut a1 c M y1 y2 y4 f0 f1 f2 f4 S be;go_wp2_with(refine fc.ld N.o ?_);refine(ao.o _ A X4 d (by rw[ap.o];exact N.o.g) ap.o).mono ?_;rintro o bn ⟨bg,bk,rfl,a8⟩;have FB:Hid _:=N.o.call a8.o;clear a8 ao N;go_wp2_with(refine fc.rt FB.o ?_;intro w8 b8 G8);refine bC results52 (dI b8) ?_;rw[<- G.o];exact⟨bg,bk,rfl,G8⟩
end
section
variable{H:Ho}{n:Nat}{C:Co}
def dP.dl(h:dP H):H.fs.length<=1000/\H.ff.length<=1000/\H.qu.length<=900/\(1<=H.c1/\H.c1<=1000/\(H.ff.length:Int)<=H.c1)/\(H.c2=0\/H.c2=1):=by
 have h1:=qJ h.cf;have b:=h.nq;have c:=h.nf;have a:=h.fs;unfold ig at a;rw[Q3]at a;have d:=qJ a.1;omega
def bdQ.fHo(h:bdQ n H)(L:List R5):bdQ n (fHo H L):=⟨h.q,h.lo⟩
def bdQ.del(h:bdQ n H)(F:R5):bdQ (n+2) (cq H F):=by
 unfold cq;split
 .split
  .split
   .exact (h.post _).up om
   .split
    .exact h.up om
    .exact (((h.post _).fHo _).post _)
  .exact ((h.fHo _).post _).up om
 .exact h.up om
def CL(c:cH C)(g:C.p=1)(k:Int)(F:R5):tlC (aU C k F) (esZ C.p C.te C.re)=au C (aU C k F):=by
 have a:C.te≠256:=fun e=>by have:=c.m.of.2 e;omega
 have h:=c.m.te;have d:esZ C.p C.te C.re=stZ C.te C.re:=by unfold esZ stZ;rw[QV om,QV a]
 have b:(aU C k F).p≠7/\(aU C k F).te≠256:=by
  unfold aU;split
  .refine⟨by show(5:Int)≠7;decide,?_⟩;show dG C.te≠256;unfold dG;omega
  .split
   .exact⟨by show C.p≠7;omega,a⟩
   .split
    .exact⟨by show(5:Int)≠7;decide,a⟩
    .split
     .exact⟨by show(2:Int)≠7;decide,a⟩
     .split
      .exact⟨by show C.p≠7;omega,a⟩
      .exact⟨om,a⟩
 rw[d];unfold au;rw[QV (fun x=>b.2 x.1)];unfold tlC dB;have f:esZ (aU C k F).p (aU C k F).te (aU C k F).re=stZ (aU C k F).te (aU C k F).re:=by unfold esZ stZ;rw[QV b.1,QV b.2]
 rw[f]
abbrev fc3(w:World)(κ0:Nat->Nat)(FL:List Value)(κ:Nat->Nat)(C:Co)(s0:Sl)(H:Ho)(s:Sl)(W:World):Prop:=fc w κ0 w.heap.size (w.heap.size+1+1) (w.heap.size+1) FL 53 κ C s0 H s W
def gU{h:Nat->Nat}{w:World}{s:Sl}(a8:hG h C.ho s w)(k:Int)(F:R5)(M:Option Addr)(D G:Nat)(L:cH C)(hp:C.p=1)(hn:C.ho.le 1048576)(hf:k=2->∃N,M=be N/\iB w (be N) D G F.l/\N<w.heap.size/\h N=0)(ad:D<=1048576):ce 73 #[aG (coL C s).toArray,I J k,frV F.e F.i F.r F.d M D G] w (cA w h (au C (aU C k F))):=by
 have F0:Hid _:=fc.new3 a8 [bO F.e,I .u32 (F.i:Int),bO F.r,I J F.d,sL M D G];obtain⟨Q,a1⟩:∃Q,esZ C.p C.te C.re=Q:=⟨_,rfl⟩
 have a0:=cw (CL L hp k F);rw[a1]at a0;have y:=L.h.bd
 have a4:Hid (∀W,ce 50 #[aG (coL C s).toArray] W fun o w'=>o=rT (I J Q)/\Bl W w'):=fun W=>by
  have:=fA W C s;rw[a1]at this;exact this
 have R:=L.h.dl;have B:Hid (∀W b,hG h C.ho s W->ce 109 #[aG (hoL C.ho s).toArray,bO b] W (hA W h (bz C.ho b))):=fun W b K=>nV K b (by have:=L.h.n2;omega) (y.up om).q y.lo hn.bd
 have O:Hid (k=2->∀W,mvH h w h W->hG h C.ho s W->ce 116 #[aG (hoL C.ho s).toArray,frV F.e F.i F.r F.d M D G] W (hA W h (cq C.ho F))):=fun e W hm K=>by
  obtain⟨N,rfl,h1,h2,h3⟩:=hf e;exact xO K F N D G (hm.bytes h1 h2 h3) ⟨nL h2 hm.s,h3⟩ ad R.1 R.2.1 R.2.2.1 y.lo hn.fd R.2.2.2.1.1
 have E:Hid (∀W,hG h C.ho s W->ce 54 #[aG (coL C s).toArray] W (cA W h (ovC C))):=fun W K=>lY K (y.up om);have a3:Hid (bdQ 1000 (aU C k F).ho):=by
  show bdQ 1000 _;unfold aU;split
  .exact (y.rel true).up om
  .split
   .exact (y.del F).up om
   .split
    .exact y.up om
    .split
     .exact (y.post _).up om
     .split
      .exact (y.rel false).up om
      .exact y.up om
 have a7:Hid (∀W h s',hG h (aU C k F).ho s' W->ce 57 #[aG (coL (aU C k F) s').toArray,I J Q] W (cA W h (au C (aU C k F)))):=fun W h s' K=>by rw[<- a0.o];exact lX K Q a3.o
 have a6:=hI L.m.te;have a5:=hI L.m.re;clear a8 L hp hn hf a1 y R a3 a0;obtain⟨b1,e1,_,f1⟩:=eqB k 1;obtain⟨b2,e2,_,f2⟩:=eqB k 2;obtain⟨b3,e3,_,f3⟩:=eqB k 3;obtain⟨b4,U,_,f4⟩:=eqB k 4;obtain⟨b5,P,_,f5⟩:=eqB k 5;have u:Hid (aU C k F=if b1=true then{C with ho:=bz C.ho true,te:=dG C.te,p:=5}else if b2=true then{C with ho:=cq C.ho F,re:=dG (min C.re 128)}else if b3=true then{C with p:=5}else if b4=true then ovC C else if b5=true then{C with ho:=bz C.ho false,tx:=false}else C):=by
  show _=_;unfold aU;simp only[f1.o,f2.o,f3.o,f4.o,f5.o]
 clear f1 f3 f4 f5;go_enter func73,ntmps73;go_wp2_with(refine fc.ld F0.o ?_);refine(a4.o _).mono ?_;rintro o w1 ⟨rfl,a9⟩;have c:=hI (F0.o.below a9);clear F0 a9 a4;go_upto_block 0 with fail
 go_cut [] (fun wx=>∃Z a2,Hid (fc3 w h [bO F.e,I .u32 (F.i:Int),bO F.r,I J F.d,sL M D G] a2 (aU C k F) Z (aU C k F).ho Z wx));case first=>
  cases b1;case true=>
   have t:=hI u.o;clear u e2 e3 U P O E;go_wp2_with(refine fc.lh c.o ?_);refine(B.o _ true c.o.g).mono ?_;rintro o w2 ⟨v,S,rfl,j⟩;have H2:Hid _:=c.o.call j.o;clear j c B;go_upto_region 5 with(refine fc.sh H2.o ?_;intro w3 a)
   have y9:=a.o.p.cell 9 (I J C.te) rfl;have z9:=a.o.p.free 9;have y0:=a.o.p.cell 0 (I J C.p) rfl;have z0:=a.o.p.free 0;have ht:=a6.o;obtain⟨bt,ac,A⟩:=ltB 0 C.te;cases bt
   .have HT:Hid (dG C.te=C.te):=by
     have:¬0<C.te:=fun x=>by have:=A.o.2 x;cases this
     show dG _=_;unfold dG;omega
    clear A;go_wp2_with fail;go_meet;case rel=>
     rw[t.o,HT.o];exact⟨v,_,a.o.set 0 (I J 5) {C with ho:=bz C.ho true,p:=5} rfl⟩
   .have HT:Hid (dG C.te=C.te-1):=by
     have:=A.o.1 rfl;show dG _=_;unfold dG;omega
    clear A;go_wp2_with fail;go_meet;case rel=>
     rw[t.o,HT.o];exact⟨v,_,(a.o.set 9 (I J (C.te-1)) {C with ho:=bz C.ho true,te:=C.te-1} rfl).set 0 (I J 5) {C with ho:=bz C.ho true,te:=C.te-1,p:=5} rfl⟩
  cases b2;case true=>
   have t:=hI u.o;clear u e3 U P B E;go_wp2_with(first|(refine fc.lh c.o ?_)|(refine Zi 53 [bO F.e,I .u32 (F.i:Int),bO F.r,I J F.d,sL M D G] c.o.f.load underlying53 cE ?_));refine(O.o (f2.o.1 trivial) _ c.o.m c.o.g).mono ?_;rintro o w2 ⟨v,S,rfl,j⟩;have H2:Hid _:=c.o.call j.o;clear j c O;go_upto_region 10 with(refine fc.sh H2.o ?_;intro w3 a)
   have y9:=a.o.p.cell 10 (I J C.re) rfl;have z9:=a.o.p.free 10;have hr:=a5.o;obtain⟨bt,ac,A⟩:=ltB 127 C.re;cases bt
   .have h1:¬127<C.re:=fun x=>by have:=A.o.2 x;cases this
    obtain⟨bu,af,Y⟩:=ltB 0 C.re;cases bu
    .have HT:Hid (dG (min C.re 128)=C.re):=by
      have:¬0<C.re:=fun x=>by have:=Y.o.2 x;cases this
      show dG _=_;unfold dG;omega
     clear A Y h1;go_wp2_with fail;go_meet;case rel=>
      rw[t.o,HT.o];exact⟨v,_,a.o⟩
    .have HT:Hid (dG (min C.re 128)=C.re-1):=by
      have:=Y.o.1 rfl;show dG _=_;unfold dG;omega
     clear A Y h1;go_wp2_with fail;go_meet;case rel=>
      rw[t.o,HT.o];exact⟨v,_,a.o.set 10 (I J (C.re-1)) {C with ho:=cq C.ho F,re:=C.re-1} rfl⟩
   .have HT:Hid (dG (min C.re 128)=127):=by
     have:=A.o.1 rfl;show dG _=_;unfold dG;omega
    clear A;go_wp2_with fail;go_meet;case rel=>
     rw[t.o,HT.o];exact⟨v,_,a.o.set 10 (I J 127) {C with ho:=cq C.ho F,re:=127} rfl⟩
  have T:=c;clear O;cases b3;case true=>
   have t:=hI u.o;have y0:=c.o.p.cell 0 (I J C.p) rfl;have z0:=c.o.p.free 0;clear u U P B E;go_wp2_with fail;go_meet;case rel=>
    rw[t.o];exact⟨s,_,T.o.set 0 (I J 5) {C with p:=5} rfl⟩
  cases b4;case true=>
   have t:=hI u.o;clear u P B T;go_wp2_with(refine fc.ld c.o ?_);refine(E.o _ c.o.g).mono ?_;rintro o w2 ⟨v,S,rfl,j⟩;have H2:Hid _:=c.o.call j.o;clear j c E;go_wp2_with(refine fc.sv H2.o ?_;intro w3 a);go_meet;case rel=>
    rw[t.o];exact⟨v,_,a.o⟩
  cases b5;case true=>
   have t:=hI u.o;clear u E T;go_wp2_with(refine fc.lh c.o ?_);refine(B.o _ false c.o.g).mono ?_;rintro o w2 ⟨v,S,rfl,j⟩;have H2:Hid _:=c.o.call j.o;clear j c B;go_upto_region 20 with(refine fc.sh H2.o ?_;intro w3 a)
   have y6:=a.o.p.cell 6 (bO C.tx) rfl;have z6:=a.o.p.free 6;go_wp2_with fail;go_meet;case rel=>
    rw[t.o];exact⟨v,_,a.o.set 6 (bO false) {C with ho:=bz C.ho false,tx:=false} rfl⟩
  have t:=hI u.o;go_wp2_with fail;go_meet;case rel=>
   rw[t.o];exact⟨s,_,T.o⟩
 case rest=>
 obtain⟨Z,a2,a⟩:=hcut;clear c B O E u a6 a5 e1 e2 e3 U P f2;generalize aU C k F=X at*;go_wp2_with(refine fc.ld a.o ?_);refine(a7.o _ a2 Z a.o.g).mono ?_;rintro o w4 ⟨v,S,rfl,j⟩;have H4:Hid _:=a.o.call j.o;clear j a a7;go_wp2_with(refine fc.rt H4.o ?_;intro w8 b8 G8);exact bC results73 (dI b8) ⟨v,S,rfl,G8⟩
end
def sD(w:World)(C:Co)(s:Sl)(h:bj w C.ho s)(k:C.ho.le 1048576):ce 15 #[aG (coL C s).toArray] w fun o w'=>∃s' κ,o=rT (aG (coL C s').toArray)/\Hid ((hG κ C.ho s' w'/\mvH κ w κ w')/\∀x,x<w.heap.size->κ x=0):=by
 have i:Bl w ((w.alloc (.cells (coL C s).toArray 52)).alloc (.cells Z21.toArray 52)):=Zw.alloc pQ _;have n:blk ((w.alloc (.cells (coL C s).toArray 52)).alloc (.cells Z21.toArray 52)) (w.heap.size+1) Z21 52:=by simpa using blk.new (w.alloc (.cells (coL C s).toArray 52)) Z21 52
 have l:blk ((w.alloc (.cells (coL C s).toArray 52)).alloc (.cells Z21.toArray 52)) w.heap.size (coL C s) 52:=(blk.new w _ 52).alloc _;have f:Hid (∀W,Bl w W->ce 49 #[aG (hoL C.ho s).toArray] W fun o w'=>∃s' κ,o=rT (aG (hoL C.ho s').toArray)/\hG κ C.ho s' w'/\(∀x,x<W.heap.size+3->κ x=0)/\Bl W w'):=fun W B=>Ha W C.ho s (h.below B) k;have b:=cw (qB i (qB n l));clear h k i n l;go_enter func15,ntmps15;go_wp2_with(refine ZG 50 b.o.2.2.hostAt underlying50 (jv _ _) ?_);refine(f.o _ b.o.1).mono ?_;rintro o E ⟨s1,d,rfl,g,n1,c⟩;have D:=b.o.2.1.lt;have j:=b.o.1.trans (c.mono b.o.1.size);have t:Hid (fc2 w d d C s C.ho s1 E):=⟨b.o.2.2.below c,b.o.2.1.below c,b.o.2.1.below c,g,mvH.of j,n1 _ om,n1 _ om,n1 _ om,om,om,om,om⟩
 have v:Hid (∀x,x<w.heap.size->d x=0):=fun x G=>n1 x om;clear g n1 c D j f b;go_wp2_with(first|(refine fc.sh t.o ?_;intro K e)|(refine fc.ld e.o ?_)|(refine fc.rt e.o ?_;intro L A u));exact bC results15 (dI A) ⟨s1,d,rfl,u.o,v.o⟩
def Z22:List Value:=[I J 0,I J 0,I J 0,bO false,bO false,bO false,bO false,bO false,I J 0,I J 0,I J 0,I J 0,I J 0,I J 0,I J 0,sL none 0 0,sL none 0 0,sL none 0 0,sL none 0 0,I J 0,I J 0,.string ⟨#[]⟩]
section
variable{κ κ' κ0:Nat->Nat}{C C' C2:Co}{H H' H2:Ho}{s s0 s' s1 s2:Sl}{w W W':World}{p r q:Nat}{FL:List Value}{T:TypeId}{hd hd' hd2:ByteArray}
structure fr(w:World)(κ0:Nat->Nat)(vp vr vq:Nat)(FL:List Value)(T:TypeId)(κ:Nat->Nat)(C:Co)(s0:Sl)(hd:ByteArray)(H:Ho)(s:Sl)(W:World):Prop where
 p:blk W vp (rfL C s0 hd) 85
 r:blk W vr Z22 85
 f:blk W vq FL T
 g:hG κ H s W
 m:mvH κ0 w κ W
 z:κ vp=0/\κ vr=0/\κ vq=0/\vp≠vr/\vp≠vq/\w.heap.size<=vp/\w.heap.size<=vr
section
variable{ops:Array Oper}{rest:List Oper}{op:Oper}{a:Act}{Q:Exit->Act->World->Prop}{x y:Operand}
end
end
section
variable{κ κ1 κ0:Nat->Nat}{C C2:Co}{H:Ho}{s s1:Sl}{w W:World}
def aY{ops:Array Oper}{rest:List Oper}{op:Oper}{a:Act}{w:World}{Q:Exit->Act->World->Prop}(hgd:op.guard=none)(ty:TypeId)(ps:Array (Nat × Operand))(ho:op.op= .build ty ps)
  (pv:Array (Nat × Value)) (hp:(ps.map fun p=>(p.1,a.eval p.2))=pv) (v:Value) (hr:(Instr.build ty pv).run Tp w= .ok v w)
  (h:wpList Tp ops Q rest (a.put op.dst v) w):wpList Tp ops Q (op::rest) a w:=
 wpList_plain hgd fun _ hK=>by
  unfold Oper.wp execOp;simp only[ho,hp,QS,hr,Result.andThen_ok,Sem.run_pure];exact hK _ _ h
def dd(w:World):(Instr.build 53 #[]).run Tp w= .ok (frV false 0 false 0 none 0 0) w:=kr
def zF5:R5:=⟨false,0,false,0,[]⟩
end
section
variable{w0:World}{M:Nat}{G:Lg}{f1 f3 nm:Nat}{C:Co}{W:World}
def iR(C:Co)(vf:Int)(du la:Bool)(d bit:Int):Co:=
 if((d==1&&bit==0)&&(decide (2<=vf)&&decide (vf<=6)))=true then(if du=true then ba C 6 else aU C 5 zF5)
 else if((d==1&&bit==0)&&vf==12)=true then C
 else if(bit !=d)=true then ba C 1
 else if(vf==12)=true then ba C 5
 else if la=true then aU C 1 zF5
 else C
def wO(h:mx w0 M G f1 f3 nm C W)(d c bit:Int)(i g:Bool)(N:G.s 0=I J d)(O:G.s 1=I J c)(s2:G.s 2=bO i)(P:G.s 3=bO g)(S:C.ho.c2=0\/C.ho.c2=1)(A:0<=C.te/\C.te<=256)(x:0<=C.re/\C.re<=255)(D:∀j(hj:j<C.ho.bx.length),(Lit.int .i64 C.ho.bx[j].y).wf=true):ce 214 #[ap M,I J bit] W fun o w'=>o=rT (.tuple #[])/\my w0 M G f3 nm (iR C c i g d bit) w':=by
 have p:=ar h;have l:Hid (∀k,ce 217 #[ap M,I J k] W fun o w'=>o=rT (.tuple #[])/\mx w0 M G f1 f3 nm (ba C k) w'):=fun k=>h.fault k A x D;have r:Hid (∀k,ce 243 #[ap M,I J k,frV false 0 false 0 none 0 0] W fun o w'=>o=rT (.tuple #[])/\my w0 M G f3 nm (aU C k zF5) w'):=fun k=>jo h k zF5 none 0 0 (jA _) (nZ _) S A x D;have U:=h.m.cell 12 (G.s 0) rfl;have Y:=h.m.cell 13 (G.s 1) rfl;have Z:=h.m.cell 14 (G.s 2) rfl;have a0:=h.m.cell 15 (G.s 3) rfl;rw[N]at U;rw[O]at Y;rw[s2]at Z;rw[P]at a0;obtain⟨L,K⟩:∃b,(d==1)=b:=⟨_,rfl⟩
 obtain⟨b0,H⟩:∃b,(bit==0)=b:=⟨_,rfl⟩
 obtain⟨t,u⟩:∃b,(decide (2<=c)&&decide (c<=6))=b:=⟨_,rfl⟩
 obtain⟨n,Q⟩:∃b,(c==12)=b:=⟨_,rfl⟩
 obtain⟨nb,R⟩:∃b,(bit !=d)=b:=⟨_,rfl⟩
 obtain⟨ov,w⟩:∃b,(L&&b0)=b:=⟨_,rfl⟩
 have e:Hid (iR C c i g d bit=if(ov&&t)=true then(if i=true then ba C 6 else aU C 5 zF5)else if(ov&&n)=true then C else if nb=true then ba C 1 else if n=true then ba C 5 else if g=true then aU C 1 zF5 else C):=by
  show _=_;unfold iR;rw[K,H,u,Q,R,w]
 have E:Hid (∀X,ce 124 #[I J c,I J 2,I J 6] X fun o w'=>o=rT (bO t)/\X=w'):=fun X=>by rw[<- u];exact(by have:=bT X c 2 6;rwa [show decide (2<=c/\c<=6)=(decide (2<=c)&&decide (c<=6))by simp]at this)
 clear h A x D N O s2 P u;go_enter func214,ntmps214;go_wp2_with fail;refine(E.o _).mono ?_;rintro o f ⟨rfl,rfl⟩;go_upto_region 1 with fail
 go_cut [5] (fun v T=>v=bO ov/\T=W);case first=>
  cases L<;>cases b0<;>(
   go_wp2_with fail;go_meet
   case rel=>exact⟨by rw[<- w];rfl,rfl⟩)
 case rest=>
 obtain⟨rfl,B⟩:=hcut;have B:=B.symm;subst B;clear E w K H;cases ov;case true=>
  cases t;case true=>
   cases i;case true=>
    go_wp2_with fail;refine(l.o 6).mono ?_;rintro o f ⟨rfl,h1⟩;have a:=ar h1;clear h1;go_wp2_with fail;refine bN ?_
    exact⟨rfl,_,by rw[e.o];exact a.o⟩
   case false=>
    go_wp2_with(refine aY rfl 53 _ rfl _ (by simp[go_sem]) _ (dd _) ?_);refine(r.o 5).mono ?_;rintro o f ⟨rfl,h1⟩;have a:=ar h1;clear h1;go_wp2_with fail;refine bN ?_
    exact⟨rfl,by rw[e.o];exact a.o⟩
  case false=>
   cases n;case true=>
    go_wp2_with fail;refine bN ?_
    exact⟨rfl,f1,by rw[e.o];exact p.o⟩
   case false=>
    cases nb;case true=>
     go_wp2_with fail;refine(l.o 1).mono ?_;rintro o f ⟨rfl,h1⟩;have a:=ar h1;clear h1;go_wp2_with fail;refine bN ?_
     exact⟨rfl,_,by rw[e.o];exact a.o⟩
    case false=>
     cases g;case true=>
      go_wp2_with(refine aY rfl 53 _ rfl _ (by simp[go_sem]) _ (dd _) ?_);refine(r.o 1).mono ?_;rintro o f ⟨rfl,h1⟩;have a:=ar h1;clear h1;go_wp2_with fail;refine bN ?_
      exact⟨rfl,by rw[e.o];exact a.o⟩
     case false=>
      go_wp2_with fail;refine bN ?_
      exact⟨rfl,f1,by rw[e.o];exact p.o⟩
 case false=>
  cases nb;case true=>
   go_wp2_with fail;refine(l.o 1).mono ?_;rintro o f ⟨rfl,h1⟩;have a:=ar h1;clear h1;go_wp2_with fail;refine bN ?_
   exact⟨rfl,_,by rw[e.o];exact a.o⟩
  case false=>
   cases n;case true=>
    go_wp2_with fail;refine(l.o 5).mono ?_;rintro o f ⟨rfl,h1⟩;have a:=ar h1;clear h1;go_wp2_with fail;refine bN ?_
    exact⟨rfl,_,by rw[e.o];exact a.o⟩
   case false=>
    cases g;case true=>
     go_wp2_with(refine aY rfl 53 _ rfl _ (by simp[go_sem]) _ (dd _) ?_);refine(r.o 1).mono ?_;rintro o f ⟨rfl,h1⟩;have a:=ar h1;clear h1;go_wp2_with fail;refine bN ?_
     exact⟨rfl,by rw[e.o];exact a.o⟩
    case false=>
     go_wp2_with fail;refine bN ?_
     exact⟨rfl,f1,by rw[e.o];exact p.o⟩
end
open Option renaming none->nn,some->sQ
section
variable{w0:World}{M:Nat}{G:Lg}{f1 f3 nm:Nat}{C:Co}{W:World}
abbrev frL(F:R5)(fa:Option Addr)(fm fc:Nat):List Value:=[bO F.e,I .u32 (F.i:Int),bO F.r,I J F.d,sL fa fm fc]
def vi(h:mx w0 M G f1 f3 nm C W)(F:R5)(b:Option Addr)(a fc:Nat)(g:Bool)(E:vB F.e F.i F.r F.d a=g)(v:iB G.u b a fc F.l)(N:a<=1048576)(L:C.ho.c2=0\/C.ho.c2=1)(x:0<=C.te/\C.te<=256)(w:0<=C.re/\C.re<=255)(A:∀j(P:j<C.ho.bx.length),(Lit.int .i64 C.ho.bx[j].y).wf=true):ce 244 #[ap M,frV F.e F.i F.r F.d b a fc] W fun o w'=>o=rT (.tuple #[])/\my w0 M G f3 nm (if g=true then aU C 2 F else ba C 3) w':=by
 have D:Bl W (W.alloc (.cells (frL F b a fc).toArray 53)):=Zw;have s:=ar (blk.new W (frL F b a fc) 53);have n:=ar (h.below D);have B:Hid (∀X,mx w0 M G f1 f3 nm C X->ce 186 #[frV F.e F.i F.r F.d b a fc] X fun o w'=>o=rT (bO g)/\Bl X w'):=fun X f=>by rw[<- E];exact dU X F.e F.i F.r F.d b a fc F.l (v.kpt (by obtain⟨_,_,q⟩:=f;exact q.h.k))
 have K:Hid (∀X,mx w0 M G f1 f3 nm C X->ce 217 #[ap M,I J 3] X fun o w'=>o=rT (.tuple #[])/\mx w0 M G f1 f3 nm (ba C 3) w'):=fun X f=>f.fault 3 x w A;have H:Hid (∀X,mx w0 M G f1 f3 nm C X->ce 243 #[ap M,I J 2,frV F.e F.i F.r F.d b a fc] X fun o w'=>o=rT (.tuple #[])/\my w0 M G f3 nm (aU C 2 F) w'):=fun X f=>jo f 2 F b a fc v N L x w A;clear h v x w A D E;go_enter func244,ntmps244;go_upto_region 1 with fail
 change Code.wp _ _ _ _ (W.alloc (.cells (frL F b a fc).toArray 53));generalize W.alloc (.cells (frL F b a fc).toArray 53)=V at*;go_wp2_with(refine ZG 53 s.o.load underlying53 cE ?_);refine(B.o _ n.o).mono ?_;rintro o Q ⟨rfl,t⟩;have p:=ar (qB (n.o.below t) (s.o.below t));clear t n s B;cases g;case true=>
  go_wp2_with(refine ZG 53 p.o.2.load underlying53 cE ?_);refine(H.o _ p.o.1).mono ?_;rintro o O ⟨rfl,c⟩;have H2:=ar c;clear c;go_wp2_with fail;refine bN ?_
  exact⟨rfl,H2.o⟩
 case false=>
  go_wp2_with fail;refine(K.o _ p.o.1).mono ?_;rintro o O ⟨rfl,c⟩;have H2:=ar c;clear c;go_wp2_with fail;refine bN ?_
  exact⟨rfl,f1,H2.o⟩
def zk(h:blk W M (mcS G C) 184):W.rangeAt M 17 [G.s 5,G.s 6,G.s 7,G.s 8,G.s 9]:=by
 have a:blk W M ((mcH G.P C++[G.s 0,G.s 1,G.s 2,G.s 3,G.s 4])++[G.s 5,G.s 6,G.s 7,G.s 8,G.s 9]++prL) 184:=by
  have e:mcS G C=(mcH G.P C++[G.s 0,G.s 1,G.s 2,G.s 3,G.s 4])++[G.s 5,G.s 6,G.s 7,G.s 8,G.s 9]++prL:=rfl;rwa [e]at h
 exact a.loadAt _ _ _
def hrC(C:Co)(dv c:Int)(F:R5)(vb:Bool)(bit:Int):Co:=
 if(dv==0&&bit==1)=true then ba C 1
 else if(c==1)=true then(if vb=true then aU C 2 F else ba C 3)
 else if(c==2)=true then aU C 3 zF5
 else if(c==6)=true then aU C 4 zF5
 else if(c==3)=true then ba C 2
 else if(c==4)=true then ba C 3
 else if(c==5)=true then ba C 4
 else C
def xB(h:mx w0 M G f1 f3 nm C W)(w c bit:Int)(F:R5)(E:Option Addr)(n fc:Nat)(p:Bool)(S:vB F.e F.i F.r F.d n=p)(U:G.s 0=I J w)(X:G.s 4=I J c)(Y:[G.s 5,G.s 6,G.s 7,G.s 8,G.s 9]=frL F E n fc)(R:iB G.u E n fc F.l)(a1:n<=1048576)(Q:C.ho.c2=0\/C.ho.c2=1)(A:0<=C.te/\C.te<=256)(x:0<=C.re/\C.re<=255)(B:∀j(hj:j<C.ho.bx.length),(Lit.int .i64 C.ho.bx[j].y).wf=true):ce 215 #[ap M,I J bit] W fun o w'=>o=rT (.tuple #[])/\my w0 M G f3 nm (hrC C w c F p bit) w':=by
 have Z:=ar h;have t:Hid (∀k,ce 217 #[ap M,I J k] W fun o w'=>o=rT (.tuple #[])/\mx w0 M G f1 f3 nm (ba C k) w'):=fun k=>h.fault k A x B;have K:Hid (∀k,ce 243 #[ap M,I J k,frV false 0 false 0 nn 0 0] W fun o w'=>o=rT (.tuple #[])/\my w0 M G f3 nm (aU C k zF5) w'):=fun k=>jo h k zF5 nn 0 0 (jA _) (nZ _) Q A x B;have a0:=ar (vi h F E n fc p S R a1 Q A x B);have L:=ar (zk h.m);rw[Y]at L;have a2:=h.m.cell 12 (G.s 0) rfl;have a3:=h.m.cell 16 (G.s 4) rfl;rw[U]at a2;rw[X]at a3;obtain⟨T,O⟩:∃b,(w==0)=b:=⟨_,rfl⟩
 obtain⟨N,P⟩:∃b,(bit==1)=b:=⟨_,rfl⟩
 obtain⟨k1,g1⟩:∃b,(c==1)=b:=⟨_,rfl⟩
 obtain⟨k2,g2⟩:∃b,(c==2)=b:=⟨_,rfl⟩
 obtain⟨k6,g6⟩:∃b,(c==6)=b:=⟨_,rfl⟩
 obtain⟨k3,g3⟩:∃b,(c==3)=b:=⟨_,rfl⟩
 obtain⟨k4,g4⟩:∃b,(c==4)=b:=⟨_,rfl⟩
 obtain⟨k5,g5⟩:∃b,(c==5)=b:=⟨_,rfl⟩
 obtain⟨ov,D⟩:∃b,(T&&N)=b:=⟨_,rfl⟩
 have f:Hid (hrC C w c F p bit=if ov=true then ba C 1 else if k1=true then(if p=true then aU C 2 F else ba C 3)else if k2=true then aU C 3 zF5 else if k6=true then aU C 4 zF5 else if k3=true then ba C 2 else if k4=true then ba C 3 else if k5=true then ba C 4 else C):=by
  show _=_;unfold hrC;rw[O,P,g1,g2,g6,g3,g4,g5,D]
 clear h A x B U X Y R S;go_enter func215,ntmps215;go_upto_region 0 with fail
 go_cut [13] (fun v wx=>v=bO ov/\wx=W);case first=>
  cases T<;>cases N<;>(
   go_wp2_with fail;go_meet
   case rel=>exact⟨by rw[<- D];rfl,rfl⟩)
 case rest=>
 obtain⟨rfl,H⟩:=hcut;have H:=H.symm;subst H;clear D O P;cases ov;case true=>
  go_wp2_with fail;refine(t.o 1).mono ?_;rintro o g ⟨rfl,h1⟩;have a:=ar h1;clear h1;go_wp2_with fail;refine bN ?_
  exact⟨rfl,_,by rw[f.o];exact a.o⟩
 case false=>
 cases k1;case true=>
  go_wp2_with(refine ZG 53 L.o underlying53 cE ?_);refine a0.o.mono ?_;rintro o g ⟨rfl,h1⟩;have a:=ar h1;clear h1;go_wp2_with fail;refine bN ?_
  exact⟨rfl,by rw[f.o];exact a.o⟩
 case false=>
 cases k2;case true=>
  go_wp2_with(refine aY rfl 53 _ rfl _ (by simp[go_sem]) _ (dd _) ?_);refine(K.o 3).mono ?_;rintro o g ⟨rfl,h1⟩;have a:=ar h1;clear h1;go_wp2_with fail;refine bN ?_
  exact⟨rfl,by rw[f.o];exact a.o⟩
 case false=>
 cases k6;case true=>
  go_wp2_with(refine aY rfl 53 _ rfl _ (by simp[go_sem]) _ (dd _) ?_);refine(K.o 4).mono ?_;rintro o g ⟨rfl,h1⟩;have a:=ar h1;clear h1;go_wp2_with fail;refine bN ?_
  exact⟨rfl,by rw[f.o];exact a.o⟩
 case false=>
 cases k3;case true=>
  go_wp2_with fail;refine(t.o 2).mono ?_;rintro o g ⟨rfl,h1⟩;have a:=ar h1;clear h1;go_wp2_with fail;refine bN ?_
  exact⟨rfl,_,by rw[f.o];exact a.o⟩
 case false=>
 cases k4;case true=>
  go_wp2_with fail;refine(t.o 3).mono ?_;rintro o g ⟨rfl,h1⟩;have a:=ar h1;clear h1;go_wp2_with fail;refine bN ?_
  exact⟨rfl,_,by rw[f.o];exact a.o⟩
 case false=>
 cases k5;case true=>
  go_wp2_with fail;refine(t.o 4).mono ?_;rintro o g ⟨rfl,h1⟩;have a:=ar h1;clear h1;go_wp2_with fail;refine bN ?_
  exact⟨rfl,_,by rw[f.o];exact a.o⟩
 case false=>
 go_wp2_with fail;refine bN ?_
 exact⟨rfl,f1,by rw[f.o];exact Z.o⟩
end
section
variable{w0:World}{M:Nat}{G:Lg}{f1 f3 nm:Nat}{C:Co}{W:World}
def ml(h:mx w0 M G f1 f3 nm C W)(bit:Int)(Q:World->Prop)(hs:C.tx=true->∀X,mx w0 M G f1 f3 nm C X->ce 214 #[ap M,I J bit] X fun o w'=>o=rT (.tuple #[])/\Q w')(f:C.tx=false->∀X,mx w0 M G f1 f3 nm C X->ce 215 #[ap M,I J bit] X fun o w'=>o=rT (.tuple #[])/\Q w'):ce 179 #[ap M,I J bit] W fun o w'=>o=rT (.tuple #[])/\Q w':=by
 have i:=h.m.cell 9 (bO C.tx) rfl;obtain⟨tx,d⟩:∃b,C.tx=b:=⟨_,rfl⟩
 have c:=ar (fun e=>hs e W h);have a:=ar (fun e=>f e W h);rw[d]at i c a;clear h hs f d;cases tx;all_goals
  go_enter func179,ntmps179;go_wp2_with fail;first|refine(c.o pQ).mono ?_|refine(a.o pQ).mono ?_
  rintro o j ⟨rfl,h1⟩;have g:=ar h1;clear h1;go_wp2_with fail;refine bN ?_
  exact⟨rfl,g.o⟩
def EX(Q:World->Prop)(a:Nat)(bit:Int)(g:W.cell? ⟨a,0,nn⟩=sQ (I J bit))(b:ce 354 #[ap M,I J bit] W fun o w'=>o=rT (.tuple #[])/\Q w'):ce 353 #[ap M,ap a] W fun o w'=>o=rT (.tuple #[])/\Q w':=by
 have d:=ar b;clear b;go_enter func353,ntmps353;go_wp2_with fail;refine d.o.mono ?_;rintro o f ⟨rfl,c⟩;have e:=ar c;clear c;go_wp2_with fail;refine bN ?_
 exact⟨rfl,e.o⟩
def Df(h:mx w0 M G f1 f3 nm C W)(A:Co)(e:Nat)(bit:Int)(u:W.cell? ⟨e,0,nn⟩=sQ (I J bit))(N:∀X,mx w0 M G f1 f3 nm C X->ce 354 #[ap M,I J bit] X fun o w'=>o=rT (.tuple #[])/\my w0 M G f3 nm A w'):ce 352 #[ap M,.func (.func 353) #[] #[ap e]] W fun o w'=>o=rT (.tuple #[])/\my w0 M G f3 nm (au C A) w':=by
 have l:=ar h.state;have w:Hid (∀X,mx w0 M G f1 f3 nm C X->X.cell? ⟨e,0,nn⟩=sQ (I J bit)->ce 353 #[ap M,ap e] X fun o w'=>o=rT (.tuple #[])/\my w0 M G f3 nm A w'):=fun X i hy=>EX _ e bit hy (N X i);have T:Hid (∀X,Bl W X->X.cell? ⟨e,0,nn⟩=sQ (I J bit)):=fun X i=>(i.cell (by exact Qn W _ u)).trans u;obtain⟨O,n⟩:∃z,stZ C.te C.re=z:=⟨_,rfl⟩
 obtain⟨P,r⟩:∃z,stZ A.te A.re=z:=⟨_,rfl⟩
 have y:Hid (∀X f1,mx w0 M G f1 f3 nm A X->ce 248 #[ap M] X fun o w'=>o=rT (I J P)/\mx w0 M G f1 f3 nm A w'):=fun X f1 i=>by rw[<- r];exact i.state.mono fun o w' ⟨a,b,_⟩=>⟨a,b⟩
 obtain⟨d,U,_,D⟩:=eqB P 2;obtain⟨g,Y,Z,E⟩:=eqB A.p 7;have v:Hid (au C A=dB (if(d&& !g)=true then dQ A else A) O):=by
  have h1:(A.te=256/\A.p≠7)↔(d&& !g)=true:=by
   have j:d=true↔A.te=256:=by
    rw[D.o,<- r];unfold stZ;split
    .simp_all
    .split<;>simp_all
   rw[<- j,ne_eq,<- E.o];cases d<;>cases g<;>simp
  show _=_;unfold au;simp only[h1,n]
 rw[n]at l;clear h N n r D E u;go_enter func352,ntmps352;go_wp2_with fail;refine l.o.mono ?_;rintro o w1 ⟨rfl,h1,L⟩;have k:=ar (qB h1 (T.o _ L));clear h1 L l;go_wp2_with fail;refine(w.o _ k.o.1 k.o.2).mono ?_;rintro o w2 ⟨rfl,f1,j⟩;have H2:=ar j;clear j k w;go_upto_region 2 with fail
 go_cut [24] (fun x t=>x=bO (d&& !g)/\Hid (mx w0 M G f1 f3 nm A t));case first=>
  cases d<;>cases g<;>(
   go_wp2_with fail;refine(y.o _ _ H2.o).mono ?_
   rintro o w3 ⟨rfl,s⟩;have f:=ar s
   have y3:=s.m.cell 3 (I J A.p) rfl
   clear s;go_wp2_with fail;go_meet
   case rel=>exact⟨rfl,f.o⟩)
 case rest=>
 obtain⟨rfl,f⟩:=hcut;obtain⟨c,B⟩:∃c,(d&& !g)=c:=⟨_,rfl⟩
 rw[B]at v ⊢;clear B U Y Z H2 y;go_upto_if 24 with fail
 go_cut [] (fun t=>Hid (mx w0 M G f1 f3 nm (if c=true then dQ A else A) t));case first=>
  cases c
  .go_wp2_with fail;go_meet;case rel=>exact f.o
  .go_wp2_with (refine Zs 174 #[I J 7,I J 0,I J 0,bO false,bO false,bO false,bO false,bO false,I J 0] (f.o.m.there 3 9 (by rw[lj];decide)) Dq (Qv (by simp[Value.oneCell'])) ?_;generalize K:World.setCells _ M 3 _=w4;have Q:=GR K f.o.off;clear K)
   go_meet;case rel=>exact Q.o
 case rest=>
 have R:=hcut;clear hcut f;go_wp2_with fail;refine(R.o.tell O).mono ?_;rintro o w5 ⟨rfl,H⟩;have S:=ar H;clear H;go_wp2_with fail;refine bN ?_
 exact⟨rfl,f1,by rw[v.o];exact S.o⟩
def tR(h:mx w0 M G f1 f3 nm C W)(A:Co)(bit:Int)(b:∀X,mx w0 M G f1 f3 nm C X->ce 354 #[ap M,I J bit] X fun o w'=>o=rT (.tuple #[])/\my w0 M G f3 nm A w'):ce 348 #[ap M,I J bit] W fun o w'=>o=rT (.tuple #[])/\my w0 M G f3 nm (au C A) w':=by
 have a:Bl W (W.alloc (.cells #[I J bit] 3)):=Zw;have e:=ar (blk.new W [I J bit] 3);have d:=ar (Df (h.below a) A W.heap.size bit (e.o.cell 0 _ rfl) b);clear h b a;go_enter func348,ntmps348;go_wp2_with fail;refine d.o.mono ?_;rintro o g ⟨rfl,c⟩;have f:=ar c;clear c;go_wp2_with fail;refine bN ?_
 exact⟨rfl,f.o⟩
end
def sgV(lvl vf:Int)(vd la:Bool)(c:Int)(F:R5)(fa:Option Addr)(fm fc:Nat):List Value:=[I J lvl,I J vf,bO vd,bO la,I J c,bO F.e,I .u32 (F.i:Int),bO F.r,I J F.d,sL fa fm fc]
def Gj:(Tp.info? 182).map (·.size)=some 10:=kr
def BO(lvl vf:Int)(vd la:Bool)(c:Int)(F:R5)(fa:Option Addr)(fm fc:Nat):(sgV lvl vf vd la c F fa fm fc).toArray.all (·.oneCell')=true:=Qv (by simp[sgV,Value.oneCell'])
def iB.at_{W W':World}{a:Option Addr}{n c:Nat}{l:List Nat}(h:iB W a n c l)(k:l≠[]->∀g,a=some g->W'.heap[g.block]?=W.heap[g.block]?):iB W' a n c l:=by
 refine⟨h.len,h.cap,h.small,fun d=>?_⟩;obtain⟨g,off,b,f⟩:=h.cells d;refine⟨g,off,b,fun j i=>?_⟩;have h1:=f j i;have e:=k d _ b;rw[<- h1];simp only[World.cell?];rw[show W'.heap[g]?=W.heap[g]? from e]
section
variable{w0:World}{M:Nat}{G:Lg}{f1 f3 nm:Nat}{C:Co}{W W':World}
def lh.keep{H:Ho}{hs:Nat->Hd}{D:DataW Unit}(h:lh w0 G H f1 f3 hs nm D W)(a:∀q,q=G.P\/q=G.mb\/q=G.gf\/q=G.gb\/q=G.gr\/q=G.gq\/¬iU G.u q->W'.heap[q]?=W.heap[q]?)(i:W.heap.size<=W'.heap.size)(b:Bl w0 W'):lh w0 G H f1 f3 hs nm D W':=by
 refine⟨h.p.kept (a _ pQ),h.f.same (a _ pQ),h.x.at0 (a _ pQ) b,h.r.keep (a _ pQ),h.rz.up (a _ pQ),h.q.keep (a _ pQ),h.qz.up (a _ pQ),?_,b,by have:=h.hi;omega,h.d,h.bd,h.k.to i fun q g _=>a q (by simp[g])⟩;obtain⟨e,c,j,l⟩:=h.m;exact⟨e,c,(a _ pQ).trans j,l⟩
def mx.low(h:mx w0 M G f1 f3 nm C W){R:Nat}(g:G.u.heap.size<=R)(f:lhU G R)(d:M<R)(h0:w0.heap.size<=R)(a:Below R W W'):mx w0 M G f1 f3 nm C W':=by
 obtain⟨hs,D,h⟩:=h;obtain⟨i,j,k,l,n,p⟩:=f;refine⟨hs,D,h.m.kept (a.block _ d),h.h.keep (fun q c=>a.block q ?_) a.size (h.h.b.trans (a.mono h0)),h.o,h.e⟩;rcases c with rfl|rfl|rfl|rfl|rfl|rfl|c;all_goals first|omega|exact nL (Nat.lt_of_not_le fun e=>c (fS e)) g
def mx.sightW(h:mx w0 M G f1 f3 nm C W)(s:Nat->Value)(c:blk W' M (mcS {G with s:=s} C) 184)(ho:∀q,q≠M->W'.heap[q]?=W.heap[q]?)(d:W'.heap.size=W.heap.size)(a:Bl w0 W->Bl w0 W'):mx w0 M {G with s:=s} f1 f3 nm C W':=by
 obtain⟨hs,D,h⟩:=h;exact⟨hs,D,c,(h.h.other M h.o ho d (a h.h.b) h.e).re s,h.o,h.e⟩
def mx.code(h:mx w0 M G f1 f3 nm C W)(v:Value):mx w0 M {G with s:=fun j=>if j=4 then v else G.s j} f1 f3 nm C (W.setCell ⟨M,16,none⟩ v):=by
 have a:w0.heap.size<=M:=by obtain⟨_,_,q⟩:=h;exact q.o.2.2.2.2.2.2
 exact h.sightW _ (h.m.set 16 v) (fun q c=>Ql W ⟨M,16,none⟩ q _ c) pQ fun b=>b.setCell (by exact a) _
def mx.frame(h:mx w0 M G f1 f3 nm C W)(a b c d e:Value):mx w0 M {G with s:=fun j=>if j=5 then a else if j=6 then b else if j=7 then c else if j=8 then d else if j=9 then e else G.s j} f1 f3 nm C (W.setCells M 17 [a,b,c,d,e]):=by
 have f:w0.heap.size<=M:=by obtain⟨_,_,q⟩:=h;exact q.o.2.2.2.2.2.2
 refine h.sightW _ ?_ (fun q i=>sO _ q i _ _ _) (sZ ..) fun g=>sW f 17 _ g;exact blk.put (mcH G.P C++[G.s 0,G.s 1,G.s 2,G.s 3,G.s 4]) [G.s 5,G.s 6,G.s 7,G.s 8,G.s 9] prL [a,b,c,d,e] (by have:=h.m;exact this) rfl
end
def ofI(A:Co):Co:=if A.te=256/\A.p≠7 then dQ A else A
def Ct{r:Nat->Nat}(w:World)(C:Co)(s:Sl)(bit:Int)(A:0<=C.ct/\C.ct<=200)(B:0<=C.rn/\C.rn<128)(h:hG r C.ho s w):ce 56 #[aG (coL C s).toArray,I J bit] w (cA w r (ofC C bit)):=by
 have f:Hid (fc2 w r r C s C.ho s ((w.alloc (.cells (coL C s).toArray 52)).alloc (.cells zY.toArray 52))):=fc.new2 h;have H:(C.rn==128)=false:=by simp;omega
 have L:=cR A;have M:=cR (n:=C.rn) om;clear h A B;have Y:=f.o.p.cell 1 (I J C.ct) rfl;have D:=f.o.p.cell 7 (bO C.ak) rfl;have Z:=f.o.p.cell 8 (I J C.rn) rfl;have z1:=f.o.p.free 1;have z8:=f.o.p.free 8;obtain⟨x,t⟩:∃b,C.ak=b:=⟨_,rfl⟩
 rw[t]at D;have j:Hid (x=true↔C.ak=true):=by show _↔_;rw[t]
 clear t;obtain⟨b,e,_,fb⟩:=eqB bit 0;obtain⟨c,E,_,u⟩:=eqB (C.ct+1) 11;obtain⟨d,G,_,y⟩:=eqB (C.rn+1) 128;generalize K:((w.alloc (.cells (coL C s).toArray 52)).alloc (.cells zY.toArray 52))=k at*;go_enter func56,ntmps56;cases x
 .have HR:Hid (ofC C bit=C):=by show _=_;unfold ofC;rw[QV (by simpa using j.o)]
  have a:=hI f.o;go_upto_region 2 with fail
  go_wp2_with(first|(refine fc.ld a.o ?_)|(refine fc.rt (C2:=C) (s2:=s) a.o ?_;intro l i g));refine bC results56 (dI i) ?_;rw[HR.o];exact⟨_,_,rfl,g⟩
 .cases b
  .cases c
   .have HR:Hid (ofC C bit={C with ct:=C.ct+1}):=by show _=_;unfold ofC;rw[QW (by simpa using j.o),QV (by simpa using fb.o),QV (by simpa using u.o)]
    have a:=hI ((f.o.set 1 (I J (C.ct+1)) {C with ct:=(C.ct+1)} rfl));go_upto_region 12 with fail
    generalize (World.setCell k ⟨w.heap.size,1,none⟩ (I J (C.ct+1)))=v at*;go_wp2_with(first|(refine fc.ld a.o ?_)|(refine fc.rt (C2:={C with ct:=(C.ct+1)}) (s2:=s) a.o ?_;intro l i g));refine bC results56 (dI i) ?_;rw[HR.o];exact⟨_,_,rfl,g⟩
   .cases d
    .have HR:Hid (ofC C bit={C with ct:=0,rn:=C.rn+1}):=by show _=_;unfold ofC;rw[QW (by simpa using j.o),QV (by simpa using fb.o),QW (by simpa using u.o),QV (by simpa using y.o)]
     have a:=hI ((((f.o.set 1 (I J (C.ct+1)) {C with ct:=(C.ct+1)} rfl).set 1 (I J 0) {C with ct:=0} rfl).set 8 (I J (C.rn+1)) {C with ct:=0,rn:=(C.rn+1)} rfl));go_upto_region 12 with fail
     generalize (World.setCell (World.setCell (World.setCell k ⟨w.heap.size,1,none⟩ (I J (C.ct+1))) ⟨w.heap.size,1,none⟩ (I J 0)) ⟨w.heap.size,8,none⟩ (I J (C.rn+1)))=v at*;go_wp2_with(first|(refine fc.ld a.o ?_)|(refine fc.rt (C2:={C with ct:=0,rn:=(C.rn+1)}) (s2:=s) a.o ?_;intro l i g));refine bC results56 (dI i) ?_;rw[HR.o];exact⟨_,_,rfl,g⟩
    .have HR:Hid (ofC C bit=bkC C):=by show _=_;unfold ofC;rw[QW (by simpa using j.o),QV (by simpa using fb.o),QW (by simpa using u.o),QW (by simpa using y.o)]
     have a:=hI ((((f.o.set 1 (I J (C.ct+1)) {C with ct:=(C.ct+1)} rfl).set 1 (I J 0) {C with ct:=0} rfl).set 8 (I J (C.rn+1)) {C with ct:=0,rn:=(C.rn+1)} rfl));go_upto_region 11 with fail
     generalize (World.setCell (World.setCell (World.setCell k ⟨w.heap.size,1,none⟩ (I J (C.ct+1))) ⟨w.heap.size,1,none⟩ (I J 0)) ⟨w.heap.size,8,none⟩ (I J (C.rn+1)))=v at*;have N:=a.o.p.cell 11 (I J C.ho.c0) rfl;have O:=a.o.p.cell 12 (I J C.ho.c1) rfl;have P:=a.o.p.cell 13 (I J C.ho.c2) rfl;have Q:=a.o.p.cell 14 (I J C.ho.c3) rfl;have R:=a.o.p.cell 15 (sL s.a1 s.n1 s.k1) rfl;have S:=a.o.p.cell 16 (sL s.a2 s.n2 s.k2) rfl;have T:=a.o.p.cell 17 (sL s.a3 s.n3 s.k3) rfl;have U:=a.o.p.cell 18 (sL s.a4 s.n4 s.k4) rfl;have W:=a.o.p.cell 19 (I J C.ho.lo) rfl;have X:=a.o.p.cell 20 (I J C.ho.st) rfl;go_wp2_with(refine fc.rt (C2:=(bkC C)) (s2:=s) a.o ?_;intro l i g);refine bC results56 (dI i) ?_;rw[HR.o];exact⟨_,_,rfl,g⟩
  .have HR:Hid (ofC C bit={C with ct:=0}):=by show _=_;unfold ofC;rw[QW (by simpa using j.o),QW (by simpa using fb.o)]
   have a:=hI ((f.o.set 1 (I J 0) {C with ct:=0} rfl));go_upto_region 5 with fail
   generalize (World.setCell k ⟨w.heap.size,1,none⟩ (I J 0))=v at*;go_wp2_with(first|(refine fc.ld a.o ?_)|(refine fc.rt (C2:={C with ct:=0}) (s2:=s) a.o ?_;intro l i g));refine bC results56 (dI i) ?_;rw[HR.o];exact⟨_,_,rfl,g⟩
section
variable{A X:Co}{bit:Int}
def mF(Y:Co)(n:Int):((aR Y Y.tx n).te=256/\cN Y n=dQ (aR Y Y.tx n))\/((aR Y Y.tx n).te≠256/\cN Y n=aR Y Y.tx n):=by
 unfold cN;split
 .rename_i e;exact qp ⟨e,rfl⟩
 .rename_i e;exact qt ⟨e,rfl⟩
def jt(Y:Co)(b:Bool)(n:Int):(aR Y b n).p=Y.p:=by unfold aR;split<;>rfl
def dA(h:A.te≠256):ofI A=A:=QV fun x=>h x.1
def vI(h:A.te=256)(hp:A.p≠7):ofI A=dQ A:=QW ⟨h,hp⟩
def oN(X:Co)(bit:Int):(wfX X bit).te=X.te/\(wfX X bit).re=X.re/\(wfX X bit).ho=X.ho:=by unfold wfX;split<;>(try split)<;>exact⟨rfl,rfl,rfl⟩
def Dl(X:Co)(bit:Int):(wfX X bit).p=3\/(wfX X bit).p=X.p:=by unfold wfX;split<;>(try split)<;>first|exact qp rfl|exact qt rfl
def B9{a:Co}(h:A.te=a.te/\A.re=a.re/\A.ho=a.ho):dQ A=dQ a:=by unfold dQ;rw[h.1,h.2.1,h.2.2]
def D4(h:X.te=256)(a:X.p≠7):dQ X=ofI (wfX X bit):=by
 have h1:=oN X bit;rw[vI (by rw[h1.1];exact h) (by rcases Dl X bit with e|e<;>rw[e];decide;exact a)];exact(B9 h1).symm
def FC{Y:Co}{n:Int}(c:Y.p≠7):(cN Y n).p=7↔(aR Y Y.tx n).te=256:=by
 rcases mF Y n with⟨a,b⟩|⟨a,b⟩
 .rw[b];exact⟨fun _=>a,fun _=>rfl⟩
 .rw[b,jt];exact⟨fun x=>Qj x c,fun x=>Qj x a⟩
def Bt(h:¬(0<X.ct/\bit=X.lv))(a:0<=X.ct):wfX X bit={X with ct:=1,lv:=bit}:=by
 unfold wfX;by_cases e:bit=X.lv
 .have e0:X.ct=0:=by have:¬0<X.ct:=fun x=>h ⟨x,e⟩;omega
  rw[QW e,e0];rfl
 .rw[QV e]
def An{i:Nat->Nat}(w:World)(C:Co)(s:Sl)(bit:Int)(v:0<=C.ct/\C.ct<=200)(R:0<=C.te/\C.te<256)(hr:0<=C.re/\C.re<=255)(hp:C.p≠7)(a1:hG i C.ho s w):ce 51 #[aG (coL C s).toArray,I J bit] w (cA w i (ofI (wfX (wfO C bit) bit))):=by
 have f:Hid (fc2 w i i C s C.ho s ((w.alloc (.cells (coL C s).toArray 52)).alloc (.cells zY.toArray 52))):=fc.new2 a1;have B:Hid (∀W,ce 107 #[aG (coL {C with ow:=false} s).toArray,I J 8] W fun o w'=>o=rT (aG (coL (cN {C with ow:=false} 8) s).toArray)/\Bl W w'):=fun W=>j4 W {C with ow:=false} s 8 (by decide) R hr;have l:=ar (qB v (qB R hp));clear a1 v R hr hp;have Y:=f.o.p.cell 5 (bO C.ow) rfl;have z5:=f.o.p.free 5;obtain⟨ow,O⟩:∃b,C.ow=b:=⟨_,rfl⟩
 rw[O]at Y;have Z:=ar O;clear O;obtain⟨b,e,_,fb⟩:=eqB bit 0;generalize a2:((w.alloc (.cells (coL C s).toArray 52)).alloc (.cells zY.toArray 52))=W0 at*;go_enter func51,ntmps51;go_upto_region 1 with fail
 try rw[a2]
 go_cut [10] (fun x r=>x=bO (ow&&b)/\r=W0);case first=>
  cases ow<;>cases b<;>(
   go_wp2_with fail;go_meet
   case rel=>exact⟨rfl,rfl⟩)
 case rest=>
 obtain⟨rfl,y⟩:=hcut;have y:=y.symm;subst y;obtain⟨c,M⟩:∃c,(ow&&b)=c:=⟨_,rfl⟩
 rw[M];have t:Hid (wfO C bit=if c=true then aR {C with ow:=false} C.tx 8 else C):=by
  have v:(C.ow=true/\bit=0)↔c=true:=by rw[<- M,Z.o,<- fb.o];cases ow<;>cases b<;>simp
  show _=_;unfold wfO;simp only[v]
 clear M e fb Z a2;go_upto_if 10 with fail
 go_cut [] (fun r=>Hid (fc2 w i i (wfO C bit) s (wfO C bit).ho s r)/\Hid ((wfO C bit).te≠256));case first=>
  cases c
  .go_wp2_with fail;go_meet;case rel=>rw[t.o];exact⟨f.o,by have:=l.o.2.1.2;exact fun x=>by rw[show(if false=true then aR {C with ow:=false} C.tx 8 else C)=C from rfl]at x;omega⟩
  .have HV1:=hI ((f.o.set 5 (bO false) {C with ow:=false} rfl));go_upto_region 3 with fail
   generalize (World.setCell W0 ⟨w.heap.size,5,nn⟩ (bO false))=w1 at*;go_wp2_with(refine fc.ld HV1.o ?_);refine(B.o _).mono ?_;rintro o w8 ⟨rfl,a3⟩;have a0:=hI (HV1.o.below a3);clear a3 HV1;go_upto_region 4 with(refine fc.sv (C2:=(cN {C with ow:=false} 8)) (s2:=s) a0.o ?_;intro U g)
   simp only[Act.put];have K:Hid ((cN {C with ow:=false} 8).p=7↔(aR {C with ow:=false} C.tx 8).te=256):=FC l.o.2.2;have H:=ar (mF {C with ow:=false} 8);have L:=hI (rm {C with ow:=false} 8);obtain⟨X,h⟩:∃X,cN {C with ow:=false} 8=X:=⟨_,rfl⟩
   rw[h]at g K H L;clear h a0 B;have y0:=g.o.p.cell 0 (I J X.p) rfl;obtain⟨p7,e7,_,f7⟩:=eqB X.p 7;cases p7
   .go_wp2_with fail;go_meet;case rel=>
     have n:¬(aR {C with ow:=false} C.tx 8).te=256:=fun x=>by have:=f7.o.2 (K.o.2 x);cases this
     have h:X=aR {C with ow:=false} C.tx 8:=by rcases H.o with⟨a,_⟩|⟨_,a⟩;exact Qj a n;exact a
     rw[t.o];refine⟨?_,n⟩;show fc2 w i i (aR {C with ow:=false} C.tx 8) s (aR {C with ow:=false} C.tx 8).ho s _;rw[<- h,L.o];exact g.o
   .have HR:Hid (X=ofI (wfX (wfO C bit) bit)):=by
     have n:=K.o.1 (f7.o.1 rfl);have h:X=dQ (aR {C with ow:=false} C.tx 8):=by rcases H.o with⟨_,a⟩|⟨a,_⟩;exact a;exact Qj n a
     show _=_;rw[h,t.o];exact D4 n (by show(aR {C with ow:=false} C.tx 8).p≠7;rw[jt];exact l.o.2.2)
    rw[<- L.o]at g;go_upto_region 5 with fail
    go_wp2_with(first|(refine fc.ld g.o ?_)|(refine fc.rt (C2:=X) (s2:=s) g.o ?_;intro T k j));refine bC results51 (dI k) ?_;rw[<- HR.o];exact⟨_,_,rfl,j⟩
 case rest=>
 have D:Hid (0<=(wfO C bit).ct/\(wfO C bit).ct<=200):=by rw[yq];exact l.o.1
 have G:Hid (ofI (wfX (wfO C bit) bit)=wfX (wfO C bit) bit):=dA (by rw[(oN _ _).1];exact hcut.2.o);have Q:=hcut.1;obtain⟨X,h⟩:∃X,wfO C bit=X:=⟨_,rfl⟩
 have E:=ar h;rw[h]at Q D;clear hcut h t B l f Y z5;have f:=Q;clear Q;have y:=cR D.o;have y0:=f.o.p.cell 0 (I J X.p) rfl;have y1:=f.o.p.cell 1 (I J X.ct) rfl;have y2:=f.o.p.cell 2 (I J X.lv) rfl;have y3:=f.o.p.cell 3 (bO X.wk) rfl;have Y:=f.o.p.cell 5 (bO X.ow) rfl;have z0:=f.o.p.free 0;have z1:=f.o.p.free 1;have z2:=f.o.p.free 2;have z3:=f.o.p.free 3;have z5:=f.o.p.free 5;obtain⟨u,e0,f0⟩:=ltB 0 X.ct;obtain⟨bl,el,_,fl⟩:=eqB bit X.lv;obtain⟨d,ed,_,fd⟩:=eqB (X.ct+1) 6;go_upto_region 6 with fail
 go_cut [26] (fun x r=>x=bO (u&&bl)/\r=wc);case first=>
  cases u<;>cases bl<;>(
   go_wp2_with fail;go_meet
   case rel=>exact⟨rfl,rfl⟩)
 case rest=>
 obtain⟨rfl,S⟩:=hcut;have S:=S.symm;subst S;obtain⟨m,N⟩:∃m,(u&&bl)=m:=⟨_,rfl⟩
 rw[N];have P:Hid (m=true↔(0<X.ct/\bit=X.lv)):=by show _↔_;rw[<- N,<- f0.o,<- fl.o];cases u<;>cases bl<;>simp
 clear N e0 el f0 fl;cases m
 .have HR:=hI (Bt (by simpa using P.o) D.o.1);have g:=hI (((f.o.set 1 (I J 1) {X with ct:=1} rfl).set 2 (I J bit) {X with ct:=1,lv:=bit} rfl));go_upto_region 16 with fail
  generalize (World.setCell (World.setCell wc ⟨w.heap.size,1,nn⟩ (I J 1)) ⟨w.heap.size,2,nn⟩ (I J bit))=U at*;go_wp2_with(first|(refine fc.ld g.o ?_)|(refine fc.rt (C2:={X with ct:=1,lv:=bit}) (s2:=s) g.o ?_;intro T k j));refine bC results51 (dI k) ?_;rw[G.o,E.o,HR.o];exact⟨_,_,rfl,j⟩
 .cases d
  .have HR:Hid (wfX X bit={X with ct:=X.ct+1,lv:=bit}):=by show _=_;unfold wfX;rw[QW (P.o.1 rfl).2,QV (by simpa using fd.o)]
   have g:=hI (((f.o.set 1 (I J (X.ct+1)) {X with ct:=(X.ct+1)} rfl).set 2 (I J bit) {X with ct:=(X.ct+1),lv:=bit} rfl));go_upto_region 16 with fail
   generalize (World.setCell (World.setCell wc ⟨w.heap.size,1,nn⟩ (I J (X.ct+1))) ⟨w.heap.size,2,nn⟩ (I J bit))=U at*;go_wp2_with(first|(refine fc.ld g.o ?_)|(refine fc.rt (C2:={X with ct:=(X.ct+1),lv:=bit}) (s2:=s) g.o ?_;intro T k j));refine bC results51 (dI k) ?_;rw[G.o,E.o,HR.o];exact⟨_,_,rfl,j⟩
  .have HR:Hid (wfX X bit={X with p:=3,ct:=0,lv:=0,wk:=false,ow:=false}):=by show _=_;unfold wfX;rw[QW (P.o.1 rfl).2,QW (by simpa using fd.o)]
   have g:=hI ((((((((f.o.set 1 (I J (X.ct+1)) {X with ct:=(X.ct+1)} rfl).set 2 (I J bit) {X with ct:=(X.ct+1),lv:=bit} rfl).set 0 (I J 3) {X with ct:=(X.ct+1),lv:=bit,p:=3} rfl).set 1 (I J 0) {X with lv:=bit,p:=3,ct:=0} rfl).set 2 (I J 0) {X with p:=3,ct:=0,lv:=0} rfl).set 3 (bO false) {X with p:=3,ct:=0,lv:=0,wk:=false} rfl).set 5 (bO false) {X with p:=3,ct:=0,lv:=0,wk:=false,ow:=false} rfl));go_upto_region 16 with fail
   generalize (World.setCell (World.setCell (World.setCell (World.setCell (World.setCell (World.setCell (World.setCell wc ⟨w.heap.size,1,nn⟩ (I J (X.ct+1))) ⟨w.heap.size,2,nn⟩ (I J bit)) ⟨w.heap.size,0,nn⟩ (I J 3)) ⟨w.heap.size,1,nn⟩ (I J 0)) ⟨w.heap.size,2,nn⟩ (I J 0)) ⟨w.heap.size,3,nn⟩ (bO false)) ⟨w.heap.size,5,nn⟩ (bO false))=U at*;go_wp2_with(first|(refine fc.ld g.o ?_)|(refine fc.rt (C2:={X with p:=3,ct:=0,lv:=0,wk:=false,ow:=false}) (s2:=s) g.o ?_;intro T k j));refine bC results51 (dI k) ?_;rw[G.o,E.o,HR.o];exact⟨_,_,rfl,j⟩
end
def tq{X:Co}{n:Int}(c:X.p≠7):cN X n=ofI (aR X X.tx n):=by
 rcases mF X n with⟨a,b⟩|⟨a,b⟩
 .rw[b,vI a (by rw[jt];exact c)]
 .rw[b,dA a]
def Dd(C:Co)(b:Bool)(n m k:Int):{aR {C with ct:=m} b n with ct:=k}=aR {C with ct:=k} b n:=by unfold aR;split<;>rfl
def Ao{k:Nat->Nat}(w:World)(C:Co)(s:Sl)(bit:Int)(hc:0<=C.ct/\C.ct<=200)(S:0<=C.te/\C.te<256)(hr:0<=C.re/\C.re<=255)(hp:C.p≠7)(h:hG k C.ho s w):ce 53 #[aG (coL C s).toArray,I J bit] w (cA w k (ofI (waC C bit))):=by
 have f:Hid (fc2 w k k C s C.ho s ((w.alloc (.cells (coL C s).toArray 52)).alloc (.cells zY.toArray 52))):=fc.new2 h;have a1:Hid (∀W X,X.te=C.te->X.re=C.re->ce 107 #[aG (coL X s).toArray,I J 8] W fun o w'=>o=rT (aG (coL (cN X 8) s).toArray)/\Bl W w'):=fun W X M e2=>j4 W X s 8 (by decide) (by rw[M];exact S) (by rw[e2];exact hr);have y:=ar (qB S hp);have hw:=cR hc;clear h hc S hr hp;have y0:=f.o.p.cell 0 (I J C.p) rfl;have y1:=f.o.p.cell 1 (I J C.ct) rfl;have u:=f.o.p.cell 4 (bO C.ov) rfl;have v:=f.o.p.cell 6 (bO C.tx) rfl;have z0:=f.o.p.free 0;have z1:=f.o.p.free 1;obtain⟨tx,H⟩:∃b,C.tx=b:=⟨_,rfl⟩
 obtain⟨ov,G⟩:∃b,C.ov=b:=⟨_,rfl⟩
 rw[H]at v;rw[G]at u;obtain⟨b,e,_,fb⟩:=eqB bit 1;obtain⟨d,M,_,Q⟩:=eqB (C.ct+1) 1;obtain⟨c,e8,_,f8⟩:=eqB (C.ct+1) 8;obtain⟨a,a4,_,R⟩:=eqB (C.ct+1) 16;have B:Hid (waC C bit=if b=true then{C with p:=4,ct:=1}else if((d&& !tx&& !ov)||c)=true then aR {C with ct:=C.ct+1} C.tx 8 else if a=true then{aR {C with ct:=C.ct+1} C.tx 8 with ct:=8}else{C with ct:=C.ct+1}):=by
  show _=_;have h1:(((d&& !tx&& !ov)||c)=true)↔((C.ct+1=1/\C.tx=false/\C.ov=false)\/C.ct+1=8):=by rw[<- Q.o,<- f8.o,H,G];cases d<;>cases tx<;>cases ov<;>cases c<;>simp
  unfold waC;simp only[h1,fb.o,R.o]
 have L:Hid (a=true->c=false/\d=false):=fun x=>by
  have h1:=R.o.1 x;refine⟨?_,?_⟩
  .cases c
   .rfl
   .have:=f8.o.1 rfl;omega
  .cases d
   .rfl
   .have:=Q.o.1 rfl;omega
 have E:=ar (qB H G);clear fb Q f8 R H G;generalize a5:((w.alloc (.cells (coL C s).toArray 52)).alloc (.cells zY.toArray 52))=W0 at*;go_enter func53,ntmps53;cases b;case true=>
  have D:Hid (ofI (waC C bit)={C with p:=4,ct:=1}):=by
   show _=_;rw[B.o];exact dA (by have:=y.o.1.2;intro x;have x:C.te=256:=x;omega)
  have j:=hI (((f.o.set 0 (I J 4) {C with p:=4} rfl).set 1 (I J 1) {C with p:=4,ct:=1} rfl));go_upto_region 4 with fail
  generalize (World.setCell (World.setCell W0 ⟨w.heap.size,0,none⟩ (I J 4)) ⟨w.heap.size,1,none⟩ (I J 1))=w9 at*;go_wp2_with(first|(refine fc.ld j.o ?_)|(refine fc.rt (C2:={C with p:=4,ct:=1}) (s2:=s) j.o ?_;intro a0 r l));refine bC results53 (dI r) ?_;rw[D.o];exact⟨_,_,rfl,l⟩
 case false=>
 go_upto_if 18 with fail
 go_cut [] (fun U=>Hid (fc2 w k k (if a=true then{C with ct:=8}else{C with ct:=C.ct+1}) s C.ho s U));case first=>
  cases a
  .have HV1:=hI ((f.o.set 1 (I J (C.ct+1)) {C with ct:=(C.ct+1)} rfl));go_wp2_with fail;go_meet;case rel=>exact HV1.o
  .have HV1:=hI (((f.o.set 1 (I J (C.ct+1)) {C with ct:=(C.ct+1)} rfl).set 1 (I J 8) {C with ct:=8} rfl));go_wp2_with fail;go_meet;case rel=>exact HV1.o
 case rest=>
 have g:=hcut;have i:Hid (((if a=true then{C with ct:=8}else{C with ct:=C.ct+1})).te=C.te/\((if a=true then{C with ct:=8}else{C with ct:=C.ct+1})).re=C.re/\((if a=true then{C with ct:=8}else{C with ct:=C.ct+1})).ho=C.ho/\((if a=true then{C with ct:=8}else{C with ct:=C.ct+1})).tx=C.tx/\((if a=true then{C with ct:=8}else{C with ct:=C.ct+1})).p=C.p/\((if a=true then{C with ct:=8}else{C with ct:=C.ct+1})).ov=C.ov):=by cases a<;>exact⟨rfl,rfl,rfl,rfl,rfl,rfl⟩
 clear hcut y0 y1 u v z0 z1;obtain⟨X,N⟩:∃X,(if a=true then{C with ct:=8}else{C with ct:=C.ct+1})=X:=⟨_,rfl⟩
 rw[N]at g i;have A:=ar N;clear N f;have u:=g.o.p.cell 4 (bO X.ov) rfl;have v:=g.o.p.cell 6 (bO X.tx) rfl;rw[i.o.2.2.2.2.2,E.o.2]at u;rw[i.o.2.2.2.1,E.o.1]at v;go_upto_region 9 with fail
 go_cut [39] (fun x U=>x=bO (c||a||(d&& !tx&& !ov))/\U=wc);case first=>
  clear B L E i A;have hh:(c=true)\/(c=false/\a=true)\/(c=false/\a=false/\d=true/\tx=true)\/(c=false/\a=false/\d=true/\tx=false/\ov=true)\/(c=false/\a=false/\d=true/\tx=false/\ov=false)\/(c=false/\a=false/\d=false):=by cases c<;>cases a<;>cases d<;>cases tx<;>cases ov<;>simp
  rcases hh with rfl|⟨rfl,rfl⟩|⟨rfl,rfl,rfl,rfl⟩|⟨rfl,rfl,rfl,rfl,rfl⟩|⟨rfl,rfl,rfl,rfl,rfl⟩|⟨rfl,rfl,rfl⟩<;>(
   go_wp2_with fail;go_meet
   case rel=>exact⟨rfl,rfl⟩)
 case rest=>
 obtain⟨rfl,T⟩:=hcut;have T:=T.symm;subst T;obtain⟨m,O⟩:∃m,(c||a||(d&& !tx&& !ov))=m:=⟨_,rfl⟩
 rw[O];have Y:=ar O;rw[<- i.o.2.2.1]at g;have D:Hid (ofI (waC C bit)=if m=true then cN X 8 else X):=by
  show _=_;have h8:=L.o;rw[B.o,<- Y.o];by_cases t:a=true
  .have h:=h8 t;rw[t,h.1,h.2];have P:X={C with ct:=8}:=by rw[<- A.o,QW t]
   show ofI {aR {C with ct:=C.ct+1} C.tx 8 with ct:=8}=cN X 8;rw[Dd,P,tq (X:={C with ct:=8}) (n:=8) y.o.2]
  .have h16':a=false:=by simpa using t
   have P:X={C with ct:=C.ct+1}:=by rw[<- A.o,QV t]
   rw[h16',P,tq (X:={C with ct:=C.ct+1}) (n:=8) y.o.2];by_cases K:((d&& !tx&& !ov)||c)=true
   .have hq2:(c||false||(d&& !tx&& !ov))=true:=by rw[Bool.or_false,Bool.or_comm];exact K
    rw[QV (by decide),QW K,QW hq2]
   .have hq2:¬(c||false||(d&& !tx&& !ov))=true:=by rw[Bool.or_false,Bool.or_comm];exact K
    rw[QV (by decide),QV K,QV (by decide),QV hq2];exact dA (by have:=y.o.1.2;intro x;have x:C.te=256:=x;omega)
 clear O Y B L E A u v M e8 a4;cases m;case false=>
  go_upto_region 11 with fail
  go_wp2_with(first|(refine fc.ld g.o ?_)|(refine fc.rt (C2:=X) (s2:=s) g.o ?_;intro a0 r l));refine bC results53 (dI r) ?_;rw[D.o];exact⟨_,_,rfl,l⟩
 case true=>
  go_wp2_with(refine fc.ld g.o ?_);refine(a1.o _ X i.o.1 i.o.2.1).mono ?_;rintro o w8 ⟨rfl,Z⟩;have a2:=hI (g.o.below Z);clear Z g;go_upto_region 11 with(refine fc.sv (C2:=(cN X 8)) (s2:=s) a2.o ?_;intro w9 j)
  simp only[Act.put];have a3:=hI ((rm X 8).symm);rw[a3.o]at j;go_wp2_with(first|(refine fc.ld j.o ?_)|(refine fc.rt (C2:=(cN X 8)) (s2:=s) j.o ?_;intro a0 r l));refine bC results53 (dI r) ?_;rw[D.o];exact⟨_,_,rfl,l⟩
def Cu{a:Nat->Nat}(w:World)(C:Co)(s:Sl)(bit r:Int)(a3:bit=0\/bit=1)(hc:0<=C.ct/\C.ct<=2)(ht:C.te≠256)(hp:C.p≠7)(hb:bdQ 1000 C.ho)(a5:C.ho.bx.length<=8)(a4:dN C.ho.bx r)(a0:hG a C.ho s w):ce 55 #[aG (coL C s).toArray,I J bit] w (cA w a (gpC C bit r)):=by
 have t:Hid (fc2 w a a C s C.ho s ((w.alloc (.cells (coL C s).toArray 52)).alloc (.cells zY.toArray 52))):=fc.new2 a0;have hw:=cR (n:=C.ct) om;obtain⟨z,N⟩:∃z,esZ C.p C.te C.re=z:=⟨_,rfl⟩
 have Q:Hid (∀W,ce 50 #[aG (coL C s).toArray] W fun o w'=>o=rT (I J z)/\Bl W w'):=fun W=>by rw[<- N];exact fA W C s
 obtain⟨G,e1,_,_⟩:=eqB z 1;obtain⟨tx,M⟩:∃b,C.tx=b:=⟨_,rfl⟩
 have R:Hid (msB C=(tx&&G)):=by
  show _=_;unfold msB;rw[M,<- e1,<- N];unfold esZ stZ;rw[QV hp,QV ht]
 have S:Hid (∀W a,hG a C.ho s W->ce 54 #[aG (coL C s).toArray] W (cA W a (ovC C))):=fun W a j=>lY j hb
 have P:Hid (∀W a,hG a C.ho s W->ce 110 #[aG (hoL C.ho s).toArray] W fun o w'=>o=rT (I J r)/\Bl W w'):=fun W a j=>by
  rw[<- gC];refine(ur W C.ho s j.is.bx (by rw[j.n2];exact a5)).mono ?_;rintro o w' ⟨r',rfl,h1,h2⟩;exact⟨by rw[oD h1 a4],h2⟩
 have T:Hid (∀W a,hG a C.ho s W->ce 111 #[aG (hoL C.ho s).toArray,I J r] W (hA W a (cv C.ho r))):=fun W a j=>Ea j r om;have v:=t.o.p.cell 6 (bO C.tx) rfl;rw[M]at v;obtain⟨b,e,_,fb⟩:=eqB bit 1;obtain⟨c3,e3,f3⟩:=ltB (C.ct+1) 3;obtain⟨c2,e2,f2⟩:=ltB C.ct 2;have a6:Hid (b=false->bit=0):=fun x=>by rcases a3 with h0|h0;exact h0;have:=fb.o.2 h0;rw[x]at this;cases this
 have HC:=ar hc;clear a0 N M a3 hc ht hp hb a5 a4;go_enter func55,ntmps55;go_upto_region 1 with fail
 go_cut [5] (fun x wx=>x=bO (tx&&G)/\Hid (fc2 w a a C s C.ho s wx));case first=>
  cases tx
  .go_wp2_with fail;go_meet;case rel=>exact⟨rfl,t.o⟩
  .go_wp2_with (refine an (by first|rfl|(simp[Region.wanted,yielded];done)) 52 (.tmp 2) rfl w.heap.size 0 rfl (coL C s) _ t.o.p.load underlying52 rfl (aV _ _) ?_);refine(Q.o _).mono ?_;rintro o w1 ⟨rfl,a1⟩;have c:=hI (t.o.below a1)
   clear a1;cases G<;>(
    go_wp2_with fail;go_meet
    case rel=>exact⟨rfl,c.o⟩)
 case rest=>
 obtain⟨rfl,c⟩:=hcut;rw[<- R.o];clear t v Q R e1;obtain⟨B,L⟩:∃b,msB C=b:=⟨_,rfl⟩
 rw[L];have y:=ar L;clear L;have y0:=c.o.p.cell 0 (I J C.p) rfl;have y1:=c.o.p.cell 1 (I J C.ct) rfl;have v:=c.o.p.cell 6 (bO C.tx) rfl;have z0:=c.o.p.free 0;have z1:=c.o.p.free 1;have z6:=c.o.p.free 6;cases b;case true=>
  have h1:=fb.o.1 rfl;cases c3;case true=>
   have d:Hid (gpC C bit r={C with ct:=C.ct+1}):=by show _=_;unfold gpC;rw[h1,QV (by decide),QV (by have:=f3.o.1 rfl;omega)]
   clear h1;have i:=hI ((c.o.set 1 (I J (C.ct+1)) {C with ct:=(C.ct+1)} rfl));go_upto_region 5 with fail
   generalize (World.setCell wc ⟨w.heap.size,1,nn⟩ (I J (C.ct+1)))=w9 at*;go_wp2_with(first|(refine fc.ld i.o ?_)|(refine fc.rt (C2:={C with ct:=(C.ct+1)}) (s2:=s) i.o ?_;intro k h f));refine bC results55 (dI h) ?_;rw[d.o];exact⟨_,_,rfl,f⟩
  case false=>
  have d:Hid (gpC C bit r=if B=true then{C with ct:=0,p:=6}else{C with ct:=0,p:=0,tx:=false}):=by
   show _=_;have h3:C.ct+1=3:=by
    have h4:¬C.ct+1<3:=fun x=>by have:=f3.o.2 x;cases this
    have:=HC.o;omega
   unfold gpC;rw[h1,QV (by decide),QW h3];unfold lgC;rw[show msB {C with ct:=C.ct+1}=B from y.o]
  clear h1;cases B
  .have i:=hI (((((c.o.set 1 (I J (C.ct+1)) {C with ct:=(C.ct+1)} rfl).set 1 (I J 0) {C with ct:=0} rfl).set 0 (I J 0) {C with ct:=0,p:=0} rfl).set 6 (bO false) {C with ct:=0,p:=0,tx:=false} rfl));go_upto_region 11 with fail
   generalize (World.setCell (World.setCell (World.setCell (World.setCell wc ⟨w.heap.size,1,nn⟩ (I J (C.ct+1))) ⟨w.heap.size,1,nn⟩ (I J 0)) ⟨w.heap.size,0,nn⟩ (I J 0)) ⟨w.heap.size,6,nn⟩ (bO false))=w9 at*;go_wp2_with(first|(refine fc.ld i.o ?_)|(refine fc.rt (C2:={C with ct:=0,p:=0,tx:=false}) (s2:=s) i.o ?_;intro k h f));refine bC results55 (dI h) ?_;rw[d.o];exact⟨_,_,rfl,f⟩
  .have i:=hI (((((c.o.set 1 (I J (C.ct+1)) {C with ct:=(C.ct+1)} rfl).set 1 (I J 0) {C with ct:=0} rfl).set 0 (I J 0) {C with ct:=0,p:=0} rfl).set 0 (I J 6) {C with ct:=0,p:=6} rfl));go_upto_region 11 with fail
   generalize (World.setCell (World.setCell (World.setCell (World.setCell wc ⟨w.heap.size,1,nn⟩ (I J (C.ct+1))) ⟨w.heap.size,1,nn⟩ (I J 0)) ⟨w.heap.size,0,nn⟩ (I J 0)) ⟨w.heap.size,0,nn⟩ (I J 6))=w9 at*;go_wp2_with(first|(refine fc.ld i.o ?_)|(refine fc.rt (C2:={C with ct:=0,p:=6}) (s2:=s) i.o ?_;intro k h f));refine bC results55 (dI h) ?_;rw[d.o];exact⟨_,_,rfl,f⟩
 case false=>
 have h0:=a6.o rfl;cases c2;case true=>
  have d:Hid (gpC C bit r=ovC C):=by show _=_;unfold gpC;rw[QW h0,QW (f2.o.1 rfl)]
  clear h0;go_upto_region 13 with fail
  go_wp2_with(refine fc.ld c.o ?_);refine(S.o _ _ c.o.g).mono ?_;rintro o w2 ⟨s2,a9,rfl,l⟩;have a7:=hI (c.o.call l.o);clear l c;go_wp2_with(refine fc.rt (C2:=(ovC C)) (s2:=s2) a7.o ?_;intro k h f);refine bC results55 (dI h) ?_;rw[d.o];exact⟨_,_,rfl,f⟩
 case false=>
 have E:Hid (gpC C bit r=jnC C r):=by show _=_;unfold gpC;rw[QW h0,QV (fun x=>by have:=f2.o.2 x;cases this)]
 have A:=hI (((c.o.set 1 (I J 0) {C with ct:=0} rfl).set 0 (I J 1) {C with ct:=0,p:=1} rfl));clear h0;go_upto_region 16 with fail
 generalize (World.setCell (World.setCell wc ⟨w.heap.size,1,nn⟩ (I J 0)) ⟨w.heap.size,0,nn⟩ (I J 1))=w3 at*;go_wp2_with(refine fc.lh A.o ?_);refine(P.o _ _ A.o.g).mono ?_;rintro o O ⟨rfl,a2⟩;have u:=hI (A.o.below a2);clear a2 A y0 y1 v z0 z1 z6 P S;have v:=u.o.p.cell 6 (bO C.tx) rfl;have z6:=u.o.p.free 6;obtain⟨br,K⟩:∃b,decide (0<=r)=b:=⟨_,rfl⟩
 cases br
 .have HV5:=hI (u.o.set 6 (bO false) {C with ct:=0,p:=1,tx:=false} rfl);have d:Hid (jnC C r={C with p:=1,ct:=0,tx:=false}):=by show _=_;unfold jnC;rw[K,y.o];rfl
  go_upto_region 20 with fail
  generalize (World.setCell O ⟨w.heap.size,6,nn⟩ (bO false))=w5 at*;go_wp2_with(first|(refine fc.ld HV5.o ?_)|(refine fc.rt (C2:={C with ct:=0,p:=1,tx:=false}) (s2:=s) HV5.o ?_;intro k h f));refine bC results55 (dI h) ?_;rw[E.o,d.o];exact⟨_,_,rfl,f⟩
 .cases B
  .have HV5:=hI (u.o.set 6 (bO true) {C with ct:=0,p:=1,tx:=true} rfl);have d:Hid (jnC C r={C with p:=1,ct:=0,tx:=true,ho:=cv C.ho r}):=by show _=_;unfold jnC;rw[K,y.o];rfl
   go_upto_region 19 with fail
   generalize (World.setCell O ⟨w.heap.size,6,nn⟩ (bO true))=w5 at*;go_wp2_with(refine fc.lh HV5.o ?_);refine(T.o _ _ HV5.o.g).mono ?_;rintro o w6 ⟨D,a8,rfl,l⟩;have U:=hI (HV5.o.call l.o);clear l HV5 T;go_upto_region 20 with(refine fc.sh (H2:=(cv C.ho r)) (s2:=D) U.o ?_;intro w7 X)
   simp only[Act.put];obtain⟨Z,H⟩:∃Z:Co,Z={C with p:=1,ct:=0,tx:=true,ho:=cv C.ho r}:=⟨_,rfl⟩
   have Y:Hid (fc2 w a a8 Z D Z.ho D w7):=by rw[H];exact X.o
   rw[<- H]at d;clear X U H;go_wp2_with(first|(refine fc.ld Y.o ?_)|(refine fc.rt (C2:=Z) (s2:=D) Y.o ?_;intro k h f));refine bC results55 (dI h) ?_;rw[E.o,d.o];exact⟨_,_,rfl,f⟩
  .have HV5:=hI (u.o.set 6 (bO false) {C with ct:=0,p:=1,tx:=false} rfl);have d:Hid (jnC C r={C with p:=1,ct:=0,tx:=false}):=by show _=_;unfold jnC;rw[K,y.o];rfl
   go_upto_region 20 with fail
   generalize (World.setCell O ⟨w.heap.size,6,nn⟩ (bO false))=w5 at*;go_wp2_with(first|(refine fc.ld HV5.o ?_)|(refine fc.rt (C2:={C with ct:=0,p:=1,tx:=false}) (s2:=s) HV5.o ?_;intro k h f));refine bC results55 (dI h) ?_;rw[E.o,d.o];exact⟨_,_,rfl,f⟩
section
variable{C:Co}
def BK(C A:Co)(h:A.p=7->A.te=256):tlC (ofI A) (stZ C.te C.re)=au C A:=by
 have d:∀X:Co,(X.p=7↔X.te=256)->∀b,tlC X b=dB X b:=fun X c b=>by
  unfold tlC dB esZ stZ;by_cases e:X.te=256
  .rw[QW (c.2 e),QW e]
  .rw[QV (fun x=>e (c.1 x)),QV e]
 unfold au;show tlC (ofI A) _=dB (ofI A) _;refine d _ ?_ _;unfold ofI;split
 .rename_i e;exact⟨fun _=>e.1,fun _=>rfl⟩
 .rename_i e;refine⟨h,fun x=>?_⟩;by_cases a:A.p=7
  .exact a
  .exact Qj ⟨x,a⟩ e
def yn(C:Co)(b:Int):(wfO C b).p=C.p:=by unfold wfO;split;exact jt _ _ _;rfl
def yo(C:Co)(b:Int):(wfO C b).ho=C.ho:=by unfold wfO;split;unfold aR;split<;>rfl;rfl
def vM(C:Co):(lgC C).p≠7/\(lgC C).ho=C.ho/\(lgC C).te=C.te:=by unfold lgC;split;exact⟨by show(6:Int)≠7;decide,rfl,rfl⟩;exact⟨by show(0:Int)≠7;decide,rfl,rfl⟩
def vP(C:Co)(r:Int):(jnC C r).p≠7/\((jnC C r).ho=cv C.ho r\/(jnC C r).ho=C.ho)/\(jnC C r).te=C.te:=by unfold jnC;split;exact⟨by show(1:Int)≠7;decide,qp rfl,rfl⟩;exact⟨by show(1:Int)≠7;decide,qt rfl,rfl⟩
def mj(h:C.p≠7)(b r:Int):(gpC C b r).p≠7/\(gpC C b r).te=C.te:=by
 unfold gpC;split
 .split
  .exact⟨by show(2:Int)≠7;decide,rfl⟩
  .exact⟨(vP C r).1,(vP C r).2.2⟩
 .split
  .exact⟨(vM _).1,(vM _).2.2⟩
  .exact⟨h,rfl⟩
def Ei(h:C.p≠7)(b r:Int):(aJ C b r).p≠7:=by
 unfold aJ;split
 .unfold idC;split
  .show (1:Int)≠7;decide
  .exact h
 split
 .unfold flC;split
  .rcases Dl (wfO C b) b with e|e
   .rw[e];decide
   .rw[e,yn];exact h
  split
  .show (2:Int)≠7;decide
  split
  .show (3:Int)≠7;decide
  .exact h
 split
 .unfold waC;split
  .show (4:Int)≠7;decide
  split
  .rw[jt];exact h
  split
  .show (aR _ _ _).p≠7;rw[jt];exact h
  .exact h
 split
 .unfold dlC;split
  .split
   .show (2:Int)≠7;decide
   .show (2:Int)≠7;decide
  .split
   .show (5:Int)≠7;decide
   .exact h
 split
 .exact (mj h b r).1
 split
 .unfold suC;split
  .show (1:Int)≠7;decide
  split
  .show (0:Int)≠7;decide
  .exact h
 first|exact h|(split<;>first|(rename_i e;exact Qj e h)|exact h)
def Dz(b:Int)(h:C.p=7):((ofC C b).p=7/\(ofC C b).te=C.te)\/ofC C b=bkC C:=by
 unfold ofC;split
 .split
  .exact qp ⟨h,rfl⟩
  split
  .split
   .exact qt rfl
   .exact qp ⟨h,rfl⟩
  .exact qp ⟨h,rfl⟩
 .exact qp ⟨h,rfl⟩
def BJ(h:C.p=7)(b r:Int):aJ C b r=ofC C b:=by unfold aJ;simp[h]
def Gk(c:cH C)(b r:Int)(h:(aJ C b r).p=7):(aJ C b r).te=256:=by
 by_cases e:C.p=7
 .rw[BJ e]at h ⊢;rcases Dz b e with⟨_,a⟩|a
  .rw[a];exact c.m.of.1 e
  .rw[a]at h;cases h
 .exact Qj h (Ei e b r)
def Ca(b:Int)(h:C.p=7):ofI (ofC C b)=ofC C b:=by
 unfold ofI;rw[QV];rintro⟨h1,c⟩;rcases Dz b h with⟨a,_⟩|a
 .exact c a
 .rw[a]at h1;cases h1
def bdQ.take{n:Nat}{H:Ho}(h:bdQ n H)(r:Int):bdQ n (cv H r):=⟨h.q,h.lo⟩
def yS(h:bdQ 900 C.ho)(b r:Int):bdQ 902 (aJ C b r).ho:=by
 have h0:bdQ 902 C.ho:=h.up (by decide)
 have c:∀k,bdQ 902 (ba C k).ho:=fun k=>by
  have e:(ba C k).ho=dR C k:=by show(aR (eM C k) C.tx _).ho=_;unfold aR;split<;>rfl
  rw[e];exact(h.post _).rel false
 have ho:bdQ 902 (ovC C).ho:=(h.post _).up (by decide)
 have a:∀X n,X.ho=C.ho->bdQ 902 (aR X C.tx n).ho:=fun X n e=>by
  have:(aR X C.tx n).ho=X.ho:=by unfold aR;split<;>rfl
  rw[this,e];exact h0
 unfold aJ;split
 .unfold idC;split<;>exact h0
 split
 .unfold flC;split
  .rw[(oN _ _).2.2,yo];exact h0
  split
  .exact c 1
  split<;>exact h0
 split
 .unfold waC;split
  .exact h0
  split
  .exact a _ _ rfl
  split
  .exact a {C with ct:=C.ct+1} 8 rfl
  .exact h0
 split
 .unfold dlC;split
  .split
   .exact ho
   .exact c 3
  .split<;>exact h0
 split
 .unfold gpC;split
  .split
   .exact ho
   .rcases (vP C r).2.1 with e|e
    .rw[e];exact h0.take r
    .rw[e];exact h0
  .split
   .rw[(vM _).2.1];exact h0
   .exact h0
 split
 .unfold suC;split
  .exact h0
  split<;>exact h0
 split
 .unfold ofC;split
  .split
   .exact h0
   split
   .split<;>exact h0
   .exact h0
  .exact h0
 .exact h0
def EF(A:Co):(ofI A).ho=A.ho:=by unfold ofI;split<;>rfl
def uo{f:Nat->Nat}(w:World)(C:Co)(s:Sl)(k r:Int)(hk:k=0\/k=1)(j:cH C)(h1:C.p≠1)(hn:C.ho.le 1048576)(hb:dN C.ho.bx r)(b4:hG f C.ho s w):ce 17 #[aG (coL C s).toArray,I J k] w (cA w f (au C (aJ C k r))):=by
 have H0:=hI (fc.new2 b4);have hc:=j.ct;have hw:=cR hc;have y:=ar j;have ak:C.p≠7->0<=C.te/\C.te<256:=fun D=>⟨j.m.te.1,by have:=j.m.te.2;have:C.te≠256:=fun e=>D (j.m.of.2 e);omega⟩
 obtain⟨A,af⟩:∃A,stZ C.te C.re=A:=⟨_,rfl⟩
 have ao:Hid (∀W,ce 50 #[aG (coL C s).toArray] W fun o w'=>o=rT (I J A)/\Bl W w'):=fun W=>by
  have h1:=fA W C s;have h2:esZ C.p C.te C.re=A:=by
   rw[<- af];unfold esZ stZ;by_cases e:C.p=7
   .rw[QW e,QW (j.m.of.1 e)]
   .rw[QV e,QV (fun x=>e (j.m.of.2 x))]
  rw[h2]at h1;exact h1
 have a2:=j.h.bd;have G:Hid (C.p≠7->∀kk W f,hG f C.ho s W->ce 52 #[aG (coL C s).toArray,I J kk] W (cA W f (au C (ba C kk)))):=fun D kk W f u=>iD u kk j D hn;have K:Hid (C.p≠7->∀W f,hG f C.ho s W->ce 51 #[aG (coL C s).toArray,I J k] W (cA W f (ofI (wfX (wfO C k) k)))):=fun D W f u=>An W C s k hc (ak D) j.m.re D u;have H:Hid (C.p≠7->∀W f,hG f C.ho s W->ce 53 #[aG (coL C s).toArray,I J k] W (cA W f (ofI (waC C k)))):=fun D W f u=>Ao W C s k hc (ak D) j.m.re D u;have a9:Hid (∀W f,hG f C.ho s W->ce 54 #[aG (coL C s).toArray] W (cA W f (ovC C))):=fun W f u=>lY u (a2.up (by decide));have a7:Hid (C.p=5->∀W f,hG f C.ho s W->ce 55 #[aG (coL C s).toArray,I J k] W (cA W f (gpC C k r))):=fun e W f u=>Cu W C s k r hk (by have h1:=j.m.ct;rw[e]at h1;exact h1) (fun x=>by have:=j.m.of.2 x;rw[e]at this;cases this) (by rw[e];decide) (a2.up (by decide)) j.h.n2 hb u;have a6:Hid (∀W f,hG f C.ho s W->ce 56 #[aG (coL C s).toArray,I J k] W (cA W f (ofC C k))):=fun W f u=>Ct W C s k hc j.m.rn u;have a4:Hid (C.p=4->1<=C.ct/\C.ct<=7):=fun e=>by have h1:=j.m.ct;rw[e]at h1;exact h1
 have a8:Hid (C.p=7->ofI (ofC C k)=ofC C k):=fun e=>Ca k e;have a5:Hid (tlC (ofI (aJ C k r)) A=au C (aJ C k r)):=by rw[<- af];exact BK C _ (Gk j k r)
 have ac:Hid (∀W f X O,X.ho=(aJ C k r).ho->hG f X.ho O W->ce 57 #[aG (coL X O).toArray,I J A] W (cA W f (tlC X A))):=fun W f X O e u=>lX u A (by rw[e];exact(yS a2 k r).up (by decide));have hq:C.p=0\/C.p=2\/C.p=3\/C.p=4\/C.p=5\/C.p=6\/C.p=7:=by have:=j.m.p;omega
 have ap:=ar hq;obtain⟨b0,e0,_,B⟩:=eqB k 0;obtain⟨b1,e1,_,f1⟩:=eqB k 1;obtain⟨d6,e6,_,f6⟩:=eqB (C.ct+1) 6;obtain⟨d8,e8,_,f8⟩:=eqB (C.ct+1) 8;obtain⟨c7,e7,g7⟩:=ltB C.ct 7;obtain⟨wk,ad⟩:∃b,C.wk=b:=⟨_,rfl⟩
 have a1:Hid (wk=true↔C.wk=true):=by show _↔_;rw[ad]
 have b2:=ar ad;go_enter func17,ntmps17;go_wp2_with(refine fc.ld H0.o ?_);refine(ao.o _).mono ?_;rintro o w1 ⟨rfl,b5⟩;have c:=hI (H0.o.below b5);have y0:=c.o.p.cell 0 (I J C.p) rfl;have y1:=c.o.p.cell 1 (I J C.ct) rfl;have y3:=c.o.p.cell 3 (bO C.wk) rfl;have y4:=c.o.p.cell 4 (bO C.ov) rfl;have y6:=c.o.p.cell 6 (bO C.tx) rfl;have z0:=c.o.p.free 0;have z1:=c.o.p.free 1;have z4:=c.o.p.free 4;have z6:=c.o.p.free 6;rw[b2.o]at y3;go_upto_region 2 with fail
 go_cut [9] (fun x wx=>x=I J C.p/\wx=w1);case first=>
  go_wp2_with fail;go_meet;case rel=>exact⟨rfl,rfl⟩
 case rest=>
 obtain⟨rfl,a3⟩:=hcut;have a3:=a3.symm;subst a3;go_upto_block 0 with fail
 go_cut [] (fun wx=>∃O b7,Hid (fc2 w f b7 (ofI (aJ C k r)) O (ofI (aJ C k r)).ho O wx));case first=>
  rcases ap.o with a|a|a|a|a|a|a
  .have hp7:C.p≠7:=by rw[a];decide
   have E:=ar (G.o hp7);have N:=ar (K.o hp7);have M:=ar (H.o hp7);have L:Hid ((gpC C k r).te≠256):=by show _≠_;rw[(mj hp7 k r).2];exact fun x=>hp7 (y.o.m.of.2 x)
   have w0:(C.p==0)=true:=by rw[a];decide
   have v:(C.p==2)=false:=by rw[a];decide
   have P:(C.p==3)=false:=by rw[a];decide
   have Q:(C.p==4)=false:=by rw[a];decide
   have R:(C.p==5)=false:=by rw[a];decide
   have S:(C.p==6)=false:=by rw[a];decide
   have T:(C.p==7)=false:=by rw[a];decide
   have i:=ar a;clear a;have n:Hid (C.te≠256):=fun x=>by have:=y.o.m.of.2 x;rw[i.o]at this;cases this
   have hS:aJ C k r=idC C k:=by unfold aJ;simp[i.o]
   cases b0
   .have d:Hid (ofI (aJ C k r)=C):=by
     show _=_;rw[hS];unfold idC;rw[QV (by simpa using B.o)];exact dA (fun x=>n.o x)
    go_wp2_with fail;go_meet;case rel=>exact⟨s,_,by rw[d.o];exact c.o⟩
   .have d:Hid (ofI (aJ C k r)={C with p:=1}):=by
     show _=_;rw[hS];unfold idC;rw[QW (by simpa using B.o)];exact dA (fun x=>n.o x)
    have h:=hI ((c.o.set 0 (I J 1) {C with p:=1} rfl));go_wp2_with fail;go_meet;case rel=>exact⟨s,_,by rw[d.o];exact h.o⟩
  .have hp7:C.p≠7:=by rw[a];decide
   have E:=ar (G.o hp7);have N:=ar (K.o hp7);have M:=ar (H.o hp7);have L:Hid ((gpC C k r).te≠256):=by show _≠_;rw[(mj hp7 k r).2];exact fun x=>hp7 (y.o.m.of.2 x)
   have w0:(C.p==0)=false:=by rw[a];decide
   have v:(C.p==2)=true:=by rw[a];decide
   have P:(C.p==3)=false:=by rw[a];decide
   have Q:(C.p==4)=false:=by rw[a];decide
   have R:(C.p==5)=false:=by rw[a];decide
   have S:(C.p==6)=false:=by rw[a];decide
   have T:(C.p==7)=false:=by rw[a];decide
   have i:=ar a;clear a;have n:Hid (C.te≠256):=fun x=>by have:=y.o.m.of.2 x;rw[i.o]at this;cases this
   have hS:aJ C k r=flC C k:=by unfold aJ;simp[i.o]
   cases wk
   .cases b1
    .cases d6
     .have d:Hid (ofI (aJ C k r)={C with ct:=C.ct+1}):=by
       show _=_;rw[hS];unfold flC;rw[QV (by simpa using a1.o),QV (by simpa using f1.o),QV (by simpa using f6.o)];exact dA (fun x=>n.o x)
      have h:=hI ((c.o.set 1 (I J (C.ct+1)) {C with ct:=(C.ct+1)} rfl));go_wp2_with fail;go_meet;case rel=>exact⟨s,_,by rw[d.o];exact h.o⟩
     .have d:Hid (ofI (aJ C k r)={C with p:=3,ct:=0}):=by
       show _=_;rw[hS];unfold flC;rw[QV (by simpa using a1.o),QV (by simpa using f1.o),QW (by simpa using f6.o)];exact dA (fun x=>n.o x)
      have h:=hI ((((c.o.set 1 (I J (C.ct+1)) {C with ct:=(C.ct+1)} rfl).set 0 (I J 3) {C with ct:=(C.ct+1),p:=3} rfl).set 1 (I J 0) {C with p:=3,ct:=0} rfl));go_wp2_with fail;go_meet;case rel=>exact⟨s,_,by rw[d.o];exact h.o⟩
    .have d:Hid (aJ C k r=ba C 1):=by
      show _=_;rw[hS];unfold flC;rw[QV (by simpa using a1.o),QW (by simpa using f1.o)]
     go_wp2_with(refine fc.ld c.o ?_);refine(E.o 1 _ _ c.o.g).mono ?_;rintro o v ⟨s2,U,rfl,l⟩;have t:=hI (c.o.call l.o);go_wp2_with(refine fc.rt (C2:=(au C (ba C 1))) (s2:=s2) t.o ?_;intro am a0 Z);refine bC results17 (dI a0) ?_;rw[d.o];exact⟨_,_,rfl,Z⟩
   .have d:Hid (ofI (aJ C k r)=ofI (wfX (wfO C k) k)):=by
     show _=_;rw[hS];unfold flC;rw[QW (by simpa using a1.o)]
    go_wp2_with(refine fc.ld c.o ?_);refine(N.o _ _ c.o.g).mono ?_;rintro o v ⟨s2,U,rfl,l⟩;have t:=hI (c.o.call l.o);go_wp2_with(refine fc.sv (C2:=(ofI (wfX (wfO C k) k))) (s2:=s2) t.o ?_;intro w9 h);go_meet;case rel=>exact⟨s2,_,by rw[d.o];exact h.o⟩
  .have hp7:C.p≠7:=by rw[a];decide
   have E:=ar (G.o hp7);have N:=ar (K.o hp7);have M:=ar (H.o hp7);have L:Hid ((gpC C k r).te≠256):=by show _≠_;rw[(mj hp7 k r).2];exact fun x=>hp7 (y.o.m.of.2 x)
   have w0:(C.p==0)=false:=by rw[a];decide
   have v:(C.p==2)=false:=by rw[a];decide
   have P:(C.p==3)=true:=by rw[a];decide
   have Q:(C.p==4)=false:=by rw[a];decide
   have R:(C.p==5)=false:=by rw[a];decide
   have S:(C.p==6)=false:=by rw[a];decide
   have T:(C.p==7)=false:=by rw[a];decide
   have i:=ar a;clear a;have n:Hid (C.te≠256):=fun x=>by have:=y.o.m.of.2 x;rw[i.o]at this;cases this
   have hS:aJ C k r=waC C k:=by unfold aJ;simp[i.o]
   have d:Hid (ofI (aJ C k r)=ofI (waC C k)):=by show _=_;rw[hS]
   go_wp2_with(refine fc.ld c.o ?_);refine(M.o _ _ c.o.g).mono ?_;rintro o v ⟨s2,U,rfl,l⟩;have t:=hI (c.o.call l.o);go_wp2_with(refine fc.sv (C2:=(ofI (waC C k))) (s2:=s2) t.o ?_;intro w9 h);go_meet;case rel=>exact⟨s2,_,by rw[d.o];exact h.o⟩
  .have hp7:C.p≠7:=by rw[a];decide
   have E:=ar (G.o hp7);have N:=ar (K.o hp7);have M:=ar (H.o hp7);have L:Hid ((gpC C k r).te≠256):=by show _≠_;rw[(mj hp7 k r).2];exact fun x=>hp7 (y.o.m.of.2 x)
   have w0:(C.p==0)=false:=by rw[a];decide
   have v:(C.p==2)=false:=by rw[a];decide
   have P:(C.p==3)=false:=by rw[a];decide
   have Q:(C.p==4)=true:=by rw[a];decide
   have R:(C.p==5)=false:=by rw[a];decide
   have S:(C.p==6)=false:=by rw[a];decide
   have T:(C.p==7)=false:=by rw[a];decide
   have i:=ar a;clear a;have n:Hid (C.te≠256):=fun x=>by have:=y.o.m.of.2 x;rw[i.o]at this;cases this
   have hS:aJ C k r=dlC C k:=by unfold aJ;simp[i.o]
   cases b0
   .cases d8
    .have d:Hid (ofI (aJ C k r)={C with ct:=C.ct+1}):=by
      show _=_;rw[hS];unfold dlC;rw[QV (by simpa using B.o),QV (by simpa using f8.o)];exact dA (fun x=>n.o x)
     have h:=hI ((c.o.set 1 (I J (C.ct+1)) {C with ct:=(C.ct+1)} rfl));go_wp2_with fail;go_meet;case rel=>exact⟨s,_,by rw[d.o];exact h.o⟩
    .have d:Hid (ofI (aJ C k r)={C with p:=5,ct:=0,ov:=false}):=by
      show _=_;rw[hS];unfold dlC;rw[QV (by simpa using B.o),QW (by simpa using f8.o)];exact dA (fun x=>n.o x)
     have h:=hI (((((c.o.set 1 (I J (C.ct+1)) {C with ct:=(C.ct+1)} rfl).set 0 (I J 5) {C with ct:=(C.ct+1),p:=5} rfl).set 1 (I J 0) {C with p:=5,ct:=0} rfl).set 4 (bO false) {C with p:=5,ct:=0,ov:=false} rfl));go_wp2_with fail;go_meet;case rel=>exact⟨s,_,by rw[d.o];exact h.o⟩
   .cases c7
    .have h7:C.ct=7:=by
      have h8:¬C.ct<7:=fun x=>by have:=g7.o.2 x;cases this
      have:=a4.o i.o;omega
     have d:Hid (ofI (aJ C k r)=ovC C):=by
      show _=_;rw[hS];unfold dlC;rw[QW (by simpa using B.o),QW h7];exact dA (fun x=>n.o x)
     go_wp2_with(refine fc.ld c.o ?_);refine(a9.o _ _ c.o.g).mono ?_;rintro o v ⟨s2,U,rfl,l⟩;have t:=hI (c.o.call l.o);go_wp2_with(refine fc.sv (C2:=(ovC C)) (s2:=s2) t.o ?_;intro w9 h);go_meet;case rel=>exact⟨s2,_,by rw[d.o];exact h.o⟩
    .have h7:¬C.ct=7:=by have:=g7.o.1 rfl;omega
     have d:Hid (aJ C k r=ba C 3):=by
      show _=_;rw[hS];unfold dlC;rw[QW (by simpa using B.o),QV h7]
     go_wp2_with(refine fc.ld c.o ?_);refine(E.o 3 _ _ c.o.g).mono ?_;rintro o v ⟨s2,U,rfl,l⟩;have t:=hI (c.o.call l.o);go_wp2_with(refine fc.rt (C2:=(au C (ba C 3))) (s2:=s2) t.o ?_;intro am a0 Z);refine bC results17 (dI a0) ?_;rw[d.o];exact⟨_,_,rfl,Z⟩
  .have hp7:C.p≠7:=by rw[a];decide
   have E:=ar (G.o hp7);have N:=ar (K.o hp7);have M:=ar (H.o hp7);have L:Hid ((gpC C k r).te≠256):=by show _≠_;rw[(mj hp7 k r).2];exact fun x=>hp7 (y.o.m.of.2 x)
   have w0:(C.p==0)=false:=by rw[a];decide
   have v:(C.p==2)=false:=by rw[a];decide
   have P:(C.p==3)=false:=by rw[a];decide
   have Q:(C.p==4)=false:=by rw[a];decide
   have R:(C.p==5)=true:=by rw[a];decide
   have S:(C.p==6)=false:=by rw[a];decide
   have T:(C.p==7)=false:=by rw[a];decide
   have i:=ar a;clear a;have n:Hid (C.te≠256):=fun x=>by have:=y.o.m.of.2 x;rw[i.o]at this;cases this
   have hS:aJ C k r=gpC C k r:=by unfold aJ;simp[i.o]
   have d:Hid (ofI (aJ C k r)=gpC C k r):=by show _=_;rw[hS];exact dA (L.o)
   go_wp2_with(refine fc.ld c.o ?_);refine((a7.o i.o) _ _ c.o.g).mono ?_;rintro o v ⟨s2,U,rfl,l⟩;have t:=hI (c.o.call l.o);go_wp2_with(refine fc.sv (C2:=(gpC C k r)) (s2:=s2) t.o ?_;intro w9 h);go_meet;case rel=>exact⟨s2,_,by rw[d.o];exact h.o⟩
  .have hp7:C.p≠7:=by rw[a];decide
   have E:=ar (G.o hp7);have N:=ar (K.o hp7);have M:=ar (H.o hp7);have L:Hid ((gpC C k r).te≠256):=by show _≠_;rw[(mj hp7 k r).2];exact fun x=>hp7 (y.o.m.of.2 x)
   have w0:(C.p==0)=false:=by rw[a];decide
   have v:(C.p==2)=false:=by rw[a];decide
   have P:(C.p==3)=false:=by rw[a];decide
   have Q:(C.p==4)=false:=by rw[a];decide
   have R:(C.p==5)=false:=by rw[a];decide
   have S:(C.p==6)=true:=by rw[a];decide
   have T:(C.p==7)=false:=by rw[a];decide
   have i:=ar a;clear a;have n:Hid (C.te≠256):=fun x=>by have:=y.o.m.of.2 x;rw[i.o]at this;cases this
   have hS:aJ C k r=suC C k:=by unfold aJ;simp[i.o]
   cases b0
   .cases d8
    .have d:Hid (ofI (aJ C k r)={C with ct:=C.ct+1}):=by
      show _=_;rw[hS];unfold suC;rw[QV (by simpa using B.o),QV (by simpa using f8.o)];exact dA (fun x=>n.o x)
     clear hS;have h:=hI ((c.o.set 1 (I J (C.ct+1)) {C with ct:=(C.ct+1)} rfl));go_wp2_with fail;go_meet;case rel=>exact⟨s,_,by rw[d.o];exact h.o⟩
    .have d:Hid (ofI (aJ C k r)={C with p:=0,ct:=0,tx:=false}):=by
      show _=_;rw[hS];unfold suC;rw[QV (by simpa using B.o),QW (by simpa using f8.o)];exact dA (fun x=>n.o x)
     clear hS;have h:=hI (((((c.o.set 1 (I J (C.ct+1)) {C with ct:=(C.ct+1)} rfl).set 0 (I J 0) {C with ct:=(C.ct+1),p:=0} rfl).set 1 (I J 0) {C with p:=0,ct:=0} rfl).set 6 (bO false) {C with p:=0,ct:=0,tx:=false} rfl));go_wp2_with fail;go_meet;case rel=>exact⟨s,_,by rw[d.o];exact h.o⟩
   .have d:Hid (ofI (aJ C k r)={C with p:=1,ct:=0,tx:=false}):=by
     show _=_;rw[hS];unfold suC;rw[QW (by simpa using B.o)];exact dA (fun x=>n.o x)
    clear hS;have h:=hI ((((c.o.set 0 (I J 1) {C with p:=1} rfl).set 1 (I J 0) {C with p:=1,ct:=0} rfl).set 6 (bO false) {C with p:=1,ct:=0,tx:=false} rfl));go_wp2_with fail;go_meet;case rel=>exact⟨s,_,by rw[d.o];exact h.o⟩
  .have w0:(C.p==0)=false:=by rw[a];decide
   have v:(C.p==2)=false:=by rw[a];decide
   have P:(C.p==3)=false:=by rw[a];decide
   have Q:(C.p==4)=false:=by rw[a];decide
   have R:(C.p==5)=false:=by rw[a];decide
   have S:(C.p==6)=false:=by rw[a];decide
   have T:(C.p==7)=true:=by rw[a];decide
   have i:=ar a;clear a;have hS:aJ C k r=ofC C k:=by unfold aJ;simp[i.o]
   have d:Hid (ofI (aJ C k r)=ofC C k):=by show _=_;rw[hS];exact a8.o i.o
   clear hS;go_wp2_with(refine fc.ld c.o ?_);refine(a6.o _ _ c.o.g).mono ?_;rintro o v ⟨s2,U,rfl,l⟩;have t:=hI (c.o.call l.o);clear l;go_wp2_with(refine fc.sv (C2:=(ofC C k)) (s2:=s2) t.o ?_;intro w9 h);go_meet;case rel=>exact⟨s2,_,by rw[d.o];exact h.o⟩
 case rest=>
 obtain⟨s5,bb,Y⟩:=hcut;obtain⟨X,eX⟩:∃X,ofI (aJ C k r)=X:=⟨_,rfl⟩
 have b3:Hid (X.ho=(aJ C k r).ho):=by rw[<- eX];exact EF _
 rw[eX]at Y a5;clear eX c G K H a9 a7 a6 a8 a4;go_wp2_with(refine fc.ld Y.o ?_);refine(ac.o _ _ X s5 b3.o Y.o.g).mono ?_;rintro o b8 ⟨b6,b9,rfl,l⟩;have aw:=hI (Y.o.call l.o);clear l ac Y;go_wp2_with(refine fc.rt (C2:=(tlC X A)) (s2:=b6) aw.o ?_;intro am a0 Z);refine bC results17 (dI a0) ?_;rw[<- a5.o];exact⟨_,_,rfl,Z⟩
end
section
variable{C:Co}{H:Ho}{F:R5}
def Ek(C:Co)(b r:Int):(aJ C b r).ho=C.ho\/(aJ C b r).ho=(ovC C).ho\/(∃k,(aJ C b r).ho=(ba C k).ho)\/(aJ C b r).ho=cv C.ho r:=by
 have a:∀X n,X.ho=C.ho->(aR X C.tx n).ho=C.ho:=fun X n e=>by unfold aR;split<;>exact e
 unfold aJ;split
 .unfold idC;split<;>exact qp rfl
 split
 .unfold flC;split
  .rw[(oN _ _).2.2,yo];exact qp rfl
  split
  .exact qt (qt (qp ⟨1,rfl⟩))
  split<;>exact qp rfl
 split
 .unfold waC;split
  .exact qp rfl
  split
  .exact qp (a _ _ rfl)
  split
  .exact qp (a {C with ct:=C.ct+1} 8 rfl)
  .exact qp rfl
 split
 .unfold dlC;split
  .split
   .exact qt (qp rfl)
   .exact qt (qt (qp ⟨3,rfl⟩))
  .split<;>exact qp rfl
 split
 .unfold gpC;split
  .split
   .exact qt (qp rfl)
   .rcases (vP C r).2.1 with e|e
    .exact qt (qt (qt e))
    .exact qp e
  .split
   .exact qp (vM _).2.1
   .exact qp rfl
 split
 .unfold suC;split
  .exact qp rfl
  split<;>exact qp rfl
 split
 .unfold ofC;split
  .split
   .exact qp rfl
   split
   .split<;>exact qp rfl
   .exact qp rfl
  .exact qp rfl
 .exact qp rfl
def Dc(C:Co)(b:Bool)(n:Int):(aR C b n).ho=C.ho:=by unfold aR;split<;>rfl
def ro{A:Co}(h:A.ho.le 1048576)(a:A.ho.qu.length<=1000):(au C A).ho.le 1048576:=by
 have e:(if A.te=256/\A.p≠7 then dQ A else A).ho=A.ho:=by split<;>rfl
 unfold au;generalize (if A.te=256/\A.p≠7 then dQ A else A)=X at*;unfold dB;split
 .rw[e];exact h
 .show Ho.le (pH X.ho _) _;rw[e];exact h.post a (nZ _)
def tF(h:H.le 1048576)(r:Int):(cv H r).le 1048576:=by
 refine⟨h.fs,?_,h.ff,h.qu,fun j a=>?_,h.fd,h.qd⟩
 .show (cF H.bx r).length<=_;rw[jU];exact h.bx
 .have hj':j<H.bx.length:=by have:j<(cF H.bx r).length:=a;rw[jU]at this;exact this
  show(cF H.bx r)[j].l.length<=_;rw[BD H.bx r j a hj'];exact h.bd j hj'
def Ho.le.ffs(h:H.le 1048576){L:List R5}(hl:L.length<=1048576)(hd:∀x∈L,x.l.length<=1048576):(fHo H L).le 1048576:=
 ⟨h.fs,h.bx,hl,h.qu,h.bd,fun j hj=>hd _ (ql hj),h.qd⟩
def AT(h:H.le 1048576)(i:H.qu.length<=900)(d:H.ff.length<=1000)(b:F.l.length<=1048576):(cq H F).le 1048576:=by
 have c:∀x∈H.ff,x.l.length<=1048576:=fun x a=>by
  obtain⟨j,e,rfl⟩:=List.getElem_of_mem a;exact h.fd j e
 unfold cq;split
 .split
  .split
   .exact Ho.le.post h om b
   .obtain⟨L,hL⟩:∃L,H.ff=L:=⟨_,rfl⟩
    rw[hL]at c d ⊢;cases L with
    |nil=>exact h
    |cons f r=>
     have h1:(pH H (evF 3 0 0 f)).le 1048576:=Ho.le.post h om (c f pQ);have g:(pH H (evF 3 0 0 f)).qu.length<=1000:=by
      have:=zt H.c3 H.qu (evF 3 0 0 f);show(quP H.c3 H.qu (evF 3 0 0 f)).length<=_;omega
     refine Ho.le.post (h1.ffs ?_ fun x a=>?_) g b
     .simp at d ⊢;omega
     .rcases List.mem_append.1 a with a|a
      .exact c x (by simp[a])
      .simp at a;rw[a];exact b
  .refine Ho.le.post (h.ffs ?_ fun x a=>?_) (by show H.qu.length<=_;omega) b
   .simp;omega
   .rcases List.mem_append.1 a with a|a
    .exact c x a
    .simp at a;rw[a];exact b
 .exact h
def Fm{t:Int}(c:cH C)(h:C.ho.le 1048576)(e:F.l.length<=1048576):(au C (aU C t F)).ho.le 1048576:=by
 have a:=c.h.bd;have d:∀b,(bz C.ho b).le 1048576:=fun b=>lI h (nT a.q (by decide));have hd:=AT h c.h.dl.2.2.1 c.h.dl.2.1 e;refine ro ?_ ?_
 .unfold aU;split
  .exact d true
  .split
   .exact hd
   .split
    .exact h
    .split
     .exact h.post c.h.n4 (nZ _)
     .split
      .exact d false
      .exact h
 .unfold aU;split
  .exact nT (a.rel true).q (by decide)
  .split
   .exact nT (a.del F).q (by decide)
   .split
    .exact nT a.q (by decide)
    .split
     .exact nT (a.post _).q (by decide)
     .split
      .exact nT (a.rel false).q (by decide)
      .exact nT a.q (by decide)
def pX(C:Co)(k:Int):(ba C k).ho=dR C k:=by show(aR (eM C k) C.tx _).ho=_;rw[Dc];rfl
def Fl(k:Int)(b:cH C)(h:C.ho.le 1048576):(au C (ba C k)).ho.le 1048576:=by
 have a:=b.h.bd.post (ev3 8 k (if C.tx then 1 else 0));refine ro ?_ ?_
 .rw[pX];exact lI (h.post b.h.n4 (nZ _)) (nT a.q (by decide))
 .rw[pX];exact nT (a.rel false).q (by decide)
def Ej(k r:Int)(a:cH C)(h:C.ho.le 1048576):(au C (aJ C k r)).ho.le 1048576:=by
 refine ro ?_ (nT (yS a.h.bd k r).q (by decide));rcases Ek C k r with e|e|⟨b,e⟩|e
 .rw[e];exact h
 .rw[e];exact h.post a.h.n4 (nZ _)
 .rw[e,pX];exact lI (h.post a.h.n4 (nZ _)) (nT (a.h.bd.post _).q (by decide))
 .rw[e];exact tF h r
end
def xu(w:World)(n:Int):ce 72 #[I J n] w fun o w'=>o=rT (bO (decide (2<=n)&&decide (n<=6)))/\w=w':=by
 obtain⟨a,c⟩:∃a,decide (2<=n)=a:=⟨_,rfl⟩
 obtain⟨b,d⟩:∃b,decide (n<=6)=b:=⟨_,rfl⟩
 rw[c,d];have e:=c;go_enter func72,ntmps72
 cases a<;>cases b<;>(
  go_wp2_with fail;go_ret;exact⟨rfl,rfl⟩)
section
variable{κ κ1 κ0:Nat->Nat}{C C2:Co}{H:Ho}{s s1:Sl}{w W:World}
abbrev fr3(w:World)(κ0:Nat->Nat)(FL:List Value)(κ:Nat->Nat)(C:Co)(s0:Sl)(hd:ByteArray)(H:Ho)(s:Sl)(W:World):Prop:=fr w κ0 w.heap.size (w.heap.size+1+1) (w.heap.size+1) FL 377 κ C s0 hd H s W
end
end Go.Proofs.YtbbffcolnddcdaaGreatDoor
