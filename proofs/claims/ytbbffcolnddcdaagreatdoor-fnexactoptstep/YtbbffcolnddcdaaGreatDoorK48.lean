import Derived.Test.YtbbffcolnddcdaaGreatDoorK47
import Derived.Deep.RegionHeld3
namespace Go.Proofs.YtbbffcolnddcdaaGreatDoor
open Go.RowKit
set_option linter.all false
open Go.Value renaming int->I,slice->sL,bool->bO,pointer->pT,agg->aG
open Go.IntKind renaming i64->J
open Go.Ending renaming returned->rT
section
variable{w:World}{b n k:Nat}{T:Co}{N cu:Int}{Ty:TypeId}{a:Option Addr}
def Cq(E:ByteArray)(h:E.size<=1000)(c:∀i(hi:i<E.size),E[i].toNat=48\/E[i].toNat=49):okT E 4000=true/\E.size<=4000:=by
 refine⟨?_,om⟩;unfold okT;rw[Q3];refine⟨by simp;omega,List.all_eq_true.2 fun x g=>?_⟩;obtain⟨j,d,rfl⟩:=List.getElem_of_mem g;have f:j<E.size:=by simpa using d
 have:=c j f;rw[CE]at this;unfold okC;generalize E.data.toList[j]=y at*;rcases this with e|e
 .have:y=48:=UInt8.toNat_inj.1 e;subst this;rfl
 .have:y=49:=UInt8.toNat_inj.1 e;subst this;rfl
def kD{S S':Sc}{q:Os}(h:blk w b (opL T S N cu q) Ty):blk (w.setCells b 21 (scL S' a n k)) b (opL T S' N cu ⟨q.s,a,n,k,q.aw,q.nw,q.kw⟩) Ty:=
 h.put (coL T q.s) (scL S q.a q.n q.k) (pk3 N q.aw q.nw q.kw cu) (scL S' a n k) rfl
def lL{S:Sc}{c:Int}{q:Os}(h:blk w b (opL T S N cu q) Ty):blk (w.setCells b 32 [I J c,sL a n k]) b (opL T S c cu ⟨q.s,q.a,q.n,q.k,a,n,k⟩) Ty:=by
 have e:opL T S N cu q=(coL T q.s++scL S q.a q.n q.k)++[I J N,sL q.aw q.nw q.kw]++[I J cu]:=rfl;rw[e]at h;exact h.put (coL T q.s++scL S q.a q.n q.k) [I J N,sL q.aw q.nw q.kw] [I J cu] [I J c,sL a n k] rfl
end
open Go.Proofs.Tryz
open Option renaming none->nn,some->sQ
set_option maxRecDepth 20000
set_option maxHeartbeats 8000000
open Go.Proofs.Tryz renaming prog->Tp
def hIm(W:World)(P:Nat)(E:ByteArray):Prop:=∃e i r d l,(∀V,Bl W V->ce 134 #[ap P] V fun o w'=>∃ao m c,o=rT (frV e i r d ao m c)/\iB w' ao m c l/\Bl V w')/\∀V ao m c,Bl W V->iB V ao m c l->ce 133 #[frV e i r d ao m c] V fun o w'=>∃aw nw kw,o=rT (pkV (E.size:Int) aw nw kw)/\ab w' V.heap.size (sL aw nw kw) (wl (lt E))/\nw=(wl (lt E)).length/\Bl V w'
structure hoS(W:World)(R M Q:Nat)(S:Sc)(N cu:Int)(o:Os)(Z:Int)(aw:Option Addr)(nw kw:Nat)(X:World):Prop where
 r:blk X R (ocL M S N cu o) 125
 q:blk X Q [I J Z,sL aw nw kw] 56
 b:Bl W X
def hoS.below{W:World}{R M Q:Nat}{S:Sc}{N cu:Int}{o:Os}{Z:Int}{aw:Option Addr}{nw kw:Nat}{X X':World}(h:hoS W R M Q S N cu o Z aw nw kw X)(hb:Bl X X'):hoS W R M Q S N cu o Z aw nw kw X':=⟨h.r.below hb,h.q.below hb,h.b.trans (hb.mono h.b.size)⟩
def Ff(W:World)(M R P:Nat)(C:Co)(S:Sc)(N A:Int)(ws:List Nat)(o:Os)(hR:blk W R (ocL M S N A o) 125)(x0:W.cell? ⟨M,0,nn⟩=sQ (ap P))(y3:W.cell? ⟨M,3,nn⟩=sQ (I J C.p))(y9:W.cell? ⟨M,9,nn⟩=sQ (bO C.tx))(hp:C.p=1)(ht:C.tx=true)(bf:W.rangeAt 0 0 cQ)(hz:0<W.heap.size)(hd:iB W o.a o.n o.k S.l)(hx:ah W o.aw o.nw o.kw ws)(hw:ws.length<=1048576)(br:hIm W P (aq C))(b7:∀k,k<(aq C).size->goL ((lt (aq C)).take k))(ko:okT (aq C) 4000=true)(kz:(aq C).size<=4000):ce 83 #[ap R] W fun o w'=>bH o (snP C S N A ws)/\Bl W w':=by
 have ad:Hid (ce 132 #[ap M] W fun o w'=>o=rT (bO true)/\w'=W):=by
  have:=eT W M _ _ C.p rfl y3 y9;rw[hp,ht]at this;exact this
 have HT:Hid (∀V,Bl W V->V.rangeAt 0 0 cQ):=fun V G j v hv=>(G.cell (p:=⟨0,0+j,nn⟩) (by exact hz)).trans (bf j v hv);have HZ:=aa hz;obtain⟨fe,fi,fr,fd,fl,b4,b6⟩:=br;have a4:=aa b4;have a5:=aa b6;have HD:=aa hd;have HX:=aa hx;have HW:=aa hw;have bg:=aa b7;have bk:=aa ko;have a7:=aa kz;have ac:=aa hR;have z0:=hR.cell 0 (ap M) rfl;clear bf hz hd hx hw b4 b6 b7 ko kz hR y3 y9 hp ht;go_enter func83,ntmps83;go_wp2_with fail;refine ad.o.mono ?_;rintro D O ⟨rfl,bs⟩;subst bs;go_wp2_with fail;refine(a4.o _ (bW _ _)).mono ?_;rintro D w1 ⟨ao,m,c,rfl,b8,b1⟩;have T:=aa b1;have a6:=aa b8;clear b8 b1 ad a4 z0 x0;go_wp2_with fail;refine(a5.o _ ao m c T.o a6.o).mono ?_;rintro D B ⟨d,i,f,rfl,a3,a2,b2⟩;have U:Hid (Bl O B):=T.o.trans (b2.mono T.o.size);have af:Hid (ah B d i f (wl (lt (aq C)))):=a3.words a2 (im _) (a3.cap a2);clear a3 a2 b2 T a6 a5;have a1:Hid (blk (B.alloc (.cells [I J 0,sL nn 0 0].toArray 56)) B.heap.size [I J 0,sL nn 0 0] 56):=blk.new B _ 56;go_upto_region 3 with(refine Zs 56 #[I J ((aq C).size:Int),sL d i f] (a1.o.there 0 2 (nR _)) (yI _ _ _ _) (sb _ _ _ _) ?_;generalize aw:World.setCells (B.alloc _) B.heap.size 0 _=E;have ak:Hid (_=E):=aw;clear aw)
 have e3:=ak.o;have Z:Bl B E:=by rw[<- e3];exact sW (nR _) _ _ Zw
 have H3:Hid (hoS O R M B.heap.size S N A o ((aq C).size:Int) d i f E/\ah E d i f (wl (lt (aq C)))):=by
  refine⟨⟨(ac.o.below U.o).below Z,?_,U.o.trans (Z.mono U.o.size)⟩,af.o.below Z⟩;rw[<- e3];exact a1.o.put [] [I J 0,sL nn 0 0] [] [I J ((aq C).size:Int),sL d i f] rfl
 clear e3 Z ak a1 U af ac;generalize B.heap.size=Q at*;refine Qu (S:=fun X=>hoS O R M Q S N A o ((aq C).size:Int) d i f X) kr ?_;have hS:hoS O R M Q S N A o ((aq C).size:Int) d i f E.drew:=H3.o.1.below (bW _ _).drew;have Y:Hid (ah E.drew d i f (wl (lt (aq C)))):=H3.o.2.below (bW _ _).drew;clear H3;refine tk 0 ?_;refine tk 1 ?_;refine tk 2 ?_;refine wU 3 (pkV N o.aw o.nw o.kw) rfl (Qw (by rfl) 56 (.tmp 21) rfl R 12 rfl [I J N,sL o.aw o.nw o.kw] _ (fun X h=>pw h.r) underlying56 rfl (eH _ _ _ _)) hS ?_;simp only[aZ];refine wU 4 (pkV ((aq C).size:Int) d i f) rfl (Qw (by rfl) 56 (.tmp 3) rfl Q 0 rfl [I J ((aq C).size:Int),sL d i f] _ (fun X h=>h.q.load) underlying56 rfl (eH _ _ _ _)) hS ?_;simp only[aZ];refine al 5 fun K u=>?_;go_simp;refine(zp E.drew N _ o.aw d o.nw o.kw i f ws _ (HX.o.below hS.b) Y.o (by have:=HX.o.len;have:=HW.o;omega) (by have:=Y.o.len;rw[cD,aN]at this;have:=a7.o;omega)).mono ?_;rintro D w5 ⟨⟨b5,rfl,h5⟩,t⟩;have H5:=aa h5;have am:Hid (ah w5 d i f (wl (lt (aq C)))):=Y.o.below t;clear h5 Y;go_wp2_with fail;refine u.out _ _ (hS.below t) (fun x=>?_);clear hS u K t;have hS:=x;clear x;refine tk 6 ?_;have kz:=a7.o;cases b5
 .have HNO:Hid (¬snP C S N A ws):=fun e=>by have:=H5.o.2 ⟨e.n,e.w⟩;cases this
  refine tn 7 ?_;refine tn 8 ?_;refine tn 9 ?_;refine tn 10 ?_;refine tn 11 ?_;refine tn 12 ?_;refine tn 13 ?_;refine tn 14 ?_;refine tk 15 ?_;refine tk 16 ?_;refine tn 17 ?_;refine tn 18 ?_;refine tn 19 ?_;refine tn 20 ?_;refine tn 21 ?_;refine tn 22 ?_;refine tn 23 ?_;refine tn 24 ?_;refine tn 25 ?_;refine tn 26 ?_;refine tn 27 ?_;refine tn 28 ?_;refine tn 29 ?_;refine tk 30 ?_;refine tk 31 ?_;have L:=hS.b;refine Qs kr ?_ _;clear hS;go_wp2;go_ret;exact⟨⟨false,rfl,fun e=>(by cases e),fun e=>Qj e HNO.o⟩,L⟩
 refine tk 7 ?_;refine tk 8 ?_;refine tk 9 ?_;refine tk 10 ?_ (hy:=fun X H=>by(have y:=H.r.cell 14 (I J A) rfl;go_simp;try rfl));refine tk 11 ?_;refine tk 12 ?_ (hy:=fun X H=>by(have y:=H.q.cell 0 (I J ((aq C).size:Int)) rfl;go_simp;try rfl));refine tk 13 ?_ (v:=I J (((aq C).size:Int)-1)) (hy:=fun X H=>by(go_simp;rw[QC];omega));refine al 14 fun K u=>?_;rw[QW (by rfl)];go_simp;obtain⟨g6,e6⟩:∃g,decide ((0:Int)<=A/\A<=((aq C).size:Int)-1)=g:=⟨_,rfl⟩
 refine(bT _ A 0 (((aq C).size:Int)-1)).mono ?_;rintro D w6 ⟨rfl,be⟩;rw[e6];have a0:=aa e6;clear e6;have t:Bl w5 w6:=by rw[<- be];exact bW _ _
 have bo:Hid (ah w6 d i f (wl (lt (aq C)))):=am.o.below t;clear be am;go_wp2_with fail;refine u.out _ _ (hS.below t) (fun x=>?_);clear hS u K t;have hS:=x;clear x;refine tk 15 ?_;refine tk 16 ?_;cases g6
 .have HNO:Hid (¬snP C S N A ws):=fun e=>by have h1:=e.c0;have h2:=e.c1;exact Qj ⟨h1,om⟩ (of_decide_eq_false a0.o)
  refine tn 17 ?_;refine tn 18 ?_;refine tn 19 ?_;refine tn 20 ?_;refine tn 21 ?_;refine tn 22 ?_;refine tn 23 ?_;refine tn 24 ?_;refine tn 25 ?_;refine tn 26 ?_;refine tn 27 ?_;refine tn 28 ?_;refine tn 29 ?_;refine tk 30 ?_;refine tk 31 ?_;have L:=hS.b;refine Qs kr ?_ _;clear hS;go_wp2;go_ret;exact⟨⟨false,rfl,fun e=>(by cases e),fun e=>Qj e HNO.o⟩,L⟩
 have b3:=qJ a0.o;obtain⟨k,rfl⟩:=Int.eq_ofNat_of_zero_le b3.1;have hk:k<(aq C).size:=om;have bt:k<=(aq C).size:=Q5 hk;have a9:=aa (H5.o.1 (by trivial));have HR:Hid (snP C S N (k:Int) ws↔S=scO ((lt (aq C)).take k)):=⟨fun e=>by have:=e.s;rw[Int.toNat_natCast]at this;exact this,fun e=>⟨a9.o.1,a9.o.2,Int.natCast_nonneg _,om,by rw[Int.toNat_natCast];exact e⟩⟩
 have hG:=bg.o k hk
 have bm:Hid (∀V,Bl O V->ce 137 #[.string ((aq C).extract 0 k)] V fun o w'=>∃a n kk,o=rT (aG (scL (scO ((lt (aq C)).take k)) a n kk).toArray)/\iB w' a n kk (scO ((lt (aq C)).take k)).l/\Bl V w'):=fun V G=>by
  have:=pd V (HT.o V G) (nL HZ.o G.size) ((aq C).extract 0 k) (by rw[show(((aq C).extract 0 k).data.toList.map (·.toNat))=lt ((aq C).extract 0 k)from rfl,ll];exact hG);rw[show(((aq C).extract 0 k).data.toList.map (·.toNat))=lt ((aq C).extract 0 k)from rfl,ll]at this;refine this.mono ?_;rintro D w' ⟨a,n,kk,rfl,q1,q2,q3⟩;have bc:=(hG.at ((lt (aq C)).take k).length).2.1;rw[List.take_length]at bc;exact⟨a,n,kk,rfl,q1.is bc,q3⟩
 have bn:Hid (∀V,ah V d i f (wl (lt (aq C)))->ce 138 #[pkV ((aq C).size:Int) d i f] V fun o w'=>o=rT (.string (aq C))/\Bl V w'):=fun V G=>by
  have hL:=pE bk.o;have:=wA V (aq C).size d i f _ G (by rw[<- aN];exact ub _ hL (by rw[aN];exact kz));rw[<- aN (aq C),yv _ hL,o9,aN]at this;exact this
 generalize scO ((lt (aq C)).take k)=bq at*;clear hG a0 b3 H5;refine tk 17 ?_;refine tk 18 ?_;refine tk 19 ?_;refine wU 20 (aG (scL S o.a o.n o.k).toArray) rfl (Qw (by rfl) 55 (.tmp 38) rfl R 1 rfl (scL S o.a o.n o.k) _ (fun X h=>kY h.r) underlying55 rfl (dY _ _ _ _)) hS ?_;simp only[aZ];refine wU 21 (pkV ((aq C).size:Int) d i f) rfl (Qw (by rfl) 56 (.tmp 3) rfl Q 0 rfl [I J ((aq C).size:Int),sL d i f] _ (fun X h=>h.q.load) underlying56 rfl (eH _ _ _ _)) hS ?_;simp only[aZ];refine tk 23 ?_;refine tk 24 ?_;refine tk 25 ?_;refine tk 26 ?_ (hy:=fun X H=>by(have y:=H.r.cell 14 (I J (k:Int)) rfl;go_simp;try rfl));refine al 22 fun K u=>?_;rw[QW (by rfl)];go_simp;refine(bn.o _ bo.o).mono ?_;rintro D w7 ⟨rfl,t⟩;go_wp2_with fail;refine u.out _ _ (hS.below t) (fun x=>?_);clear hS u K t;have hS:=x;clear x;refine tk 27 ?_ (v:=.string ((aq C).extract 0 k));refine al 28 fun K u=>?_;rw[QW (by rfl)];go_simp;refine(bm.o _ hS.b).mono ?_;rintro D w8 ⟨a8,n8,k8,rfl,bb,t⟩;have bi:=aa bb;clear bb;go_wp2_with fail;refine u.out _ _ (hS.below t) (fun x=>?_);clear hS u K t;have hS:=x;clear x;refine al 29 fun K u=>?_;rw[QW (by rfl)];go_simp;refine(zo w8 S bq o.a o.n o.k a8 n8 k8 (HD.o.below hS.b) bi.o).mono ?_;rintro D w9 ⟨⟨b9,rfl,h9⟩,t⟩;have H9:Hid (b9=true↔snP C S N (k:Int) ws):=h9.trans HR.o.symm;clear h9;go_wp2_with fail;refine u.out _ _ (hS.below t) (fun x=>?_);clear hS u K t;have hS:=x;clear x;refine tk 30 ?_;refine tk 31 ?_;have L:=hS.b;refine Qs kr ?_ _;clear hS;go_wp2;go_ret;exact⟨⟨b9,rfl,H9.o⟩,L⟩
def Dv(C:Co)(S:Sc)(N cu:Int)(ws:List Nat):Prop:=iK N cu ws/\(C.p=1->okS S/\S.f≠1)/\(C.p≠1->S=scZ)
def Fg(W:World)(M R:Nat)(C:Co)(S:Sc)(N g:Int)(ws:List Nat)(o:Os)(hR:blk W R (ocL M S N g o) 125)(i:W.cell? ⟨M,3,nn⟩=sQ (I J C.p))(y9:W.cell? ⟨M,9,nn⟩=sQ (bO C.tx))(hs:snd C=false)(a0:W.rangeAt 0 0 cQ)(G:0<W.heap.size)(hd:iB W o.a o.n o.k S.l)(Z:S.l.length<=1048576)(hx:ah W o.aw o.nw o.kw ws)(hw:ws.length<=1048576):ce 83 #[ap R] W fun o w'=>bH o (Dv C S N g ws)/\Bl W w':=by
 have U:Hid (ce 132 #[ap M] W fun o w'=>o=rT (bO false)/\w'=W):=by
  have:=eT W M _ _ C.p rfl i y9;rw[show((C.p==1)&&C.tx)=false from hs]at this;exact this
 have HT:Hid (∀V,Bl W V->V.rangeAt 0 0 cQ):=fun V hV j v hv=>(hV.cell (p:=⟨0,0+j,nn⟩) (by exact G)).trans (a0 j v hv);have Q:Hid (M<W.heap.size/\0<W.heap.size):=⟨Qn W _ i,G⟩
 have E:=aa hd;have Y:=aa hx;have HW:=aa hw;have HL:=aa Z;have T:=aa hR;have Y3:=aa i;have L:=hR.cell 0 (ap M) rfl;have O:=hR.cell 14 (I J g) rfl;obtain⟨X,d⟩:∃X:Prop,Hid (Dv C S N g ws↔X):=⟨_,Iff.rfl⟩
 have a3:ce 83 #[ap R] W fun o w'=>bH o X/\Bl W w':=by
  clear a0 G hd hx hw Z hR i y9 hs;go_enter func83,ntmps83;go_wp2_with fail;refine U.o.mono ?_;rintro A K ⟨rfl,a2⟩;subst a2;clear U;go_wp2_with(refine ZG 56 (pw T.o) underlying56 (eH _ _ _ _) ?_);refine(zp _ N 0 o.aw nn o.nw o.kw 0 0 ws [] Y.o (yg _) (by have:=Y.o.len;have:=HW.o;omega) (by decide)).mono ?_;rintro A H ⟨⟨b1,rfl,h1⟩,y⟩;have c:Hid (blk H R (ocL M S N g o) 125/\Bl K H/\H.cell? ⟨M,3,nn⟩=sQ (I J C.p)):=⟨T.o.below y,y,(y.cell (by exact Q.o.1)).trans Y3.o⟩
  have D:=aa h1;clear h1 y L O;have L:=c.o.1.cell 0 (ap M) rfl;have O:=c.o.1.cell 14 (I J g) rfl;have z1:=c.o.1.cell 1 (I J S.f) rfl;cases b1
  .have h:Hid (¬X):=fun x=>by have:=D.o.2 ⟨(d.o.2 x).1.1,(d.o.2 x).1.2.1⟩;cases this
   go_wp2;go_ret;exact⟨⟨false,rfl,fun e=>(by cases e),fun e=>Qj e h.o⟩,c.o.2.1⟩
  cases qc:(g !=0);case true=>
   have h:Hid (¬X):=fun x=>by have:=(d.o.2 x).1.2.2;rw[this]at qc;simp at qc
   go_wp2;go_ret;exact⟨⟨false,rfl,fun e=>(by cases e),fun e=>Qj e h.o⟩,c.o.2.1⟩
  have P:Hid (iK N g ws):=⟨(D.o.1 rfl).1,(D.o.1 rfl).2,by simpa using qc⟩
  have i:=c.o.2.2;by_cases t:C.p=1
  .rw[t]at i;have r:=aa t;clear t;go_wp2_with(refine ZG 55 (kY c.o.1) underlying55 (dY _ _ _ _) ?_);refine(mO _ (HT.o _ c.o.2.1) (nL Q.o.2 c.o.2.1.size) S o.a o.n o.k E.o.len (by have:=E.o.len;have:=HL.o;omega)).mono ?_;rintro A B ⟨⟨u,rfl,w⟩,s⟩;have H2:Hid (blk B R (ocL M S N g o) 125/\Bl K B/\(u=true↔okS S)):=⟨c.o.1.below s,c.o.2.1.trans (s.mono c.o.2.1.size),w⟩
   clear w s c L O z1 i;have z1:=H2.o.1.cell 1 (I J S.f) rfl;cases u
   .have h:Hid (¬X):=fun x=>by have:=H2.o.2.2.2 ((d.o.2 x).2.1 r.o).1;cases this
    go_wp2;go_ret;exact⟨⟨false,rfl,fun e=>(by cases e),fun e=>Qj e h.o⟩,H2.o.2.1⟩
   cases qf:(S.f !=1)
   .have h:Hid (¬X):=fun x=>by have:=((d.o.2 x).2.1 r.o).2;simp at qf;exact this qf
    go_wp2;go_ret;exact⟨⟨false,rfl,fun e=>(by cases e),fun e=>Qj e h.o⟩,H2.o.2.1⟩
   .have HYE:Hid X:=d.o.1 ⟨P.o,fun _=>⟨H2.o.2.2.1 rfl,by simpa using qf⟩,fun e=>Qj r.o e⟩;go_wp2;go_ret;exact⟨⟨true,rfl,fun _=>HYE.o,fun _=>rfl⟩,H2.o.2.1⟩
  .have h1:(C.p==1)=false:=by simpa using t
   have r:=aa t;clear t;go_wp2_with(refine ZG 55 (kY c.o.1) underlying55 (dY _ _ _ _) ?_);refine(zo _ S scZ o.a o.n o.k nn 0 0 (E.o.below c.o.2.1) (yi _)).mono ?_;rintro A B ⟨⟨u,rfl,w⟩,s⟩;have H2:Hid (Bl K B/\(u=true↔X)):=⟨c.o.2.1.trans (s.mono c.o.2.1.size),w.trans ⟨fun e=>d.o.1 ⟨P.o,fun e1=>Qj e1 r.o,fun _=>e⟩,fun x=>(d.o.2 x).2.2 r.o⟩⟩
   clear w s;go_wp2;go_ret;exact⟨⟨u,rfl,H2.o.2⟩,H2.o.1⟩
 refine a3.mono ?_;rintro A w' ⟨⟨b,rfl,hb⟩,a1⟩;exact⟨⟨b,rfl,hb.trans d.o.symm⟩,a1⟩
end Go.Proofs.YtbbffcolnddcdaaGreatDoor
namespace Go.Proofs.YtbbffcolnddcdaaGreatDoor
open Go.Proofs.Tryz
open Go.Shelf Go.RowKit
set_option linter.all false
open Go.Value renaming int->I,slice->sL,bool->bO,pointer->pT,agg->aG
open Go.IntKind renaming i64->J
open Go.Ending renaming returned->rT
open Go.Proofs.Tryz renaming prog->Tp
def Tryz.laysW41_ren:Go.Shelf.Ren:=⟨fun|41=>81|n=>n,fun|22=>38|23=>108|n=>n,fun|n=>n⟩
def Tryz.laysW41:Go.Proofs.SlLaysE0.n41 Tp Tryz.laysW41_ren:={
 mixed:=kr
 f41:=⟨Tryz.f81.name,by kernel_rfl,func81.trans (congrArg some kr)⟩
 t4:=underlying4
 a4:=isAgg4
 z4:=sizeOf4
 v4:=zeroValue4
 t22:=underlying38
 a22:=isAgg38
 z22:=sizeOf38
 v22:=zeroValue38}
def nJ(l:List Nat):(wv l).length=l.length:=by simp[wv]
def Fv(W:World)(a:Option Addr)(n cap:Nat)(l:List Nat)(h:ah W a n cap l)(y:n<=1048576)(r:a=none\/∃g,a=be g):ce 81 #[sL a n cap] W fun e w'=>∃c d,e=rT (sL c n d)/\ab w' W.heap.size (sL c n d) l/\Bl W w':=by
 rcases r with rfl|⟨g,rfl⟩
 .have hl:l=[]:=Classical.byContradiction fun e=>by obtain⟨g,off,b,_⟩:=h.cells e;cases b
  subst hl;have v:n=0:=h.len;subst v;refine(AnyE.slices_Clone_nil Tryz.laysW41 0 cap W).mono ?_;rintro e w' ⟨rfl,rfl⟩;exact⟨none,0,rfl,gu _ _,bW _ _⟩
 .obtain⟨i0,hi,hz0,hz1,hz2⟩:=QH info108;refine(AnyE.slices_Clone Tryz.laysW41 i0 _ 1 8 hi hz0 hz1 hz2 rfl om sizeOf108 g 0 n cap (wv l) W (by rw[nJ,h.len];omega) (by unfold maxLen;omega) om (fun j u f=>?_) (fun u i=>?_)).mono ?_
  .have hjl:j<l.length:=by have:=(List.getElem?_eq_some_iff.mp f).1;rwa [nJ]at this
   obtain⟨p,off,b,s⟩:=h.cells (by intro e;rw[e]at hjl;cases hjl);cases b;rw[s j hjl,<- f,Dj l j hjl]
  .unfold wv at i;obtain⟨x,_,rfl⟩:=List.mem_map.1 i;rfl
  .rintro e w' ⟨v',rfl,ho,hv,hb⟩;have t:=h.len;rcases ho.2 with⟨e,_⟩|⟨p,k,cur,w,_⟩
   .exact Qj e hv
   .subst w;exact⟨_,k,rfl,by unfold ab;rw[<- t];exact ho,hb⟩
open Option renaming none->nn,some->sQ
open Go.RowKit
set_option maxRecDepth 20000
set_option maxHeartbeats 8000000
def mx.hIm{w0:World}{M:Nat}{G:Lg}{u w A:Nat}{C:Co}{W:World}(h:mx w0 M G u w A C W)(H:W.rangeAt 0 0 cQ)(g:0<W.heap.size)(k:wrP C.ho.bx)(a:∀f:onI C.ho.bx<C.ho.bx.length,vB C.ho.bx[onI C.ho.bx].e C.ho.bx[onI C.ho.bx].i C.ho.bx[onI C.ho.bx].r C.ho.bx[onI C.ho.bx].d C.ho.bx[onI C.ho.bx].l.length=true):hIm W G.P (aq C):=by
 have f:=lu k;have a:=a f;refine⟨C.ho.bx[onI C.ho.bx].e,C.ho.bx[onI C.ho.bx].i,C.ho.bx[onI C.ho.bx].r,C.ho.bx[onI C.ho.bx].d,C.ho.bx[onI C.ho.bx].l,fun V b=>?_,fun V n m c b hi=>?_⟩
 .obtain⟨hs,D,hc⟩:=h.below b;exact rR V G.P G.gb G.n2 G.kb C.ho.bx _ f (hc.h.p.cell 5 _ rfl) (hc.h.x.is hc.h.bd.nk) hc.h.bd.m2 (fun z g=>(vX g k).1)
 .refine (nd V (fun j v a=>(b.cell (p:=⟨0,0+j,nn⟩) (by exact g)).trans (H j v a)) (nL g b.size) _ _ _ _ n m c _ hi).mono ?_;rintro o w' ⟨s,y,rfl,B,E⟩;have t:=hi.len;subst t;rw[jG C f,Av _ _ _ _ _ a];refine⟨s,_,y,?_,B,rfl,E⟩;congr 2;rw[<- Av _ _ _ _ _ a,aN]
structure opO(w:World)(C:Co)(S:Sc)(N cu:Int)(ws:List Nat)(R:Nat)(w0:World)(M:Nat)(G:Lg)(nm B:Nat)(o:Os)(W:World):Prop where
 m:mx w0 M G 0 0 nm C W
 b0:Below w.heap.size w w0
 r:blk W R (ocL M S N cu o) 125
 n:lhU G R/\M<R/\B=R+1/\w0.heap.size<=R/\w.heap.size<B
 d:ae W B (sL o.a o.n o.k) S.l
 dn:o.n=S.l.length
 x:ab W B (sL o.aw o.nw o.kw) ws
 xn:o.nw=ws.length
def xf(w:World)(C:Co)(S:Sc)(N c:Int)(ws:List Nat)(q:Os)(h:fY w C S ws q)(hs:eB q.s)(ha:q.aw=nn\/∃g,q.aw=be g)(a8:cH C)(hm:C.ho.le 1048576)(hl:S.l.length<=1048576)(hw:ws.length<=1048576)(a3:w.rangeAt 0 0 cQ)(hz:0<w.heap.size):ce 28 #[aG (opL C S N c q).toArray] w fun o w'=>∃R b,o=rT (.tuple #[ap R,bO b])/\(b=true↔gA C S N c ws)/\(∃w0 M G nm B o',opO w C S N c ws R w0 M G nm B o' w')/\Below w.heap.size w w':=by
 have HN:=aa (opV.new w C S N c q);obtain⟨v0,af⟩:∃v0,v0=w.alloc (.cells (opL C S N c q).toArray 58):=⟨_,rfl⟩
 rw[<- af]at HN;have HV:=aa (Ht v0 C q.s (h.h.below HN.o.b) hm a8);have HO:Hid (∀X,Below w.heap.size w X->ce 80 #[aG (coL C q.s).toArray] X fun o w'=>∃M,o=rT (ap M)/\opn X C M w'):=fun X hX=>Gt X C q.s (h.h.below hX) hs a8 hm;have K:=aa h;have HA:=aa ha;have U:=aa a8;have HL:=aa hl;have HW:=aa hw;have HZ:=aa hz;have HT:Hid (∀V,Below w.heap.size w V->V.rangeAt 0 0 cQ):=fun V Y j v hv=>(Y.cell (p:=⟨0,0+j,nn⟩) (by exact hz)).trans (a3 j v hv);clear h hs ha a8 hm hl hw a3 hz;go_enter func28,ntmps28;go_upto_region 1 with fail
 change Code.wp _ _ _ _ (w.alloc (.cells (opL C S N c q).toArray 58));rw[<- af];clear af;go_wp2_with(refine ZG 52 (bJ HN.o.p) underlying52 (aV C q.s) ?_);refine HV.o.mono ?_;rintro ox w1 ⟨rfl,ao⟩;have H1:=aa (HN.o.below ao);clear ao HN HV;go_upto_region 3 with fail
 refine Qu (S:=fun X=>opV w C S N c q X) kr ?_;have hS:opV w C S N c q w1.drew:=H1.o.below (bW _ _).drew;clear H1;refine tk 0 ?_;refine tk 3 ?_;refine tk 5 ?_;refine tk 7 ?_;refine wU 1 (aG (coL C q.s).toArray) rfl (Qw (by rfl) 52 (.tmp 9) rfl w.heap.size 0 rfl (coL C q.s) _ (fun X h=>bJ h.p) underlying52 rfl (aV C q.s)) hS ?_;simp only[aZ];refine wU 4 (aG (scL S q.a q.n q.k).toArray) rfl (Qw (by rfl) 55 (.tmp 12) rfl w.heap.size 21 rfl (scL S q.a q.n q.k) _ (fun X h=>dy h.p) underlying55 rfl (dY _ _ _ _)) hS ?_;simp only[aZ];refine wU 6 (pkV N q.aw q.nw q.kw) rfl (Qw (by rfl) 56 (.tmp 14) rfl w.heap.size 32 rfl [I J N,sL q.aw q.nw q.kw] _ (fun X h=>eC h.p) underlying56 rfl (eH _ _ _ _)) hS ?_;simp only[aZ];refine tk 8 ?_ (hy:=fun b6 hW=>by(have y:=hW.p.cell 34 (I J c) rfl;go_simp;try rfl));refine al 2 fun a9 hK=>?_;go_simp;refine(HO.o _ hS.b).mono ?_;rintro ox t ⟨M,rfl,w0,G,nm,m1,m2,m3,m4,m5⟩;have HM:Hid (mx w0 M G 0 0 nm C t/\Below w.heap.size w w0/\M<t.heap.size/\lhU G t.heap.size/\w0.heap.size<=t.heap.size):=⟨m1,hS.b.trans (m2.mono hS.b.size),m3,(by obtain⟨_,_,hc⟩:=m1;exact⟨hc.h.lts,hc.h.b.size⟩)⟩
 go_wp2_with fail;refine hK.out _ _ (hS.below m5) (fun a1=>?_);clear hS hK a9 m1 m2 m3 m4 m5;have hS:=a1;clear a1;refine tk 9 ?_ (v:=aG (ocL M S N c q).toArray) (hy:=fun b6 hW=>by kernel_rfl);refine al 10 fun a9 hK=>?_;go_simp;have ac:Below t.heap.size t (t.alloc (.cells (ocL M S N c q).toArray 125)):=Zw;refine hK.out _ _ (hS.below ac) (fun a1=>?_);have E:Hid (opV w C S N c q (t.alloc (.cells (ocL M S N c q).toArray 125))/\Below t.heap.size t (t.alloc (.cells (ocL M S N c q).toArray 125))/\blk (t.alloc (.cells (ocL M S N c q).toArray 125)) t.heap.size (ocL M S N c q) 125):=⟨a1,ac,blk.new t _ 125⟩
 have a4:Hid (w.heap.size<t.heap.size):=hS.p.lt;clear hS hK a9 ac;have hS:=a1;clear a1;refine tk 11 ?_;refine Qs kr ?_ _;clear hS;generalize t.alloc (.cells (ocL M S N c q).toArray 125)=w3 at*;obtain⟨R,eR⟩:∃R,t.heap.size=R:=⟨_,rfl⟩
 rw[eR]at E a4 HM;rw[eR];have b3:=aa eR;clear eR;have bf:=E.o.1.p.cell 33 (sL q.aw q.nw q.kw) rfl;go_wp2_with fail;refine(Fv w3 q.aw q.nw q.kw ws (K.o.w.below E.o.1.b) (by have:=K.o.w.len;have:=HW.o;omega) HA.o).mono ?_;rintro ox D ⟨O,Q,rfl,b1,a7⟩;have H:Hid (opV w C S N c q D/\Below R t D/\blk D R (ocL M S N c q) 125/\ab D (R+1) (sL O q.nw Q) ws):=⟨E.o.1.below a7,E.o.2.1.trans (a7.mono (Q5 E.o.2.2.lt)),E.o.2.2.below a7,b1.lower E.o.2.2.lt⟩
 clear b1 a7 E bf;have bc:=H.o.2.2.1.cell 13 (sL q.aw q.nw q.kw) rfl;have b7:=H.o.2.2.1.free 13;go_upto_region 5 with fail
 obtain⟨f,W⟩:∃f:Os,f=⟨q.s,q.a,q.n,q.k,O,q.nw,Q⟩:=⟨_,rfl⟩
 have u:Hid (opV w C S N c q (D.setCell ⟨R,13,nn⟩ (sL O q.nw Q))/\Below R t (D.setCell ⟨R,13,nn⟩ (sL O q.nw Q))/\blk (D.setCell ⟨R,13,nn⟩ (sL O q.nw Q)) R (ocL M S N c f) 125/\ab (D.setCell ⟨R,13,nn⟩ (sL O q.nw Q)) (R+1) (sL f.aw f.nw f.kw) ws/\f.a=q.a/\f.n=q.n/\f.k=q.k/\f.nw=q.nw):=by
  have Y:∀x,x≠R->(D.setCell ⟨R,13,nn⟩ (sL O q.nw Q)).heap[x]?=D.heap[x]?:=fun x hx=>Ql _ _ _ _ hx;refine⟨⟨H.o.1.p.kept (Y _ (by have:=a4.o;omega)),H.o.1.b.setCell (by have:=a4.o;show _<=R;omega) _⟩,H.o.2.1.setCell (by show R<=R;omega) _,?_,?_,by rw[W],by rw[W],by rw[W],by rw[W]⟩
  .rw[W];exact H.o.2.2.1.set 13 _
  .rw[W];exact H.o.2.2.2.otherBlock fun g Z=>Y g (by have:=(Qm H.o.2.2.2 g Z).1;omega)
 generalize D.setCell ⟨R,13,nn⟩ (sL O q.nw Q)=w5 at*;clear W bc b7 H;go_wp2_with fail;refine(r9 w5 R 7 f.a f.n f.k S.l (u.o.2.2.1.cell 11 (sL f.a f.n f.k) rfl) (u.o.2.2.1.free 11) (by rw[u.o.2.2.2.2.1,u.o.2.2.2.2.2.1,u.o.2.2.2.2.2.2.1];exact K.o.d.below u.o.1.b) (by rw[u.o.2.2.2.2.2.1];have:=K.o.d.len;have:=HL.o;omega)).mono ?_;rintro ox w6 ⟨a6,c6,w7,rfl,rfl,ad,a5⟩;obtain⟨A,e6⟩:∃A:Os,A=⟨q.s,a6,f.n,c6,f.aw,f.nw,f.kw⟩:=⟨_,rfl⟩
 have T:Hid (opO w C S N c ws R w0 M G nm (R+1) A (w7.setCell ⟨R,7+4,nn⟩ (sL a6 f.n c6))/\Below w.heap.size w (w7.setCell ⟨R,7+4,nn⟩ (sL a6 f.n c6))):=by
  have Y:∀x,x≠R->(w7.setCell ⟨R,7+4,nn⟩ (sL a6 f.n c6)).heap[x]?=w7.heap[x]?:=fun x hx=>Ql _ _ _ _ hx;have bb:Below R t (w7.setCell ⟨R,7+4,nn⟩ (sL a6 f.n c6)):=(u.o.2.1.trans (a5.mono (Q5 u.o.2.2.1.lt))).setCell (by show R<=R;omega) _;have b8:=u.o.2.2.1.lt;refine⟨⟨HM.o.1.below (by show Below _ _ _;rw[b3.o];exact bb),HM.o.2.1,?_,⟨HM.o.2.2.2.1,HM.o.2.2.1,rfl,HM.o.2.2.2.2,by have:=a4.o;omega⟩,?_,?_,?_,?_⟩,?_⟩
  .rw[e6];exact(u.o.2.2.1.below a5).set 11 _
  .rw[e6];exact(ad.mono b8).otherBlock fun g Z=>Y g (by have:=(Qm ad g Z).1;omega)
  .rw[e6];show f.n=_;rw[u.o.2.2.2.2.2.1];exact K.o.d.len
  .rw[e6];exact(u.o.2.2.2.1.keep fun x _ hx=>a5.block x hx).otherBlock fun g Z=>Y g (by have:=(Qm u.o.2.2.2.1 g Z).1;omega)
  .rw[e6];show f.nw=_;rw[u.o.2.2.2.2.2.2.2];exact K.o.w.len
  .exact (u.o.1.b.trans (a5.mono u.o.1.b.size)).setCell (by have:=a4.o;show _<=R;omega) _
 generalize w7.setCell ⟨R,7+4,nn⟩ (sL a6 f.n c6)=L at*;clear e6 ad a5 u;have b4:Hid (∀x∈S.l,x<256):=K.o.d.small;have b5:Hid (∀x∈ws,x<18446744073709551616):=K.o.w.small;have am:Hid (ce 83 #[ap R] L fun o w'=>bH o (gA C S N c ws)/\Below L.heap.size L w'):=by
  have i:=T.o.1;have a3:=HT.o L T.o.2;have ak:0<L.heap.size:=nL HZ.o T.o.2.size;have aw:iB L A.a A.n A.k S.l:=i.d.is b4.o;have b2:ah L A.aw A.nw A.kw ws:=i.x.words i.xn b5.o (i.x.cap i.xn);by_cases a0:C.p=1/\C.tx=true
  .have hwr:=U.o.s.1 a0;obtain⟨ko,kz⟩:=pN U.o hwr;refine(Ff L M R G.P C S N c ws A i.r (i.m.m.cell 0 _ rfl) (i.m.m.cell 3 _ rfl) (i.m.m.cell 9 _ rfl) a0.1 a0.2 a3 ak aw b2 HW.o (i.m.hIm a3 ak hwr fun hk=>ly U.o hwr hk) (fun k hk=>(pO K.o.h U.o hwr hk).1) ko kz).mono ?_;rintro ox w' ⟨⟨b,rfl,hb⟩,h2⟩;exact⟨⟨b,rfl,hb.trans (zM U.o a0.1 a0.2).symm⟩,h2⟩
  .have hsf:snd C=false:=by
    unfold snd;cases h1:(C.p==1)
    .rfl
    .cases h2:C.tx
     .rfl
     .exact Qj ⟨by simpa using h1,h2⟩ a0
   refine(Fg L M R C S N c ws A i.r (i.m.m.cell 3 _ rfl) (i.m.m.cell 9 _ rfl) hsf a3 ak aw HL.o b2 HW.o).mono ?_;rintro ox w' ⟨⟨b,rfl,hb⟩,h2⟩;refine⟨⟨b,rfl,hb.trans ?_⟩,h2⟩;by_cases hp:C.p=1
   .have ht:C.tx=false:=by cases e:C.tx;rfl;exact Qj ⟨hp,e⟩ a0
    rw[zO U.o hp ht];exact⟨fun x=>⟨x.1,x.2.1 hp⟩,fun x=>⟨x.1,fun _=>x.2,fun e=>Qj hp e⟩⟩
   .rw[zN U.o hp];exact⟨fun x=>⟨x.1,x.2.2 hp⟩,fun x=>⟨x.1,fun e=>Qj e hp,fun _=>x.2⟩⟩
 go_wp2_with fail;refine am.o.mono ?_;rintro ox w9 ⟨⟨b9,rfl,h9⟩,a2⟩;have H9:Hid ((b9=true↔gA C S N c ws)/\opO w C S N c ws R w0 M G nm (R+1) A w9/\Below w.heap.size w w9):=by
  have i:=T.o.1;exact⟨h9,⟨i.m.below a2,i.b0,i.r.below a2,i.n,i.d.otherBlock fun g Z=>a2.block g (Qm i.d g Z).2,i.dn,i.x.keep fun x _ hx=>a2.block x hx,i.xn⟩,T.o.2.trans (a2.mono T.o.2.size)⟩
 clear h9 a2 T am;go_wp2_with fail;refine Qp (v:=.tuple #[ap R,bO b9]) (by simp[results,results28,go_sem]) rfl ?_;exact⟨R,b9,rfl,H9.o.1,⟨w0,M,G,nm,R+1,A,H9.o.2.1⟩,H9.o.2.2⟩
def ua(w:World)(C:Co)(S:Sc)(N a:Int)(ws:List Nat)(q:Os)(h:fY w C S ws q)(hs:eB q.s)(t:q.aw=nn\/∃g,q.aw=be g)(f:C.ho.le 1048576)(x:S.l.length<=1048576)(y:ws.length<=1048576)(D:w.rangeAt 0 0 cQ)(A:0<w.heap.size):ce 28 #[aG (opL C S N a q).toArray] w fun o w'=>∃p b,o=rT (.tuple #[.pointer p,bO b])/\(b=true↔gA C S N a ws)/\(b=true->∃R w0 M G j B k,p=be R/\opO w C S N a ws R w0 M G j B k w')/\Below w.heap.size w w':=by
 by_cases d:cH C
 .refine (xf w C S N a ws q h hs t d f x y D A).mono ?_;rintro O w' ⟨R,b,rfl,h1,⟨w0,M,G,j,B,k,K⟩,L⟩;exact⟨_,b,rfl,h1,fun _=>⟨R,w0,M,G,j,B,k,rfl,K⟩,L⟩
 .have HN:=aa (opV.new w C S N a q);obtain⟨n,i⟩:∃n,n=w.alloc (.cells (opL C S N a q).toArray 58):=⟨_,rfl⟩
  rw[<- i]at HN;have r:=aa (FW n C q.s (h.h.below HN.o.b) f d);have H:=aa d;clear h hs t d f x y D A;go_enter func28,ntmps28;go_upto_region 1 with fail
  change Code.wp _ _ _ _ (w.alloc (.cells (opL C S N a q).toArray 58));rw[<- i];clear i;go_wp2_with(refine ZG 52 (bJ HN.o.p) underlying52 (aV C q.s) ?_);refine r.o.mono ?_;rintro O P ⟨rfl,u⟩;have E:=aa (HN.o.below u);clear u HN r;go_wp2_with fail;refine Qp (v:=.tuple #[.pointer nn,bO false]) (by simp[results,results28,go_sem]) rfl ?_;exact⟨nn,false,rfl,⟨fun e=>(by cases e),fun e=>Qj e.c H.o⟩,fun e=>(by cases e),E.o.b⟩
open Go renaming World->Wd
def mx.far{w0:Wd}{M:Nat}{G:Lg}{b c nm:Nat}{C:Co}{W:Wd}(h:mx w0 M G b c nm C W){R:Nat}(d:lhU G R)(f:M<R)(h0:w0.heap.size<=R)(k:Nat)(l:List Value):mx w0 M G b c nm C (W.setCells R k l):=by
 obtain⟨_,_,a⟩:=h;exact⟨_,_,a.m.other om _ _,a.h.put d (nR R) k l,a.o,a.e⟩
section
variable{w:Wd}{C:Co}{S:Sc}{N cu:Int}{ws:List Nat}{R:Nat}{w0:Wd}{M:Nat}{G:Lg}{nm B:Nat}{o:Os}{W:Wd}
def opO.below(h:opO w C S N cu ws R w0 M G nm B o W){W':Wd}(hb:Bl W W'):opO w C S N cu ws R w0 M G nm B o W':=⟨h.m.below hb,h.b0,h.r.below hb,h.n,h.d.otherBlock fun g hg=>hb.block g (Qm h.d g hg).2,h.dn,h.x.keep fun x _ hx=>hb.block x hx,h.xn⟩
def opO.put(h:opO w C S N cu ws R w0 M G nm B o W){S':Sc}{e f:Int}{d:List Nat}{b:Os}(k:Nat)(l:List Value)(s:blk (W.setCells R k l) R (ocL M S' e f b) 125)(hd:ae W B (sL b.a b.n b.k) S'.l)(p:b.n=S'.l.length)(j:ab W B (sL b.aw b.nw b.kw) d)(u:b.nw=d.length):opO w C S' e f d R w0 M G nm B b (W.setCells R k l):=by
 obtain⟨t,n2,n3,n4,v⟩:=h.n;have i:∀q,q≠R->(W.setCells R k l).heap[q]?=W.heap[q]?:=fun q r=>sO R q r _ _ _;refine⟨h.m.far t n2 n4 _ _,h.b0,s,h.n,hd.otherBlock fun g c=>i g ?_,p,j.otherBlock fun g c=>i g ?_,u⟩
 .have:=Qm hd g c;omega
 .have:=Qm j g c;omega
end
def kE{w:Wd}{b M:Nat}{S S':Sc}{N cu:Int}{o:Os}{a:Option Addr}{n k:Nat}{T:TypeId}(h:blk w b (ocL M S N cu o) T):blk (w.setCells b 1 (scL S' a n k)) b (ocL M S' N cu ⟨o.s,a,n,k,o.aw,o.nw,o.kw⟩) T:=by
 have e:ocL M S N cu o=[Value.pointer (be M)]++scL S o.a o.n o.k++pk3 N o.aw o.nw o.kw cu:=rfl;rw[e]at h;exact h.put [Value.pointer (be M)] (scL S o.a o.n o.k) (pk3 N o.aw o.nw o.kw cu) (scL S' a n k) rfl
def lQ{w:Wd}{b M:Nat}{S:Sc}{N c cu:Int}{o:Os}{a:Option Addr}{n k:Nat}{T:TypeId}(h:blk w b (ocL M S N cu o) T):blk (w.setCells b 12 [I J c,sL a n k]) b (ocL M S c cu ⟨o.s,o.a,o.n,o.k,a,n,k⟩) T:=by
 have e:ocL M S N cu o=([Value.pointer (be M)]++scL S o.a o.n o.k)++[I J N,sL o.aw o.nw o.kw]++[I J cu]:=rfl;rw[e]at h;have:=h.put ([Value.pointer (be M)]++scL S o.a o.n o.k) [I J N,sL o.aw o.nw o.kw] [I J cu] [I J c,sL a n k] rfl;exact this
section
variable{w:World}{C:Co}{S:Sc}{N cu:Int}{ws:List Nat}{R:Nat}{w0:World}{M:Nat}{G:Lg}{nm B:Nat}{o:Os}{V W:World}
def opO.level(h:opO w C S N cu ws R w0 M G nm B o W)(hs:∀x∈ws,x<18446744073709551616)(P:ws.length<=1048576)(A:C.p=1->C.tx=true->0<=cu/\cu<64*(ws.length:Int)):ce 347 #[ap R] W fun o w'=>o=rT (I J (olZ C S cu ws))/\Bl W w':=by
 have T:=aa h;have y0:=h.r.cell 0 (ap M) rfl;have s:=h.m.m.cell 3 (I J C.p) rfl;have D:=h.m.m.cell 6 (bO C.wk) rfl;have j:=h.m.m.cell 9 (bO C.tx) rfl;by_cases e:C.p=1
 .have hp2:¬(C.p=2/\C.wk=false):=om;rw[e]at s;cases ht:C.tx
  .rw[ht]at j;have k:Hid (ce 132 #[ap M] W fun o w'=>o=rT (bO false)/\w'=W):=eT W M true false 1 rfl s j;have c:Hid (olZ C S cu ws=if((S.f==12)&&(S.ac==S.cr))=true then 0 else 1):=by
    show _=_;unfold olZ;rw[QV hp2,QW e,QV (by rw[ht];decide)];simp
   clear h hs P A e hp2 ht D j;obtain⟨U,L⟩:∃b,(S.f==12)=b:=⟨_,rfl⟩
   obtain⟨H,e2⟩:∃b,(S.ac==S.cr)=b:=⟨_,rfl⟩
   rw[L,e2]at c;go_enter func347,ntmps347;go_wp2_with fail;refine k.o.mono ?_;rintro n a ⟨rfl,rfl⟩;go_wp2_with fail;refine Qu (S:=fun X=>blk X R (ocL M S N cu o) 125/\Bl a X) kr ?_;have hS:blk a.drew R (ocL M S N cu o) 125/\Bl a a.drew:=⟨T.o.r.below (bW _ _).drew,(bW _ _).drew⟩
   clear k y0 s;refine tk 0 ?_;refine tk 1 ?_;refine tk 2 ?_;refine tk 3 ?_;refine tk 4 ?_ (hy:=fun X d=>by(have y:=d.1.cell 1 (I J S.f) rfl;go_simp;try rfl));refine tk 5 ?_ (v:=bO U);refine tk 6 ?_;cases U
   .refine tn 7 ?_;refine tn 8 ?_;refine tn 9 ?_;refine tn 10 ?_;refine tn 11 ?_;refine tn 12 ?_;refine tn 13 ?_;refine tn 14 ?_;refine tn 15 ?_;refine tn 16 ?_;refine tn 17 ?_;refine tk 18 ?_;refine al 19 fun K g=>?_;go_simp;refine(oJ _ _).mono ?_;rintro n Q ⟨rfl,rfl⟩;go_wp2_with fail;refine g.out _ _ hS (fun l=>?_);refine tk 20 ?_;have t:=hS.2;refine Qs kr ?_ _;clear hS l g K;go_wp2;go_ret;exact⟨by rw[c.o];rfl,t⟩
   .refine tk 7 ?_;refine tk 8 ?_;refine tk 9 ?_;refine tk 10 ?_;refine tk 11 ?_ (hy:=fun X d=>by(have y:=d.1.cell 6 (I J S.ac) rfl;go_simp;try rfl));refine tk 12 ?_;refine tk 13 ?_;refine tk 14 ?_;refine tk 15 ?_;refine tk 16 ?_ (hy:=fun X d=>by(have y:=d.1.cell 5 (I J S.cr) rfl;go_simp;try rfl));refine tk 17 ?_ (v:=bO H);refine tk 18 ?_;refine al 19 fun K g=>?_;go_simp;refine(oJ _ _).mono ?_;rintro n Q ⟨rfl,rfl⟩;have Z:Hid (olZ C S cu ws=if H=true then 0 else 1):=by show _=_;rw[c.o,Bool.true_and]
    generalize (if H=true then(0:Int)else 1)=lv at*;go_wp2_with fail;refine g.out _ _ hS (fun l=>?_);refine tk 20 ?_;have t:=hS.2;refine Qs kr ?_ _;clear hS l g K c;go_wp2;go_ret;exact⟨by rw[Z.o];rfl,t⟩
  .rw[ht]at j;have k:Hid (ce 132 #[ap M] W fun o w'=>o=rT (bO true)/\w'=W):=eT W M true true 1 rfl s j;obtain⟨Y,c1⟩:=A e ht;obtain⟨i,rfl⟩:=Int.eq_ofNat_of_zero_le Y;have c:Hid (olZ C S (i:Int) ws=(lev ws i:Int)):=by
    show _=_;unfold olZ;rw[QV hp2,QW e,QW ht,Int.toNat_natCast]
   have E:Hid (∀X,Bl W X->ce 195 #[pkV N o.aw o.nw o.kw,I J (i:Int)] X fun q w'=>q=rT (I J (lev ws i:Int))/\Bl X w'):=fun X d=>by
    have u:=h.below d;refine(dc X N o.aw o.nw o.kw ws (u.x.words u.xn hs (u.x.cap u.xn)) i (by have:=h.xn;omega) (by have:=h.xn;omega)).mono ?_;rintro q w' ⟨rfl,rfl⟩;exact⟨rfl,Zw⟩
   rw[c.o];clear h hs P A e hp2 ht D j Y c1 c;generalize (lev ws i:Int)=lv at*;go_enter func347,ntmps347;go_wp2_with fail;refine k.o.mono ?_;rintro n a ⟨rfl,rfl⟩;go_wp2_with fail;refine Qu (S:=fun X=>blk X R (ocL M S N (i:Int) o) 125/\Bl a X) kr ?_;have hS:blk a.drew R (ocL M S N (i:Int) o) 125/\Bl a a.drew:=⟨T.o.r.below (bW _ _).drew,(bW _ _).drew⟩
   refine tk 0 ?_;refine tk 1 ?_;refine tk 2 ?_;refine wU 3 (pkV N o.aw o.nw o.kw) rfl (Qw (by rfl) 56 (.tmp 11) rfl R 12 rfl [I J N,sL o.aw o.nw o.kw] _ (fun X h=>pw h.1) underlying56 rfl (eH _ _ _ _)) hS ?_;simp only[aZ];refine tk 4 ?_;refine tk 5 ?_;refine tk 6 ?_;refine tk 7 ?_ (hy:=fun X d=>by(have y:=d.1.cell 14 (I J (i:Int)) rfl;go_simp;try rfl));refine al 8 fun K g=>?_;go_simp;refine(E.o _ hS.2).mono ?_;rintro n Q ⟨rfl,O⟩;go_wp2_with fail;refine g.out _ _ ⟨hS.1.below O,hS.2.trans (O.mono hS.2.size)⟩ (fun l=>?_);clear hS g K O;have hS:=l;clear l;refine tk 9 ?_;have t:=hS.2;refine Qs kr ?_ _;clear hS;go_wp2;go_ret;exact⟨rfl,t⟩
 .have L:(C.p==1)=false:=by simpa using e
  have k:Hid (ce 132 #[ap M] W fun o w'=>o=rT (bO false)/\w'=W):=eT W M false C.tx C.p L s j;have E:=aa (zq W M C.p (C.p==2) C.wk rfl s D);have c:Hid (olZ C S cu ws=if((C.p==2)&& !C.wk)=true then 0 else 1):=by
   show _=_;unfold olZ;rw[QV e];cases C.wk<;>simp
  generalize (if((C.p==2)&& !C.wk)=true then(0:Int)else 1)=lv at*;rw[c.o];clear h hs P A e D j;go_enter func347,ntmps347;go_wp2_with fail;refine k.o.mono ?_;rintro n a ⟨rfl,rfl⟩;go_wp2_with fail;refine E.o.mono ?_;rintro n Q ⟨rfl,rfl⟩;go_wp2_with fail;go_ret;exact⟨rfl,bW _ _⟩
end
def vA{w u W:World}{B:Nat}{e:TypeId}{v:Value}{n:Nat}{xs:List Value}(h:w.ownsRow B e 1 v n xs)(p:∀g,v.ownBlock=some g->u.heap[g]?=w.heap[g]?)(k:kpt u W):W.ownsRow B e 1 v n xs\/n=0:=by
 obtain⟨h1,⟨r,a⟩|⟨g,cap,cur,rfl,b,c,d,f,i,j⟩⟩:=h
 .exact .inr a
 .by_cases s:cap=0
  .exact .inr om
  .have h8:=(p g rfl).trans c;have l:u.cell? ⟨g,0,none⟩=some cur[0]:=by
    simp only[World.cell?,h8];simp
   exact .inl ⟨h1,.inr ⟨g,cap,cur,rfl,b,(k.2 g 0 _ l).trans h8,d,f,i,j⟩⟩
structure oq(w0:World)(M:Nat)(G:Lg)(f1 nm:Nat)(C:Co)(S:Sc)(N cu:Int)(ws:List Nat)(R:Nat)(o:Os)(W:World):Prop where
 m:mx w0 M G f1 0 nm C W
 r:blk W R (ocL M S N cu o) 125
 n:R≠M/\R≠G.P/\R≠G.mb/\R≠G.gf/\R≠G.gb/\R≠G.gr/\R≠G.gq/\w0.heap.size<=R
 e:iU G.u R
 d:ae W (R+1) (sL o.a o.n o.k) S.l\/S.l=[]
 dn:o.n=S.l.length
 x:ab W (R+1) (sL o.aw o.nw o.kw) ws\/ws=[]
 xn:o.nw=ws.length
section
variable{w0:World}{M:Nat}{G:Lg}{f1 nm:Nat}{C:Co}{S S':Sc}{N N' cu cu':Int}{ws ws':List Nat}{R:Nat}{o o':Os}{W W':World}
def oq.below(h:oq w0 M G f1 nm C S N cu ws R o W)(hb:Bl W W'):oq w0 M G f1 nm C S N cu ws R o W':=⟨h.m.below hb,h.r.below hb,h.n,h.e,h.d.imp (fun h=>h.below hb) id,h.dn,h.x.imp (fun h=>h.keep fun x _ hx=>hb.block x hx) id,h.xn⟩
def oq.to(h:oq w0 M G f1 nm C S N cu ws R o W)(j:blk W' R (ocL M S' N' cu' o') 125)(c:∀q,q≠R->W'.heap[q]?=W.heap[q]?)(s:W'.heap.size=W.heap.size)(f:Bl w0 W->Bl w0 W')(hd:ae W (R+1) (sL o'.a o'.n o'.k) S'.l\/S'.l=[])(i:o'.n=S'.l.length)(p:ab W (R+1) (sL o'.aw o'.nw o'.kw) ws'\/ws'=[])(r:o'.nw=ws'.length):oq w0 M G f1 nm C S' N' cu' ws' R o' W':=by
 refine⟨?_,j,h.n,h.e,hd.imp (fun h=>h.otherBlock fun g d=>c g ?_) id,i,p.imp (fun h=>h.otherBlock fun g d=>c g ?_) id,r⟩
 .obtain⟨hs,D,q⟩:=h.m;exact⟨hs,D,q.m.kept (c M (Ne.symm h.n.1)),q.h.other R h.n.2 c s (f q.h.b) h.e,q.o,q.e⟩
 .have:=Qm h g d;omega
 .have:=Qm h g d;omega
def oq.put(h:oq w0 M G f1 nm C S N cu ws R o W)(k:Nat)(l:List Value)(hr:blk (W.setCells R k l) R (ocL M S' N' cu' o') 125)(hd:ae W (R+1) (sL o'.a o'.n o'.k) S'.l\/S'.l=[])(hdn:o'.n=S'.l.length)(hx:ab W (R+1) (sL o'.aw o'.nw o'.kw) ws'\/ws'=[])(hxn:o'.nw=ws'.length):oq w0 M G f1 nm C S' N' cu' ws' R o' (W.setCells R k l):=
 h.to hr (fun q hq=>sO _ q hq _ _ _) (sZ ..) (fun hb=>sW h.n.2.2.2.2.2.2.2 k l hb) hd hdn hx hxn
def oq.cur(h:oq w0 M G f1 nm C S N cu ws R o W)(cu':Int):oq w0 M G f1 nm C S N cu' ws R o (W.setCell ⟨R,14,none⟩ (I J cu')):=
 h.to (h.r.set 14 (I J cu')) (fun q hq=>Ql W ⟨R,14,none⟩ q _ hq) pQ (fun hb=>hb.setCell (by exact h.n.2.2.2.2.2.2.2) _) h.d h.dn h.x h.xn
end
section
variable{w0:World}{M:Nat}{G:Lg}{f1 nm:Nat}{C:Co}{S:Sc}{N cu:Int}{ws:List Nat}{R:Nat}{o:Os}{W:World}
def oq.load(h:oq w0 M G f1 nm C S N cu ws R o W)(E:ByteArray)(Y:hIm W G.P E):ce 355 #[ap R] W fun q w'=>q=rT (.tuple #[])/\(∃b,oq w0 M G f1 nm C S (E.size:Int) cu (wl (lt E)) R b w'/\ab w' (R+1) (sL b.aw b.nw b.kw) (wl (lt E)))/\∀q,q≠R->q<W.heap.size->w'.heap[q]?=W.heap[q]?:=by
 obtain⟨fe,fi,fr,fd,fl,A,B⟩:=Y;have t:=aa h;have v:=aa A;have w:=aa B;have y0:=h.r.cell 0 (ap M) rfl;have x0:=h.m.m.cell 0 (ap G.P) rfl;clear h A B;go_enter func355,ntmps355;go_wp2_with fail;refine(v.o _ (bW _ _)).mono ?_;rintro Z w1 ⟨Q,m,c,rfl,D,y⟩;have e:=aa (qB D y);clear D y v y0 x0;go_wp2_with fail;refine(w.o _ Q m c e.o.2 e.o.1).mono ?_;rintro Z i ⟨l,f,p,rfl,K,H,u⟩;have H2:Hid (oq w0 M G f1 nm C S N cu ws R o i/\ab i (R+1) (sL l f p) (wl (lt E))/\f=(wl (lt E)).length/\Bl W i):=⟨(t.o.below e.o.2).below u,K.lower (by have:=t.o.r.lt;have:=e.o.2.size;omega),H,e.o.2.trans (u.mono e.o.2.size)⟩
 clear K H u t e w;go_wp2_with(refine Zs 56 #[I J (E.size:Int),sL l f p] (H2.o.1.r.there 12 2 (by rw[kZ];decide)) (yI _ _ _ _) (sb _ _ _ _) ?_;generalize x:World.setCells i R 12 _=j;have O:Hid (_=j):=x;clear x);have L:Hid ((∃b,oq w0 M G f1 nm C S (E.size:Int) cu (wl (lt E)) R b j/\ab j (R+1) (sL b.aw b.nw b.kw) (wl (lt E)))/\∀q,q≠R->q<W.heap.size->j.heap[q]?=W.heap[q]?):=by
  have T:i.setCells R 12 [I J (E.size:Int),sL l f p]=j:=O.o;rw[<- T];refine⟨⟨⟨o.s,o.a,o.n,o.k,l,f,p⟩,H2.o.1.put 12 _ (lQ H2.o.1.r) H2.o.1.d H2.o.1.dn (.inl H2.o.2.1) H2.o.2.2.1,H2.o.2.1.otherBlock fun g X=>sO _ g (by have:=Qm H2.o.2.1 g X;omega) _ _ _⟩,fun q h1 U=>(sO _ q h1 _ _ _).trans (H2.o.2.2.2.block q U)⟩
 refine bN ?_
 exact⟨rfl,L.o⟩
def oq.follow(h:oq w0 M G f1 nm C S N cu ws R o W)(a5:w0.rangeAt 0 0 cQ)(hz:0<w0.heap.size)(a4:0<=cu/\cu<=1000000000)(E s:Bool)(ep:(C.p==1)=E)(es:(E&&C.tx)=s)(hI:s=true->N=0->wrP C.ho.bx/\∀hk:onI C.ho.bx<C.ho.bx.length,vB C.ho.bx[onI C.ho.bx].e C.ho.bx[onI C.ho.bx].i C.ho.bx[onI C.ho.bx].r C.ho.bx[onI C.ho.bx].d C.ho.bx[onI C.ho.bx].l.length=true)(u:s=true->N≠0->ws≠[])
  (S':Sc) (O a1:Int) (H:List Nat) (eS:S'=if E=true then S else scZ) (eN:s=true->O=(if N=0 then((aq C).size:Int)else N)/\H=(if N=0 then wl (lt (aq C))else ws)/\a1=cu+1) (eZ:s=false->O=0/\H=[]/\a1=0) :
  ce 349 #[ap R] W fun q w'=>q=rT (.tuple #[])/\(∃T,oq w0 M G f1 nm C S' O a1 H R T w'/\ab w' (R+1) (sL T.aw T.nw T.kw) H)/\∀q,q≠R->q<W.heap.size->w'.heap[q]?=W.heap[q]?:=by
 have B:=aa h;have HT:Hid (∀V,Bl w0 V->V.rangeAt 0 0 cQ/\0<V.heap.size):=fun V hV=>⟨fun j v hv=>(hV.cell (p:=⟨0,0+j,nn⟩) (by exact hz)).trans (a5 j v hv),nL hz hV.size⟩
 have HI:=aa hI;have HN:=aa u;have a0:=aa eS;have HE:=aa (qB eN eZ);have hne:(C.p !=1)= !E:=by rw[<- ep];rfl
 have y0:=h.r.cell 0 (ap M) rfl;have y3:=h.m.m.cell 3 (I J C.p) rfl;have HC:=aa a4
 have a2:Hid (∀X,X.cell? ⟨M,3,nn⟩=sQ (I J C.p)->X.cell? ⟨M,9,nn⟩=sQ (bO C.tx)->ce 132 #[ap M] X fun o w'=>o=rT (bO s)/\w'=X):=fun X Q h9=>by
  rw[<- es];exact eT X M E C.tx C.p ep Q h9
 have a3:=h.r.there 1 11 (by rw[kZ];decide);clear h a5 hz hI u eS eN eZ a4 es;go_enter func349,ntmps349;go_upto_if 10 with fail
 go_cut [] (fun A=>∃w,Hid (oq w0 M G f1 nm C S' N cu ws R w A/\W.heap.size<=A.heap.size/\∀q,q≠R->q<W.heap.size->A.heap[q]?=W.heap[q]?));case first=>
  cases E;case false=>
   go_wp2_with(refine Zs 55 (scL scZ nn 0 0).toArray a3 dh (fO _ _ _ _) ?_);go_meet;case rel=>exact⟨⟨o.s,nn,0,0,o.aw,o.nw,o.kw⟩,by rw[a0.o];exact⟨B.o.put 1 _ (kE B.o.r) (.inr rfl) rfl B.o.x B.o.xn,by rw[sZ];exact nR _,fun q h1 _=>sO _ q h1 _ _ _⟩⟩
  case true=>
   go_wp2_with fail;go_meet;case rel=>exact⟨o,by rw[a0.o];exact⟨B.o,nR _,fun _ _ _=>rfl⟩⟩
 case rest=>
 obtain⟨w,U⟩:=hcut;have c:=aa U.o.1;have K:=aa U.o.2;clear U;have z0:=c.o.r.cell 0 (ap M) rfl;have L:=aa (a2.o _ (c.o.m.m.cell 3 (I J C.p) rfl) (c.o.m.m.cell 9 (bO C.tx) rfl));clear y0 y3 hne a2 B a3 a0;cases s;case false=>
  have HZ:=aa (HE.o.2 rfl);go_wp2_with fail;refine L.o.mono ?_;rintro ox w2 ⟨rfl,rfl⟩;clear L;go_wp2_with(refine Zs 56 #[I J 0,sL nn 0 0] (c.o.r.there 12 2 (by rw[kZ];decide)) (yI _ _ _ _) (sb _ _ _ _) ?_;have Y:Hid (oq w0 M G f1 nm C S' 0 cu [] R ⟨w.s,w.a,w.n,w.k,nn,0,0⟩ (World.setCells _ R 12 [I J 0,sL nn 0 0])):=c.o.put 12 _ (lQ c.o.r) c.o.d c.o.dn (.inr rfl) rfl;have a9:=Y.o.r.cell 14 (I J cu) rfl;have a7:=Y.o.r.free 14);refine bN ?_
  exact⟨rfl,by obtain⟨f,t,e3⟩:=HZ.o;rw[f,t,e3];exact⟨⟨_,Y.o.cur 0,gu _ _⟩,fun q h1 D=>(Ql _ _ _ _ (by exact h1)).trans ((sO _ q h1 _ _ _).trans (K.o.2 q h1 D))⟩⟩
 case true=>
  have Z:=aa (HE.o.1 rfl);have a6:=aa (HN.o rfl)
  have HM:Hid (N=0->hIm wc G.P (aq C)):=fun a8=>by
   have hb:Bl w0 wc:=by obtain⟨_,_,q⟩:=c.o.m;exact q.h.b
   obtain⟨t1,t2⟩:=HT.o _ hb;obtain⟨i1,i2⟩:=HI.o rfl a8;exact c.o.m.hIm t1 t2 i1 i2
  go_wp2_with fail;refine L.o.mono ?_;rintro ox w2 ⟨rfl,rfl⟩;clear L;have ac:=c.o.r.cell 12 (I J N) rfl;obtain⟨n0,e0⟩:∃b,(N==0)=b:=⟨_,rfl⟩
  go_upto_if 33 with fail
  go_cut [] (fun A=>∃y,Hid (oq w0 M G f1 nm C S' O cu H R y A/\ab A (R+1) (sL y.aw y.nw y.kw) H/\∀q,q≠R->q<W.heap.size->A.heap[q]?=W.heap[q]?));case first=>
   cases n0;case false=>
    go_wp2_with fail;go_meet;case rel=>
     have u:N≠0:=by simpa using e0
     obtain⟨f,t,_⟩:=Z.o;rw[QV u]at f t;exact⟨w,by rw[f,t];exact⟨c.o,c.o.x.resolve_right (a6.o u),K.o.2⟩⟩
   case true=>
    go_wp2_with fail;refine(c.o.load (aq C) (HM.o (by simpa using e0))).mono ?_;rintro ox w3 ⟨rfl,⟨y,D⟩,Q⟩;have H2:=aa (qB D fun q a b=>(Q q a (nL b K.o.1)).trans (K.o.2 q a b));clear D Q;go_wp2_with fail;go_meet;case rel=>
     have u:N=0:=by simpa using e0
     obtain⟨f,t,_⟩:=Z.o;rw[QW u]at f t;exact⟨y,by rw[f,t];exact⟨H2.o.1.1,H2.o.1.2,H2.o.2⟩⟩
  case rest=>
  obtain⟨y,H2⟩:=hcut;have a9:=H2.o.1.r.cell 14 (I J cu) rfl;have a7:=H2.o.1.r.free 14;have hw:IntKind.i64.wrap (cu+1)=cu+1:=by rw[QC];have:=HC.o;omega
  clear z0 ac c HM;go_wp2_with fail;refine bN ?_
  exact⟨rfl,by obtain⟨_,_,e3⟩:=Z.o;rw[e3];exact⟨⟨_,H2.o.1.cur (cu+1),H2.o.2.1.otherBlock fun g hg=>Ql _ _ _ _ (by have:=Qm H2.o.2.1 g hg;show g≠R;omega)⟩,fun q h1 D=>(Ql _ _ _ _ (by exact h1)).trans (H2.o.2.2 q h1 D)⟩⟩
end
def blk.nb{w:Wd}{q:Nat}{L:List Value}{T:TypeId}(h:blk w q L T)(hT:T≠5):nb w q:=⟨_,T,_,h,hT⟩
def kS(S:Sc)(a:Option Addr)(n k:Nat):List Value:=[bO S.e,I .u32 (S.i:Int),bO S.r,I J S.d,sL a n k]
def DA{w:Wd}{b M:Nat}{S:Sc}{N cu:Int}{o:Os}{T:TypeId}(h:blk w b (ocL M S N cu o) T):w.rangeAt b 7 (kS S o.a o.n o.k):=blk.loadAt [ap M,I J S.f,I J S.lf,I J S.rn,I J S.lv,I J S.cr,I J S.ac] (kS S o.a o.n o.k) (pk3 N o.aw o.nw o.kw cu) h
def GA{w:Wd}{b M:Nat}{S:Sc}{N cu:Int}{o:Os}{T:TypeId}(h:blk w b (ocL M S N cu o) T)(i:Nat)(j:Int):w.cell? ⟨b,i,nn⟩≠sQ (I .u8 j):=fun e=>by
 unfold blk at h;simp only[World.cell?,h]at e;have e2:=List.mem_of_getElem? (l:=ocL M S N cu o) (i:=i) (by simpa using e);simp[ocL,scL,pk3]at e2
section
variable{w:Wd}{C:Co}{S S':Sc}{N cu:Int}{ws:List Nat}{R:Nat}{w0:Wd}{M:Nat}{G:Lg}{nm B:Nat}{o:Os}{W W':Wd}
def opO.mch(h:opO w C S N cu ws R w0 M G nm B o W){a:Lg}(e:lhU a R)(f:mx w0 M a 0 0 nm C W')(b:∀q,q≠M->W'.heap[q]?=W.heap[q]?):opO w C S N cu ws R w0 M a nm B o W':=by
 obtain⟨_,n2,n3,n4,i⟩:=h.n;refine⟨f,h.b0,h.r.kept (b R om),⟨e,n2,n3,n4,i⟩,h.d.otherBlock fun g c=>b g ?_,h.dn,h.x.otherBlock fun g c=>b g ?_,h.xn⟩
 .have:=Qm h.d g c;omega
 .have:=Qm h.x g c;omega
def opO.sk(h:opO w C S N cu ws R w0 M G nm B o W)(tab:W.rangeAt 0 0 cQ)(hz:0<R):sK ⟨R,1,125,[ap M],pk3 N o.aw o.nw o.kw cu⟩ W W B S o.a o.n o.k:=
 ⟨rfl,h.r,h.d,h.dn,bW _ _,fun _ _ _=>rfl,⟨by have:=h.n.2.2.1;have:=h.r.lt;omega,by have:=h.n.2.2.1;show R<B;omega,hz⟩,tab⟩
def opO.ks(h:opO w C S N cu ws R w0 M G nm B o W){a:Option Addr}{n k:Nat}(s:sK ⟨R,1,125,[ap M],pk3 N o.aw o.nw o.kw cu⟩ W W' B S' a n k):opO w C S' N cu ws R w0 M G nm B ⟨o.s,a,n,k,o.aw,o.nw,o.kw⟩ W':=by
 obtain⟨f,n2,n3,n4,i⟩:=h.n;refine⟨h.m.low f.2.2.2.2.2.2 f n2 n4 s.b,h.b0,s.q,h.n,s.o,s.l,h.x.otherBlock fun g d=>s.r g ?_ (.inr ?_),h.xn⟩
 .have:=Qm h.x g d;show g≠R;omega
 .obtain⟨c,z,e⟩:=h.x.kind g d;exact⟨c,108,z,e,by decide⟩
def syP(C:Co)(S1:Sc)(N cu:Int)(ws:List Nat)(b:Nat)(X:Wd)(s:Nat->Value):Prop:=s 0=I J (olZ C S1 cu ws)/\s 1=I J S1.f/\s 2=bO (S1.rn==5)/\s 3=bO (cu+1==N)/\s 4=I J (dX S1 b)/\∃a k,[s 5,s 6,s 7,s 8,s 9]=[bO (aI S1 b).e,I .u32 ((aI S1 b).i:Int),bO (aI S1 b).r,I J (aI S1 b).d,sL a (aI S1 b).l.length k]/\iB X a (aI S1 b).l.length k (aI S1 b).l
def opO.step(a1:opO w C S N cu ws R w0 M G nm B o W)(bb:w0.rangeAt 0 0 cQ)(hz:0<w0.heap.size)(hs:∀x∈ws,x<18446744073709551616)(hw:ws.length<=1048576)(hc:C.p=1->C.tx=true->0<=cu/\cu<64*(ws.length:Int))(bo:0<=cu/\cu<=1000000000)(p1:Bool)(ep:(C.p==1)=p1)(h:Sc)(eS:h=if p1=true then S else sc0)(hS:bd h)(hr:0<=h.rn/\h.rn<=5)(b:Nat)(hb:b<2)(hl:∀x∈(aI h b).l,x<256)(a2:Co)(af:Wd->Prop)
  (b9:∀s X a5,syP C h N cu ws b (bln X (lv M G)) s->mx w0 M {G with s:=s,u:=bln X (lv M G)} 0 0 nm C a5->ce 354 #[ap M,I J (b:Int)] a5 fun o w'=>o=rT (.tuple #[])/\my w0 M {G with s:=s,u:=bln X (lv M G)} 0 nm a2 w')
  (b8:∀H f E X,oq w0 M H f nm (au C a2) (aI h b) N cu ws R E X->(∀q x L T,q≠R->lv M G q=false->T≠5->blk W q (x::L) T->blk X q (x::L) T)->ce 349 #[ap R] X fun o w'=>o=rT (.tuple #[])/\af w') :
  ce 346 #[ap R,I J (b:Int)] W fun o w'=>o=rT (.tuple #[])/\af w':=by
 have ad:=aa b9;have a9:=aa b8
 have HT:Hid (∀V H E S',opO w C S' N cu ws R w0 M H nm B E V->V.rangeAt 0 0 cQ/\0<R):=fun V H E S' hV=>by
  have hb:Bl w0 V:=by obtain⟨_,_,q⟩:=hV.m;exact q.h.b
  exact⟨fun j v hv=>(hb.cell (p:=⟨0,0+j,nn⟩) (by exact hz)).trans (bb j v hv),by have:=hV.n.2.2.2.1;omega⟩
 have bf:Hid (∀V H E,opO w C h N cu ws R w0 M H nm B E V->ce 347 #[ap R] V fun o w'=>o=rT (I J (olZ C h cu ws))/\Bl V w'):=fun V H E hV=>hV.level hs hw hc;have a6:=aa eS
 have bg:Hid (∀V H E,opO w C h N cu ws R w0 M H nm B E V->ce 193 #[pT (sQ ⟨R,1,nn⟩),I J (b:Int)] V fun o w'=>o=rT (I J (dX h b))/\(∃a n k,opO w C (aI h b) N cu ws R w0 M H nm B ⟨E.s,a,n,k,E.aw,E.nw,E.kw⟩ w')/\∀q,q≠R->nb V q->w'.heap[q]?=V.heap[q]?):=fun V H E hV=>by
  obtain⟨t1,t2⟩:=HT.o V H E h hV;refine(yB (hV.sk t1 t2) hS hr b hb).mono ?_;rintro ox w' ⟨rfl,a,n,k,q⟩;exact⟨rfl,⟨a,n,k,hV.ks q⟩,fun x h1 h2=>q.r x h1 (.inr h2)⟩
 have H0:=aa a1;have HN:=aa a1.n
 have a3:Hid (∀q,R<=q->lv M G q=false):=fun q A=>by
  obtain⟨⟨u1,u2,u3,u4,u5,u6,_⟩,n2,_⟩:=HN.o;exact DC om ⟨om,om,om,om,om⟩
 have hne:(C.p !=1)= !p1:=by rw[<- ep];rfl
 have y0:=a1.r.cell 0 (ap M) rfl;have y3:=a1.m.m.cell 3 (I J C.p) rfl;have be:Hid (IntKind.i64.wrap (cu+1)=cu+1):=by show _=_;rw[QC];omega
 have HL:=aa hl;clear a1 b9 b8 bb hz hs hw hc eS hS hr hb bo hl;go_enter func346,ntmps346;go_upto_if 12 with fail
 go_cut [] (fun wx=>∃Q,Hid (opO w C h N cu ws R w0 M G nm B Q wx/\∀q,q≠R->q≠M->nb W q->wx.heap[q]?=W.heap[q]?));case first=>
  cases p1;case false=>
   go_wp2_with fail;refine(jb W).mono ?_;rintro ox w2 ⟨rfl,a8⟩;have H2:=aa (H0.o.below a8);have bc:=aa a8;clear a8;go_wp2_with(refine Zs 55 (scL sc0 nn 0 0).toArray (H2.o.r.there 1 11 (by rw[kZ];decide)) dh (fO _ _ _ _) ?_);go_meet;case rel=>exact⟨⟨o.s,nn,0,0,o.aw,o.nw,o.kw⟩,by rw[a6.o];exact⟨H2.o.put 1 _ (kE H2.o.r) (iO _ _) rfl H2.o.x H2.o.xn,fun q h1 _ h2=>(sO _ q h1 _ _ _).trans (bc.o.block q h2.lt)⟩⟩
  case true=>
   go_wp2_with fail;go_meet;case rel=>exact⟨o,by rw[a6.o];exact⟨H0.o,fun _ _ _ _=>rfl⟩⟩
 case rest=>
 obtain⟨Q,H1⟩:=hcut;clear y0 y3 hne H0 a6;have bs:=be.o;obtain⟨Z,bi⟩:∃x,(h.rn==5)=x:=⟨_,rfl⟩
 obtain⟨la,bk⟩:∃x,(cu+1==N)=x:=⟨_,rfl⟩
 obtain⟨a0,ak⟩:∃x,olZ C h cu ws=x:=⟨_,rfl⟩
 go_upto_region 2 with fail
 refine Qu (S:=fun X=>blk X R (ocL M h N cu Q) 125) kr ?_;have H2:Hid (opO w C h N cu ws R w0 M G nm B Q (World.drew wc)/\∀q,q≠R->q≠M->nb W q->(World.drew wc).heap[q]?=W.heap[q]?):=⟨H1.o.1.below (bW _ _).drew,H1.o.2⟩
 have hS:(fun X=>blk X R (ocL M h N cu Q) 125) (World.drew wc):=H2.o.1.r;change wpAnyH Tp _ _ _ _ _ _ _ (World.drew wc);clear H1;generalize World.drew wc=v0 at*;refine tk 0 ?_;refine tk 1 ?_;refine tk 2 ?_;refine tk 3 ?_ (hy:=fun X D=>by(have y:=blk.cell D 0 (ap M) rfl;go_simp;try rfl));refine tk 4 ?_;refine tk 6 ?_;refine tk 7 ?_;refine tk 8 ?_;refine tk 9 ?_;refine tk 10 ?_ (hy:=fun X D=>by(have y:=blk.cell D 1 (I J h.f) rfl;go_simp;try rfl));refine tk 11 ?_;refine tk 12 ?_;refine tk 13 ?_;refine tk 14 ?_;refine tk 15 ?_ (hy:=fun X D=>by(have y:=blk.cell D 3 (I J h.rn) rfl;go_simp;try rfl));refine tk 16 ?_ (v:=bO Z);refine tk 17 ?_;refine tk 18 ?_;refine tk 19 ?_;refine tk 20 ?_ (hy:=fun X D=>by(have y:=blk.cell D 14 (I J cu) rfl;go_simp;try rfl));refine tk 21 ?_ (v:=I J (cu+1));refine tk 22 ?_;refine tk 23 ?_;refine tk 24 ?_;refine tk 25 ?_;refine tk 26 ?_ (hy:=fun X D=>by(have y:=blk.cell D 12 (I J N) rfl;go_simp;try rfl));refine tk 27 ?_ (v:=bO la);refine al 5 fun K O=>?_;go_simp;refine(bf.o _ _ _ H2.o.1).mono ?_;rintro ox v1 ⟨rfl,a7⟩;have H3:Hid (opO w C h N cu ws R w0 M G nm B Q v1/\∀q,q≠R->q≠M->nb W q->v1.heap[q]?=W.heap[q]?):=⟨H2.o.1.below a7,fun q a b c=>(a7.block q (c.kept (H2.o.2 q a b c)).lt).trans (H2.o.2 q a b c)⟩
 clear a7 H2;rw[ak];go_wp2_with fail;refine O.out _ _ H3.o.1.r (fun _=>?_);clear hS O K;have hS:(fun X=>blk X R (ocL M h N cu Q) 125) v1:=H3.o.1.r;refine tk 28 ?_ (v:=aG (sgV a0 h.f Z la 0 zF5 nn 0 0).toArray) (hy:=fun W hW=>by kernel_rfl);refine tk 29 ?_;refine tk 30 ?_;refine al 31 fun K O=>?_;rw[QW (by rfl)];refine QE (P:=Tp) 182 (.tmp 47) (.tmp 45) rfl M 12 (sgV a0 h.f Z la 0 zF5 nn 0 0).toArray rfl rfl (H3.o.1.m.m.there 12 10 (by rw[lj];decide)) Gj (BO ..) ?_;have H4:Hid (∃s,sgF s=sgV a0 h.f Z la 0 zF5 nn 0 0/\opO w C h N cu ws R w0 M {G with s:=s} nm B Q (World.setCells v1 M 12 (sgV a0 h.f Z la 0 zF5 nn 0 0))/\∀q,q≠R->q≠M->nb W q->(World.setCells v1 M 12 (sgV a0 h.f Z la 0 zF5 nn 0 0)).heap[q]?=W.heap[q]?):=⟨fun k=>(sgV a0 h.f Z la 0 zF5 nn 0 0).getD k (bO false),rfl,H3.o.1.mch HN.o.1 (H3.o.1.m.sight (fun k=>(sgV a0 h.f Z la 0 zF5 nn 0 0).getD k (bO false))) (fun q A=>sO _ q A _ _ _),fun q a b c=>(sO _ q b _ _ _).trans (H3.o.2 q a b c)⟩
 refine O.out _ _ (by obtain⟨_,_,x,_⟩:=H4.o;exact x.r) (fun _=>?_);clear hS O K H3;generalize World.setCells v1 M 12 _=v2 at*;refine Qs kr ?_ _;obtain⟨s,es,h5,f5⟩:=H4.o;have H5:=aa (qB es (qB h5 f5));clear H4 es h5 f5;go_upto_region 3 with fail
 refine Qu (S:=fun X=>X.cell? ⟨R,0,nn⟩=sQ (ap M)) kr ?_;have H6:Hid (opO w C h N cu ws R w0 M {G with s:=s} nm B Q (World.drew v2)/\∀q,q≠R->q≠M->nb W q->(World.drew v2).heap[q]?=W.heap[q]?):=⟨H5.o.2.1.below (bW _ _).drew,H5.o.2.2⟩
 have HE:=aa H5.o.1;have hS:(fun X:Wd=>X.cell? ⟨R,0,nn⟩=sQ (ap M)) (World.drew v2):=H6.o.1.r.cell 0 _ rfl;change wpAnyH Tp _ _ _ _ _ _ _ (World.drew v2);clear H5;generalize World.drew v2=v3 at*;refine tk 0 ?_;refine tk 1 ?_;refine tk 2 ?_;refine tk 3 ?_ (hy:=fun X D=>by(have y:=D;go_simp;try rfl));refine tk 4 ?_;refine tk 5 ?_;refine tk 6 ?_;refine tk 7 ?_;refine al 8 fun K O=>?_;go_simp;refine(bg.o _ _ _ H6.o.1).mono ?_;rintro ox v4 ⟨rfl,⟨a4,n4,k4,h4⟩,f4⟩;obtain⟨t,am⟩:∃q:Os,q=⟨Q.s,a4,n4,k4,Q.aw,Q.nw,Q.kw⟩:=⟨_,rfl⟩
 have Y:Hid (opO w C (aI h b) N cu ws R w0 M {G with s:=s} nm B t v4/\∀q,q≠R->q≠M->nb W q->v4.heap[q]?=W.heap[q]?):=⟨by rw[am];exact h4,fun q a b c=>(f4 q a (c.kept (H6.o.2 q a b c))).trans (H6.o.2 q a b c)⟩
 clear h4 f4 H6 am;go_wp2_with fail;refine O.out _ _ (Y.o.1.r.cell 0 _ rfl) (fun _=>?_);clear hS O K;have hS:(fun X:Wd=>X.cell? ⟨R,0,nn⟩=sQ (ap M)) v4:=Y.o.1.r.cell 0 _ rfl;refine tk 9 ?_;refine tk 10 ?_;refine tk 11 ?_;have br:=Y.o.1.m.m.cell 16 (s 4) rfl;have bm:=Y.o.1.m.m.free 16;refine al 12 fun K O=>?_;go_simp;have H8:Hid (opO w C (aI h b) N cu ws R w0 M {G with s:=fun j=>if j=4 then I J (dX h b)else s j} nm B t (v4.setCell ⟨M,16,nn⟩ (I J (dX h b)))/\∀q,q≠R->q≠M->nb W q->(v4.setCell ⟨M,16,nn⟩ (I J (dX h b))).heap[q]?=W.heap[q]?):=⟨Y.o.1.mch HN.o.1 (Y.o.1.m.code (I J (dX h b))) (fun q A=>Ql v4 ⟨M,16,nn⟩ q _ A),fun q a b c=>(Ql v4 ⟨M,16,nn⟩ q _ b).trans (Y.o.2 q a b c)⟩
 refine O.out _ _ (H8.o.1.r.cell 0 _ rfl) (fun _=>?_);clear hS O K Y br bm;generalize v4.setCell ⟨M,16,nn⟩ (I J (dX h b))=v5 at*;refine Qs kr ?_ _;go_upto_region 4 with fail
 refine Qu (S:=fun X=>X.cell? ⟨R,0,nn⟩=sQ (ap M)/\X.rangeAt R 7 (kS (aI h b) t.a t.n t.k)) kr ?_;have H9:Hid (opO w C (aI h b) N cu ws R w0 M {G with s:=fun j=>if j=4 then I J (dX h b)else s j} nm B t (World.drew v5)/\∀q,q≠R->q≠M->nb W q->(World.drew v5).heap[q]?=W.heap[q]?):=⟨H8.o.1.below (bW _ _).drew,H8.o.2⟩
 have hS:(fun X:Wd=>X.cell? ⟨R,0,nn⟩=sQ (ap M)/\X.rangeAt R 7 (kS (aI h b) t.a t.n t.k)) (World.drew v5):=⟨H9.o.1.r.cell 0 _ rfl,DA H9.o.1.r⟩
 change wpAnyH Tp _ _ _ _ _ _ _ (World.drew v5);clear H8;generalize World.drew v5=v6 at*;refine tk 0 ?_;refine tk 1 ?_;refine tk 2 ?_;refine tk 3 ?_ (hy:=fun X D=>by(have y:=D.1;go_simp;try rfl));refine tk 4 ?_;refine tk 5 ?_;refine tk 6 ?_;refine tk 7 ?_;refine tl 8 ?_ (fun X D=>D.2) underlying53 gc;refine tk 9 ?_;refine tk 10 ?_;refine tk 11 ?_;refine al 12 fun K O=>?_;rw[QW (by rfl)];refine QE (P:=Tp) 53 (.tmp 71) (.tmp 68) rfl M 17 (kS (aI h b) t.a t.n t.k).toArray rfl rfl (H9.o.1.m.m.there 17 5 (by rw[lj];decide)) gc (Qv (by simp[kS,Value.oneCell'])) ?_;have HA:Hid (∃s',syP C h N cu ws b (bln (World.setCells v6 M 17 (kS (aI h b) t.a t.n t.k)) (lv M G)) s'/\opO w C (aI h b) N cu ws R w0 M {G with s:=s'} nm B t (World.setCells v6 M 17 (kS (aI h b) t.a t.n t.k))/\∀q,q≠R->q≠M->nb W q->(World.setCells v6 M 17 (kS (aI h b) t.a t.n t.k)).heap[q]?=W.heap[q]?):=by
  have hh:=H9.o.1.mch (by exact HN.o.1) (H9.o.1.m.frame (bO (aI h b).e) (I .u32 ((aI h b).i:Int)) (bO (aI h b).r) (I J (aI h b).d) (sL t.a t.n t.k)) (fun q A=>sO _ q A _ _ _);obtain⟨e0,e1,e2,e3⟩:s 0=I J a0/\s 1=I J h.f/\s 2=bO Z/\s 3=bO la:=by
   have:=HE.o;unfold sgF sgV at this;simp only[List.cons.injEq]at this;exact⟨this.1,this.2.1,this.2.2.1,this.2.2.2.1⟩
  refine⟨_,⟨?_,?_,?_,?_,rfl,t.a,t.k,by rw[<- hh.dn];rfl,?_⟩,hh,fun q a b c=>(sO _ q b _ _ _).trans (H9.o.2 q a b c)⟩
  .exact e0.trans (by rw[ak])
  .exact e1
  .exact e2.trans (by rw[bi])
  .exact e3.trans (by rw[bk])
  .rw[<- hh.dn];exact(hh.d.otherBlock fun g hg=>fJ (a3.o g (by have:=Qm hh.d g hg;have:=HN.o.2.2.1;omega))).is HL.o
 refine O.out _ _ (by obtain⟨_,_,x,_⟩:=HA.o;exact⟨x.r.cell 0 _ rfl,DA x.r⟩) (fun _=>?_);clear hS O K H9 HE;generalize World.setCells v6 M 17 _=v7 at*;refine Qs kr ?_ _;obtain⟨s',hy,U,f7⟩:=HA.o;have Y:=aa (qB U f7);have ac:=aa (tR U.m.base0 a2 (b:Int) fun a5 hY=>ad.o s' v7 a5 hy hY);have z0:=U.r.cell 0 (ap M) rfl;clear HA hy U f7 ad;go_wp2_with fail;refine ac.o.mono ?_;rintro ox v8 ⟨rfl,f8,h8⟩;have H8:Hid (∃H,oq w0 M H f8 nm (au C a2) (aI h b) N cu ws R t v8/\∀q x L T,q≠R->lv M G q=false->T≠5->blk W q (x::L) T->blk v8 q (x::L) T):=by
  obtain⟨U,f7⟩:=Y.o;obtain⟨hU,n2,n3,n4,n5⟩:=U.n;have bn:lhU G R:=HN.o.1;obtain⟨b1,b2,b3,b4,b5,b6,b7⟩:=bn;have hR:(bln v7 (lv M G)).heap[R]?=v7.heap[R]?:=fJ (a3.o R (nR _));have hk:kpt (bln v7 (lv M G)) v8:=by obtain⟨_,_,q⟩:=h8;exact q.h.k
  have hr:blk v8 R (ocL M (aI h b) N cu t) 125:=h8.stay (x:=ap M) (L:=scL (aI h b) t.a t.n t.k++pk3 N t.aw t.nw t.kw cu) (hR.trans U.r)
  have hb:=h8.base (fun q=>lv M G q||q==R) (fun q A=>by
   have bq:lv M G q=true:=A
   simp[bq]) fun q A i j e=>by
   simp only[Bool.or_eq_true,beq_iff_eq]at A;rcases A with A|rfl
   .rw[h8.holes q A i]at e;cases e
   .refine GA U.r i j ?_;rw[<- e];show v7.cell? _=(bln v7 (lv M G)).cell? _;simp only[World.cell?,hR]
  refine⟨_,⟨hb,hr,⟨om,by show R≠G.P;omega,by show R≠G.mb;omega,by show R≠G.gf;omega,by show R≠G.gb;omega,by show R≠G.gr;omega,by show R≠G.gq;omega,n4⟩,mC pQ,?_,U.dn,?_,U.xn⟩,fun q x L T q1 q2 q3 q4=>?_⟩
  .have hd:=U.d;rw[n3]at hd;exact(vA hd (fun g hg=>fJ (a3.o g (by have:=Qm hd g hg;omega))) hk).imp id fun e=>List.length_eq_zero_iff.1 e
  .have hx:=U.x;rw[n3]at hx;exact(vA hx (fun g hg=>fJ (a3.o g (by have:=Qm hx g hg;omega))) hk).imp id fun e=>List.length_eq_zero_iff.1 e
  .have qM:q≠M:=fun e=>by rw[e]at q2;simp[lv]at q2
   exact h8.stay ((fJ (p:=lv M G) q2).trans ((f7 q q1 qM (q4.nb q3)).trans q4))
 clear h8 Y ac z0;obtain⟨G8,h8,ao⟩:=H8.o;have HF:=aa (a9.o G8 f8 t v8 h8 ao);clear h8 ao H8 a9;go_wp2_with fail;refine HF.o.mono ?_;rintro ox v9 ⟨rfl,A⟩;have HQ:=aa A;clear A HF;go_wp2_with fail;refine bN ?_
 exact⟨rfl,HQ.o⟩
end
section
variable{w0:World}{M:Nat}{G:Lg}{nm:Nat}{C:Co}{S:Sc}{N cu:Int}{ws:List Nat}{b:Nat}{X Y:World}
def frS(S:Sc):R5:=⟨S.e,S.i,S.r,S.d,S.l⟩
def osA(C:Co)(S:Sc)(N cu:Int)(ws:List Nat)(b:Nat)(r:Int):Co:=
 if C.p=1 then
  (if C.tx=true then iR C S.f (S.rn==5) (cu+1==N) (olZ C S cu ws) b
   else hrC C (olZ C S cu ws) (dX S b) (frS (aI S b)) (vB (aI S b).e (aI S b).i (aI S b).r (aI S b).d (aI S b).l.length) b)
 else aJ C b r
def Ex(n:cH C)(r:Int)(D:dN C.ho.bx r)(B:(aI S b).l.length<=1048576){s:Nat->Value}(k:syP C S N cu ws b X s)(t:mx w0 M {G with s:=s,u:=X} 0 0 nm C Y):ce 354 #[ap M,I J (b:Int)] Y fun o w'=>o=rT (.tuple #[])/\my w0 M {G with s:=s,u:=X} 0 nm (osA C S N cu ws b r) w':=by
 have v:=n.h.dl.2.2.2.2;have x:=n.m.te;have w:=n.m.re;have y:=n.h.bx.wf;obtain⟨k0,k1,k2,k3,k4,A,fc,k5,k6⟩:=k;by_cases j:C.p=1
 .cases ht:C.tx
  .have eA:osA C S N cu ws b r=hrC C (olZ C S cu ws) (dX S b) (frS (aI S b)) (vB (aI S b).e (aI S b).i (aI S b).r (aI S b).d (aI S b).l.length) b:=by
    unfold osA;rw[QW j,QV (by rw[ht];decide)]
   rw[eA];refine gN t b _ 179 (by simp[j]) fun Z g=>ml g b _ (fun e=>Qj e (by rw[ht];decide)) fun _ Z g=>?_;exact xB g (olZ C S cu ws) (dX S b) b (frS (aI S b)) A _ fc _ rfl k0 k4 k5 k6 B v x w y
  .have eA:osA C S N cu ws b r=iR C S.f (S.rn==5) (cu+1==N) (olZ C S cu ws) b:=by
    unfold osA;rw[QW j,QW ht]
   rw[eA];refine gN t b _ 179 (by simp[j]) fun Z g=>ml g b _ (fun _ Z g=>?_) (fun e=>Qj e (by rw[ht];decide));exact wO g (olZ C S cu ws) S.f b (S.rn==5) (cu+1==N) k0 k1 k2 k3 v x w y
 .have eA:osA C S N cu ws b r=aJ C b r:=by unfold osA;rw[QV j]
  rw[eA];exact(wK t b r n j D).mono fun o w' ⟨a,c⟩=>⟨a,0,c⟩
end
section
variable{C:Co}
def Bk(C A:Co):(au C A).p=if A.te=256/\A.p≠7 then 7 else A.p:=by
 unfold au dB
 (repeat' split)<;>rfl
def mG{A:Co}(h:(au C A).p=1):A.p=1/\(au C A).tx=A.tx/\(au C A).ho.bx=A.ho.bx:=by
 have a:=h;rw[Bk]at h;split at h
 .omega
 .rename_i hn;refine⟨h,?_⟩;unfold au dB;rw[QV hn];split<;>exact⟨rfl,rfl⟩
def cH.t1(hok:cH C)(hp:C.p=1):C.te≠256:=fun e=>by have:=hok.m.of.2 e;omega
def jO(a:cH C)(b:C.p=1):au C C=C:=by
 unfold au;rw[QV (fun x=>a.t1 b x.1)];unfold dB;rw[QW rfl]
def uI(C:Co)(k:Int):¬(au C (ba C k)).p=1:=fun h=>by
 have:=(mG h).1;rw[pW]at this;omega
def mq(d:cH C)(c:C.p=1)(k:Int)(F:R5):(k=1\/k=3\/k=4->¬(au C (aU C k F)).p=1)/\(k=2\/k=5->(au C (aU C k F)).p=1/\(au C (aU C k F)).tx=(if k=2 then C.tx else false)):=by
 have e:=d.t1 c;refine⟨?_,?_⟩
 .rintro (rfl|rfl|rfl) h<;>have:=(mG h).1;all_goals simp[aU,ovC]at this
 .have key:∀A:Co,A.p=1->A.te=C.te->(au C A).p=1/\(au C A).tx=A.tx:=fun A a b=>by
   have:(au C A).p=1:=by rw[Bk,QV (fun x=>e (by rw[<- b];exact x.1)),a]
   exact⟨this,(mG this).2.1⟩
  rintro(rfl|rfl)
  .exact key _ c rfl
  .exact key _ c rfl
def yR(d:cH C)(i:C.p≠1)(b r:Int)(f:b=0\/b=1)(a:(aJ C b r).p=1):b=0/\((aJ C b r).tx=true->0<=r/\(aJ C b r).ho=cv C.ho r):=by
 have h:=d.m.p;have g:=d.m.tx;have e:C.p=0\/C.p=2\/C.p=3\/C.p=4\/C.p=5\/C.p=6\/C.p=7:=om;rcases f with rfl|rfl
 .refine⟨rfl,fun c=>?_⟩;rcases e with e|e|e|e|e|e|e<;>simp only[aJ,e]at a c ⊢<;>simp at a c ⊢
  .simp[idC]at c;exact Qj e (g c).2
  .exfalso;revert a;simp only[flC,wfX];(repeat' split)<;>simp[pW,yn,e]
  .exfalso;revert a;simp only[waC];(repeat' split)<;>simp[jt,e]
  .exfalso;revert a;simp only[dlC];(repeat' split)<;>simp_all [pW,ovC]
  .revert a c;simp only[gpC,jnC];(repeat' split)<;>simp_all [ovC]
  .simp[suC]at c
  .exfalso;revert a;simp only[ofC];(repeat' split)<;>simp_all
 .exfalso;revert a
  rcases e with e|e|e|e|e|e|e<;>simp only[aJ,e]<;>simp
  .simp[idC,e]
  .simp only[flC,wfX];(repeat' split)<;>simp[pW,yn,e]
  .simp[waC]
  .simp only[dlC];(repeat' split)<;>simp_all
  .simp only[gpC,lgC];(repeat' split)<;>simp_all
  .simp only[suC];(repeat' split)<;>simp_all
  .simp only[ofC,bkC];(repeat' split)<;>simp_all
end
section
variable{W W':World}{g B T T1:Nat}{ws:List Nat}{f:Nat->Nat}
def Gg(S:Sc)(a:Option Addr)(n k:Nat):(Tp.info? 37).map (·.size)=sQ (scL S a n k).length:=kr
def Gf(N:Int)(a:Option Addr)(n k:Nat):(Tp.info? 40).map (·.size)=sQ ([I J N,sL a n k]:List Value).length:=kr
def yF(w:World)(C:Co)(S:Sc)(N j:Int)(ws:List Nat)(q:Os)(h:fY w C S ws q)(A:C.ho.le 9223372036854775807)(hl:S.l.length<=9223372036854775807)(hw:ws.length<=9223372036854775807):ce 4 #[aG (opL C S N j q).toArray,I J 1048576] w fun o w'=>∃z:Int,o=rT (I J z)/\Bl w w'/\(z= -1\/∃c:Nat,z=(c:Int)/\C.ho.le 1048576/\S.l.length<=1048576/\ws.length<=1048576):=by
 have e:Hid (blk (w.alloc (.cells (opL C S N j q).toArray 42)) w.heap.size (opL C S N j q) 42/\Bl w (w.alloc (.cells (opL C S N j q).toArray 42))):=⟨blk.new w _ 42,Zw⟩
 have v:Hid (∀X,Bl w X->ce 11 #[aG (coL C q.s).toArray,I J 1048576] X fun o w'=>∃z:Int,o=rT (I J z)/\Bl X w'/\(z= -1\/∃c:Nat,z=(c:Int)/\C.ho.le 1048576/\c<=1048576)):=fun X hX=>Hz X C q.s (h.h.below hX) A;have R:=h.d.len;have U:=h.w.len
 have x:Hid (∀X m,m<=1048576->ce 12 #[aG (scL S q.a q.n q.k).toArray,I J ((m:Nat):Int)] X fun o w'=>∃z:Int,o=rT (I J z)/\Bl X w'/\(z= -1\/∃c:Nat,z=(c:Int)/\S.l.length<=1048576/\c<=1048576)):=fun X m r=>(tH X S q.a q.n q.k m om r).mono (by
  rintro o w' ⟨rfl,hb⟩;refine⟨_,rfl,hb,?_⟩
  by_cases g:(q.n:Int)<=(m:Int)
  .rw[QW g];exact qt ⟨m-q.n,om,om,om⟩
  .rw[QV g];exact qp rfl)
 have y:Hid (∀X m,m<=1048576->ce 13 #[pkV N q.aw q.nw q.kw,I J ((m:Nat):Int)] X fun o w'=>∃z:Int,o=rT (I J z)/\Bl X w'/\(z= -1\/∃c:Nat,z=(c:Int)/\ws.length<=1048576)):=fun X m r=>(oY X N q.aw q.nw q.kw m om r).mono (by
  rintro o w' ⟨rfl,rfl⟩;refine⟨_,rfl,Zw,?_⟩
  by_cases g:(q.nw:Int)<=(m:Int)
  .rw[QW g];exact qt ⟨m-q.nw,om,om⟩
  .rw[QV g];exact qp rfl)
 clear h A hl hw R U;obtain⟨M,t⟩:∃M,M=w.alloc (.cells (opL C S N j q).toArray 42):=⟨_,rfl⟩
 rw[<- t]at e;go_enter func4,ntmps4;go_upto_region 1 with fail
 change Code.wp _ _ _ _ (w.alloc (.cells (opL C S N j q).toArray 42));rw[<- t];clear t;go_wp2_with(refine ZG 31 (bJ e.o.1) underlying31 (yG _ _) ?_);refine(v.o _ e.o.2).mono ?_;rintro o w1 ⟨z,rfl,b,p⟩;have i:=aa (qB (e.o.1.below b) (e.o.2.trans (b.mono e.o.2.size)));clear b e v;rcases p with rfl|⟨H,rfl,D,a0⟩
 .go_wp2_with fail;go_ret;exact⟨_,rfl,i.o.2,qp rfl⟩
 have O:=aa D;have Y:¬(H:Int)<0:=om;clear D;go_wp2_with(refine ZG 37 (dy i.o.1) underlying37 (Gg _ _ _ _) ?_);refine(x.o _ H a0).mono ?_;rintro o w2 ⟨z,rfl,b,p⟩;have H2:=aa (qB (i.o.1.below b) (i.o.2.trans (b.mono i.o.2.size)));clear b i x Y;rcases p with rfl|⟨K,rfl,E,a1⟩
 .go_wp2_with fail;go_ret;exact⟨_,rfl,H2.o.2,qp rfl⟩
 have P:=aa E;have Z:¬(K:Int)<0:=om;clear E;go_wp2_with(refine Zi 40 [I J N,sL q.aw q.nw q.kw] (eC H2.o.1) underlying40 (Gf _ _ _ _) ?_);refine(y.o _ K a1).mono ?_;rintro o w3 ⟨z,rfl,b,p⟩;have u:=aa (H2.o.2.trans (b.mono H2.o.2.size));clear b H2 y Z;rcases p with rfl|⟨L,rfl,G⟩
 .go_wp2_with fail;go_ret;exact⟨_,rfl,u.o,qp rfl⟩
 have Q:=aa G;have g3:¬(L:Int)<0:=om;clear G;go_wp2_with fail;go_ret;exact⟨_,rfl,u.o,qt ⟨L,rfl,O.o,P.o,Q.o⟩⟩
def iB.up{n k:Nat}{l:List Nat}(h:iB W (be g) n k l)(e:W'.heap[g]?=W.heap[g]?):iB W' (be g) n k l:=⟨h.len,h.cap,h.small,fun hne=>by
 obtain⟨g0,off,e0,hc⟩:=h.cells hne
 cases e0
 exact⟨g,0,rfl,fun j hj=>(eV e _).trans (hc j hj)⟩⟩
structure cpO(B T:Nat)(ws:List Nat)(q:Os)(s:Wh)(T1 g:Nat)(f:Nat->Nat)(W:World):Prop where
 es:q.s=s.sl
 h:whS B T1 W s
 hd:whD s
 a:q.a=be g
 k:q.n=q.k
 b:B<=T1/\T1<=g/\g<T
 r:bV W g q.n f
 w:ab W (g+1) (sL q.aw q.nw q.kw) ws
 wb:∀x,(Value.slice q.aw q.nw q.kw).ownBlock=sQ x->x<T
 wn:q.nw=ws.length
def cpO.same{q:Os}{s:Wh}(h:cpO B T ws q s T1 g f W)(c:∀x,B<=x->x<T->W'.heap[x]?=W.heap[x]?):cpO B T ws q s T1 g f W':=by
 obtain⟨i,j,e⟩:=h.b;exact⟨h.es,h.h.same fun x a b=>c x a om,h.hd,h.a,h.k,h.b,h.r.up (c g om e),h.w.otherBlock fun x d=>c x (by have:=(Qm h.w x d).1;omega) (h.wb x d),h.wb,h.wn⟩
def cpO.mark{q:Os}{s:Wh}{C:Co}{S:Sc}{N t:Int}(a2:cpO B T ws q s T1 g f W)(hT:T<=W.heap.size)(G:q.n<=1048576)(hw:ws.length<=1048576):ce 9 #[aG (opL C S N t q).toArray,I J 1] W fun o r=>∃k:Nat,o=rT (I J (k:Int))/\(∀x,T<=x->x<W.heap.size->r.heap[x]?=W.heap[x]?)/\Below B W r:=by
 obtain⟨qs,qa,d,qk,j,i,l⟩:=q;obtain⟨es,A,hd,Z,ek,⟨D,U,X⟩,K,ho,H,M⟩:=a2;simp only at es Z ek K ho H M G;subst es Z ek;have p:Hid (blk (W.alloc (.cells (opL C S N t ⟨s.sl,be g,d,d,j,i,l⟩).toArray 58)) W.heap.size (opL C S N t ⟨s.sl,be g,d,d,j,i,l⟩) 58/\Bl W (W.alloc (.cells (opL C S N t ⟨s.sl,be g,d,d,j,i,l⟩).toArray 58))):=⟨blk.new W _ 58,Zw⟩
 obtain⟨v0,L⟩:∃v0,v0=W.alloc (.cells (opL C S N t ⟨s.sl,be g,d,d,j,i,l⟩).toArray 58):=⟨_,rfl⟩
 rw[<- L]at p;have P:=aa (DR (C:=C) (A.same fun x _ b=>p.o.2.block x om) hd (by have:=p.o.2.size;omega) D);have h:Hid ((B<=T1/\T1<=g/\g<T/\T<=W.heap.size)/\bV W g d f/\ab W (g+1) (sL j i l) ws/\(∀x,(Value.slice j i l).ownBlock=sQ x->x<T)/\i=ws.length):=⟨⟨D,U,X,hT⟩,K,ho,H,M⟩
 have Q:=aa (qB G hw);clear A hd D U X K ho H M hT G hw;go_enter func9,ntmps9;go_upto_region 1 with fail
 change Code.wp _ _ _ _ (W.alloc (.cells (opL C S N t ⟨s.sl,be g,d,d,j,i,l⟩).toArray 58));rw[<- L];clear L;go_wp2_with(refine ZG 52 (bJ p.o.1) underlying52 (aV _ _) ?_);refine P.o.mono ?_;rintro o r ⟨k1,rfl,O,E,a0⟩;have u:Hid (blk r W.heap.size (opL C S N t ⟨s.sl,be g,d,d,j,i,l⟩) 58/\Below B W r/\(∀x,T1<=x->x<W.heap.size->r.heap[x]?=W.heap[x]?)/\W.heap.size<r.heap.size/\k1<=100000000000000):=by
  have hb:=h.o.1;have hl:=p.o.1.lt;exact⟨p.o.1.kept (O _ om hl),(p.o.2.mono om).trans E,fun x a b=>(O x a om).trans (p.o.2.block x b),nL hl E.size,a0⟩
 clear O E a0 P p;have R:Hid (bV r g d f):=h.o.2.1.up (u.o.2.2.1 g (by have:=h.o.1;omega) (by have:=h.o.1;omega));go_wp2_with(refine ZG 55 (dy u.o.1) underlying55 (dY _ _ _ _) ?_);refine(jB r S g d d k1 f R.o (by have:=h.o.1;have:=u.o;omega) (nR _) Q.o.1 (by have:=u.o.2.2.2.2;omega)).mono ?_;rintro o v ⟨rfl,w⟩;have H2:Hid (blk v W.heap.size (opL C S N t ⟨s.sl,be g,d,d,j,i,l⟩) 58/\Below B W v/\(∀x,T1<=x->x≠g->x<W.heap.size->v.heap[x]?=W.heap[x]?)/\W.heap.size<v.heap.size/\ab v (g+1) (sL j i l) ws):=by
  have hb:=h.o.1;obtain⟨u1,u2,u3,u4,u5⟩:=u.o;have a1:∀x,T1<=x->x≠g->x<W.heap.size->v.heap[x]?=W.heap[x]?:=fun x a b c=>(w.oth x b om).trans (u3 x a c);refine⟨u1.kept (w.oth _ om om),u2.trans (w.bel.mono om),a1,nL u4 w.bel.size,h.o.2.2.1.otherBlock fun x hx=>?_⟩;have h1:=Qm h.o.2.2.1 x hx;exact a1 x om om h1.2
 have HK:=aa u.o.2.2.2.2;clear w u R;go_wp2_with(refine ZG 56 (eC H2.o.1) underlying56 (eH _ _ _ _) ?_);refine(iC v (g+1) N j i l (k1+d) ws H2.o.2.2.2.2 h.o.2.2.2.2 (by have:=HK.o;have:=Q.o;have:=h.o.2.2.2.2;omega) (by have:=h.o.1;have:=H2.o.2.2.2.1;omega)).mono ?_;rintro o w3 ⟨rfl,_,Y,o3⟩;have H3:Hid ((∀x,T<=x->x<W.heap.size->w3.heap[x]?=W.heap[x]?)/\Below B W w3):=by
  have hb:=h.o.1;obtain⟨u1,u2,u3,u4,u5⟩:=H2.o;have A:=lK u5;refine⟨fun x a b=>(o3 x om fun y hy e=>?_).trans (u3 x om om b),u2.trans (Y.mono om)⟩;have:=h.o.2.2.2.1 _ (A y hy);omega
 clear Y o3 H2;go_wp2_with fail;go_ret;exact⟨_,rfl,H3.o⟩
end
def iA{w:Wd}{b:Nat}{T T':Co}{S:Sc}{N c:Int}{q:Os}{s:Sl}{d:TypeId}(h:blk w b (opL T S N c q) d):blk (w.setCells b 0 (coL T' s)) b (opL T' S N c ⟨s,q.a,q.n,q.k,q.aw,q.nw,q.kw⟩) d:=by
 have e:opL T S N c q=[]++coL T q.s++(scL S q.a q.n q.k++pk3 N q.aw q.nw q.kw c):=rfl;rw[e]at h;exact h.put [] (coL T q.s) _ (coL T' s) rfl
structure toS(w:Wd)(L L':List Value)(A:Wd->Prop)(W:Wd):Prop where
 a:blk W w.heap.size L 42
 r:blk W (w.heap.size+1) Z35 58
 o:blk W (w.heap.size+2) L' 58
 b:Bl w W
 k:∀V,(∀x,w.heap.size+3<=x->x<W.heap.size->V.heap[x]?=W.heap[x]?)->A V
section
variable{w:Wd}{L L' L2:List Value}{A D:Wd->Prop}{W W':Wd}
def toS.add(h:toS w L L' A W)(hb:Bl W W')(hd:∀V,(∀x,W.heap.size<=x->x<W'.heap.size->V.heap[x]?=W'.heap[x]?)->D V):toS w L L' (fun V=>A V/\D V) W':=
 ⟨h.a.below hb,h.r.below hb,h.o.below hb,h.b.trans (hb.mono h.b.size),fun V hV=>⟨h.k V fun x h1 h2=>(hV x h1 (nL h2 hb.size)).trans (hb.block x h2),hd V fun x h1 h2=>hV x (by have:=h.o.lt;omega) h2⟩⟩
def toS.put(h:toS w L L' A W)(ho:blk W' (w.heap.size+2) L2 58)(he:∀x,x≠w.heap.size+2->W'.heap[x]?=W.heap[x]?)(hz:W'.heap.size=W.heap.size)(hb:Bl w W'):toS w L L2 A W':=
 ⟨h.a.kept (he _ om),h.r.kept (he _ om),ho,hb,fun V hV=>h.k V fun x h1 h2=>(hV x h1 om).trans (he x om)⟩
end
def yz(w:Wd)(C:Co)(S:Sc)(N c:Int)(ws:List Nat)(q:Os)(ad:fY w C S ws q)(hm:C.ho.le 1048576)(hl:S.l.length<=1048576)(hw:ws.length<=1048576):ce 6 #[aG (opL C S N c q).toArray] w fun o w'=>∃x:Os,o=rT (aG (opL C S N c x).toArray)/\St w.heap.size w' (fun W=>fY W C S ws x)/\(∃s v g f,cpO w.heap.size w'.heap.size ws x s v g f w')/\eB x.s/\(∃g,x.aw=be g)/\Bl w w':=by
 obtain⟨G,a7⟩:∃G,G=((w.alloc (.cells (opL C S N c q).toArray 42)).alloc (.cells Z35.toArray 58)).alloc (.cells Z35.toArray 58):=⟨_,rfl⟩
 have R:Hid (toS w (opL C S N c q) (opL zCo scZ 0 0 zOs) (fun _=>True) G):=by
  rw[a7];refine⟨((blk.new w _ 42).alloc _).alloc _,?_,?_,(Zw.alloc pQ _).alloc (by simp;omega) _,fun _ _=>trivial⟩
  .have:=(blk.new (w.alloc (.cells (opL C S N c q).toArray 42)) Z35 58).alloc (.cells Z35.toArray 58);simpa using this
  .have:=blk.new ((w.alloc (.cells (opL C S N c q).toArray 42)).alloc (.cells Z35.toArray 58)) Z35 58;rw[FQ];simpa using this
 have Q:=aa ad;have HL:=aa (qB hm (qB hl hw));clear ad hm hl hw;go_enter func6,ntmps6;go_upto_region 2 with fail
 change Code.wp _ _ _ _ (((w.alloc (.cells (opL C S N c q).toArray 42)).alloc (.cells Z35.toArray 58)).alloc (.cells Z35.toArray 58));rw[<- a7];clear a7;go_wp2_with(refine ZG 31 (bJ R.o.a) underlying31 (yG _ _) ?_);refine(D9 _ C q.s (Q.o.h.below R.o.b) HL.o.1).mono ?_;rintro o j ⟨s,rfl,p,Y,q3,q4,a0⟩;have T:Hid (toS w (opL C S N c q) (opL zCo scZ 0 0 zOs) (fun V=>True/\(bj V C.ho s.sl/\whS G.heap.size j.heap.size V s)) j):=R.o.add a0 fun V i=>⟨p V i,Y.same i⟩
 have HD:Hid (whD s/\eB s.sl/\G.heap.size<=j.heap.size/\w.heap.size<=G.heap.size):=⟨q3,q4,a0.size,R.o.b.size⟩
 clear p Y q3 q4 a0 R;generalize G.heap.size=K at*;go_upto_region 3 with(refine Zs 52 (coL C s.sl).toArray (T.o.o.there 0 21 (by rw[gP];decide)) (eY _ _) (cO _ _) ?_;generalize af:World.setCells j (w.heap.size+2) 0 _=Z;have a8:Hid (_=Z):=af;clear af)
 have H2:Hid (toS w (opL C S N c q) (opL C scZ 0 0 (opZ s.sl)) (fun V=>True/\(bj V C.ho s.sl/\whS K j.heap.size V s)) Z/\Z.heap.size=j.heap.size):=by
  have e:j.setCells (w.heap.size+2) 0 (coL C s.sl)=Z:=a8.o;rw[<- e];exact⟨T.o.put (iA T.o.o) (fun x E=>sO _ x E _ _ _) (sZ ..) (sW om _ _ T.o.b),sZ ..⟩
 clear a8 T;go_wp2_with(refine ZG 37 (dy H2.o.1.a) underlying37 (Gg _ _ _ _) ?_);refine(tC Z S q.a q.n q.k (Q.o.d.below H2.o.1.b) (by have:=Q.o.d.len;have:=HL.o.2.1;omega)).mono ?_;rintro o w3 ⟨g,rfl,p,ap,g1,g2,f,Y⟩;have U:Hid (toS w (opL C S N c q) (opL C scZ 0 0 (opZ s.sl)) (fun V=>(True/\(bj V C.ho s.sl/\whS K j.heap.size V s))/\(iB V (be g) q.n q.n S.l/\bV V g q.n f)) w3):=H2.o.1.add ap fun V i=>⟨p.up (i g g1 g2),Y.up (i g g1 g2)⟩
 have HG:Hid (j.heap.size<=g/\g<w3.heap.size):=⟨by have:=H2.o.2;omega,g2⟩
 clear p Y ap g1 g2 H2;generalize j.heap.size=v at*;go_upto_region 4 with(refine Zs 55 (scL S (be g) q.n q.n).toArray (U.o.o.there 21 11 (by rw[gP];decide)) dh (fO _ _ _ _) ?_;generalize ak:World.setCells w3 (w.heap.size+2) 21 _=w4;have a9:Hid (_=w4):=ak;clear ak)
 have M:Hid (toS w (opL C S N c q) (opL C S 0 0 ⟨s.sl,be g,q.n,q.n,nn,0,0⟩) (fun V=>(True/\(bj V C.ho s.sl/\whS K v V s))/\(iB V (be g) q.n q.n S.l/\bV V g q.n f)) w4/\w4.heap.size=w3.heap.size):=by
  have e:w3.setCells (w.heap.size+2) 21 (scL S (be g) q.n q.n)=w4:=a9.o;rw[<- e];exact⟨U.o.put (kD U.o.o) (fun x E=>sO _ x E _ _ _) (sZ ..) (sW om _ _ U.o.b),sZ ..⟩
 clear a9 U;go_wp2_with(refine Zi 40 [I J N,sL q.aw q.nw q.kw] (eC M.o.1.a) underlying40 (Gf _ _ _ _) ?_);refine(oT w4 N q.aw q.nw q.kw ws (Q.o.w.below M.o.1.b) (by have:=Q.o.w.len;have:=HL.o.2.2;omega)).mono ?_;rintro o H ⟨h,rfl,p,a6⟩;have gl:=Qm p h rfl;have X:Hid (toS w (opL C S N c q) (opL C S 0 0 ⟨s.sl,be g,q.n,q.n,nn,0,0⟩) (fun V=>((True/\(bj V C.ho s.sl/\whS K v V s))/\(iB V (be g) q.n q.n S.l/\bV V g q.n f))/\ab V (g+1) (sL (be h) q.nw q.nw) ws) H):=M.o.1.add a6 fun V i=>(p.lower (by have:=M.o.2;have:=HG.o;omega)).otherBlock fun x E=>by cases E;exact i h gl.1 gl.2
 have b2:Hid (v<=g/\g<H.heap.size/\h<H.heap.size):=⟨HG.o.1,by have:=HG.o;have:=M.o.2;have:=a6.size;omega,gl.2⟩
 clear p a6 gl M HG;go_upto_region 5 with(refine Zs 56 #[I J N,sL (be h) q.nw q.nw] (X.o.o.there 32 2 (by rw[gP];decide)) (yI _ _ _ _) (sb _ _ _ _) ?_;generalize am:World.setCells H (w.heap.size+2) 32 _=B;have ac:Hid (_=B):=am;clear am)
 obtain⟨x,ex⟩:∃x:Os,x=⟨s.sl,be g,q.n,q.n,be h,q.nw,q.nw⟩:=⟨_,rfl⟩
 have u:Hid (toS w (opL C S N c q) (opL C S N 0 x) (fun V=>((True/\(bj V C.ho s.sl/\whS K v V s))/\(iB V (be g) q.n q.n S.l/\bV V g q.n f))/\ab V (g+1) (sL (be h) q.nw q.nw) ws) B/\B.heap.size=H.heap.size):=by
  have e:H.setCells (w.heap.size+2) 32 [I J N,sL (be h) q.nw q.nw]=B:=ac.o;rw[<- e,ex];exact⟨X.o.put (lL X.o.o) (fun x E=>sO _ x E _ _ _) (sZ ..) (sW om _ _ X.o.b),sZ ..⟩
 have b1:=aa ex;clear ac X ex;have b6:=u.o.1.a.cell 34 (I J c) rfl;have b7:=u.o.1.o.cell 34 (I J 0) rfl;have b4:=u.o.1.o.free 34;go_upto_region 6 with fail
 have O:Hid (toS w (opL C S N c q) (opL C S N c x) (fun V=>((True/\(bj V C.ho s.sl/\whS K v V s))/\(iB V (be g) q.n q.n S.l/\bV V g q.n f))/\ab V (g+1) (sL (be h) q.nw q.nw) ws) (B.setCell ⟨w.heap.size+2,34,nn⟩ (I J c))/\(B.setCell ⟨w.heap.size+2,34,nn⟩ (I J c)).heap.size=H.heap.size):=by
  refine⟨u.o.1.put ?_ (fun y hy=>Ql B ⟨w.heap.size+2,34,nn⟩ y _ hy) pQ (u.o.1.b.setCell (by show w.heap.size<=w.heap.size+2;omega) _),by simpa using u.o.2⟩;have e:(opL C S N 0 x).set 34 (I J c)=opL C S N c x:=rfl;rw[<- e];exact u.o.1.o.set 34 (I J c)
 clear u b6 b7 b4;generalize B.setCell ⟨w.heap.size+2,34,nn⟩ (I J c)=w7 at*;go_wp2_with(first|(refine ZG 58 O.o.1.o.load underlying58 (dj _ _ _ _ _) ?_)|(refine Zs 58 (opL C S N c x).toArray (O.o.1.r.there 0 35 (nR _)) (cX _ _ _ _ _) (cC _ _ _ _ _) ?_;generalize ao:World.setCells w7 (w.heap.size+1) 0 _=t;have b3:Hid (_=t):=ao;clear ao))
 have e8:w7.setCells (w.heap.size+1) 0 (opL C S N c x)=t:=b3.o;have hF:blk t (w.heap.size+1) (opL C S N c x) 58:=by rw[<- e8];exact O.o.1.r.put [] Z35 [] _ rfl
 have hL:=Qt (P:=Tp) t (w.heap.size+1) 0 58 _ _ hF.load underlying58 rfl (dj _ _ _ _ _);refine bC results6 hL ?_;have b5:∀y,w.heap.size+3<=y->t.heap[y]?=w7.heap[y]?:=fun y hy=>by rw[<- e8];exact sO _ y om _ _ _
 have b9:t.heap.size=w7.heap.size:=by rw[<- e8,sZ]
 have hA:∀V:Wd,(∀k,w.heap.size<=k->k<t.heap.size->V.heap[k]?=t.heap[k]?)->_:=fun V i=>O.o.1.k V fun y h1 h2=>(i y om om).trans (b5 y h1);have hG:=b2.o;have b8:=O.o.2;have hD:=HD.o;have hN:=Q.o;rw[b1.o];refine⟨_,rfl,fun V i=>?_,⟨s,v,g,f,?_⟩,hD.2.1,⟨h,rfl⟩,?_⟩
 .obtain⟨⟨⟨_,a1,_⟩,a3,_⟩,a5⟩:=hA V i;exact⟨a1,a3,a5.words hN.w.len hN.w.small (a5.cap hN.w.len)⟩
 .obtain⟨⟨⟨_,_,a2⟩,_,a4⟩,a5⟩:=hA t fun _ _ _=>rfl;exact⟨rfl,a2.mono om (nR _),hD.1,rfl,rfl,⟨om,hG.1,om⟩,a4,a5,fun y hy=>by cases hy;show h<_;omega,hN.w.len⟩
 .rw[<- e8];exact sW om 0 _ O.o.1.b
section
variable{W W' w w4 w7:Wd}{bw bx B6 bg:Nat}
structure Ov where
 c:Co
 s:Sc
 n:Int
 u:Int
 w:List Nat
def oL(A:Ov)(q:Os):List Value:=opL A.c A.s A.n A.u q
def oI(W:Wd)(A:Ov)(q:Os):Prop:=fY W A.c A.s A.w q
def leO(A:Ov):Prop:=A.c.ho.le 1048576/\A.s.l.length<=1048576/\A.w.length<=1048576
def cpE(B T:Nat)(ws:List Nat)(q:Os)(W:Wd):Prop:=∃s T1 g f,cpO B T ws q s T1 g f W
def okA(q:Os):Prop:=eB q.s/\∃g,q.aw=be g
def oI.below{A:Ov}{q:Os}(h:oI W A q)(hb:Bl W W'):oI W' A q:=fY.below h hb
def cpE.same{B T:Nat}{ws:List Nat}{q:Os}(h:cpE B T ws q W)(b:∀x,B<=x->x<T->W'.heap[x]?=W.heap[x]?):cpE B T ws q W':=by
 obtain⟨s,a,g,f,h⟩:=h;exact⟨s,a,g,f,h.same b⟩
def rI(T:Co)(S:Sc)(N cu:Int)(o:Os):(Tp.info? 42).map (·.size)=some (opL T S N cu o).length:=kr
structure ldS(w:Wd)(A:Ov)(u:Os)(T:Ov)(bw:Nat)(sw:Os)(W:Wd):Prop where
 p:blk W w.heap.size (oL A u) 42
 q:blk W bw (oL T sw) 58
 t:oI W T sw
 h:oI W A u
 b:Bl w W
def ldS.below{A:Ov}{u:Os}{T:Ov}{sw:Os}(h:ldS w A u T bw sw W)(hb:Bl W W'):ldS w A u T bw sw W':=⟨h.p.below hb,h.q.below hb,h.t.below hb,h.h.below hb,h.b.trans (hb.mono h.b.size)⟩
structure ldX(w:Wd)(A:Ov)(u:Os)(T:Ov)(bw:Nat)(sw:Os)(w4:Wd)(T5 bx:Nat)(sx:Os)(W:Wd):Prop where
 l:ldS w A u T bw sw W
 x:blk W bx (oL A sx) 58
 xh:oI W A sx
 xw:cpE w4.heap.size T5 A.w sx W
 z:bw<w4.heap.size/\w.heap.size<w4.heap.size/\w4.heap.size<=T5/\T5<=bx
 b4:Bl w4 W
def ldX.below{A:Ov}{u:Os}{T:Ov}{sw:Os}{T5:Nat}{sx:Os}(h:ldX w A u T bw sw w4 T5 bx sx W)(hb:Bl W W'):ldX w A u T bw sw w4 T5 bx sx W':=⟨h.l.below hb,h.x.below hb,h.xh.below hb,h.xw.same (fun x _ hx=>hb.block x (by have:=h.x.lt;have:=h.z;omega)),h.z,h.b4.trans (hb.mono h.b4.size)⟩
structure ldG(w:Wd)(A:Ov)(u:Os)(T:Ov)(bw:Nat)(sw:Os)(w4:Wd)(bx B6:Nat)(w7:Wd)(bg:Nat)(sg:Os)(W:Wd):Prop where
 l:ldS w A u T bw sw W
 g:blk W bg (oL T sg) 58
 k:∀x,B6<=x->x<w7.heap.size->W.heap[x]?=w7.heap[x]?
 z:bx<B6/\B6<=w7.heap.size/\w7.heap.size<=bg
 y:bw<w4.heap.size/\w.heap.size<w4.heap.size/\w4.heap.size<=bx
 b4:Bl w4 W
def ldG.below{A:Ov}{u:Os}{T:Ov}{sw sg:Os}(h:ldG w A u T bw sw w4 bx B6 w7 bg sg W)(hb:Bl W W'):ldG w A u T bw sw w4 bx B6 w7 bg sg W':=⟨h.l.below hb,h.g.below hb,fun x h1 h2=>(hb.block x (by have:=h.g.lt;have:=h.z;omega)).trans (h.k x h1 h2),h.z,h.y,h.b4.trans (hb.mono h.b4.size)⟩
def ldG.xmark{A:Ov}{u:Os}{T:Ov}{sw e:Os}(h:ldG w A u T bw sw w4 bx B6 w7 bg e W)(d:oI w4 T sw/\oI w4 A u)(a:Below w4.heap.size W W')(ho:∀x,bx<=x->x<W.heap.size->W'.heap[x]?=W.heap[x]?):ldG w A u T bw sw w4 bx B6 w7 bg e W':=by
 have c:=h.b4.trans a;refine⟨⟨h.l.p.kept (a.block _ h.y.2.1),h.l.q.kept (a.block _ h.y.1),d.1.below c,d.2.below c,h.l.b.trans (a.mono (by have:=h.y;omega))⟩,h.g.kept (ho _ (by have:=h.z;omega) h.g.lt),fun x h1 f=>(ho x (by have:=h.z;omega) (by have:=h.g.lt;have:=h.z;omega)).trans (h.k x h1 f),h.z,h.y,c⟩
def ldG.gmark{A:Ov}{u:Os}{T:Ov}{sw e:Os}(h:ldG w A u T bw sw w4 bx B6 w7 bg e W)(c:oI w4 T sw/\oI w4 A u)(a:Below B6 W W'):ldS w A u T bw sw W':=by
 have f:=h.z;have hy:=h.y;have d:=h.b4.trans (a.mono om);exact⟨h.l.p.kept (a.block _ om),h.l.q.kept (a.block _ om),c.1.below d,c.2.below d,h.l.b.trans (a.mono om)⟩
def lg(z l:List Value)(a:TypeId)(c:z.length=l.length):blk (World.setCells (w.alloc (.cells z.toArray a)) w.heap.size 0 l) w.heap.size l a/\Bl w (World.setCells (w.alloc (.cells z.toArray a)) w.heap.size 0 l):=by
 refine⟨?_,sW (nR _) 0 l Zw⟩;have:=blk.put [] z [] l (w:=w.alloc (.cells z.toArray a)) (b:=w.heap.size) (T:=a) (by simpa using blk.new w z a) (by simpa using c);simpa using this
end
section
variable{bx:List R8}
def BC{r:Int}(c:dN bx r)(h0:0<=r)(d:¬wrP bx){st:Int}(a:∀j(h:j<bx.length),cV st bx[j]):wrP (cF bx r)/\∀j(h:j<(cF bx r).length),cV st (cF bx r)[j]:=by
 rcases c with⟨rfl,_⟩|⟨i,rfl,hi,f,_⟩
 .omega
 have e:∀k(h:k<bx.length),¬onW bx[k]:=Classical.not_not.1 d;rw[jS hi f (qt ⟨e,rfl⟩) om];refine⟨fun b=>b i (by simpa using hi) (qp pQ),fun j g=>?_⟩;rw[List.getElem_set];split
 .have h1:=a i hi;unfold cV at h1 ⊢;rw[QV om]at h1;rw[QV pQ];exact⟨pQ,h1.2⟩
 .exact a j _
def wvP(bx:List R8):Prop:=wrP bx/\∀hk:onI bx<bx.length,vB bx[onI bx].e bx[onI bx].i bx[onI bx].r bx[onI bx].d bx[onI bx].l.length=true
def FR(d:wrP bx){st:Int}(h:∀j(g:j<bx.length),cV st bx[j]):wvP bx:=by
 refine⟨d,fun c=>?_⟩;have h1:=h (onI bx) c;have f:bx[onI bx].x≠0:=by
  have:=List.findIdx_getElem (xs:=bx) (p:=fun b:R8=>b.x==2||b.x==3) (w:=c);intro e;have a:(bx[onI bx].x==2||bx[onI bx].x==3)=true:=this;rw[e]at a;simp at a
 unfold cV at h1;rw[QV f]at h1;exact h1.2.2.2
def rG{S:Sc}(h:okS S)(hs:∀x∈S.l,x<256)(b:Nat)(c:b=0\/b=1):okS (aI S b)/\∀x∈(aI S b).l,x<256:=by
 by_cases a:(scn S b).2=0\/(scn S b).2=1
 .rw[(fF S b).2 a];exact tO h hs b c a
 .have:aI S b=S:=by
   unfold aI;unfold scn at a
   (repeat' split)<;>simp_all
  rw[this];exact⟨h,hs⟩
def tQ:okS sc0/\∀x∈sc0.l,x<256:=⟨by unfold okS sc0;decide,fun x hx=>by cases hx⟩
def lM{w:World}{A:Ov}{q:Os}(h:oI w A q)(a:gA A.c A.s A.n A.u A.w)(b:A.c.p=1):okS A.s/\(∀x∈A.s.l,x<256)/\(A.c.tx=true->A.s.f=12->A.u+1≠A.n):=by
 cases ht:A.c.tx
 .have:=a.h b ht;exact⟨this.2.1,h.d.small,fun e=>by cases e⟩
 .have hs:=a.s b ht;have j:=a.c.s.1 ⟨b,ht⟩;have h0:=hs.c0;have h1:=hs.c1;obtain⟨g,i⟩:=pO h.h a.c j (k:=A.u.toNat) om;have:=g.at ((lt (aq A.c)).take A.u.toNat).length;rw[List.take_length,<- hs.s]at this;refine⟨this.1,this.2.1,fun _ e r=>?_⟩;have:=i (by have:=hs.n;omega);rw[<- hs.s]at this;omega
def iz(A:Ov):Sc:=if A.c.p=1 then A.s else sc0
def osT(A:Ov)(r:Int)(b:Nat):Co:=au A.c (osA A.c (iz A) A.n A.u A.w b r)
def osV(A:Ov)(r:Int)(b:Nat):Ov:=
 ⟨osT A r b,if(osT A r b).p=1 then aI (iz A) b else scZ,
  if(osT A r b).p=1/\(osT A r b).tx=true then(if A.n=0 then((aq (osT A r b)).size:Int)else A.n)else 0,
  if(osT A r b).p=1/\(osT A r b).tx=true then A.u+1 else 0,
  if(osT A r b).p=1/\(osT A r b).tx=true then(if A.n=0 then wl (lt (aq (osT A r b)))else A.w)else[]⟩
def GP{C:Co}(a:cH C)(d:C.p=1)(e c:Int)(F:R5)(f:Bool)(b:Int)(h:(au C (hrC C e c F f b)).p=1):(au C (hrC C e c F f b)).tx=C.tx:=by
 revert h
 unfold hrC
 (repeat' split)<;>intro h<;>try exact Qj h (uI _ _)
 .exact ((mq a d 2 _).2 (.inl rfl)).2
 .exact Qj h ((mq a d 3 _).1 (.inr (.inl rfl)))
 .exact Qj h ((mq a d 4 _).1 (.inr (.inr rfl)))
 .rw[jO a d]
def po{A:Ov}(a:gA A.c A.s A.n A.u A.w)(r:Int)(j:dN A.c.ho.bx r)(b:Nat)(C:b=0\/b=1)(f:(osT A r b).p=1)(d:(osT A r b).tx=true)(D:A.n=0):wvP (osT A r b).ho.bx/\A.c.p≠1/\b=0/\(osT A r b).ho.bx.length<=8:=by
 by_cases h1:A.c.p=1
 .exfalso;cases e:A.c.tx
  .unfold osT osA at f d;rw[QW h1,QV (by rw[e];decide)]at f d;rw[GP a.c h1 _ _ _ _ _ f,e]at d;cases d
  .have:=(a.s h1 e).n;have E:=(eU A.c a.c (a.c.s.1 ⟨h1,e⟩)).1;omega
 .unfold osT osA at f d ⊢;rw[QV h1]at f d ⊢;obtain⟨l,t,v⟩:=mG f;rw[t]at d;obtain⟨B,g⟩:=yR a.c h1 b r om l;obtain⟨j1,k⟩:=g d;have i:¬wrP A.c.ho.bx:=fun x=>h1 (a.c.s.2 x).1;obtain⟨t1,y⟩:=BC j j1 i a.c.h.bx.1;rw[v,k];have h8:=a.c.h.n2;exact⟨FR t1 y,h1,om,by show(cF _ _).length<=8;rw[jU];omega⟩
end
set_option maxHeartbeats 16000000
section
variable{κ κ' κ0:Nat->Nat}{A T:Ov}{q0 q q':Os}{H H':Ho}{s s':Sl}{w W W':Wd}{p r P:Nat}{S:Sc}{a:Option Addr}{n k:Nat}{l:List Nat}
def byP(κ:Nat->Nat)(W:Wd)(a:Option Addr)(n k:Nat)(l:List Nat):Prop:=iB W a n k l/\(l≠[]->∀p,a=sQ p->κ p.block=0)
def byP.mv(h:byP κ W a n k l)(m:mvH κ W κ' W'):byP κ' W' a n k l:=by
 have j:l≠[]->∀p,a=sQ p->p.block<W.heap.size:=fun d p f=>by
  obtain⟨g,off,e,t⟩:=h.1.cells d;rw[f]at e;cases e;exact Qn W _ (t 0 (List.length_pos_iff.2 d))
 exact⟨h.1.at_ fun d g i=>m.k _ (j d g i) (h.2 d g i),fun d p f=>by rw[m.c _ (j d p f)];exact h.2 d p f⟩
def byP.far(h:byP κ W a n k l){x:Nat}{L:List Value}{ty:TypeId}(hx:blk W x L ty)(hL:∀j,Value.int .u8 j∉L)(hV:∀q,q≠x->W'.heap[q]?=W.heap[q]?):byP κ W' a n k l:=⟨h.1.farL hx hL hV,h.2⟩
def wdP(κ:Nat->Nat)(W:Wd)(a:Option Addr)(n k:Nat)(l:List Nat):Prop:=ah W a n k l/\(l≠[]->∀p,a=sQ p->κ p.block=0)
def wdP.mv(h:wdP κ W a n k l)(m:mvH κ W κ' W'):wdP κ' W' a n k l:=by
 have t:l≠[]->∀p,a=sQ p->p.block<W.heap.size:=fun d p f=>by
  obtain⟨g,off,e,i⟩:=h.1.cells d;rw[f]at e;cases e;exact Qn W _ (i 0 (List.length_pos_iff.2 d))
 refine⟨⟨h.1.len,h.1.cap,h.1.small,fun d=>?_⟩,fun d p f=>by rw[m.c _ (t d p f)];exact h.2 d p f⟩;obtain⟨g,off,e,i⟩:=h.1.cells d;exact⟨g,off,e,fun j u=>(eV (m.k g (t d _ e) (h.2 d _ e)) _).trans (i j u)⟩
def wdP.far(h:wdP κ W a n k l){x:Nat}{L:List Value}{ty:TypeId}(hx:blk W x L ty)(hL:∀j,Value.int .u64 j∉L)(hV:∀q,q≠x->W'.heap[q]?=W.heap[q]?):wdP κ W' a n k l:=⟨h.1.farL hx hL hV,h.2⟩
def byP.nil:byP κ W nn 0 0 []:=⟨⟨rfl,nR _,(fun x hx=>by cases hx),fun e=>Qj rfl e⟩,fun e=>Qj rfl e⟩
def wdP.nil:wdP κ W nn 0 0 []:=⟨⟨rfl,nR _,(fun x hx=>by cases hx),fun e=>Qj rfl e⟩,fun e=>Qj rfl e⟩
structure oP(κ:Nat->Nat)(T:Ov)(q:Os)(W:Wd):Prop where
 g:hG κ T.c.ho q.s W
 d:byP κ W q.a q.n q.k T.s.l
 x:wdP κ W q.aw q.nw q.kw T.w
def oA(w:Wd)(κ:Nat->Nat)(T:Ov)(o:Ending)(w':Wd):Prop:=∃q' κ',o=rT (aG (oL T q').toArray)/\Hid (oP κ' T q' w'/\mvH κ w κ' w')
structure fo(w:Wd)(κ0:Nat->Nat)(A:Ov)(q0:Os)(κ:Nat->Nat)(H:Ho)(s:Sl)(W:Wd):Prop where
 p:blk W w.heap.size (oL A q0) 58
 r:blk W (w.heap.size+1) Z35 58
 g:hG κ H s W
 d:byP κ W q0.a q0.n q0.k A.s.l
 x:wdP κ W q0.aw q0.nw q0.kw A.w
 m:mvH κ0 w κ W
 z:κ w.heap.size=0/\κ (w.heap.size+1)=0
def fo.call(h:fo w κ0 A q0 κ H s W)(hg:hG κ' H' s' W'/\mvH κ W κ' W'):fo w κ0 A q0 κ' H' s' W':=
 ⟨hg.2.blk h.p h.z.1,hg.2.blk h.r h.z.2,hg.1,h.d.mv hg.2,h.x.mv hg.2,h.m.trans hg.2,by rw[hg.2.c _ h.p.lt,hg.2.c _ h.r.lt];exact h.z⟩
def fo.below(h:fo w κ0 A q0 κ H s W)(hb:Bl W W'):fo w κ0 A q0 κ H s W':=h.call ⟨h.g.below hb,mvH.of hb⟩
def fo.new2(h:oP κ A q0 w):fo w κ A q0 κ A.c.ho q0.s ((w.alloc (.cells (oL A q0).toArray 58)).alloc (.cells Z35.toArray 58)):=by
 have e:Bl w ((w.alloc (.cells (oL A q0).toArray 58)).alloc (.cells Z35.toArray 58)):=Zw.alloc pQ _;have f:blk ((w.alloc (.cells (oL A q0).toArray 58)).alloc (.cells Z35.toArray 58)) (w.heap.size+1) Z35 58:=by simpa using blk.new (w.alloc (.cells (oL A q0).toArray 58)) Z35 58
 exact⟨(blk.new w _ 58).alloc _,f,h.g.below e,h.d.mv (mvH.of e),h.x.mv (mvH.of e),mvH.of e,h.g.no (nR _),h.g.no (nA _ _)⟩
def fo.ans(h:fo w κ0 A q0 κ H s W)(c:oP κ T q W):blk (W.setCells (w.heap.size+1) 0 (oL T q)) (w.heap.size+1) (oL T q) 58/\Hid (oP κ T q (W.setCells (w.heap.size+1) 0 (oL T q))/\mvH κ0 w κ (W.setCells (w.heap.size+1) 0 (oL T q))):=by
 refine⟨h.r.put [] Z35 [] _ rfl,⟨c.g.cells h.z.2 _ _,c.d.far h.r ?_ fun q c=>sO _ q c _ _ _,c.x.far h.r ?_ fun q c=>sO _ q c _ _ _⟩,h.m.cells (qp (nA _ _)) _ _⟩
 .intro j;simp[Z35]
 .intro j;simp[Z35]
section
variable{ops:Array Oper}{rest:List Oper}{op:Oper}{b:Act}{Q:Exit->Act->Wd->Prop}{x y:Operand}
def fo.ld(h:fo w κ0 A q0 κ H s W)(K:wpList Tp ops Q rest (b.put op.dst (aG (oL A q0).toArray)) W)(c:op.guard=nn:=by rfl)(ho:op.op= .load 58 x:=by rfl)(d:b.eval x=ap w.heap.size:=by rfl):wpList Tp ops Q (op::rest) b W:=
 Qk (P:=Tp) c 58 x ho w.heap.size 0 d (oL A q0) _ h.p.load underlying58 rfl (dj _ _ _ _ _) K
def fo.lc(h:fo w κ0 A q0 κ H s W)(K:wpList Tp ops Q rest (b.put op.dst (aG (coL A.c q0.s).toArray)) W)(d:op.guard=nn:=by rfl)(ho:op.op= .load 52 x:=by rfl)(e:b.eval x=ap w.heap.size:=by rfl):wpList Tp ops Q (op::rest) b W:=
 Qk (P:=Tp) d 52 x ho w.heap.size 0 e (coL A.c q0.s) _ (bJ h.p) underlying52 rfl (aV _ _) K
def fo.ls(h:fo w κ0 A q0 κ H s W)(K:wpList Tp ops Q rest (b.put op.dst (aG (scL A.s q0.a q0.n q0.k).toArray)) W)(c:op.guard=nn:=by rfl)(ho:op.op= .load 55 x:=by rfl)(d:b.eval x=pT (sQ ⟨w.heap.size,21,nn⟩):=by rfl):wpList Tp ops Q (op::rest) b W:=
 Qk (P:=Tp) c 55 x ho w.heap.size 21 d (scL A.s q0.a q0.n q0.k) _ (dy h.p) underlying55 rfl (dY _ _ _ _) K
def fo.li(h:fo w κ0 A q0 κ H s W)(K:wpList Tp ops Q rest (b.put op.dst (pkV A.n q0.aw q0.nw q0.kw)) W)(c:op.guard=nn:=by rfl)(ho:op.op= .load 56 x:=by rfl)(d:b.eval x=pT (sQ ⟨w.heap.size,32,nn⟩):=by rfl):wpList Tp ops Q (op::rest) b W:=
 Qk (P:=Tp) c 56 x ho w.heap.size 32 d [I J A.n,sL q0.aw q0.nw q0.kw] _ (eC h.p) underlying56 rfl (eH _ _ _ _) K
def fo.rt(h:fo w κ0 A q0 κ H s W)(K:∀c,blk c (w.heap.size+1) (oL T q) 58->(oP κ T q W->Hid (oP κ T q c/\mvH κ0 w κ c))->wpList Tp ops Q rest (b.put op.dst undef) c)(d:op.guard=nn:=by rfl)(ho:op.op= .store 58 x y:=by rfl)(f:b.eval x=ap (w.heap.size+1):=by rfl)(hy:b.eval y=aG (oL T q).toArray:=by rfl):wpList Tp ops Q (op::rest) b W:=by
 exact Qo (P:=Tp) d 58 x y ho (w.heap.size+1) 0 (oL T q).toArray f hy (h.r.there 0 35 (nR _)) (cX _ _ _ _ _) (cC _ _ _ _ _) (K _ (h.r.put [] Z35 [] _ rfl) fun e=>(h.ans e).2)
end
def lvO(h:blk W p (oL T q) 58):(loadVar 58 ⟨p,0,nn⟩).run Tp W= .ok (aG (oL T q).toArray) W:=Qt (P:=Tp) W p 0 58 _ _ h.load underlying58 rfl (dj _ _ _ _ _)
def bh(C:Co):Ov:=⟨C,scZ,0,0,[]⟩
def A6(w:Wd)(C:Co)(s:Sl):(Instr.build 58 #[(0,aG (coL C s).toArray)]).run Tp w= .ok (aG (oL (bh C) (opZ s)).toArray) w:=kr
def oP.onlyC{C:Co}(h:hG κ C.ho s W):oP κ (bh C) (opZ s) W:=⟨h,byP.nil,wdP.nil⟩
def jk(w:Wd)(C:Co)(s:Sl):ce 16 #[aG (coL C s).toArray] w fun o w'=>o=rT (aG (oL (bh C) (opZ s)).toArray)/\Bl w w':=by
 have c:Hid (blk ((w.alloc (.cells (coL C s).toArray 52)).alloc (.cells Z35.toArray 58)) w.heap.size (coL C s) 52/\blk ((w.alloc (.cells (coL C s).toArray 52)).alloc (.cells Z35.toArray 58)) (w.heap.size+1) Z35 58/\Bl w ((w.alloc (.cells (coL C s).toArray 52)).alloc (.cells Z35.toArray 58))):=by
  refine⟨(blk.new w _ 52).alloc _,?_,Zw.alloc pQ _⟩;have:=blk.new (w.alloc (.cells (coL C s).toArray 52)) Z35 58;simpa using this
 go_enter func16,ntmps16
 go_wp2_with(first|(refine ZG 52 c.o.1.load underlying52 (aV _ _) ?_)|(refine aY rfl 58 _ rfl _ (by simp[go_sem]) _ (A6 _ C s) ?_)|(refine Zs 58 (oL (bh C) (opZ s)).toArray (c.o.2.1.there 0 35 (nR _)) (cX _ _ _ _ _) (cC _ _ _ _ _) ?_;generalize e:World.setCells _ (w.heap.size+1) 0 _=g;have f:Hid (_=g):=e;clear e))
 have d:=f.o;refine bC results16 (lvO (T:=bh C) (q:=opZ s) (by rw[<- d];exact c.o.2.1.put [] Z35 [] _ rfl)) ⟨rfl,by rw[<- d];exact sW om 0 _ c.o.2.2⟩
end
def Dy{C:Co}{S:Sc}{N a:Int}{ws:List Nat}(b:gA C S N a ws):(0<=a/\a<=1000)/\(C.p=1->C.tx=true->0<=a/\a<64*(ws.length:Int)):=by
 by_cases d:C.p=1
 .cases ht:C.tx
  .have:=(b.h d ht).1.2.2;exact⟨om,fun _ e=>by cases e⟩
  .have hs:=b.s d ht;have:=(eU C b.c (b.c.s.1 ⟨d,ht⟩)).2.1;have h0:=hs.c0;have h1:=hs.c1;refine⟨om,fun _ _=>⟨h0,?_⟩⟩;rw[hs.w,cD,aN];omega
 .have:=(b.i d).1.2.2;exact⟨om,fun e=>Qj e d⟩
def BR{w:World}{A:Ov}{R:Nat}{w0:World}{M:Nat}{G:Lg}{P B:Nat}{o:Os}{W:World}(h:opO w A.c A.s A.n A.u A.w R w0 M G P B o W)(a:gA A.c A.s A.n A.u A.w)(hg:A.c.p=1->okS A.s/\∀x∈A.s.l,x<256)(r:Int)(N:dN A.c.ho.bx r)(Y:w0.rangeAt 0 0 cQ)(O:0<w0.heap.size)(hs:∀x∈A.w,x<18446744073709551616)(hw:A.w.length<=1048576)(b:Nat)(H:b=0\/b=1):ce 346 #[ap R,I J (b:Int)] W fun o w'=>o=rT (.tuple #[])/\(∃v f d,oq w0 M v f P (osV A r b).c (osV A r b).s (osV A r b).n (osV A r b).u (osV A r b).w R d w'/\ab w' (R+1) (sL d.aw d.nw d.kw) (osV A r b).w)/\∀q x L T,q≠R->lv M G q=false->T≠5->blk W q (x::L) T->blk w' q (x::L) T:=by
 obtain⟨c1,c2⟩:=Dy a;have h1:okS (iz A)/\∀x∈(iz A).l,x<256:=by
  unfold iz;split
  .exact hg ‹_›
  .exact tQ
 have E:=rG h1.1 h1.2 b H;refine h.step Y O hs hw c2 ⟨c1.1,om⟩ (A.c.p==1) rfl (iz A) (by unfold iz;simp) (zL _ h1.1 h1.2) ⟨h1.1.2.2.2.2.2.2.2.2.1,h1.1.2.2.2.2.2.2.2.2.2.1⟩ b om E.2 (osA A.c (iz A) A.n A.u A.w b r) _ (fun s X a0 k Z=>Ex a.c r N (by have:=E.1.2.2.2.2.2.1;omega) k Z) fun v f d X hq K=>?_;obtain⟨s,D⟩:∃s,(((osT A r b).p==1)&&(osT A r b).tx)=s:=⟨_,rfl⟩
 have g:s=true↔(osT A r b).p=1/\(osT A r b).tx=true:=by rw[<- D];simp
 refine(oq.follow (C:=osT A r b) hq Y O ⟨c1.1,om⟩ ((osT A r b).p==1) s rfl D (fun e n=>(po a r N b H (g.1 e).1 (g.1 e).2 n).1) (fun e n hn=>?_) (osV A r b).s (osV A r b).n (osV A r b).u (osV A r b).w (by unfold osV;simp) (fun e=>?_) (fun e=>?_)).mono ?_
 .by_cases t:A.c.p=1
  .cases ht:A.c.tx
   .exact n (a.h t ht).1.1
   .have h3:=a.s t ht;have:=(eU A.c a.c (a.c.s.1 ⟨t,ht⟩)).1;have j:=congrArg List.length h3.w;rw[hn,cD,aN]at j;simp at j;omega
  .exact n (a.i t).1.1
 .have:=g.1 e;unfold osV;simp only[QW this,and_self]
 .have:¬((osT A r b).p=1/\(osT A r b).tx=true):=fun x=>by rw[g.2 x]at e;cases e
  unfold osV;simp only[QV this,and_self]
 .rintro ox w' ⟨rfl,⟨o2,h3⟩,j⟩;exact⟨rfl,⟨v,f,o2,h3⟩,fun q x L T y Q S U=>(K q x L T y Q S U).kept (j q y (K q x L T y Q S U).lt)⟩
def uf (w : World) (a : Addr) : (method 489 80 (pT (some a)) "loop.example/s01647/impl.step").run Tp w = .ok (346, pT (some a)) w := by kernel_rfl
def yT{w:World}{A T:Ov}{R:Nat}{w0:World}{M:Nat}{G:Lg}{Q B:Nat}{o:Os}{W:World}(h:opO w A.c A.s A.n A.u A.w R w0 M G Q B o W)(b:Int)
  (hdr:∀X,opO w A.c A.s A.n A.u A.w R w0 M G Q B o X->ce 346 #[ap R,I J b] X fun q w'=>q=rT (.tuple #[])/\(∃G' f v,oq w0 M G' f Q T.c T.s T.n T.u T.w R v w'/\ab w' (R+1) (sL v.aw v.nw v.kw) T.w)/\∀q x L a0,q≠R->lv M G q=false->a0≠5->blk X q (x::L) a0->blk w' q (x::L) a0) :
  ce 30 #[.iface 80 (ap R),I J b] W fun q w'=>∃s' v,q=rT (aG (acO T.c s' T.s T.n T.u v).toArray)/\rZ B T.c T.s T.w (osS v s') w'/\Bl w w':=by
 have E:Hid (Bl W (W.alloc (.cells Z57.toArray 87))/\blk (W.alloc (.cells Z57.toArray 87)) W.heap.size Z57 87):=⟨Zw,blk.new W _ 87⟩
 have S:=aa (hdr _ (h.below E.o.1));have U:Hid (W.heap.size≠R/\lv M G W.heap.size=false/\B=R+1/\R<W.heap.size/\w.heap.size<=W.heap.size/\Bl w w0):=by
  have h1:=h.r.lt;obtain⟨⟨u1,u2,u3,u4,u5,u6,_⟩,n2,n3,n4,n5⟩:=h.n;exact⟨om,DC om ⟨om,om,om,om,om⟩,n3,h1,om,h.b0⟩
 obtain⟨V0,a1⟩:∃V0,V0=W.alloc (.cells Z57.toArray 87):=⟨_,rfl⟩
 rw[<- a1]at E S;have hm:=uf V0 ⟨R,0,none⟩;clear h hdr;go_enter func30,ntmps30;go_upto_region 1 with fail
 change Code.wp _ _ _ _ (W.alloc (.cells Z57.toArray 87));rw[<- a1];clear a1;go_wp2_with fail;refine S.o.mono ?_;rintro ox w1 ⟨rfl,⟨G1,f1,i,h1,a7⟩,a5⟩;have D:=aa (qB h1 a7);have Y:Hid (blk w1 W.heap.size Z57 87):=a5 W.heap.size _ _ _ U.o.1 U.o.2.1 (by decide) E.o.2;have HC:=aa (ye w1 M R T.s T.n T.u i T.c (tlQ T.c) (fun _ _ _ _ _ he h=>h.keep he) h1.r (fun X hX=>((h1.m.below hX).told).mono fun o w' h=>tlQ.told h));clear h1 a7 S hm E a5;go_wp2_with fail;refine HC.o.mono ?_;rintro ox j ⟨s2,C,T2,rfl,a6,N,a3,O⟩;have a8:ab j (R+1) (sL i.aw i.nw i.kw) T.w:=D.o.2.keep fun x _ hx=>O.block x hx;have H2:Hid (oq w0 M G1 f1 Q T.c T.s T.n T.u T.w R i j/\ab j (R+1) (sL i.aw i.nw i.kw) T.w/\tlQ T.c C T2 s2 j/\T2<=j.heap.size/\W.heap.size<C/\(T.s.l≠[]->∀g,(Value.slice i.a i.n i.k).ownBlock=some g->g<C)/\∀g,(Value.slice i.aw i.nw i.kw).ownBlock=some g->g<C):=⟨D.o.1.below O,a8,a6,a3,nL Y.o.lt N,fun e g t=>nL (Qm (D.o.1.d.resolve_right e) g t).2 N,fun g t=>nL (Qm D.o.2 g t).2 N⟩
 have Z:Hid (blk j W.heap.size Z57 87):=Y.o.below O
 clear a6 N a3 O a8 D HC Y;go_wp2_with(refine Zs 87 (acO T.c s2 T.s T.n T.u i).toArray (Z.o.there 0 _ (by rw[Q7,rp];decide)) BH (wm _ _ _ _ _ _) ?_;generalize a4:World.setCells j W.heap.size 0 _=y;have a9:Hid (_=y):=a4;clear a4)
 have H:j.setCells W.heap.size 0 (acO T.c s2 T.s T.n T.u i)=y:=a9.o;have hF:blk y W.heap.size (acO T.c s2 T.s T.n T.u i) 87:=by rw[<- H];exact Z.o.put [] Z57 [] _ rfl
 have hL:=Qt (P:=Tp) y W.heap.size 0 87 _ _ hF.load underlying87 rfl BH;refine bC results30 hL ?_;have a2:∀k,k≠W.heap.size->y.heap[k]?=j.heap[k]?:=fun k hk=>by rw[<- H];exact sO _ k hk _ _ _
 have ac:y.heap.size=j.heap.size:=by rw[<- H,sZ]
 obtain⟨u0,ux,u2,u3,u4,u5,u6⟩:=H2.o;obtain⟨l1,l2,l3,l4,l5,l6⟩:=U.o
 have hne:∀g c k K,j.heap[g]?=some (.cells c k K)->k≠87->g≠W.heap.size:=fun g c k K p hk e=>by
  have:=Z.o;unfold blk at this;rw[e,this]at p;injection p with p
  injection p with _ p _
  exact hk p.symm
 refine⟨s2,i,rfl,⟨fun e=>?_,u0.dn,?_,u0.xn,C,T2,u2.keep fun k h1 _=>a2 k om,om,by rw[ac];exact u3,u5,u6⟩,?_⟩
 .have hd:=u0.d.resolve_right e;rw[l3];exact hd.otherBlock fun g t=>a2 g (by obtain⟨c,K,p⟩:=hd.kind g t;exact hne _ _ _ _ p (by decide))
 .rw[l3];exact ux.otherBlock fun g t=>a2 g (by obtain⟨c,K,p⟩:=ux.kind g t;exact hne _ _ _ _ p (by decide))
 .rw[<- H];obtain⟨_,_,q⟩:=u0.m;exact sW l5 0 _ (l6.trans (q.h.b.mono l6.size))
end Go.Proofs.YtbbffcolnddcdaaGreatDoor
