import Derived.Test.YtbbffcolnddcdaaGreatDoorK39
import Derived.Deep.DeepCutAuto
import Derived.Deep.CutBlock
namespace Go.Proofs.YtbbffcolnddcdaaGreatDoor
open Go.Proofs.Tryz
open Option renaming none->nn,some->sQ
set_option maxRecDepth 20000
open Go.RowKit
set_option linter.all false
set_option maxHeartbeats 16000000
open Go.Value renaming int->I,slice->sL,bool->bO,pointer->pT,agg->aG
open Go.IntKind renaming i64->J,u32->Zk
open Go.Ending renaming returned->rT
open Go.Proofs.Tryz renaming prog->Tp
section
variable{κ κ':Nat->Nat}{H:Ho}{s:Sl}{w W W':World}
def nV(a0:hG κ H s w)(L:Bool)(b1:H.bx.length<=1000)(hn:H.qu.length<=1000)(ac:0<=H.lo/\H.lo<=100000)(af:∀j(a0:j<H.bx.length),H.bx[j].l.length<=1048576):ce 109 #[aG (hoL H s).toArray,bO L] w (hA w κ (bz H L)):=by
 have U:Hid _:=fw.new2 a0;have Y:=hI (qB hn ac);have b2:s.n2<=1000:=by have:=a0.n2;omega
 have a8:=cw af;clear a0 hn ac b1 af;go_enter func109,ntmps109;go_wp2_with(refine fw.ld U.o ?_);refine(gW _ H s U.o.g.is.bx b2).mono ?_;rintro o b ⟨r,rfl,hr,a9⟩;have M:=hI (U.o.below a9);have hR:=hr.ix;clear hr a9 U;rcases hR with⟨rfl,b3⟩|⟨rfl,K⟩
 .have HT:Hid (bz H L=H):=jf b3;go_wp2_with(first|(refine fw.ld M.o ?_)|(refine fw.rt M.o ?_;intro w8 A v));refine bC results109 (mY A) ?_;rw[HT.o];exact⟨s,κ,rfl,v⟩
 .have hw5:=jQ K;have Z:Hid (bz H L=if L=true then pH (dK H (wI H.bx)) ⟨1,H.bx[wI H.bx].y,0,H.bx[wI H.bx].e,H.bx[wI H.bx].i,H.bx[wI H.bx].r,H.bx[wI H.bx].d,H.bx[wI H.bx].l⟩else if H.bx[wI H.bx].x=3 then pH (dK H (wI H.bx)) (ev3 6 H.bx[wI H.bx].y 0)else ir H (wI H.bx) 1):=by
   show bz H L=_;unfold bz;rw[dif_pos K]
  generalize wI H.bx=k at*;obtain⟨gb,ad,e2,kb,u,b4⟩:=M.o.g.x;have x5:b.cell? ⟨w.heap.size,5,nn⟩=sQ (sL (be gb) s.n2 s.k2):=by rw[<- e2];exact M.o.p.cell 5 _ (by unfold hoL;rfl)
  have b6:=u.cap;have b7:k<s.n2:=by have:=u.len;omega
  have O:=cw e2;have a2:=cw K;have a3:=cw (u.rng k K);have X:=cw (u.dat k K);have a7:Hid ((ad k).2.1<=1048576):=by
   have:=(u.dat k K).1.len;have:=a8.o k K;show _<=_;omega
  clear u e2 kb b4 a8;generalize H.bx[k]=bk at*;generalize ad k=aw at*;obtain⟨G,n,Q,C,D,E,B,bL⟩:=bk;obtain⟨t,m,c⟩:=aw;simp only[]at a3 X a7 Z hw5;have h:Hid (fw w κ w.heap.size (w.heap.size+1) b.heap.size [I J G,I J n,I J Q,bO C,I Zk (D:Int),bO E,I J B,sL t m c] 114 κ H s (hoL H s) (World.setCells (b.alloc (.cells [I J 0,I J 0,I J 0,bO false,I Zk 0,bO false,I J 0,sL nn 0 0].toArray 114)) b.heap.size 0 [I J G,I J n,I J Q,bO C,I Zk (D:Int),bO E,I J B,sL t m c])):=M.o.var (pA _ rfl).2 (pA _ rfl).1;have a1:Hid (∀x,x<b.heap.size->(World.setCells (b.alloc (.cells [I J 0,I J 0,I J 0,bO false,I Zk 0,bO false,I J 0,sL nn 0 0].toArray 114)) b.heap.size 0 [I J G,I J n,I J Q,bO C,I Zk (D:Int),bO E,I J B,sL t m c]).heap[x]?=b.heap[x]?):=fun x u=>(pA _ rfl).2.block x u;have a6:Hid (blk (b.alloc (.cells [I J 0,I J 0,I J 0,bO false,I Zk 0,bO false,I J 0,sL nn 0 0].toArray 114)) b.heap.size ([]++[I J 0,I J 0,I J 0,bO false,I Zk 0,bO false,I J 0,sL nn 0 0]++[]) 114):=blk.new b _ 114
  go_upto_region 5 with(first|(refine Zi 114 [I J G,I J n,I J Q,bO C,I Zk (D:Int),bO E,I J B,sL t m c] a3.o underlying114 cK ?_)|(refine Qo (P:=Tp) rfl 114 _ _ rfl b.heap.size 0 _ rfl rfl (a6.o.there 0 8 pQ) cK (mS _ _ _ _ _ _ _ _ _ _) ?_))
  generalize ap:World.setCells (b.alloc _) b.heap.size 0 _=w6 at*;clear ap a6;have x6:w6.cell? ⟨w.heap.size,5,nn⟩=sQ (sL (be gb) s.n2 s.k2):=by rw[<- O.o];exact h.o.p.cell 5 _ (by unfold hoL;rfl)
  have y0:=h.o.f.cell 0 _ rfl;have y1:=h.o.f.cell 1 _ rfl;have y2:=h.o.f.cell 2 _ rfl;have y3:=h.o.f.cell 3 _ rfl;have am:Hid (iB w6 t m c bL):=by
   rcases X.o with⟨R,⟨S,T⟩|⟨g,S,T,d4,d5⟩⟩
   .exact R.none0 T
   .cases S;exact R.other (a1.o g d4)
  have ak:Hid (∀V:World,(∀x,x≠gb->V.heap[x]?=w6.heap[x]?)->iB V t m c bL):=fun V hV=>by
   rcases X.o with⟨R,⟨S,T⟩|⟨g,S,T,d4,d5⟩⟩
   .exact R.none0 T
   .cases S;exact R.other ((hV g d5).trans (a1.o g d4))
  clear x5 a1 a3 X am;cases L
  .by_cases hb:G=3
   .have HT:Hid (bz H false=pH (dK H k) (ev3 6 n 0)):=by show _=_;rw[Z.o,QV (by decide),QW hb]
    subst hb;go_wp2_with(first|(refine fw.bx h.o O.o a2.o z8 (nn,0,0) (jA _) (qp ⟨rfl,rfl⟩) ?_;intro w7 a _;have y7:=a.o.f.cell 1 _ rfl)|(refine fw.ld a.o ?_));refine(Dt a.o.g 6 n 0 Y.o.1 Y.o.2).mono ?_;rintro o w9 ⟨s1,a5,rfl,N⟩;have F9:=cw (a.o.call N.o);clear a N;go_wp2_with(refine fw.rt F9.o ?_;intro w8 A v);refine bC results109 (mY A) ?_;rw[HT.o];exact⟨s1,a5,rfl,v⟩
   .have HT:Hid (bz H false=ir H k 1):=by show _=_;rw[Z.o,QV (by decide),QV hb]
    have b5:(G==3)=false:=by simpa using hb
    obtain⟨ao,b8,e6,kb,a4,_⟩:=h.o.g.x;obtain rfl:ao=gb:=by rw[O.o]at e6;cases e6;rfl
    have f0:=(a4.row (k*8) om).2;obtain⟨v0,z0⟩:=(a4.row (k*8) om).1;have a:=cw (h.o.call (h.o.g.setX O.o a2.o 1));rw[<- yX H k 1 s]at a;clear a4 e6 kb;go_wp2_with(first|(refine fw.ld a.o ?_)|(refine fw.rt a.o ?_;intro w8 A v));refine bC results109 (mY A) ?_;rw[HT.o];exact⟨s,κ,rfl,v⟩
  .have HT:Hid (bz H true=pH (dK H k) ⟨1,n,0,C,D,E,B,bL⟩):=by show _=_;rw[Z.o,QW rfl]
   go_wp2_with(first|(refine fw.bx h.o O.o a2.o z8 (nn,0,0) (jA _) (qp ⟨rfl,rfl⟩) ?_;intro w7 a E7;have y7:=a.o.f.cell 1 _ rfl)|(refine fw.ld a.o ?_)|(refine Zi 53 [bO C,I Zk (D:Int),bO E,I J B,sL t m c] (a.o.f.loadAt [I J G,I J n,I J Q] _ []) underlying53 cE ?_));refine(lJ a.o.g ⟨1,n,0,C,D,E,B,bL⟩ t m c Y.o.1 Y.o.2 (ak.o _ E7.o) a7.o).mono ?_;rintro o w9 ⟨s1,a5,rfl,N⟩;have F9:=cw (a.o.call N.o);clear a N;go_wp2_with(refine fw.rt F9.o ?_;intro w8 A v);refine bC results109 (mY A) ?_;rw[HT.o];exact⟨s1,a5,rfl,v⟩
end
open Go.IntKind renaming i64->J
section
variable{κ κ':Nat->Nat}{H:Ho}{s:Sl}{w W W':World}
def Ea(h:hG κ H s w)(i:Int)(a3:H.bx.length<=1000):ce 111 #[aG (hoL H s).toArray,I J i] w (hA w κ (cv H i)):=by
 have d:Hid _:=fw.new2 h;have A:=cw h.n2;have a1:s.n2<=1000:=by have:=h.n2;omega
 clear h;go_enter func111,ntmps111;go_upto_region 1 with fail
 generalize hV:World.alloc (World.alloc w _) _=v at*;clear hV;have d:=hI d;obtain⟨E,a4,C,L,a,K⟩:=d.o.g.x;have x5:v.cell? ⟨w.heap.size,5,nn⟩=sQ (sL (be E) s.n2 s.k2):=by rw[<- C];exact d.o.p.cell 5 _ (by unfold hoL;rfl)
 have O:=cw a;have HA:=cw C;have a2:=a.cap;clear a C L K;go_cut [27] (fun x wx=>∃b:Bool,x=bO b/\Hid (b=true->cF H.bx i=H.bx)/\Hid (b=false->∃(k:Nat)(j:k<H.bx.length),i=(k:Int)/\H.bx[k].x=1/\cF H.bx i=H.bx.set k {H.bx[k]with x:=2})/\Hid (fw2 w κ κ H s (hoL H s) wx));case first=>
  by_cases n:i<0
  .have Q:decide (i<0)=true:=by simpa using n
   have c:=cw (jT (bx:=H.bx) (qp n));clear n;go_wp2_with fail;go_meet;case rel=>exact⟨true,rfl,fun _=>c.o,fun x=>(by cases x),d⟩
  by_cases U:(s.n2:Int)<=i
  .have Q:decide (i<0)=false:=by simpa using n
   have d1:decide ((s.n2:Int)<=i)=true:=by simpa using U
   have c:=cw (jT (bx:=H.bx) (i:=i) (qt (by have:=A.o;omega)));go_wp2_with fail;go_meet;case rel=>exact⟨true,rfl,fun _=>c.o,fun x=>(by cases x),d⟩
  obtain⟨k,rfl⟩:∃k:Nat,i=(k:Int):=⟨i.toNat,om⟩
  have a0:k<s.n2:=om;have j:k<H.bx.length:=by have:=A.o;omega
  have P:Hid (∀u,H.bx[k].x=u->v.cell? ⟨E,k*8,nn⟩=sQ (I J u)):=fun u e=>by subst e;exact O.o.rng k j 0 _ rfl
  have Q:decide ((k:Int)<0)=false:=pQ;have d1:decide (s.n2<=k)=false:=by simp;omega
  have M:=cw j;clear n U;by_cases a:H.bx[k].x=1
  .have HX1:=cw a;have y0:=P.o 1 a;clear a;go_wp2_with(refine an (by first|rfl|(simp[Region.wanted,yielded];done)) 50 (.tmp 2) rfl w.heap.size 0 rfl (hoL H s) _ d.o.p.load underlying50 rfl (fj H s) ?_);refine(gW v H s d.o.g.is.bx a1).mono ?_;rintro o w5 ⟨r,rfl,X,T⟩;have N:=cw X;have f:=cw (d.o.below T);clear X T;by_cases h0:0<=r
   .have dr:decide (0<=r)=true:=by simpa using h0
    have c:=cw (lB (i:=(k:Int)) N.o h0);clear h0;go_wp2_with fail;go_meet;case rel=>exact⟨true,rfl,fun _=>c.o,fun x=>(by cases x),f⟩
   .have dr:decide (0<=r)=false:=by simpa using h0
    have c:=cw (jS M.o HX1.o N.o om);clear h0;go_wp2_with fail;go_meet;case rel=>exact⟨false,rfl,fun x=>(by cases x),fun _=>⟨k,M.o,rfl,HX1.o,c.o⟩,f⟩
  .have c:=cw (rH j a);obtain⟨u,D⟩:∃u,H.bx[k].x=u:=⟨_,rfl⟩
   have y0:=P.o u D;have a6:(u !=1)=true:=by rw[<- D];simpa using a
   clear a D;go_wp2_with fail;go_meet;case rel=>exact⟨true,rfl,fun _=>c.o,fun x=>(by cases x),d⟩
 case rest=>
 obtain⟨b,rfl,R,S,f⟩:=hcut;clear d x5;cases b;case true=>
  have c:Hid (cv H i=H):=by show _=_;unfold cv;rw[R.o rfl]
  go_wp2_with(first|(refine fw.ld f.o ?_)|(refine fw.rt f.o ?_;intro w8 B y));refine bC results111 (mY B) ?_;rw[c.o];exact⟨s,κ,rfl,y⟩
 case false=>
 obtain⟨k,j,ei,Z,Y⟩:=S.o rfl;subst ei;have c:Hid (cv H (k:Int)=ir H k 2):=by show _=_;unfold cv;rw[Y,lE j]
 have a0:k<s.n2:=by have:=A.o;omega
 obtain⟨G,a5,l,L,a,K⟩:=f.o.g.x;obtain rfl:G=E:=by rw[HA.o]at l;cases l;rfl
 have x5:wc.cell? ⟨w.heap.size,5,nn⟩=sQ (sL (be G) s.n2 s.k2):=by rw[<- l];exact f.o.p.cell 5 _ (by unfold hoL;rfl)
 have y0:wc.cell? ⟨G,k*8,nn⟩=sQ (I J 1):=by rw[<- Z];exact a.rng k j 0 _ rfl
 have z0:=(a.row (k*8) om).2;have t:=cw (f.o.call (f.o.g.setX l j 2));rw[<- yX H k 2 s]at t;clear j Z Y R S a K L l O;go_upto_region 4 with fail
 go_wp2_with(first|(refine fw.ld t.o ?_)|(refine fw.rt t.o ?_;intro w8 B y));refine bC results111 (mY B) ?_;rw[c.o];exact⟨s,κ,rfl,y⟩
end
end Go.Proofs.YtbbffcolnddcdaaGreatDoor
