import Derived.Deep.RegionHeld3
import Derived.Deep.RegionLaw
import Derived.Test.YtbbffcolnddcdaaGreatDoorK16
namespace Go.Proofs.YtbbffcolnddcdaaGreatDoor
open Go.Proofs.Tryz
open Option renaming none->nn,some->sQ
set_option maxRecDepth 20000
open Go.RowKit
set_option linter.all false
set_option maxHeartbeats 16000000
open Go.Value renaming int->I,slice->sL,bool->bO,pointer->pT,agg->aG
open Go.IntKind renaming i64->J
open Go.Ending renaming returned->rT
open Go.Proofs.Tryz renaming prog->Tp
section
variable{w:World}
def cQ:List Value:=[I J 1,I J 1,I J 2,I J 2,I J 11,I J 3,I J 3,I J 1,I J 4,I J 4,I J 1,I J 7,I J 5,I J 18,I J 6,I J 6,I J 1,I J 7,I J 7,I J 1,I J 8,I J 8,I J 4,I J 9,I J 9,I J 8,I J 10,I J 10,I J 15,I J 11,I J 11,I J 1,I J 12,I J 12,I J 1,I J 13,I J 13,I J 1,I J 14,I J 14,I J 7,I J 15]
def dL(r:Bool)(d:Int):Int:=if r=true then 0 else min d 8
def rd(w:World)(e:Bool)(i:Nat)(r:Bool)(d:Int)(a:Option Addr)(n cap:Nat):ce 254 #[frV e i r d a n cap] w fun o w'=>o=rT (I J (dL r d))/\Below w.heap.size w w':=by
 cases r
 .go_enter func254,ntmps254;go_wp2;all_goals(go_ret;refine⟨aL ?_,Zw⟩;unfold dL;simp;try omega)
 .go_enter func254,ntmps254;go_wp2;all_goals(go_ret;refine⟨aL ?_,Zw⟩;unfold dL;simp)
def rsz(f:Int)(e r:Bool)(d:Int):Int:=if f=9 then 8*dL r d else aS f e d
def Eb(b:w.rangeAt 0 0 cQ)(d:0<w.heap.size){W:World}(a:Below w.heap.size w W)(j:Nat)(v:Value)(c:cQ[j]?=sQ v):W.cell? ⟨0,j,nn⟩=sQ v:=by
 have:=(a.cell (p:=⟨0,0+j,nn⟩) d).trans (b j v c);simpa using this
def c3S{b:Nat}{x y z:Value}{T:TypeId}(h:blk w b [x,y,z] T):(w.cell? ⟨b,0,nn⟩=sQ x/\w.cell? ⟨b,1,nn⟩=sQ y/\w.cell? ⟨b,2,nn⟩=sQ z)/\w.frozen? ⟨b,0,nn⟩=false/\w.frozen? ⟨b,1,nn⟩=false/\w.frozen? ⟨b,2,nn⟩=false:=⟨⟨h.cell 0 _ rfl,h.cell 1 _ rfl,h.cell 2 _ rfl⟩,h.free 0,h.free 1,h.free 2⟩
def vC{a:World}{F L:List Value}(b:Below (w.heap.size+1+1+1) (((w.alloc (.cells F.toArray 53)).alloc (.cells #[I J 0,I J 0,I J 0] 271)).alloc (.cells L.toArray 271)) a):Below w.heap.size w a/\blk a (w.heap.size+1) [I J 0,I J 0,I J 0] 271/\blk a (w.heap.size+1+1) L 271:=by
 have c:(w.alloc (.cells F.toArray 53)).heap.size=w.heap.size+1:=pQ;have d:((w.alloc (.cells F.toArray 53)).alloc (.cells #[I J 0,I J 0,I J 0] 271)).heap.size=w.heap.size+1+1:=pQ;refine⟨((Zw.alloc pQ _).alloc (by simp;omega) _).trans (b.mono om),c ▸ ((blk.new (w.alloc (.cells F.toArray 53)) [I J 0,I J 0,I J 0] 271).alloc (.cells L.toArray 271)).below (b.mono pQ),d ▸ (blk.new ((w.alloc (.cells F.toArray 53)).alloc (.cells #[I J 0,I J 0,I J 0] 271)) L 271).below (b.mono pQ)⟩
def iN(w:World)(D:w.rangeAt 0 0 cQ)(S:0<w.heap.size)(f:Int)(Q:1<=f)(R:f<=14)(e:Bool)(i:Nat)(r:Bool)(d:Int)(hd:0<=d)(P:d<=15)(a:Option Addr)(n cap:Nat):ce 235 #[I J f,frV e i r d a n cap] w fun o w'=>o=rT (aG #[I J f,I J (rsz f e r d),I J (ax f e r d)])/\Below w.heap.size w w':=by
 have b:=fun j v=>Eb D S (((bW w.heap.size w).alloc (nR _) (.cells #[bO e,I .u32 (i:Int),bO r,I J d,sL a n cap] 53)).alloc pQ (.cells #[I J 0,I J 0,I J 0] 271)) j v;obtain⟨j,E⟩:∃j,j=(3*(f-1)).toNat:=⟨_,rfl⟩
 have x:Hid (∀W,ce 254 #[frV e i r d a n cap] W fun o w'=>o=rT (I J (dL r d))/\Below W.heap.size W w'):=fun W=>rd W e i r d a n cap;have h8:0<=dL r d/\dL r d<=8/\ax 8 e r d=if(dL r d==0)=true then 10 else 9:=by unfold dL ax;cases r<;>simp<;>omega
 obtain⟨z1,z8,h8⟩:=h8;have h:f=1\/f=2\/f=3\/f=4\/f=5\/f=6\/f=7\/f=8\/f=9\/f=10\/f=11\/f=12\/f=13\/f=14:=om;have A:=b j;have B:=b (j+1);have C:=b (j+2);clear b D Q R;rcases h with rfl|rfl|rfl|rfl|rfl|rfl|rfl|rfl|rfl|rfl|rfl|rfl|rfl|rfl
 all_goals
  simp only[Int.reduceSub,Int.reduceMul,Int.reduceToNat]at E;subst E;have y:=A _ rfl;have c1:=B _ rfl;have c2:=C _ rfl;simp only[Nat.reduceAdd]at c1 c2;clear A B C
 case inr.inr.inr.inr.inr.inr.inr.inl=>
  generalize dL r d=z at*;have u:Hid (_=_):=h8;clear h8;go_enter func235,ntmps235;go_wp2_with fail;refine(x.o _).mono ?_;rintro o Y ⟨rfl,k⟩;obtain⟨hB,g,hR⟩:=vC (by simpa using k);have l:Hid _:=hB;obtain⟨⟨p,s,t⟩,H,K,L⟩:=c3S g;obtain⟨⟨T,U,X⟩,M,N,O⟩:=c3S hR;clear k hB g hR y c1 c2 hd P;obtain⟨c,b⟩:∃c,(z==0)=c:=⟨_,rfl⟩
  rw[b]at u;cases c;all_goals
   go_wp2_with fail;rw[u.o];refine Qp (by simp[results,results235,go_sem,p,s,t];rfl) rfl ?_;refine⟨rfl,?_⟩
   (repeat refine Below.setCell ?_ (by simp;try omega) _)
   exact l.o
 case inr.inr.inr.inr.inr.inr.inr.inr.inl=>
  have G:Hid (rsz 9 e r d=8*dL r d):=rfl;generalize rsz 9 e r d=a0 at*;generalize dL r d=z at*;clear h8;have Z:IntKind.i64.wrap (8*z)=8*z:=by rw[QC];omega
  go_enter func235,ntmps235;go_wp2_with fail;go_region_law (go_simp;go_at_call 254;refine(x.o _).mono ?_;rintro o Y ⟨rfl,k⟩;obtain⟨hB,g,hR⟩:=vC (((bW _ _).drew).trans (by simpa using k));have l:Hid _:=hB;obtain⟨⟨p,s,t⟩,H,K,L⟩:=c3S g;obtain⟨⟨T,U,X⟩,M,N,O⟩:=c3S hR;clear k hB g hR y c1 c2;go_wp2_with fail);all_goals
   go_wp2_with fail;refine Qp (by simp[results,results235,go_sem,p,s,t];rfl) rfl ?_;refine⟨by rw[G.o];rfl,?_⟩
   (repeat refine Below.setCell ?_ (by simp;try omega) _)
   exact l.o
 all_goals
  cases e;all_goals
   go_enter func235,ntmps235;go_wp2_with fail;refine Qp (by simp[results,results235,go_sem];rfl) rfl ?_;exact⟨rfl,(Zw.alloc pQ _).alloc (by simp;omega) _⟩
end
open Go renaming World->Wd
open Go.IntKind renaming i64->J,u32->Zk
section
variable{W w:Wd}{B g E sz k n:Nat}
def cj.st{i:Type}{F:Rc i}{rs:List i}(h:cj F w B E sz g k rs)(d:∀b,B<=b->b<w.heap.size->W.heap[b]?=w.heap[b]?):cj F W B E sz g k rs:=by
 have f:=h.lt;refine⟨oK h.own (d g f.1 f.2),fun p r=>?_⟩;obtain⟨j,a,l,c⟩:=h.dat p r;have e:=d _ a c;refine⟨j.other e,a,l,?_⟩;rw[zf c]at e;exact av e
def n6{T:TypeId}{cap:Nat}{xs:List Value}(h:W.ownsRow B T sz (sL (be g) n cap) n xs):ay W g (cap*sz):=by
 rcases h.2 with⟨e,_⟩|⟨c,c1,cur,b,d,a,f,i,j,p⟩
 .cases e
 cases b;refine fun t l=>⟨?_,QF h t⟩
 have:t<cur.size:=om;exact⟨cur[t],by simp[World.cell?,a,this]⟩
def i8(B T E g n k:Nat)(bs:List R8)(W:Wd):Prop:=∃rs,cj rc8 W B E 8 g k rs/\rs.map (·.1)=bs/\rs.length=n/\g<T/\∀p∈rs,rc8.gd p<T
def vD(B T E g n k:Nat)(bs:List R5)(W:Wd):Prop:=∃rs,cj rc5 W B E 5 g k rs/\rs.map (·.1)=bs/\rs.length=n/\g<T/\∀p∈rs,rc5.gd p<T
def i8.is{T:Nat}{a:List R8}(h:i8 B T E g n k a W):aP W (be g) n k a:=by
 obtain⟨rs,b,c,d,_⟩:=h;have:=b.r8.now;rw[c,d]at this;exact this
def j8(w:Wd)(a:Option Addr)(n cap:Nat)(s:List R8)(h:aP w a n cap s)(hn:n<=1048576)(hd:∀j(h:j<s.length),s[j].l.length<=1048576):ce 105 #[sL a n cap] w fun o w'=>∃g k,o=rT (sL (be g) n k)/\(w.heap.size<=g/\g<w'.heap.size/\St w.heap.size w' (fun W=>i8 w.heap.size w'.heap.size 212 g n k s W))/\Bl w w':=by
 have HH:=hI h;have U:=hI h.len;have b4:=h.cap;have HD:=hI hd;clear h hd;go_enter func105,ntmps105;go_wp2_with fail;have a7:=cj.nil rc8 w w.heap.size 212 8 (nR _);go_loopw [3,4] (fun v t wr=>∃k g D rs,k<=n/\v=sL (be g) k D/\t=I J (k:Int)/\cj rc8 wr w.heap.size 212 8 g D rs/\rs.map (·.1)=s.take k/\Bl w wr) (fun _ t _=>n-(intOf t).toNat);case atStart=>exact⟨0,_,0,[],nZ _,rfl,rfl,a7,pQ,Zw⟩
 case round=>
  clear a7;obtain⟨k,g,D,rs,hk,rfl,rfl,ho,A,K⟩:=hrel;by_cases b6:k<n
  .have hkl:k<s.length:=by have:=U.o;omega
   obtain⟨g0,o0,rfl,hc⟩:=HH.o.cells (by intro e;rw[e]at hkl;exact Qj hkl (nN _));obtain⟨u,m,c,R⟩:=hc k hkl;have N:=hI R.dat.len;have O:=(at8.below R K).range;have a0:=hI (R.dat.below K);have a9:Hid (m<=1048576):=by show _<=_;rw[N.o];exact HD.o k hkl
   have am:Hid (∀b f:Nat,List.map (fun p:R8 × Nat × Nat=>p.1) (rs++[(s[k],b,f)])=s.take (k+1)):=fun b f=>Dm A hkl (s[k],b,f) rfl;have a2:=hI (iM A om);have a1:Hid (∀b f,rc8.enc (s[k],b,f)=[I J s[k].x,I J s[k].y,I J s[k].z,bO s[k].e,I Zk (s[k].i:Int),bO s[k].r,I J s[k].d,sL (be b) m f]):=fun b f=>by show _=_;rw[N.o];rfl
   clear hc R A;generalize s[k]=bk at*;obtain⟨x,y,z,e,i,r,d,l⟩:=bk;simp only[]at O a1 a0 N;have O:=hI O;have X:=hI ho;have S:=hI K;have Z:Hid (blk (wr.alloc (.cells [I J 0,I J 0,I J 0,bO false,I Zk 0,bO false,I J 0,sL nn 0 0].toArray 212)) wr.heap.size ([]++[I J 0,I J 0,I J 0,bO false,I Zk 0,bO false,I J 0,sL nn 0 0]++[]) 212):=blk.new wr _ 212
   clear ho K;go_wp2_with(first|(refine ZG 212 O.o underlying212 i7 ?_)|(refine Qo (P:=Tp) rfl 212 (.tmp 5) (.tmp 16) rfl wr.heap.size 0 _ rfl rfl (Z.o.there 0 8 pQ) i7 (mS _ _ _ _ _ _ _ _ _ _) ?_;generalize Q:World.setCells (wr.alloc _) wr.heap.size 0 _=G;have a3:Hid (blk G wr.heap.size ([I J x,I J y,I J z]++[bO e,I Zk (i:Int),bO r,I J d,sL u m c]++[]) 212):=(Q ▸ blk.put [] _ [] [I J x,I J y,I J z,bO e,I Zk (i:Int),bO r,I J d,sL u m c] Z.o rfl);have T:Hid (Bl wr G):=(Q ▸ sW (nR _) _ _ Zw);have ak:Hid (G.heap.size=wr.heap.size+1):=(by show _=_;rw[<- Q,sZ];simp);clear Q)|(refine Zi 53 [bO e,I Zk (i:Int),bO r,I J d,sL u m c] (blk.loadAt [I J x,I J y,I J z] [bO e,I Zk (i:Int),bO r,I J d,sL u m c] [] a3.o) underlying53 cE ?_)|(go_at_call 104;refine(cM G e i r d u m c l (a0.o.below T.o) a9.o).mono ?_;rintro o L ⟨b,f,rfl,⟨q1,q2,q3,q4⟩,Y⟩;have ad:Hid (G.heap.size+2<=b/\b<L.heap.size/\St (G.heap.size+2) L (fun W=>iB W (be b) m f l)):=⟨q4,q2,q3⟩;have a4:Hid (blk L wr.heap.size ([I J x,I J y,I J z]++[bO e,I Zk (i:Int),bO r,I J d,sL u m c]++[]) 212):=a3.o.below Y;have a8:Hid (Bl wr L):=T.o.trans (Y.mono T.o.size);clear q1 q2 q3 q4 Y)|(refine Qo (P:=Tp) rfl 53 (.tmp 20) (.tmp 19) rfl wr.heap.size 3 _ rfl rfl (a4.o.there 3 5 pQ) cE (lN _ _ _ _ _ _ _) ?_;generalize H:World.setCells L wr.heap.size 3 _=C;have ac:Hid (blk C wr.heap.size [I J x,I J y,I J z,bO e,I Zk (i:Int),bO r,I J d,sL (be b) m f] 212):=(H ▸ blk.put [I J x,I J y,I J z] [bO e,I Zk (i:Int),bO r,I J d,sL u m c] [] [bO e,I Zk (i:Int),bO r,I J d,sL (be b) m f] a4.o rfl);have M:Hid (Bl wr C):=(H ▸ sW (nR _) _ _ a8.o);have af:Hid (wr.heap.size<b/\b<C.heap.size/\iB C (be b) m f l):=(by show _/\_;have h2:=ak.o;obtain⟨h3,h4,h5⟩:=ad.o;refine⟨om,by rw[<- H,sZ];exact h4,?_⟩;rw[<- H];exact(h5.setCells _ _ om _).now);clear H)|(refine Zi 212 [I J x,I J y,I J z,bO e,I Zk (i:Int),bO r,I J d,sL (be b) m f] ac.o.load underlying212 i7 ?_)|(at_builtin;refine wg (w:=C.alloc (.cells #[I J x,I J y,I J z,bO e,I Zk (i:Int),bO r,I J d,sL (be b) m f] 212)) rfl (.tmp 21) (.tmp 23) 48 212 _ 8 72 info212 underlying48 rfl (by decide) (by decide) rfl w.heap.size g k D (rs.flatMap rc8.enc) rfl (by have:=((X.o.below M.o).alloc (.cells #[I J x,I J y,I J z,bO e,I Zk (i:Int),bO r,I J d,sL (be b) m f] 212)).own;rw[a2.o]at this;exact this) C.heap.size [I J x,I J y,I J z,bO e,I Zk (i:Int),bO r,I J d,sL (be b) m f] rfl rfl (blk.new C _ 212) (zG _ _ _ _ _ _ _ _ _ _) om (by have:=S.o.size;have:=M.o.size;simp;omega) ?_;intro g' k' w6 b2 a5 ap b3))
   go_roundw;case rel=>
    obtain⟨h1,h2,h3⟩:=af.o;have ao:=(X.o.below M.o).alloc (.cells #[I J x,I J y,I J z,bO e,I Zk (i:Int),bO r,I J d,sL (be b) m f] 212);have b5:=X.o.lt;have b1:=N.o;refine⟨k+1,g',k',rs++[(⟨x,y,z,e,i,r,d,l⟩,b,f)],om,rfl,by go_num,?_,am.o b f,?_⟩
    .refine ao.snoc (⟨x,y,z,e,i,r,d,l⟩,b,f) ?_ ?_ ?_ ?_ ?_ a5 ap
     .show iB _ (be b) l.length f l;rw[<- b1];exact h3.below Zw
     .show w.heap.size<=b;omega
     .show b≠g;omega
     .show b<_;simp;omega
     .rw[a1.o,a2.o];exact b2
    .have hbb:=S.o.trans (M.o.mono S.o.size);refine(hbb.alloc hbb.size _).grown a5 (by have:=hbb.size;simp;omega) ?_;intro k0 aw;have:k0=g:=by simpa using aw.symm
     omega
   case measure=>simp[intOf];omega
  .have hkn:k=n:=om;subst hkn;have a6:=iM A (by have:=U.o;omega);rw[QY (by have:=U.o;omega)]at A;have HQ:Hid (w.heap.size<=g/\g<wr.heap.size/\St w.heap.size wr (fun W=>i8 w.heap.size wr.heap.size 212 g k D s W)):=by
    refine⟨ho.lt.1,ho.lt.2,fun W hW=>⟨rs,ho.st hW,A,a6,ho.lt.2,fun p hp=>(ho.dat p hp).2.2.2⟩⟩
   clear ho A a6;go_wp2;go_ret;exact⟨g,D,rfl,HQ.o,K⟩
def gS.new(w:Wd)(l:List Value):gS w l z10 (((w.alloc (.cells l.toArray 50)).alloc (.cells z10.toArray 50)).alloc (.cells z10.toArray 50)):=by
 refine⟨((blk.new w _ 50).alloc _).alloc _,?_,?_,(Zw.alloc pQ _).alloc (by simp;omega) _⟩
 .simpa using(blk.new (w.alloc (.cells l.toArray 50)) z10 50).alloc (.cells z10.toArray 50)
 .simpa using blk.new ((w.alloc (.cells l.toArray 50)).alloc (.cells z10.toArray 50)) z10 50
def gS.put{hv:List Value}(h:gS w hv z10 W)(p o:Nat)(H:Ho)(s:Sl):gS w hv (hoL H s) (W.setCells (w.heap.size+1+1) 0 (hoL H s)):=⟨h.p.other om _ _,h.r.other om _ _,by simpa using blk.put [] z10 [] (hoL H s) (by simpa using h.q) rfl,sW om _ _ h.b⟩
def uq(w:Wd)(H:Ho)(s:Sl)(b2:bj w H s)(hn:H.le 1048576):ce 49 #[hoV H s] w fun o w'=>∃A G R T gq kq M k4 T0 T1 T2 T3,o=rT (hoV H ⟨sQ ⟨A,0,nn⟩,s.n1,G,be R,s.n2,T,be gq,s.n3,kq,be M,s.n4,k4⟩)/\(w.heap.size+3<=A/\A<T0/\T0<=T1/\T1<=T2/\T2<=T3/\T3<=w'.heap.size)/\St (w.heap.size+3) w' (fun W=>bB W (be A) s.n1 G H.fs/\i8 T0 T1 114 R s.n2 T H.bx W/\vD T1 T2 53 gq s.n3 kq H.ff W/\i8 T2 T3 212 M s.n4 k4 H.qu W)/\St (w.heap.size+3) w' (fun W=>W.ownsRow (w.heap.size+3) 147 3 (sL (be A) s.n1 G) s.n1 (c3 H.fs))/\Bl w w':=by
 have O:=hI b2;have HN:=hI hn;have HP:Hid (blk (w.alloc (.cells (hoL H s).toArray 50)) w.heap.size (hoL H s) 50):=blk.new w _ 50;have HG:Hid (gS w (hoL H s) z10 (((w.alloc (.cells (hoL H s).toArray 50)).alloc (.cells z10.toArray 50)).alloc (.cells z10.toArray 50))):=gS.new w _;clear b2 hn;rw[gC];go_enter func49,ntmps49
 go_wp2_with(first|(refine ZG 50 (blk.alloc HP.o _).load underlying50 (fj H s) ?_)|(refine Zs 50 (hoL H s).toArray (HG.o.q.there 0 10 pQ) (nO H s) (gZ H s) ?_;generalize br:World.setCells (World.alloc _ _) (w.heap.size+1+1) 0 _=w1;have ap:Hid (gS w (hoL H s) (hoL H s) w1):=(br ▸ HG.o.put 0 0 H s);have x4:=(ap.o.q.alloc (.cells #[] 147)).cell 4 _ rfl;have f4:=(ap.o.q.alloc (.cells #[] 147)).free 4;clear br))
 have a9:=(ap.o.below ((bW _ _).alloc (nR _) (.cells #[] 147))).set 4 (sL (be w1.heap.size) 0 0);have ac:=oK (w':=(w1.alloc (.cells #[] 147)).setCell ⟨(w.heap.size+1+1),4,nn⟩ (sL (be w1.heap.size) 0 0)) (World.ownsRow_made (base:=w.heap.size+3) (size:=3) (e:=147) w1 #[] 0 ap.o.z (by decide) pQ) (by rw[Ql _ _ _ _ (by have:=ap.o.z;simp;omega)]);clear x4 f4 HP HG ap;go_loopw [4] (fun t wr=>∃k g v:Nat,k<=s.n1/\t=I J (k:Int)/\gS w (hoL H s) (hoL H {s with a1:=be g,n1:=k,k1:=v}) wr/\wr.ownsRow (w.heap.size+3) 147 3 (sL (be g) k v) k (c3 (H.fs.take k))) (fun t _=>s.n1-(intOf t).toNat);case atStart=>exact⟨0,_,0,nZ _,rfl,a9,ac⟩
 case round=>
  clear a9 ac;obtain⟨k,g,v,hk,rfl,X,ho⟩:=hrel;have y4:=X.p.cell 4 _ rfl;have h:=hI X;have u:=hI ho;clear X ho;by_cases bc:k<s.n1
  .have hkl:k<H.fs.length:=by have:=O.o.fs.len;omega
   obtain⟨g0,o0,ha,hc⟩:=O.o.fs.cells (by intro e;rw[e]at hkl;exact Qj hkl (nN _));have a7:Hid (k<=100000000):=(by have h1:=HN.o.fs;show _<=_;omega)
   have bu:=Qn w _ (hc k hkl).c0;have hR:=(hc k hkl).range;have hC:=CX H.fs k hkl;generalize H.fs[k]=f at*;obtain⟨fe,fm,fk⟩:=f;rw[ha]at y4
   have HS:Hid (∀W,hS w (hoL H s) W->W.cell? ⟨w.heap.size,4,nn⟩=sQ (sL (sQ ⟨g0,o0,nn⟩) s.n1 s.k1)/\W.cell? ⟨g0,o0+k*3,nn⟩=sQ (bO fe)/\W.cell? ⟨g0,o0+k*3+1,nn⟩=sQ (I Zk fm)/\W.cell? ⟨g0,o0+k*3+2,nn⟩=sQ (I Zk fk)):=fun W b2=>by
    have r:=cY hR b2.b bu;exact⟨by have:=b2.p.cell 4 _ rfl;rw[ha]at this;exact this,r 0 _ rfl,r 1 _ rfl,r 2 _ rfl⟩
   have HC:Hid (c3 (H.fs.take k)++[bO fe,I Zk fm,I Zk fk]=c3 (H.fs.take (k+1))):=hC;have bD:=(h.o.below (bW _ _).drew).hs;have a6:Hid (gS w (hoL H s) (hoL H {s with a1:=be g,n1:=k,k1:=v}) (wr.alloc (.cells #[bO fe,I Zk fm,I Zk fk] 147)).drew):=h.o.below Zw.drew;have bZ:=a6.o.hs;have y5:=h.o.q.cell 4 _ rfl;have y6:=(h.o.q.alloc (.cells #[bO fe,I Zk fm,I Zk fk] 147)).cell 4 _ rfl;have bt:=Qm u.o g rfl;have af:Hid ((wr.alloc (.cells #[bO fe,I Zk fm,I Zk fk] 147)).drew.ownsRow (w.heap.size+3) 147 3 (sL (be g) k v) k (c3 (H.fs.take k))):=oK u.o (by show(wr.alloc _).heap[_]?=_;exact Below.heap_alloc _ _ _ bt.2);clear hc hR hC ha bu;have bA:(k:Int)<(s.n1:Int):=om;go_wp2_with fail;clear y4;obtain⟨z4,r0,r1,r2⟩:=HS.o _ bD
   clear HS bD bZ;go_region_law
    (first|(refine gJ (.tmp 18) (.tmp 24) 45 147 _ 3 12 info147 underlying45 rfl (by decide) (by decide) (by rfl) (w.heap.size+3) g k v (c3 (H.fs.take k)) (by rfl) af.o wr.heap.size [bO fe,I Zk fm,I Zk fk] (by rfl) rfl (blk.new wr [bO fe,I Zk fm,I Zk fk] 147) (Gw _ _ _) a7.o (by have:=h.o.z;simp;omega) ?_;intro D L w6 a5 S ak b3;rw[HC.o]at a5;have N:=a6.o.grown S om;have xq:=N.q.cell 4 _ rfl;have fq:=N.q.free 4;have a8:=N.set 4 (sL (be D) (k+1) L);have ad:=oK (w':=w6.setCell ⟨(w.heap.size+1+1),4,nn⟩ (sL (be D) (k+1) L)) a5 (by rw[Ql _ _ _ _ (by show D≠_+_+_;omega)])))
   all_goals
    have Z:Hid _:=a8;have b1:Hid _:=ad;have bw:=a7.o;clear a8 ad N a5 S ak b3 xq fq bt;go_wp2_with fail;go_roundw;case rel=>exact⟨k+1,D,L,om,by go_num,Z.o,b1.o⟩
    case measure=>simp[intOf];omega
  .have hkn:k=s.n1:=om;clear hk bc;subst hkn;have am:Hid (St (w.heap.size+3) wr (fun W=>bB W (be g) s.n1 v H.fs/\W.ownsRow (w.heap.size+3) 147 3 (sL (be g) s.n1 v) s.n1 (c3 H.fs))):=by
    have hl:=O.o.fs.len;have:=u.o;rw[QY om]at this;obtain⟨D,c',e',q1,q2,q3,q4,q5⟩:=CY hl this (by intro e;cases e);cases e';exact fun W Q=>⟨q5 W Q,oK this (Q g q1 q2)⟩
   have bq:=hI (Qm u.o g rfl);have U:=hI h.o.z;clear u;rename Wd=>wa
   obtain⟨A,rfl⟩:∃x,x=g:=⟨_,rfl⟩
   obtain⟨G,rfl⟩:∃x,x=v:=⟨_,rfl⟩
   have xL:=(h.o.q.alloc (.cells #[] 114)).cell 5 _ rfl;have fL:=(h.o.q.alloc (.cells #[] 114)).free 5;go_wp2_with fail;clear xL fL y4;have a9:=(h.o.below ((bW _ _).alloc (nR _) (.cells #[] 114))).set 5 (sL (be wa.heap.size) 0 0);have ac:=(cj.nil rc8 wa wa.heap.size 114 8 (nR _)).set (w.heap.size+1+1) 5 (by have:=U.o;omega) [sL (be wa.heap.size) 0 0];have b7:=((Kp.refl (w.heap.size+3) wa).below ((bW _ _).alloc (nR _) (.cells #[] 114))).set (w.heap.size+1+1) 5 om (sL (be wa.heap.size) 0 0);clear h;go_loopw [5] (fun t wr=>∃(k g v:Nat)(rs:List (R8 × Nat × Nat)),k<=s.n2/\t=I J (k:Int)/\gS w (hoL H s) (hoL H {s with a1:=be A,k1:=G,a2:=be g,n2:=k,k2:=v}) wr/\cj rc8 wr wa.heap.size 114 8 g v rs/\rs.map (·.1)=H.bx.take k/\Kp (w.heap.size+3) wa wr) (fun t _=>s.n2-(intOf t).toNat);case atStart=>exact⟨0,_,0,[],nZ _,rfl,a9,ac,pQ,b7⟩
   case round=>
    clear a9 ac b7;obtain⟨k,g,v,rs,hk,rfl,X,ho,K,b9⟩:=hrel;have yL:=X.p.cell 5 _ rfl;have h:=hI X;have u:=hI ho;have a0:=hI b9;clear X ho b9;by_cases bc:k<s.n2
    .have hkl:k<H.bx.length:=by have:=O.o.bx.len;omega
     obtain⟨g0,o0,ha,hc⟩:=(O.o.below h.o.b).bx.cells (by intro e;rw[e]at hkl;exact Qj hkl (nN _));obtain⟨ao,m,c,bn⟩:=hc k hkl;have a7:Hid (k<=100000000):=(by have h1:=HN.o.bx;show _<=_;omega)
     have b4:=HN.o.bd k hkl;have bm:Hid (∀a j:Nat,List.map (fun p:R8 × Nat × Nat=>p.1) (rs++[(H.bx[k],a,j)])=H.bx.take (k+1)):=fun a j=>Dm K hkl (H.bx[k],a,j) rfl;have aw:=hI (iM K om);clear hc K;generalize H.bx[k]=bk at*;obtain⟨x,y,z,e,i,r,d,l⟩:=bk;obtain⟨r0,r1,r2,r3,r4,r5,r6,r7,hD⟩:=bn;have hM:=hD.len;dsimp only at r0 r1 r2 r3 r4 r5 r6 r7 hD hM b4;have HM:Hid (m=l.length/\m<=1048576):=⟨hM,om⟩
     rw[ha]at yL;have bf:=hI (hD.below (bW _ _).drew);have y5:=h.o.q.cell 5 _ rfl;clear hD hM b4 ha;have bA:(k:Int)<(s.n2:Int):=om
     go_wp2_with fail;go_region_law
      (first|(refine gJ (.tmp 37) (.tmp 44) 46 114 _ 8 72 info114 underlying46 rfl (by decide) (by decide) (by rfl) wa.heap.size g k v (rs.flatMap rc8.enc) (by rfl) (by have:=af.o.own;rw[aw.o]at this;exact this) wc.heap.size [I J x,I J y,I J z,bO e,I Zk (i:Int),bO r,I J d,sL (be a) m j] (by rfl) rfl (blk.new wc [I J x,I J y,I J z,bO e,I Zk (i:Int),bO r,I J d,sL (be a) m j] 114) (zG _ _ _ _ _ _ _ _ _ _ ) a7.o (by have:=u.o.lt;have:=C.o.size;simp;omega) ?_;intro D L w6 a5 S ak b3;have N:=a6.o.grown S (by have:=U.o;have:=u.o.lt;omega);have xq:=N.q.cell 5 _ rfl;have fq:=N.q.free 5;have a8:gS w (hoL H s) (hoL H {s with a1:=be A,k1:=G,a2:=be D,n2:=k+1,k2:=L}) _:=N.set 5 (sL (be D) (k+1) L);have ad:=(af.o.snoc ((⟨x,y,z,e,i,r,d,l⟩),a,j) (by show iB _ (be a) l.length j l;rw[<- HM.o.1];exact HQ.o.2.2.below Zw) (by show wa.heap.size<=a;have:=HQ.o.1;have:=u.o.lt;omega) (by show a≠g;have:=HQ.o.1;have:=u.o.lt;omega) (by show a<_;have:=HQ.o.2.1;simp;omega) (by rw[aw.o];have e0:rc8.enc ((⟨x,y,z,e,i,r,d,l⟩),a,j)=[I J x,I J y,I J z,bO e,I Zk (i:Int),bO r,I J d,sL (be a) m j]:=(by rw[HM.o.1];rfl);rw[e0];exact a5) S ak).set (w.heap.size+1+1) 5 (by have:=U.o;omega) [sL (be D) (k+1) L];have b8:=((a0.o.below (C.o.alloc C.o.size _)).grown S (by have:=u.o.lt;omega)).set (w.heap.size+1+1) 5 om (sL (be D) (k+1) L))|(go_simp;go_at_call 103;refine(m6 wr.drew x y z e i r d ao m c l bf.o HM.o.2).mono ?_;rintro o wc ⟨a,j,rfl,⟨q1,q2,q3,q4⟩,b6⟩;have C:Hid (Bl wr wc):=(bW _ _).drew.trans b6;have HQ:Hid (wr.heap.size<=a/\a<wc.heap.size/\iB wc (be a) m j l):=⟨q1,q2,q3.now⟩;have a6:Hid (gS w (hoL H s) (hoL H {s with a1:=be A,k1:=G,a2:=be g,n2:=k,k2:=v}) (wc.alloc (.cells #[I J x,I J y,I J z,bO e,I Zk (i:Int),bO r,I J d,sL (be a) m j] 114))):=h.o.below (C.o.alloc C.o.size _);have af:Hid (cj rc8 (wc.alloc (.cells #[I J x,I J y,I J z,bO e,I Zk (i:Int),bO r,I J d,sL (be a) m j] 114)) wa.heap.size 114 8 g v rs):=u.o.below (C.o.alloc C.o.size _);have y6:=(h.o.below C.o).q.cell 5 _ rfl;have y7:=a6.o.q.cell 5 _ rfl;clear q1 q2 q3 q4 b6;go_wp2_with fail))
     all_goals
      have Z:Hid _:=a8;have b1:Hid _:=ad;have bi:Hid _:=b8;have bw:=a7.o;clear a8 ad b8 N a5 S ak b3 xq fq;go_wp2_with fail;go_roundw;case rel=>exact⟨k+1,D,L,_,om,by go_num,Z.o,b1.o,bm.o a j,bi.o⟩
      case measure=>simp[intOf];omega
    .have hkn:k=s.n2:=om;clear hk bc;subst hkn;have bb:=iM K (by have:=O.o.bx.len;omega);rw[QY (by have:=O.o.bx.len;omega)]at K;have bg:Hid (St (w.heap.size+3) wr (fun W=>i8 wa.heap.size wr.heap.size 114 g s.n2 v H.bx W)):=fun W Q=>⟨rs,u.o.st (fun x h1 h2=>Q x (nT U.o h1) h2),K,bb,u.o.lt.2,fun p hp=>(u.o.dat p hp).2.2.2⟩
     have bR:=hI a0.o.size;replace am:Hid _:=St.kp am.o a0.o
     replace U:Hid (w.heap.size+3<=wr.heap.size):=h.o.z
     clear u a0 K bb;rename Wd=>wb
     obtain⟨R,rfl⟩:∃x,x=g:=⟨_,rfl⟩
     obtain⟨T,rfl⟩:∃x,x=v:=⟨_,rfl⟩
     have xL:=(h.o.q.alloc (.cells #[] 53)).cell 6 _ rfl;have fL:=(h.o.q.alloc (.cells #[] 53)).free 6;go_wp2_with fail;clear xL fL yL;have a9:=(h.o.below ((bW _ _).alloc (nR _) (.cells #[] 53))).set 6 (sL (be wb.heap.size) 0 0);have ac:=(cj.nil rc5 wb wb.heap.size 53 5 (nR _)).set (w.heap.size+1+1) 6 (by have:=U.o;omega) [sL (be wb.heap.size) 0 0];have b7:=((Kp.refl (w.heap.size+3) wb).below ((bW _ _).alloc (nR _) (.cells #[] 53))).set (w.heap.size+1+1) 6 om (sL (be wb.heap.size) 0 0);clear h;go_loopw [6] (fun t wr=>∃(k g v:Nat)(rs:List (R5 × Nat × Nat)),k<=s.n3/\t=I J (k:Int)/\gS w (hoL H s) (hoL H {s with a1:=be A,k1:=G,a2:=be R,k2:=T,a3:=be g,n3:=k,k3:=v}) wr/\cj rc5 wr wb.heap.size 53 5 g v rs/\rs.map (·.1)=H.ff.take k/\Kp (w.heap.size+3) wb wr) (fun t _=>s.n3-(intOf t).toNat);case atStart=>exact⟨0,_,0,[],nZ _,rfl,a9,ac,pQ,b7⟩
     case round=>
      clear a9 ac b7;obtain⟨k,g,v,rs,hk,rfl,X,ho,K,b9⟩:=hrel;have yL:=X.p.cell 6 _ rfl;have h:=hI X;have u:=hI ho;have a0:=hI b9;clear X ho b9;by_cases bc:k<s.n3
      .have hkl:k<H.ff.length:=by have:=O.o.ff.len;omega
       obtain⟨g0,o0,ha,hc⟩:=(O.o.below h.o.b).ff.cells (by intro e;rw[e]at hkl;exact Qj hkl (nN _));obtain⟨ao,m,c,bn⟩:=hc k hkl;have a7:Hid (k<=100000000):=(by have h1:=HN.o.ff;show _<=_;omega)
       have b4:=HN.o.fd k hkl;have bm:Hid (∀a j:Nat,List.map (fun p:R5 × Nat × Nat=>p.1) (rs++[(H.ff[k],a,j)])=H.ff.take (k+1)):=fun a j=>Ga K hkl (H.ff[k],a,j) rfl;have aw:=hI (nM K om);clear hc K;generalize H.ff[k]=bk at*;obtain⟨e,i,r,d,l⟩:=bk;obtain⟨r0,r1,r2,r3,r4,hD⟩:=bn;have hM:=hD.len;dsimp only at r0 r1 r2 r3 r4 hD hM b4;have HM:Hid (m=l.length/\m<=1048576):=⟨hM,om⟩
       rw[ha]at yL;have bf:=hI (hD.below (bW _ _).drew);have y5:=h.o.q.cell 6 _ rfl;clear hD hM b4 ha;have bA:(k:Int)<(s.n3:Int):=om
       go_wp2_with fail;go_region_law
        (first|(refine gJ (.tmp 57) (.tmp 64) 47 53 _ 5 48 info53 underlying47 rfl (by decide) (by decide) (by rfl) wb.heap.size g k v (rs.flatMap rc5.enc) (by rfl) (by have:=af.o.own;rw[aw.o]at this;exact this) wc.heap.size [bO e,I Zk (i:Int),bO r,I J d,sL (be a) m j] (by rfl) rfl (blk.new wc [bO e,I Zk (i:Int),bO r,I J d,sL (be a) m j] 53) (Gu _ _ _ _ _ _ _ ) a7.o (by have:=u.o.lt;have:=C.o.size;simp;omega) ?_;intro D L w6 a5 S ak b3;have N:=a6.o.grown S (by have:=U.o;have:=u.o.lt;omega);have xq:=N.q.cell 6 _ rfl;have fq:=N.q.free 6;have a8:gS w (hoL H s) (hoL H {s with a1:=be A,k1:=G,a2:=be R,k2:=T,a3:=be D,n3:=k+1,k3:=L}) _:=N.set 6 (sL (be D) (k+1) L);have ad:=(af.o.snoc ((⟨e,i,r,d,l⟩),a,j) (by show iB _ (be a) l.length j l;rw[<- HM.o.1];exact HQ.o.2.2.below Zw) (by show wb.heap.size<=a;have:=HQ.o.1;have:=u.o.lt;omega) (by show a≠g;have:=HQ.o.1;have:=u.o.lt;omega) (by show a<_;have:=HQ.o.2.1;simp;omega) (by rw[aw.o];have e0:rc5.enc ((⟨e,i,r,d,l⟩),a,j)=[bO e,I Zk (i:Int),bO r,I J d,sL (be a) m j]:=(by rw[HM.o.1];rfl);rw[e0];exact a5) S ak).set (w.heap.size+1+1) 6 (by have:=U.o;omega) [sL (be D) (k+1) L];have b8:=((a0.o.below (C.o.alloc C.o.size _)).grown S (by have:=u.o.lt;omega)).set (w.heap.size+1+1) 6 om (sL (be D) (k+1) L))|(go_simp;go_at_call 104;refine(cM wr.drew e i r d ao m c l bf.o HM.o.2).mono ?_;rintro o wc ⟨a,j,rfl,⟨q1,q2,q3,q4⟩,b6⟩;have C:Hid (Bl wr wc):=(bW _ _).drew.trans b6;have HQ:Hid (wr.heap.size<=a/\a<wc.heap.size/\iB wc (be a) m j l):=⟨q1,q2,q3.now⟩;have a6:Hid (gS w (hoL H s) (hoL H {s with a1:=be A,k1:=G,a2:=be R,k2:=T,a3:=be g,n3:=k,k3:=v}) (wc.alloc (.cells #[bO e,I Zk (i:Int),bO r,I J d,sL (be a) m j] 53))):=h.o.below (C.o.alloc C.o.size _);have af:Hid (cj rc5 (wc.alloc (.cells #[bO e,I Zk (i:Int),bO r,I J d,sL (be a) m j] 53)) wb.heap.size 53 5 g v rs):=u.o.below (C.o.alloc C.o.size _);have y6:=(h.o.below C.o).q.cell 6 _ rfl;have y7:=a6.o.q.cell 6 _ rfl;clear q1 q2 q3 q4 b6;go_wp2_with fail))
       all_goals
        have Z:Hid _:=a8;have b1:Hid _:=ad;have bi:Hid _:=b8;have bw:=a7.o;clear a8 ad b8 N a5 S ak b3 xq fq;go_wp2_with fail;go_roundw;case rel=>exact⟨k+1,D,L,_,om,by go_num,Z.o,b1.o,bm.o a j,bi.o⟩
        case measure=>simp[intOf];omega
      .have hkn:k=s.n3:=om;clear hk bc;subst hkn;have bb:=nM K (by have:=O.o.ff.len;omega);rw[QY (by have:=O.o.ff.len;omega)]at K;have bE:Hid (St (w.heap.size+3) wr (fun W=>vD wb.heap.size wr.heap.size 53 g s.n3 v H.ff W)):=fun W Q=>⟨rs,u.o.st (fun x h1 h2=>Q x (nT U.o h1) h2),K,bb,u.o.lt.2,fun p hp=>(u.o.dat p hp).2.2.2⟩
       have bX:=hI a0.o.size;replace am:Hid _:=St.kp am.o a0.o
       replace bg:Hid _:=St.kp bg.o a0.o
       replace U:Hid (w.heap.size+3<=wr.heap.size):=h.o.z
       clear u a0 K bb;rename Wd=>wq
       obtain⟨gq,rfl⟩:∃x,x=g:=⟨_,rfl⟩
       obtain⟨kq,rfl⟩:∃x,x=v:=⟨_,rfl⟩
       have y7:=h.o.p.cell 7 _ rfl;have bI:Hid (s.n4<=1048576):=by
        have h1:=O.o.qu.len;have h2:=HN.o.qu;show _<=_;omega
       go_wp2_with(first|(go_at_call 105;refine(j8 wq s.a4 s.n4 s.k4 H.qu (O.o.qu.below h.o.b) bI.o HN.o.qd).mono ?_;rintro o w7 ⟨M,Y,rfl,⟨q1,q2,q3⟩,b5⟩;have Z:Hid (gS w (hoL H s) (hoL H {s with a1:=be A,k1:=G,a2:=be R,k2:=T,a3:=be gq,k3:=kq,a4:=be M,k4:=Y}) (w7.setCell ⟨(w.heap.size+1+1),7,nn⟩ (sL (be M) s.n4 Y))):=(h.o.below b5).set 7 (sL (be M) s.n4 Y);have bo:Hid (Bl wq w7):=b5;have bL:Hid (St (w.heap.size+3) w7 (fun W=>i8 wq.heap.size w7.heap.size 212 M s.n4 Y H.qu W)):=q3.mono U.o;have x7:=(h.o.below b5).q.cell 7 _ rfl;have f7:=(h.o.below b5).q.free 7;clear q1 q2 q3 b5)|(refine ZG 50 Z.o.q.load underlying50 (fj _ _) ?_)|(refine Zs 50 (hoL H {s with a1:=be A,k1:=G,a2:=be R,k2:=T,a3:=be gq,k3:=kq,a4:=be M,k4:=Y}).toArray (Z.o.r.there 0 10 pQ) (nO _ _) (gZ _ _) ?_;generalize bs:World.setCells (World.setCell _ _ _) (w.heap.size+1) 0 _=w8;have bY:Hid (World.setCells (w7.setCell ⟨(w.heap.size+1+1),7,nn⟩ (sL (be M) s.n4 Y)) (w.heap.size+1) 0 (hoL H {s with a1:=be A,k1:=G,a2:=be R,k2:=T,a3:=be gq,k3:=kq,a4:=be M,k4:=Y})=w8):=bs;clear bs))
       have e8:=bY.o;have hF:blk w8 (w.heap.size+1) (hoL H {s with a1:=be A,k1:=G,a2:=be R,k2:=T,a3:=be gq,k3:=kq,a4:=be M,k4:=Y}) 50:=e8 ▸ (by simpa using blk.put [] z10 [] (hoL H {s with a1:=be A,k1:=G,a2:=be R,k2:=T,a3:=be gq,k3:=kq,a4:=be M,k4:=Y}) (by simpa using Z.o.r) rfl);refine bC results49 (Qt (P:=Tp) w8 (w.heap.size+1) 0 50 _ _ hF.load underlying50 rfl (fj _ _)) ?_;have k8:Kp (w.heap.size+3) w7 w8:=by
        rw[<- e8];have h1:=(Kp.refl (w.heap.size+3) w7).set (w.heap.size+1+1) 7 om (sL (be M) s.n4 Y);exact⟨fun b h2 h3=>(sO _ _ om _ _ _).trans (h1.same b h2 h3),by rw[sZ];exact h1.size⟩
       have k7:=(Kp.refl (w.heap.size+3) wq).below bo.o;refine⟨A,G,R,T,gq,kq,M,Y,wa.heap.size,wb.heap.size,wq.heap.size,w7.heap.size,rfl,⟨bq.o.1,bq.o.2,bR.o,bX.o,bo.o.size,k8.size⟩,fun W Q=>⟨(St.kp (St.kp am.o k7) k8 W Q).1,St.kp (St.kp bg.o k7) k8 W Q,St.kp (St.kp bE.o k7) k8 W Q,St.kp bL.o k8 W Q⟩,fun W Q=>(St.kp (St.kp am.o k7) k8 W Q).2,?_⟩;rw[<- e8];exact sW om _ _ Z.o.b
end
end Go.Proofs.YtbbffcolnddcdaaGreatDoor
