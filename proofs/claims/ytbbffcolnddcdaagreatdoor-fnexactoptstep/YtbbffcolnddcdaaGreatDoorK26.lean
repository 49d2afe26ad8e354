import Derived.Test.YtbbffcolnddcdaaGreatDoorK24
import Derived.Maps.OwnSet
import Derived.Deep.RegionHeld3
namespace Go.Proofs.YtbbffcolnddcdaaGreatDoor
open Option renaming none->nn,some->sQ
open Go.RowKit
set_option linter.all false
open Go.Value renaming int->I,slice->sL,bool->bO,pointer->pT,agg->aG
open Go.IntKind renaming i64->J
open Go.Ending renaming returned->rT
open Go.Proofs.Tryz renaming prog->Tp
section
variable{W u w0 W' b0:World}{hs:Nat->Hd}{H:Ho}{f1 f3 nm g n r3 t q room first:Nat}{D:DataW Unit}{qu bx:List R8}{e:R8}
structure Lg where
 P:Nat
 mb:Nat
 r1:Nat
 r3:Nat
 gf:Nat
 n1:Nat
 kf:Nat
 gb:Nat
 n2:Nat
 kb:Nat
 gr:Nat
 gq:Nat
 s:Nat->Value
 u:World
def iU(u:World)(q:Nat):Prop:=∀i,u.cell? ⟨q,i,nn⟩=nn
def fS(h:u.heap.size<=q):iU u q:=fun i=>by
 cases e:u.cell? ⟨q,i,nn⟩with
 |none=>rfl
 |some v=>exact Qj (Qn u _ e) (by show¬q<_;omega)
def hne{p:Nat}(hq:¬iU u q)(hp:iU u p):q≠p:=fun e=>hq (by rw[e];exact hp)
def kpt(u W:World):Prop:=u.heap.size<=W.heap.size/\∀q i x,u.cell? ⟨q,i,nn⟩=sQ x->W.heap[q]?=u.heap[q]?
def kpt.to(h:kpt u W)(hz:W.heap.size<=W'.heap.size)(he:∀q,¬iU u q->q<W.heap.size->W'.heap[q]?=W.heap[q]?):kpt u W':=⟨nT h.1 hz,fun q i x hx=>(he q (fun hh=>by rw[hh i]at hx;cases hx) (nL (Qn u _ hx) h.1)).trans (h.2 q i x hx)⟩
def kpt.of(h:Bl u W):kpt u W:=⟨h.size,fun q i x hx=>h.block q (Qn u _ hx)⟩
def iB.kpt{a:Option Addr}{cap:Nat}{l:List Nat}(h:iB u a n cap l)(k:kpt u W):iB W a n cap l:=by
 refine⟨h.len,h.cap,h.small,fun i=>?_⟩;obtain⟨g,off,c,d⟩:=h.cells i;refine⟨g,off,c,fun j f=>?_⟩;have h1:=d j f;have b:=k.2 g (off+j) _ h1;rw[<- h1];simp only[World.cell?,b]
def dq.kpt{L:List R5}(h:dq u W g room first L)(k:kpt u W):dq W W g room first L:=fun i hi=>by
 obtain⟨ao,m,c,h1,h2⟩:=h i hi;exact⟨ao,m,c,h1,h2.kpt k⟩
def eI.kpt{L:List R8}(h:eI u W g room first L)(k:kpt u W):eI W W g room first L:=fun i hi=>by
 obtain⟨ao,m,c,h1,h2⟩:=h i hi;exact⟨ao,m,c,h1,h2.kpt k⟩
abbrev lhL(G:Lg)(H:Ho)(f1 f3:Nat):List Value:=liL H.c0 G.r1 H.c2 G.r3 G.gf G.n1 G.kf G.gb G.n2 G.kb G.mb G.gr f1 H.ff.length G.gq f3 H.qu.length H.lo H.st
structure lhB(G:Lg)(H:Ho)(f1 f3:Nat):Prop where
 e1:H.c1=(G.r1:Int)
 e3:H.c3=(G.r3:Int)
 m1:G.n1<=1000
 m2:G.n2<=8
 nk:G.n2<=G.kb
 b1:f1<G.r1/\G.r1<=1000/\H.ff.length<=G.r1
 b3:f3<G.r3/\G.r3<=1000/\H.qu.length<=G.r3
 lo:0<=H.lo/\H.lo<=100000
 s3:∀j(h:j<H.ff.length),H.ff[j].l.length<=1048576
 s4:∀j(h:j<H.qu.length),H.qu[j].l.length<=1048576
structure lhD(w0:World)(G:Lg):Prop where
 p:G.gf≠G.P/\G.gb≠G.P/\G.gr≠G.P/\G.gq≠G.P/\G.mb≠G.P
 m:G.gf≠G.mb/\G.gb≠G.mb/\G.gr≠G.mb/\G.gq≠G.mb
 g:G.gf<G.gb/\G.gb<G.gr/\G.gr<G.gq
 lo:w0.heap.size<=G.gf/\w0.heap.size<=G.P/\w0.heap.size<=G.mb
 u:iU G.u G.P/\iU G.u G.mb/\iU G.u G.gb/\iU G.u G.gr/\iU G.u G.gq
 wu:∀a n c l,iB w0 a n c l->iB G.u a n c l
structure lh(w0:World)(G:Lg)(H:Ho)(f1 f3:Nat)(hs:Nat->Hd)(nm:Nat)(D:DataW Unit)(W:World):Prop where
 p:blk W G.P (lhL G H f1 f3) 232
 f:bB W (be G.gf) G.n1 G.kf H.fs
 x:dr8 w0 0 G.gb G.n2 H.bx hs 0 W
 r:dq G.u W G.gr G.r1 f1 H.ff
 rz:bU W G.gr (G.r1*5)
 q:eI G.u W G.gq G.r3 f3 H.qu
 qz:bU W G.gq (G.r3*8)
 m:W.ownsMap (H:=Unit) Tp 3 (plainElem Tp 3) G.mb nm D
 b:Bl w0 W
 hi:G.gf<W.heap.size/\G.gr<W.heap.size/\G.gq<W.heap.size
 d:lhD w0 G
 bd:lhB G H f1 f3
 k:kpt G.u W
def lh.below{G:Lg}(h:lh w0 G H f1 f3 hs nm D W)(hb:Bl W W'):lh w0 G H f1 f3 hs nm D W':=
 ⟨h.p.below hb,h.f.below hb,h.x.below hb,h.r.keep (hb.block _ h.hi.2.1),h.rz.below hb h.hi.2.1,h.q.keep (hb.block _ h.hi.2.2),h.qz.below hb h.hi.2.2,h.m.kept (row:=nn) ⟨hb.os,hb.tape,hb.output,hb.size,fun k hk _=>hb.block k hk⟩ pQ,h.b.trans (hb.mono h.b.size),⟨nL h.hi.1 hb.size,nL h.hi.2.1 hb.size,nL h.hi.2.2 hb.size⟩,h.d,h.bd,h.k.to hb.size fun q _ hq=>hb.block q hq⟩
def lh.told{G:Lg}(h:lh w0 G H f1 f3 hs nm D W):ce 199 #[ap G.P] W (rB W H):=by
 obtain⟨c,c1,c2,c3,d,bx,ff,qu,lo,st⟩:=H;have a:=h.bd.e1;have b:=h.bd.e3;simp only[]at a b;subst a b;have i:=h.bd.m2;exact yx W G.P G.mb c c2 G.r1 G.r3 d bx ff qu lo st G.gf G.n1 G.kf G.gb G.n2 G.kb G.gr f1 ff.length G.gq f3 qu.length h.p h.f (h.x.is h.bd.nk) (h.r.kpt h.k) (h.q.kpt h.k) rfl rfl h.bd.m1 om h.bd.b1 h.bd.b3 h.x.sm h.bd.s3 h.bd.s4
def lh.box{G:Lg}{b:Nat->Hd}(h:lh w0 G H f1 f3 hs nm D W)(c:dr8 w0 0 G.gb G.n2 bx b 0 W')(a:∀q,q≠G.gb->W'.heap[q]?=W.heap[q]?)(i:W'.heap.size=W.heap.size):lh w0 G {H with bx:=bx} f1 f3 b nm D W':=by
 have A:=h.d.p;have y:=h.d.m;have x:=h.d.g;refine⟨h.p.kept (a _ om),h.f.same (a _ om),c,h.r.keep (a _ om),h.rz.up (a _ om),h.q.keep (a _ om),h.qz.up (a _ om),?_,c.bel,by rw[i];exact h.hi,h.d,⟨h.bd.e1,h.bd.e3,h.bd.m1,h.bd.m2,h.bd.nk,h.bd.b1,h.bd.b3,h.bd.lo,h.bd.s3,h.bd.s4⟩,h.k.to (Nat.le_of_eq i.symm) fun q s _=>a q (hne s h.d.u.2.2.1)⟩;obtain⟨l,j,v,w⟩:=h.m;exact⟨l,j,(a _ om).trans v,w⟩
def dr8.put(h:dr8 b0 0 g n bx hs 0 W)(i:Nat)(hi:i<bx.length)(b:R8)(hd:Hd)(f:iB b0 hd.1 hd.2.1 hd.2.2 b.l)(p:b.l.length<=1048576):dr8 b0 0 g n (bx.set i b) (fun j=>if j=i then hd else hs j) 0 (aO W g (i*8) (x8 (b,hd))):=by
 change drF f8 R8.l 8 b0 0 g n (bx.set i b) _ 0 (aO W g (i*8) (f8 b hd.1 hd.2.1 hd.2.2));have r:=h.len;have s:=h.lo;refine⟨by rw[qE];exact h.len,h.row.setRow _ _ _ _,fun j a=>?_,fun j a _=>?_,fun j a k=>Qj k (nN _),fun i j _ a=>Qj a (nN _),h.lo,?_,?_,fun j a=>?_⟩
 .have hj':j<bx.length:=by simpa using a
  by_cases e:j=i
  .subst e;rw[ze,QW rfl];intro t u c;have d:=(List.getElem?_eq_some_iff.mp c).1;have v:t<8:=by simpa[f8]using d
   rw[az g _ _ _ t d ((h.row (j*8+t) om).1)];rw[Q4 d]at c;exact c
  .rw[zh (fun x=>e x.symm),QV e];intro t u c;have d:t<8:=by have:=(List.getElem?_eq_some_iff.mp c).1;simpa[f8]using this
   rw[rO g _ _ _ _ (by simp[f8];omega)];exact h.rng j hj' t u c
 .have hj':j<bx.length:=by simpa using a
  by_cases e:j=i
  .subst e;rw[ze,QW rfl];exact f
  .rw[zh (fun x=>e x.symm),QV e];exact h.old j hj' (nZ _)
 .rw[<- aT,sZ];exact h.hi
 .rw[<- aT];exact sW h.lo _ _ h.bel
 .have hj':j<bx.length:=by simpa using a
  by_cases e:j=i
  .subst e;rw[ze];exact p
  .rw[zh (fun x=>e x.symm)];exact h.sm j hj'
def dr8.setX(h:dr8 b0 0 g n bx hs 0 W)(i:Nat)(hi:i<bx.length)(v:Int):dr8 b0 0 g n (bx.set i {bx[i]with x:=v}) hs 0 (W.setCell ⟨g,i*8,nn⟩ (I J v)):=by
 have y:=h.len;have d:∀j(a:j<(bx.set i {bx[i]with x:=v}).length)(b:j<bx.length),(bx.set i {bx[i]with x:=v})[j].l=bx[j].l:=by
  intro j a b;by_cases e:j=i
  .subst e;rw[ze]
  .rw[zh (fun x=>e x.symm)]
 refine⟨by rw[qE];exact h.len,h.row.setCell _ _,fun j a=>?_,fun j a _=>?_,fun j a s=>Qj s (nN _),fun i j _ a=>Qj a (nN _),h.lo,?_,h.bel.setCell (by exact h.lo) _,fun j a=>?_⟩
 .have b:j<bx.length:=by simpa using a
  have p:∀t,j*8+t≠i*8->(W.setCell ⟨g,i*8,nn⟩ (I J v)).cell? ⟨g,j*8+t,nn⟩=W.cell? ⟨g,j*8+t,nn⟩:=fun t k=>Qr _ _ _ _ (by intro e;simp at e<;>omega);intro t u c;have k:t<8:=by have:=(List.getElem?_eq_some_iff.mp c).1;simpa[f8]using this
  by_cases e:j=i
  .subst e;rw[ze]at c;by_cases f:t=0
   .subst f;have r:u=I J v:=by simpa[f8]using c.symm
    subst r;obtain⟨⟨w0,w⟩,_⟩:=h.row (j*8) om;exact QD _ _ _ w
   .rw[p t om];refine h.rng j b t u ?_;rw[<- c];match t,k,f with
    |1,_,_|2,_,_|3,_,_|4,_,_|5,_,_|6,_,_|7,_,_=>rfl
  .rw[zh (fun x=>e x.symm)]at c;rw[p t om];exact h.rng j b t u c
 .have b:j<bx.length:=by simpa using a
  rw[d j a b];exact h.old j b (nZ _)
 .exact nL h.hi ((bW 0 W).setCell (nZ _) _).size
 .have b:j<bx.length:=by simpa using a
  rw[d j a b];exact h.sm j b
def lh.state{G:Lg}(h:lh w0 G H f1 f3 hs nm D W)(i:Nat)(hi:i<H.bx.length)(v:Int):lh w0 G (ir H i v) f1 f3 hs nm D (W.setCell ⟨G.gb,i*8,nn⟩ (I J v)):=by
 unfold ir;rw[dif_pos hi];exact h.box (h.x.setX i hi v) (fun q a=>Ql W ⟨G.gb,i*8,nn⟩ q _ a) pQ
def lh.free{G:Lg}(h:lh w0 G H f1 f3 hs nm D W)(i:Nat)(hi:i<H.bx.length):lh w0 G (dK H i) f1 f3 (fun j=>if j=i then(nn,0,0)else hs j) nm D (W.setCells G.gb (i*8) Z8):=by
 have e:W.setCells G.gb (i*8) Z8=aO W G.gb (i*8) (x8 (z8,(nn,0,0))):=aT ..;have a:=h.x.put i hi z8 (nn,0,0) (jA _) (nZ _);rw[<- e]at a;exact h.box a (fun q b=>sO _ q b _ _ _) (sZ ..)
def lh.tags{G:Lg}{v:Nat}{l:DataW Unit}(h:lh w0 G H f1 f3 hs nm D W)(c:W.grownBy W' (sQ G.mb))(y:W'.ownsMap (H:=Unit) Tp 3 (plainElem Tp 3) G.mb v l):lh w0 G H f1 f3 hs v l W':=by
 have E:=h.d.p;have C:=h.d.m;have B:=h.d.g;have a:∀q,q≠G.mb->q<W.heap.size->W'.heap[q]?=W.heap[q]?:=fun q j i=>c.block q i (by simpa using j);have s:=h.b.grown c h.b.size (fun k w=>by cases w;exact h.d.lo.2.2);have A:=c.size;exact⟨h.p.kept (a _ om h.p.lt),h.f.same (a _ om h.hi.1),h.x.at0 (a _ om h.x.hi) s,h.r.keep (a _ om h.hi.2.1),h.rz.up (a _ om h.hi.2.1),h.q.keep (a _ om h.hi.2.2),h.qz.up (a _ om h.hi.2.2),y,s,⟨by have:=h.hi;omega,by have:=h.hi;omega,by have:=h.hi;omega⟩,h.d,h.bd,h.k.to A fun q j i=>a q (hne j h.d.u.2.1) i⟩
def rW(b:t=min (r3-qu.length) 1)(a:qu.length<=r3):qu++[e].take t=quP (r3:Int) qu e:=by
 unfold quP;by_cases h:(qu.length:Int)<(r3:Int)
 .have e1:t=1:=om;rw[QW h,e1];rfl
 .have e1:t=0:=om;rw[QV h,e1];simp
def Ag{lo:Int}(b:t=min (r3-qu.length) 1)(a:qu.length<=r3)(h0:0<=lo/\lo<=100000):min (lo+(1-(t:Int))) 100000=loP (r3:Int) qu lo:=by
 unfold loP;by_cases h:(qu.length:Int)<(r3:Int)
 .have e1:t=1:=om;rw[QW h,e1];omega
 .have e1:t=0:=om;rw[QV h,e1];split<;>omega
def vE(b:t=min (r3-qu.length) 1)(a:qu.length<=r3):(quP (r3:Int) qu e).length=qu.length+t:=by
 rw[<- rW b a];by_cases h:t=0
 .subst h;simp
 .have e1:t=1:=om;subst e1;simp
def nW{c:Int}(h:∀j(h:j<qu.length),qu[j].l.length<=1048576)(b:e.l.length<=1048576):∀j(h:j<(quP c qu e).length),(quP c qu e)[j].l.length<=1048576:=by
 unfold quP;split
 .intro j hj;by_cases a:j<qu.length
  .rw[qI a];exact h j a
  .rw[List.getElem_append_right om];simpa using b
 .exact h
def lh.post{G:Lg}(h:lh w0 G H f1 f3 hs nm D W)(a:R8)(A:Option Addr)(m c:Nat)(M:iB G.u A m c a.l)(B:a.l.length<=1048576):ce 245 #[ap G.P,aG #[I J a.x,I J a.y,I J a.z,bO a.e,I .u32 (a.i:Int),bO a.r,I J a.d,sL A m c]] W fun o w'=>o=rT (.tuple #[])/\lh w0 G (pH H a) f1 f3 hs nm D w'/\(∀b,b≠G.P->b≠G.gq->b<W.heap.size->w'.heap[b]?=W.heap[b]?)/\W.heap.size<=w'.heap.size:=by
 have Q:=h.d.p;have O:=h.d.m;have N:=h.d.g;have dl:=h.d.lo;have v:=h.bd.b3;refine(zu H.c0 H.c2 G.r1 G.gf G.n1 G.kf G.gb G.n2 G.kb G.mb G.gr f1 H.ff.length H.lo H.st G.u W G.P G.gq G.r3 f3 H.qu a.x a.y a.z a.e a.i a.r a.d A m c a.l h.p om h.qz h.hi.2.2 h.q v.1 v.2.2 v.2.1 M h.bd.lo.1 h.bd.lo.2 _ rfl).mono ?_;rintro o w' ⟨rfl,j⟩;have E:Bl w0 w':=by
  refine⟨j.o.1.trans h.b.os,j.o.2.1.trans h.b.tape,j.o.2.2.trans h.b.output,nT h.b.size j.s,fun b C=>?_⟩;rw[j.k b om om (nL C h.b.size)];exact h.b.block b C
 have w:=j.k;have K:=j.s;have hi:=h.hi;refine⟨rfl,⟨?_,h.f.same (w _ om om hi.1),h.x.at0 (w _ om om h.x.hi) E,h.r.keep (w _ om om hi.2.1),h.rz.up (w _ om om hi.2.1),?_,j.z,?_,E,⟨om,om,om⟩,h.d,⟨h.bd.e1,h.bd.e3,h.bd.m1,h.bd.m2,h.bd.nk,h.bd.b1,⟨v.1,v.2.1,?_⟩,?_,h.bd.s3,?_⟩,h.k.to K fun q j B=>w q (hne j h.d.u.1) (hne j h.d.u.2.2.2.2) B⟩,w,K⟩
 .have:=j.p;rw[Ag rfl v.2.2 h.bd.lo,<- h.bd.e3]at this;have L:H.qu.length+min (G.r3-H.qu.length) 1=(pH H a).qu.length:=by
   show _=(quP H.c3 H.qu a).length;rw[h.bd.e3,vE rfl v.2.2]
  rw[L]at this;exact this
 .show eI G.u w' G.gq G.r3 f3 (quP H.c3 H.qu a);rw[h.bd.e3,<- rW rfl v.2.2];exact j.r
 .obtain⟨es,clock,q1,q2⟩:=h.m;exact⟨es,clock,(w _ om om h.m.lt).trans q1,q2⟩
 .show (quP H.c3 H.qu a).length<=_;rw[h.bd.e3,vE rfl v.2.2];omega
 .show 0<=loP H.c3 H.qu H.lo/\loP H.c3 H.qu H.lo<=100000;have:=h.bd.lo;unfold loP;split
  .exact this
  .split<;>omega
 .exact nW h.bd.s4 B
end
set_option maxHeartbeats 16000000
def BU(w:World)(H:Ho)(s:Sl)(h:bj w H s)(hs:eB s)(c:dP H)(i:H.le 1048576):ce 129 #[aG (hoL H s).toArray] w fun o w'=>∃(G:Lg)(hd:Nat->Hd),o=rT (ap G.P)/\lh w G H 0 0 hd G.n2 (eG Unit H.bx G.n2) w'/\G.n2=H.bx.length:=by
 obtain⟨O,c1,c2,c3,n,bx,ff,qu,lo,st⟩:=H;obtain⟨a1,n1,k1,a2,n2,k2,a3,n3,k3,a4,n4,k4⟩:=s;obtain⟨⟨Q,j⟩,⟨R,l⟩⟩:=hs;simp only[]at j l;subst j l;have T:=qJ c.cf;have X:=c.nf;have Y:=c.nq;have l1:=h.fs.len;have L:=h.bx.len;have M:=h.ff.len;have N:=h.qu.len;have a6:n.length<=16:=by
  have:=c.fs;unfold ig at this;simp at this;exact this.1
 have A:=i.bd;have B:=i.fd;have C:=i.qd;have U:=i.fs;simp only[]at T X Y l1 L M N U A B C;have W:=c.n2;simp only[]at W;obtain⟨e,Z⟩:∃e:Nat,c1=(e:Int):=⟨c1.toNat,om⟩
 obtain⟨g,a0⟩:∃g:Nat,c3=(g:Int):=⟨c3.toNat,om⟩
 subst Z a0;subst M N;refine(pq Unit w O c2 e g n bx ff qu lo st Q n1 k1 R 0 n2 k2 a3 ff.length k3 a4 qu.length k4 h.fs h.bx h.ff h.qu om om om om c.bx A).mono ?_;rintro o w' ⟨P,mb,S,kf,t,kb,a5,y,v,rfl,a⟩;have K:=a.x.k w' rfl a.b;have E:=a.r.k w' rfl a.b;have D:=a.q.k w' rfl a.b;exact⟨⟨P,mb,e,g,S,n1,kf,t,n2,kb,y,v,fun _=>bO false,w⟩,a5,rfl,⟨a.p,a.f.k w' rfl a.b,K.1,E.1,E.2,D.1,D.2,a.m,a.b,⟨a.f.lt,a.r.lt,a.q.lt⟩,⟨⟨a.f.n1,a.x.n1,a.r.n1,a.q.n1,a.n1⟩,⟨a.f.n2,a.x.n2,a.r.n2,a.q.n2⟩,a.d,⟨a.lo.1,a.lo.2,a.n2⟩,(by have a1:=a.d;have a2:=a.lo;have a3:=a.n2;exact⟨fS (u:=w) (q:=P) om,fS (u:=w) (q:=mb) om,fS (u:=w) (q:=t) om,fS (u:=w) (q:=y) om,fS (u:=w) (q:=v) om⟩),fun _ _ _ _ h=>h⟩,⟨rfl,rfl,by show n1<=1000;omega,by show n2<=8;omega,K.2,⟨by show 0<e;omega,by show e<=1000;omega,by show ff.length<=e;omega⟩,⟨by show 0<g;omega,by show g<=1000;omega,by show qu.length<=g;omega⟩,⟨c.l0,c.l1⟩,B,C⟩,kpt.of a.b⟩,L⟩
open Go.Proofs.Tryz
set_option maxRecDepth 20000
section
variable{w0 W W':World}{G:Lg}{f1 f3 nm M:Nat}{hs:Nat->Hd}{D:DataW Unit}{C:Co}{H:Ho}
def stZ(te re:Int):Int:=if te=256 then 2 else if 128<=te\/128<=re then 1 else 0
def wL(w:World)(te re:Int):ce 269 #[bO (te==256),I J te,I J re] w fun o w'=>o=rT (I J (stZ te re))/\w=w':=by
 have h:=rM w (if te=256 then 7 else 0) te re (te==256) (by by_cases e:te=256<;>simp[e]);have e:esZ (if te=256 then 7 else 0) te re=stZ te re:=by
  unfold esZ stZ;by_cases e:te=256<;>simp[e]
 rw[e]at h;exact h
def lh.other(h:lh w0 G H f1 f3 hs nm D W)(M:Nat)(l:M≠G.P/\M≠G.mb/\M≠G.gf/\M≠G.gb/\M≠G.gr/\M≠G.gq/\w0.heap.size<=M)(a:∀q,q≠M->W'.heap[q]?=W.heap[q]?)(g:W'.heap.size=W.heap.size)(e:Bl w0 W')(s:iU G.u M):lh w0 G H f1 f3 hs nm D W':=by
 obtain⟨a1,a2,a3,a4,b,c,w⟩:=l;refine⟨h.p.kept (a _ (Ne.symm a1)),h.f.same (a _ (Ne.symm a3)),h.x.at0 (a _ (Ne.symm a4)) e,h.r.keep (a _ (Ne.symm b)),h.rz.up (a _ (Ne.symm b)),h.q.keep (a _ (Ne.symm c)),h.qz.up (a _ (Ne.symm c)),?_,e,by rw[g];exact h.hi,h.d,h.bd,h.k.to (Nat.le_of_eq g.symm) fun q n _=>a q (hne n s)⟩;obtain⟨j,i,t,v⟩:=h.m;exact⟨j,i,(a _ (Ne.symm a2)).trans t,v⟩
def sgF(s:Nat->Value):List Value:=[s 0,s 1,s 2,s 3,s 4,s 5,s 6,s 7,s 8,s 9]
def mcS(G:Lg)(C:Co):List Value:=mcH G.P C++(sgF G.s++prL)
def lj(G:Lg)(C:Co):(mcS G C).length=46:=rfl
def zs(k:Nat):Value:=sgL.getD k (bO false)
def lh.re(h:lh w0 G H f1 f3 hs nm D W)(s:Nat->Value):lh w0 {G with s:=s} H f1 f3 hs nm D W:=⟨h.p,h.f,h.x,h.r,h.rz,h.q,h.qz,h.m,h.b,h.hi,⟨h.d.p,h.d.m,h.d.g,h.d.lo,h.d.u,h.d.wu⟩,⟨h.bd.e1,h.bd.e3,h.bd.m1,h.bd.m2,h.bd.nk,h.bd.b1,h.bd.b3,h.bd.lo,h.bd.s3,h.bd.s4⟩,h.k⟩
structure mc(w0:World)(M:Nat)(G:Lg)(C:Co)(f1 f3:Nat)(hs:Nat->Hd)(nm:Nat)(D:DataW Unit)(W:World):Prop where
 m:blk W M (mcS G C) 184
 h:lh w0 G C.ho f1 f3 hs nm D W
 o:M≠G.P/\M≠G.mb/\M≠G.gf/\M≠G.gb/\M≠G.gr/\M≠G.gq/\w0.heap.size<=M
 e:iU G.u M
def mc.below(h:mc w0 M G C f1 f3 hs nm D W)(hb:Bl W W'):mc w0 M G C f1 f3 hs nm D W':=⟨h.m.below hb,h.h.below hb,h.o,h.e⟩
def mc.set{a:Co}(h:mc w0 M G C f1 f3 hs nm D W)(k:Nat)(v:Value)(e:(mcS G C).set k v=mcS G a)(c:a.ho=C.ho):mc w0 M G a f1 f3 hs nm D (W.setCell ⟨M,k,none⟩ v):=by
 refine⟨by rw[<- e];exact h.m.set k v,?_,h.o,h.e⟩;rw[c];exact h.h.other M h.o (fun q d=>Ql W ⟨M,k,none⟩ q _ d) pQ (h.h.b.setCell (by exact h.o.2.2.2.2.2.2) _) h.e
def mc.post(h:mc w0 M G C f1 f3 hs nm D W)(k a:Int):ce 245 #[ap G.P,aG #[I J k,I J a,I J 0,bO false,I .u32 0,bO false,I J 0,sL none 0 0]] W fun o w'=>o=rT (.tuple #[])/\mc w0 M G {C with ho:=pH C.ho ⟨k,a,0,false,0,false,0,[]⟩} f1 f3 hs nm D w':=by
 refine(h.h.post ⟨k,a,0,false,0,false,0,[]⟩ none 0 0 (jA _) (nZ _)).mono ?_;rintro o w' ⟨rfl,h1,b,c⟩;exact⟨rfl,h.m.kept (b M h.o.1 h.o.2.2.2.2.2.1 h.m.lt),h1,h.o,h.e⟩
def nQ(h:mc w0 M G C f1 f3 hs nm D W):ce 248 #[ap M] W fun o w'=>o=rT (I J (stZ C.te C.re))/\mc w0 M G C f1 f3 hs nm D w'/\Bl W w':=by
 have f:Hid (∀X,ce 269 #[bO (C.te==256),I J C.te,I J C.re] X fun o w'=>o=rT (I J (stZ C.te C.re))/\X=w'):=fun X=>wL X C.te C.re;have b:Hid (mc w0 M G C f1 f3 hs nm D W):=h;clear h;go_enter func248,ntmps248;go_wp2_with fail;refine Qu (S:=fun X=>mc w0 M G C f1 f3 hs nm D X) kr ?_;have hS:mc w0 M G C f1 f3 hs nm D (World.drew W):=b.o.below (bW _ _).drew;have e:Hid (Bl W (World.drew W)):=(bW _ _).drew;clear b;change wpAnyH Tp _ _ _ _ _ _ _ (World.drew W);generalize World.drew W=i at*;refine tk 0 ?_;refine tk 1 ?_;refine tk 2 ?_;refine tk 3 ?_ (hy:=fun W a=>by(have y:=a.m.cell 1 (I J C.te) rfl;go_simp;try rfl));refine tk 4 ?_;refine tk 5 ?_;refine tk 6 ?_;refine tk 7 ?_;refine tk 8 ?_ (hy:=fun W a=>by(have y:=a.m.cell 1 (I J C.te) rfl;go_simp;try rfl));refine tk 9 ?_;refine tk 10 ?_;refine tk 11 ?_;refine tk 12 ?_ (hy:=fun W a=>by(have y:=a.m.cell 2 (I J C.re) rfl;go_simp;try rfl));refine al 13 fun g c=>?_;go_simp;refine(f.o _).mono ?_;rintro o j ⟨rfl,rfl⟩;go_wp2_with fail;refine c.out _ _ hS (fun d=>?_);clear c g hS;have hS:=d;clear d;refine tk 14 ?_;refine Qs kr ?_ _;go_wp2_with fail;go_ret;exact⟨rfl,hS,e.o⟩
end
section
variable{H:Ho}
def Ho.le.post{a:R8}(h:H.le 1048576)(c:H.qu.length<=1000)(b:a.l.length<=1048576):(pH H a).le 1048576:=by
 refine⟨h.fs,h.bx,h.ff,?_,h.bd,h.fd,nW h.qd b⟩;show(quP H.c3 H.qu a).length<=_;unfold quP;split
 .rw[QX,Q1];omega
 .exact h.qu
def Ho.le.set(h:H.le 1048576)(k:Nat)(b:R8)(a:b.l.length<=1048576):Ho.le {H with bx:=H.bx.set k b} 1048576:=by
 refine⟨h.fs,by show(H.bx.set k b).length<=_;rw[qE];exact h.bx,h.ff,h.qu,fun j c=>?_,h.fd,h.qd⟩;have d:j<H.bx.length:=by simpa using c
 show(H.bx.set k b)[j].l.length<=_;by_cases e:j=k
 .subst e;rw[ze];exact a
 .rw[zh (fun x=>e x.symm)];exact h.bd j d
def Ho.le.free(h:H.le 1048576)(k:Nat):(dK H k).le 1048576:=h.set k z8 (nZ _)
def Ho.le.state(h:H.le 1048576)(k:Nat)(v:Int):(ir H k v).le 1048576:=by
 unfold ir;split
 .rename_i hk;exact h.set k _ (h.bd k hk)
 .exact h
def lI{b:Bool}(h:H.le 1048576)(a:H.qu.length<=1000):(bz H b).le 1048576:=by
 unfold bz;split
 .rename_i hk;split
  .exact Ho.le.post (h.free _) a (h.bd _ hk)
  .split
   .exact Ho.le.post (h.free _) a (nZ _)
   .exact h.state _ _
 .exact h
end
end Go.Proofs.YtbbffcolnddcdaaGreatDoor
