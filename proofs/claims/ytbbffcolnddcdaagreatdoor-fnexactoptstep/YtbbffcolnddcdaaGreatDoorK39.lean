import Derived.Test.YtbbffcolnddcdaaGreatDoorK38
import Derived.Test.YtbbffcolnddcdaaGreatDoorK24
import Derived.Test.YtbbffcolnddcdaaGreatDoorK25
namespace Go.Proofs.YtbbffcolnddcdaaGreatDoor
open Go.Proofs.Tryz
open Option renaming none->nn,some->sQ
open Go renaming World->Wd
set_option maxRecDepth 20000
open Go.RowKit
set_option linter.all false
set_option maxHeartbeats 16000000
open Go.Value renaming int->I,slice->sL,bool->bO,pointer->pT,agg->aG
open Go.IntKind renaming i64->J
open Go.Ending renaming returned->rT
open Go.Proofs.Tryz renaming prog->Tp
def cw{P:Prop}(h:P):Hid P:=h
structure hG(κ:Nat->Nat)(H:Ho)(s:Sl)(W:Wd):Prop where
 f:∃gf,s.a1=be gf/\κ gf=1/\W.ownsRow 0 147 3 (sL (be gf) s.n1 s.k1) s.n1 (c3 H.fs)/\bB W (be gf) s.n1 s.k1 H.fs
 x:∃gb hs,s.a2=be gb/\κ gb=2/\bxR 0 W.heap.size gb s.n2 s.k2 H.bx hs W/\∀j b,j<H.bx.length->(hs j).1=be b->κ b=2
 r:∃gq off hs,s.a3=sQ ⟨gq,off,nn⟩/\κ gq=3/\ay W gq (off+s.k3*5)/\ffR W gq off s.n3 s.k3 0 H.ff hs W.heap.size/\∀j b,j<H.ff.length->(hs j).1=be b->κ b=3
 q:∃g4 rs,s.a4=be g4/\κ g4=4/\cj rc8 W 0 212 8 g4 s.k4 rs/\rs.map (·.1)=H.qu/\rs.length=s.n4/\∀p∈rs,κ (rc8.gd p)=4
 sm:∀x,κ x≠0->x<W.heap.size
structure mvH(κ:Nat->Nat)(W:Wd)(κ':Nat->Nat)(W':Wd):Prop where
 s:W.heap.size<=W'.heap.size
 c:∀x,x<W.heap.size->κ' x=κ x
 k:∀x,x<W.heap.size->κ x=0->W'.heap[x]?=W.heap[x]?
 o:W'.os=W.os/\W'.tape=W.tape/\W'.output=W.output
section
variable{κ κ' κ'':Nat->Nat}{H:Ho}{s:Sl}{w W W' W'':Wd}
def mvH.refl(κ:Nat->Nat)(W:Wd):mvH κ W κ W:=⟨nR _,fun _ _=>rfl,fun _ _ _=>rfl,rfl,rfl,rfl⟩
def mvH.trans(h:mvH κ W κ' W')(k:mvH κ' W' κ'' W''):mvH κ W κ'' W'':=
 ⟨nT h.s k.s,fun x hx=>(k.c x (nL hx h.s)).trans (h.c x hx),fun x hx h0=>(k.k x (nL hx h.s) (by rw[h.c x hx];exact h0)).trans (h.k x hx h0),k.o.1.trans h.o.1,k.o.2.1.trans h.o.2.1,k.o.2.2.trans h.o.2.2⟩
def mvH.of(hb:Bl W W'):mvH κ W κ W':=⟨hb.size,fun _ _=>rfl,fun x hx _=>hb.block x hx,hb.os,hb.tape,hb.output⟩
def mvH.blk{q:Nat}{L:List Value}{T:TypeId}(h:mvH κ W κ' W')(hq:blk W q L T)(h0:κ q=0):blk W' q L T:=hq.kept (h.k q hq.lt h0)
def mvH.cells(h:mvH κ W κ' W'){q:Nat}(b:W.heap.size<=q\/κ q≠0)(o:Nat)(e:List Value):mvH κ W κ' (W'.setCells q o e):=by
 have d:=sW (B:=0) (nZ q) o e (bW 0 W');refine⟨by rw[sZ];exact h.s,h.c,fun x f h0=>(sO q x ?_ _ _ _).trans (h.k x f h0),d.os.trans h.o.1,d.tape.trans h.o.2.1,d.output.trans h.o.2.2⟩;rintro rfl;rcases b with b|b
 .omega
 .exact b h0
def bxR.keep{B T T' g n k:Nat}{bx:List R8}{hs:Nat->Hd}(h:bxR B T g n k bx hs W)(hg:W'.heap[g]?=W.heap[g]?)(hd:∀j b,j<bx.length->(hs j).1=be b->W'.heap[b]?=W.heap[b]?)(hT:T<=T'):bxR B T' g n k bx hs W':=
 ⟨h.len,h.cap,h.lo,nL h.hi hT,h.row.up hg,fun j hj=>rangeAt.up (h.rng j hj) hg,fun j hj=>by
  obtain⟨h1,h2⟩:=h.dat j hj
  rcases h2 with⟨e1,e2⟩|⟨b,e1,e2,e3,e4⟩
  .exact⟨h1.none0 e2,qp ⟨e1,e2⟩⟩
  .refine⟨?_,qt ⟨b,e1,e2,om,e4⟩⟩
   have:=hd j b hj e1
   rw[e1]at h1 ⊢
   exact h1.other this⟩
def ffR.mono{g off n k ks T T':Nat}{L:List R5}{hs:Nat->Hd}(h:ffR W g off n k ks L hs T)(hT:T<=T'):ffR W g off n k ks L hs T':=
 ⟨h.len,h.cap,h.rng,h.sp,fun j hj=>by obtain⟨h1,b,e1,e2,e3⟩:=h.dat j hj;exact⟨h1,b,e1,e2,om⟩,nL h.hi hT⟩
def cj.keepC{E sz g k:Nat}{rs:List (R8 × Nat × Nat)}(h:cj rc8 W 0 E sz g k rs)(hg:W'.heap[g]?=W.heap[g]?)(hd:∀p∈rs,W'.heap[rc8.gd p]?=W.heap[rc8.gd p]?)(hz:W.heap.size<=W'.heap.size):cj rc8 W' 0 E sz g k rs:=
 ⟨oK h.own hg,fun p hp=>by obtain⟨d1,d2,d3,d4⟩:=h.dat p hp;exact⟨d1.other (hd p hp),d2,d3,nL d4 hz⟩⟩
def hG.f_(h:hG κ H s W)(c:∀x,κ x=1->κ' x=1/\W'.heap[x]?=W.heap[x]?):∃b,s.a1=be b/\κ' b=1/\W'.ownsRow 0 147 3 (sL (be b) s.n1 s.k1) s.n1 (c3 H.fs)/\bB W' (be b) s.n1 s.k1 H.fs:=by
 obtain⟨b,e,d,h0,h1⟩:=h.f;exact⟨b,e,(c b d).1,oK h0 (c b d).2,h1.same (c b d).2⟩
def hG.x_(h:hG κ H s W)(d:∀x,κ x=2->κ' x=2/\W'.heap[x]?=W.heap[x]?)(l:W.heap.size<=W'.heap.size):∃c hs,s.a2=be c/\κ' c=2/\bxR 0 W'.heap.size c s.n2 s.k2 H.bx hs W'/\∀j b,j<H.bx.length->(hs j).1=be b->κ' b=2:=by
 obtain⟨c,hs,e,k,h1,i⟩:=h.x;exact⟨c,hs,e,(d c k).1,h1.keep (d c k).2 (fun j b g f=>(d b (i j b g f)).2) l,fun j b g f=>(d b (i j b g f)).1⟩
def hG.r_(h:hG κ H s W)(d:∀x,κ x=3->κ' x=3/\W'.heap[x]?=W.heap[x]?)(t:W.heap.size<=W'.heap.size):∃c off hs,s.a3=sQ ⟨c,off,nn⟩/\κ' c=3/\ay W' c (off+s.k3*5)/\ffR W' c off s.n3 s.k3 0 H.ff hs W'.heap.size/\∀j b,j<H.ff.length->(hs j).1=be b->κ' b=3:=by
 obtain⟨c,off,hs,e,g,h1,k,i⟩:=h.r;refine⟨c,off,hs,e,(d c g).1,h1.up (d c g).2,(k.keep fun x n=>?_).mono t,fun j b f l=>(d b (i j b f l)).1⟩;rcases n with rfl|⟨j,f,e⟩
 .exact (d _ g).2
 .exact (d _ (i j x f e)).2
def hG.q_(h:hG κ H s W)(c:∀x,κ x=4->κ' x=4/\W'.heap[x]?=W.heap[x]?)(k:W.heap.size<=W'.heap.size):∃b rs,s.a4=be b/\κ' b=4/\cj rc8 W' 0 212 8 b s.k4 rs/\rs.map (·.1)=H.qu/\rs.length=s.n4/\∀p∈rs,κ' (rc8.gd p)=4:=by
 obtain⟨b,rs,e,g,h1,i,j,f⟩:=h.q;exact⟨b,rs,e,(c b g).1,h1.keepC (c b g).2 (fun p d=>(c _ (f p d)).2) k,i,j,fun p d=>(c _ (f p d)).1⟩
def hG.st(h:hG κ H s W)(he:∀x,κ x≠0->W'.heap[x]?=W.heap[x]?)(hz:W.heap.size<=W'.heap.size):hG κ H s W':=
 ⟨h.f_ fun x hx=>⟨hx,he x om⟩,h.x_ (fun x hx=>⟨hx,he x om⟩) hz,h.r_ (fun x hx=>⟨hx,he x om⟩) hz,h.q_ (fun x hx=>⟨hx,he x om⟩) hz,fun x hx=>nL (h.sm x hx) hz⟩
def hG.below(h:hG κ H s W)(hb:Bl W W'):hG κ H s W':=h.st (fun x hx=>hb.block x (h.sm x hx)) hb.size
def hG.cells(h:hG κ H s W){q:Nat}(hq:κ q=0)(o:Nat)(vs:List Value):hG κ H s (W.setCells q o vs):=h.st (fun x hx=>sO q x (by rintro rfl;exact hx hq) _ _ _) (by rw[sZ];exact nR _)
def hG.no(h:hG κ H s W){x:Nat}(hx:W.heap.size<=x):κ x=0:=Classical.byContradiction fun e=>by have:=h.sm x e;omega
def hG.is(h:hG κ H s W):bj W H s:=by
 obtain⟨u,b,_,_,h1⟩:=h.f;obtain⟨t,hs,c,_,g,_⟩:=h.x;obtain⟨v,off,hs,d,_,_,i,_⟩:=h.r;obtain⟨n,rs,e,_,j,l,k,_⟩:=h.q;refine⟨by rw[b];exact h1,by rw[c];exact g.is,by rw[d];exact i.is,?_⟩;have:=j.r8.now;rw[l,k]at this;rw[e];exact this
def hG.n4(h:hG κ H s W):s.n4=H.qu.length:=h.is.qu.len
def hG.n2(h:hG κ H s W):s.n2=H.bx.length:=h.is.bx.len
def hG.n3(h:hG κ H s W):s.n3=H.ff.length:=h.is.ff.len
def hG.col(h:hG κ H s W){g:Nat}(i:g<W.heap.size)(h0:κ g=0)(c:Nat):hG (fun x=>if x=g then c else κ x) H s W:=by
 have b:∀d,d≠0->∀x,κ x=d->(if x=g then c else κ x)=d/\W.heap[x]?=W.heap[x]?:=fun d hd x f=>by
  rw[QV (by rintro rfl;omega)];exact⟨f,rfl⟩
 refine⟨h.f_ (b 1 om),h.x_ (b 2 om) (nR _),h.r_ (b 3 om) (nR _),h.q_ (b 4 om) (nR _),fun x f=>?_⟩;by_cases e:x=g
 .omega
 .rw[QV e]at f;exact h.sm x f
def mvH.col(h:mvH κ W κ' W'){g:Nat}(hg:W.heap.size<=g)(c:Nat):mvH κ W (fun x=>if x=g then c else κ' x) W':=⟨h.s,fun x hx=>by rw[QV om];exact h.c x hx,h.k,h.o⟩
def hG.putX(h:hG κ H s W){n:Nat}(G:s.a2=be n){k:Nat}(P:k<H.bx.length)(b:R8)(hd:Hd)(M:iB W hd.1 hd.2.1 hd.2.2 b.l)(i:(hd.1=nn/\hd.2.1=0)\/∃g,hd.1=be g/\g<W.heap.size/\κ g=2/\g≠n):hG κ {H with bx:=H.bx.set k b} s (W.setCells n (k*8) (x8 (b,hd)))/\mvH κ W κ (W.setCells n (k*8) (x8 (b,hd))):=by
 obtain⟨t,hs,e,R,h1,K⟩:=h.x;obtain rfl:t=n:=by rw[G]at e;cases e;rfl
 have B:W.heap.size<=(W.setCells t (k*8) (x8 (b,hd))).heap.size:=by rw[sZ];exact nR _
 have ho:∀d,d≠2->∀x,κ x=d->κ x=d/\(W.setCells t (k*8) (x8 (b,hd))).heap[x]?=W.heap[x]?:=fun d U x u=>⟨u,sO _ x (by rintro rfl;omega) _ _ _⟩
 have S:=h1.put k P b hd M (by rcases i with i|⟨g,v,C,D,E⟩;exact qp i;exact qt ⟨g,v,nZ _,C,E⟩);refine⟨⟨h.f_ (ho 1 om),⟨t,_,e,R,by rw[sZ,aT];exact S,fun j c N f=>?_⟩,h.r_ (ho 3 om) B,h.q_ (ho 4 om) B,fun x u=>by rw[sZ];exact h.sm x u⟩,(mvH.refl κ W).cells (qt om) _ _⟩;have O:j<H.bx.length:=by simpa using N
 by_cases A:j=k
 .rw[QW A]at f;rcases i with i|⟨g,v,C,D,E⟩
  .rw[i.1]at f;cases f
  .rw[v]at f;cases f;exact D
 .rw[QV A]at f;exact K j c O f
def hG.setX(h:hG κ H s W){f:Nat}(n:s.a2=be f){k:Nat}(i:k<H.bx.length)(v:Int):hG κ (ir H k v) s (W.setCell ⟨f,k*8,nn⟩ (I J v))/\mvH κ W κ (W.setCell ⟨f,k*8,nn⟩ (I J v)):=by
 obtain⟨b,hs,e,C,h1,u⟩:=h.x;obtain rfl:b=f:=by rw[n]at e;cases e;rfl
 have t:ir H k v={H with bx:=H.bx.set k {H.bx[k]with x:=v} }:=by unfold ir;rw[dif_pos i]
 have l:(W.setCell ⟨b,k*8,nn⟩ (I J v)).heap.size=W.heap.size:=pQ;have ho:∀d,d≠2->∀x,κ x=d->κ x=d/\(W.setCell ⟨b,k*8,nn⟩ (I J v)).heap[x]?=W.heap[x]?:=fun d D x g=>⟨g,sO b x (by rintro rfl;omega) [_] _ _⟩
 rw[t];exact⟨⟨h.f_ (ho 1 om),⟨b,_,e,C,by rw[l];exact h1.setX k i v,fun j c B A=>u j c (by simpa using B) A⟩,h.r_ (ho 3 om) om,h.q_ (ho 4 om) om,fun x g=>by rw[l];exact h.sm x g⟩,(mvH.refl κ W).cells (qt om) _ [_]⟩
structure fw(w:Wd)(κ0:Nat->Nat)(vp vr vq:Nat)(FL:List Value)(T:TypeId)(κ:Nat->Nat)(H:Ho)(s:Sl)(L:List Value)(W:Wd):Prop where
 p:blk W vp L 50
 r:blk W vr Z10 50
 f:blk W vq FL T
 g:hG κ H s W
 m:mvH κ0 w κ W
 z:κ vp=0/\κ vr=0/\κ vq=0/\vp≠vr/\vp≠vq/\w.heap.size<=vp/\w.heap.size<=vr
variable{κ0:Nat->Nat}{p r q:Nat}{FL L:List Value}{T:TypeId}{H':Ho}{s':Sl}
def fw.call(h:fw w κ0 p r q FL T κ H s L W)(hg:hG κ' H' s' W'/\mvH κ W κ' W'):fw w κ0 p r q FL T κ' H' s' L W':=
 ⟨hg.2.blk h.p h.z.1,hg.2.blk h.r h.z.2.1,hg.2.blk h.f h.z.2.2.1,hg.1,h.m.trans hg.2,by rw[hg.2.c p h.p.lt,hg.2.c r h.r.lt,hg.2.c q h.f.lt];exact h.z⟩
def fw.below(h:fw w κ0 p r q FL T κ H s L W)(hb:Bl W W'):fw w κ0 p r q FL T κ H s L W':=h.call ⟨h.g.below hb,mvH.of hb⟩
def fw.cells(h:fw w κ0 p r q FL T κ H s L W)(o:Nat)(vs:List Value){L':List Value}(hL:blk (W.setCells p o vs) p L' 50):fw w κ0 p r q FL T κ H s L' (W.setCells p o vs):=
 ⟨hL,h.r.other h.z.2.2.2.1.symm _ _,h.f.other h.z.2.2.2.2.1.symm _ _,h.g.cells h.z.1 _ _,h.m.cells (qp h.z.2.2.2.2.2.1) _ _,h.z⟩
def fw.set(h:fw w κ0 p r q FL T κ H s L W)(i:Nat)(v:Value):fw w κ0 p r q FL T κ H s (L.set i v) (W.setCell ⟨p,i,nn⟩ v):=h.cells i [v] (h.p.set i v)
def fw.put(h:fw w κ0 p r q FL T κ H s L W)(L':List Value)(hl:L.length=L'.length):fw w κ0 p r q FL T κ H s L' (W.setCells p 0 L'):=h.cells 0 L' (by simpa using blk.put [] L [] L' (by simpa using h.p) hl)
def fw.fin{b:Wd}(h:fw w κ0 p r q FL T κ H s L W)(c:W.setCells r 0 (hoL H s)=b):blk b r (hoL H s) 50/\hG κ H s b/\mvH κ0 w κ b:=by
 subst c;exact⟨by simpa using blk.put [] Z10 [] (hoL H s) (by simpa using h.r) rfl,h.g.cells h.z.2.1 _ _,h.m.cells (qp h.z.2.2.2.2.2.2) _ _⟩
def fw.new2(h:hG κ H s w):fw w κ w.heap.size (w.heap.size+1) (w.heap.size+1) Z10 50 κ H s (hoL H s) ((w.alloc (.cells (hoL H s).toArray 50)).alloc (.cells zX.toArray 50)):=by
 have b:Bl w ((w.alloc (.cells (hoL H s).toArray 50)).alloc (.cells Z10.toArray 50)):=Zw.alloc pQ _;have c:blk ((w.alloc (.cells (hoL H s).toArray 50)).alloc (.cells Z10.toArray 50)) (w.heap.size+1) Z10 50:=by simpa using blk.new (w.alloc (.cells (hoL H s).toArray 50)) Z10 50
 exact⟨(blk.new w _ 50).alloc _,c,c,h.below b,mvH.of b,h.no (nR _),h.no (nA _ _),h.no (nA _ _),om,om,om,om⟩
def fw.new3(h:hG κ H s w)(FL:List Value):fw w κ w.heap.size (w.heap.size+1+1) (w.heap.size+1) FL 53 κ H s (hoL H s) (((w.alloc (.cells (hoL H s).toArray 50)).alloc (.cells FL.toArray 53)).alloc (.cells zX.toArray 50)):=by
 have b:Bl w (((w.alloc (.cells (hoL H s).toArray 50)).alloc (.cells FL.toArray 53)).alloc (.cells Z10.toArray 50)):=(Zw.alloc pQ _).alloc (by simp;omega) _;have d:blk (((w.alloc (.cells (hoL H s).toArray 50)).alloc (.cells FL.toArray 53)).alloc (.cells Z10.toArray 50)) (w.heap.size+1+1) Z10 50:=by simpa using blk.new ((w.alloc (.cells (hoL H s).toArray 50)).alloc (.cells FL.toArray 53)) Z10 50
 have c:blk ((w.alloc (.cells (hoL H s).toArray 50)).alloc (.cells FL.toArray 53)) (w.heap.size+1) FL 53:=by simpa using blk.new (w.alloc (.cells (hoL H s).toArray 50)) FL 53
 exact⟨((blk.new w _ 50).alloc _).alloc _,d,c.alloc _,h.below b,mvH.of b,h.no (nR _),h.no (by rw[Nat.add_assoc];exact nA _ _),h.no (nA _ _),om,om,om,om⟩
def hA(w:Wd)(κ:Nat->Nat)(H':Ho)(o:Ending)(w':Wd):Prop:=∃s' κ',o=rT (aG (hoL H' s').toArray)/\Hid (hG κ' H' s' w'/\mvH κ w κ' w')
abbrev fw2(w:Wd)(κ0 κ:Nat->Nat)(H:Ho)(s:Sl)(L:List Value)(W:Wd):Prop:=fw w κ0 w.heap.size (w.heap.size+1) (w.heap.size+1) Z10 50 κ H s L W
abbrev fw3(w:Wd)(κ0:Nat->Nat)(FL:List Value)(κ:Nat->Nat)(H:Ho)(s:Sl)(L:List Value)(W:Wd):Prop:=fw w κ0 w.heap.size (w.heap.size+1+1) (w.heap.size+1) FL 53 κ H s L W
section
variable{ops:Array Oper}{rest:List Oper}{op:Oper}{a:Act}{Q:Exit->Act->Wd->Prop}{x y:Operand}
def fw.ld(h:fw w κ0 p r q FL T κ H s (hoL H' s') W)(K:wpList Tp ops Q rest (a.put op.dst (aG (hoL H' s').toArray)) W)(b:op.guard=nn:=by rfl)(ho:op.op= .load 50 x:=by rfl)(c:a.eval x=ap p:=by rfl):wpList Tp ops Q (op::rest) a W:=
 Qk (P:=Tp) b 50 x ho p 0 c (hoL H' s') _ h.p.load underlying50 rfl (fj _ _) K
def fw.sv(h:fw w κ0 p r q FL T κ H s (hoL H' s') W){H2:Ho}{s2:Sl}(K:∀b,Hid (fw w κ0 p r q FL T κ H s (hoL H2 s2) b)->wpList Tp ops Q rest (a.put op.dst undef) b)(c:op.guard=nn:=by rfl)(ho:op.op= .store 50 x y:=by rfl)(d:a.eval x=ap p:=by rfl)(hy:a.eval y=aG (hoL H2 s2).toArray:=by rfl):wpList Tp ops Q (op::rest) a W:=
 Qo (P:=Tp) c 50 x y ho p 0 (hoL H2 s2).toArray d hy (h.p.there 0 10 (nR _)) (nO _ _) (gZ _ _) (K _ (h.put (hoL H2 s2) rfl))
def fw.rt(h:fw w κ0 p r q FL T κ H s L W)(K:∀b,blk b r (hoL H s) 50->Hid (hG κ H s b/\mvH κ0 w κ b)->wpList Tp ops Q rest (a.put op.dst undef) b)(c:op.guard=nn:=by rfl)(ho:op.op= .store 50 x y:=by rfl)(d:a.eval x=ap r:=by rfl)(hy:a.eval y=aG (hoL H s).toArray:=by rfl):wpList Tp ops Q (op::rest) a W:=
 Qo (P:=Tp) c 50 x y ho r 0 (hoL H s).toArray d hy (h.r.there 0 10 (nR _)) (nO _ _) (gZ _ _) (K _ (h.fin rfl).1 (h.fin rfl).2)
def fw.bx(h:fw w κ0 p r q FL T κ H s L W){c k:Nat}(i:s.a2=be c)(n:k<H.bx.length)(b:R8)(hd:Hd)(t:iB W hd.1 hd.2.1 hd.2.2 b.l)(v:(hd.1=nn/\hd.2.1=0)\/∃g,hd.1=be g/\g<W.heap.size/\κ g=2/\g≠c)
  (K:∀d,Hid (fw w κ0 p r q FL T κ {H with bx:=H.bx.set k b} s L d)->Hid (∀x,x≠c->d.heap[x]?=W.heap[x]?)->wpList Tp ops Q rest (a.put op.dst undef) d) (u:op.guard=nn:=by rfl) (ho:op.op= .store 114 x y:=by rfl) (f:a.eval x=pT (sQ ⟨c,k*8,nn⟩):=by rfl) (hy:a.eval y=aG (x8 (b,hd)).toArray:=by rfl):wpList Tp ops Q (op::rest) a W:=by
 obtain⟨j,hs,e,_,h1,_⟩:=h.g.x;obtain rfl:j=c:=by rw[i]at e;cases e;rfl
 exact Qo (P:=Tp) u 114 x y ho j (k*8) (x8 (b,hd)).toArray f hy (h1.there k n) cK (mS _ _ _ _ _ _ _ _ _ _) (K _ (h.call (h.g.putX i n b hd t v)) (fun x f=>sO _ x f _ _ _))
end
def fw.var(h:fw w κ0 p r q FL T κ H s L W){L2:List Value}{T2:TypeId}(hb:Bl W W')(h2:blk W' W.heap.size L2 T2):fw w κ0 p r W.heap.size L2 T2 κ H s L W':=
 have h':=h.below hb
 ⟨h'.p,h'.r,h2,h'.g,h'.m,h.z.1,h.z.2.1,h.g.no (nR _),h.z.2.2.2.1,Nat.ne_of_lt h.p.lt,h.z.2.2.2.2.2⟩
def mY(h:blk W p (hoL H s) 50):(loadVar 50 ⟨p,0,nn⟩).run Tp W= .ok (aG (hoL H s).toArray) W:=Qt (P:=Tp) W p 0 50 _ _ h.load underlying50 rfl (fj H s)
def lJ(h:hG κ H s w)(b:R8)(v:Option Addr)(m c:Nat)(Z:H.qu.length<=1000)(P:0<=H.lo/\H.lo<=100000)(G:iB w v m c b.l)(R:m<=1048576):ce 163 #[aG (hoL H s).toArray,I J b.x,I J b.y,I J b.z,frV b.e b.i b.r b.d v m c] w (hA w κ (pH H b)):=by
 have K:=h.n4;obtain⟨x,y,z,e,i,r,d,l⟩:=b;have S:m=l.length:=G.len;subst S;by_cases n:(s.n4:Int)<H.c3
 .obtain⟨g4,rs,e4,k4,ho,hmap,hlen,hc⟩:=h.q;refine(sE w H s 0 g4 rs x y z e i r d v c l e4 n om ho hlen (nZ _) G R).mono ?_;rintro o w' ⟨t,U,g,kd,rfl,h1,C,D,X,k⟩;rw[K]at n;have N:=h.sm g4 om;have O:=(h1.dat _ (List.mem_append.2 (qt (List.mem_singleton.2 rfl)))).2.2;refine⟨qSl s t (s.n4+1) U,fun x=>if x<w.heap.size then κ x else if x=t\/x=g then 4 else 0,by simp only[hoL,pH,loP,QW n],?_,⟨k.size,fun x j=>QW j,fun x j h0=>C x (by rintro rfl;omega) j,k.os,k.tape,k.output⟩⟩
  have A:∀d,d≠0->d≠4->∀x,κ x=d->(if x<w.heap.size then κ x else if x=t\/x=g then 4 else 0)=d/\w'.heap[x]?=w.heap[x]?:=fun d hd Y x j=>by
   have M:=h.sm x om;rw[QW M];exact⟨j,C x (by rintro rfl;omega) M⟩
  refine⟨h.f_ (A 1 om om),h.x_ (A 2 om om) k.size,h.r_ (A 3 om om) k.size,⟨t,_,rfl,?_,h1,by simp only[pH,quP,QW n,List.map_append,hmap,Qi,List.map_nil],by simp[qSl,hlen],fun p u=>?_⟩,fun x j=>?_⟩
  .rcases D with rfl|D
   .rw[QW N];exact k4
   .rw[QV om,QW (qp rfl)]
  .rcases List.mem_append.1 u with u|u
   .rw[QW (h.sm _ (by have:=hc p u;omega))];exact hc p u
   .rw[List.mem_singleton.1 u];show(if g<w.heap.size then κ g else if g=t\/g=g then 4 else 0)=4;rw[QV om,QW (qt rfl)]
  .have:=k.size;by_cases e:x<w.heap.size
   .omega
   .rw[QV e]at j;by_cases B:x=t\/x=g
    .have:=h1.lt.2;have:g<w'.heap.size:=O.2;rcases B with rfl|rfl<;>omega
    .rw[QV B]at j;exact Qj rfl j
 .refine (sF w H s x y z e i r d v c l om P).mono ?_;rintro o w' ⟨rfl,E⟩;rw[K]at n;refine⟨s,κ,by simp only[hoL,pH,loP,QV n],?_,mvH.of E⟩;have:=h.below E;have e:(pH H ⟨x,y,z,e,i,r,d,l⟩).qu=H.qu:=by simp only[pH,quP,QV n]
  exact⟨this.f,this.x,this.r,by rw[e];exact this.q,this.sm⟩
def Dt(h:hG κ H s w)(x y z:Int)(e:H.qu.length<=1000)(d:0<=H.lo/\H.lo<=100000):ce 162 #[aG (hoL H s).toArray,I J x,I J y,I J z] w (hA w κ (pH H (ev3 x y z))):=by
 have b:Hid _:=fw.new2 h;have c:Hid (H.qu.length<=1000/\0<=H.lo/\H.lo<=100000):=⟨e,d⟩
 clear h e d;go_enter func162,ntmps162;go_wp2_with(refine fw.ld b.o ?_);refine(lJ b.o.g (ev3 x y z) nn 0 0 c.o.1 c.o.2 (jA _) om).mono ?_;rintro o t ⟨l,n,rfl,i⟩;have f:Hid _:=b.o.call i.o;go_wp2_with(refine fw.rt f.o ?_;intro u k j);exact bC results162 (mY k) ⟨l,n,rfl,j⟩
end
section
variable{W:World}
def vD.ffG{B T g n k:Nat}{d:List R5}(h:vD B T 53 g n k d W):∃hs,ffR W g 0 n k 0 d hs T/\ay W g (k*5)/\B<=g/\∀j b,j<d.length->(hs j).1=be b->B<=b:=by
 obtain⟨rs,ho,a,G,y,x⟩:=h;have r:=ho.own;subst a;have hF:=n6 r;rcases cg r with⟨e,_⟩|⟨E,c1,e,H,K,L,M,A⟩
 .cases e
 cases e;refine⟨fun j=>(rs.map fun p=>((sQ ⟨p.2.1,0,nn⟩,p.1.l.length,p.2.2):Hd)).getD j (nn,0,0),⟨by simp;omega,om,fun j c=>?_,fun t f=>Qj f om,fun j c=>?_,y⟩,hF,ho.lt.1,fun j b c i=>?_⟩
 .have hj':j<rs.length:=by simpa using c
  have e:x5 ((rs.map (·.1))[j],(rs.map fun p=>((sQ ⟨p.2.1,0,nn⟩,p.1.l.length,p.2.2):Hd)).getD j (nn,0,0))=rc5.enc rs[j]:=by
   simp[x5,f5,rc5,List.getD,hj']
  rw[e];intro t u s;have f:t<5:=by have:=(List.getElem?_eq_some_iff.mp s).1;simpa[rc5]using this
  exact A (j*5+t) u (by rw[ln rc5.enc 5 (fun _=>rfl) rs j hj' t f];exact s) |> fun h=>by rw[qg]at h ⊢;exact h
 .have hj':j<rs.length:=by simpa using c
  have a:=ql hj';obtain⟨v,C,w,D⟩:=ho.dat rs[j] a;simp only[za,List.getD,List.getElem?_map,Q4 hj',Option.map_some,Option.getD_some];exact⟨v,_,rfl,w,x _ a⟩
 .have hj':j<rs.length:=by simpa using c
  have a:=ql hj';simp only[List.getD,List.getElem?_map,Q4 hj',Option.map_some,Option.getD_some]at i;cases i;exact(ho.dat rs[j] a).2.1
def Ha(W:World)(H:Ho)(s:Sl)(h:bj W H s)(O:H.le 1048576):ce 49 #[aG (hoL H s).toArray] W fun o w'=>∃A d,o=rT (aG (hoL H A).toArray)/\hG d H A w'/\(∀x,x<W.heap.size+3->d x=0)/\Bl W w':=by
 rw[<- gC];refine(uq W H s h O).mono ?_;rintro o w' ⟨v,T,u,S,w,U,t,k4,k,l,n,T3,rfl,⟨Y,Z,o3,o4,o5,o6⟩,R,P,e⟩;obtain⟨h1,a,E,G⟩:=R.now;obtain⟨hs,a⟩:=a.bxR;obtain⟨Q,r,B,C,D⟩:=E.ffG;obtain⟨rs,ho,N,M,a0,K⟩:=G;have L:∃d:Nat->Nat,(∀x,x<W.heap.size+3->d x=0)/\(∀x,w'.heap.size<=x->d x=0)/\(∀x,W.heap.size+3<=x->x<k->d x=1)/\(∀x,k<=x->x<l->d x=2)/\(∀x,l<=x->x<n->d x=3)/\∀x,n<=x->x<w'.heap.size->d x=4:=by
  refine⟨fun x=>if x<W.heap.size+3\/w'.heap.size<=x then 0 else if x<k then 1 else if x<l then 2 else if x<n then 3 else 4,fun x g=>?_,fun x g=>?_,fun x h1 a=>?_,fun x h1 a=>?_,fun x h1 a=>?_,fun x h1 a=>?_⟩
  .exact QW (qp g)
  .exact QW (qt g)
  .dsimp only;rw[QV om,QW a]
  .dsimp only;rw[QV om,QV om,QW a]
  .dsimp only;rw[QV om,QV om,QV om,QW a]
  .dsimp only;rw[QV om,QV om,QV om,QV om]
 obtain⟨d,k0,X,k1,k2,k3,y⟩:=L;refine⟨⟨sQ ⟨v,0,nn⟩,s.n1,T,be u,s.n2,S,be w,s.n3,U,be t,s.n4,k4⟩,d,by rw[gC],⟨⟨v,rfl,k1 _ Y Z,kC P.now (nZ _),h1⟩,⟨u,hs,rfl,k2 _ a.lo a.hi,⟨a.len,a.cap,nZ _,by have:=a.hi;omega,a.row,a.rng,fun j f=>?_⟩,fun j b f e=>?_⟩,⟨w,0,Q,rfl,k3 _ C r.hi,by rw[qg];exact B,r.mono om,fun j b f e=>k3 _ (D j b f e) ?_⟩,⟨t,rs,rfl,y _ ho.lt.1 om,⟨kC ho.own (nZ _),fun p i=>?_⟩,N,M,fun p i=>y _ (ho.dat p i).2.1 (by have:=K p i;omega)⟩,fun x g=>Nat.lt_of_not_le fun h=>g (X x h)⟩,k0,e⟩
 .obtain⟨d1,d2|⟨b,d2,d3,d4,d5⟩⟩:=a.dat j f
  .exact⟨d1,qp d2⟩
  .exact⟨d1,qt ⟨b,d2,nZ _,om,d5⟩⟩
 .obtain⟨d1,d2|⟨c,d2,d3,d4,d5⟩⟩:=a.dat j f
  .rw[d2.1]at e;cases e
  .rw[d2]at e;cases e;exact k2 _ d3 d4
 .obtain⟨_,c,d2,d3,d4⟩:=r.dat j f;rw[d2]at e;cases e;exact d4
 .obtain⟨d1,d2,d3,d4⟩:=ho.dat p i;exact⟨d1,nZ _,d3,d4⟩
end
end Go.Proofs.YtbbffcolnddcdaaGreatDoor
