import Derived.Test.YtgfolecanghhhaaGreatK25
import Derived.Test.YtgfolecanghhhaaGreatK27
namespace Go.Proofs.YtgfolecanghhhaaGreat
open Go.Proofs.Tryz
open Option renaming none->nn,some->sQ
open Go renaming World->Wd
set_option maxRecDepth 20000
open Go.RowKit
set_option linter.all false
set_option maxHeartbeats 16000000
open Go.Value renaming int->I,slice->sL,bool->bO,pointer->pT,agg->aG
open Go.IntKind renaming i64->J
open Go.Ending renaming returned->rT
open Go.Proofs.Tryz renaming prog->Tp
def eE {P:Prop} (h:P):Hid P:=h
structure hG (κ:Nat->Nat) (H:Ho) (s:Sl) (W:Wd):Prop where
 f:∃ gf,s.a1=sQ ⟨gf,0,nn⟩/\κ gf=1/\W.ownsRow 0 180 3 (sL (sQ ⟨gf,0,nn⟩) s.n1 s.k1) s.n1 (c3 H.fs)/\bj W (sQ ⟨gf,0,nn⟩) s.n1 s.k1 H.fs
 x:∃ gb hs,s.a2=sQ ⟨gb,0,nn⟩/\κ gb=2/\bxR 0 W.heap.size gb s.n2 s.k2 H.bx hs W/\∀ j b,j<H.bx.length->(hs j).1=sQ ⟨b,0,nn⟩->κ b=2
 r:∃ gq off hs,s.a3=sQ ⟨gq,off,nn⟩/\κ gq=3/\az W gq (off+s.k3*5)/\ffR W gq off s.n3 s.k3 0 H.ff hs W.heap.size/\∀ j b,j<H.ff.length->(hs j).1=sQ ⟨b,0,nn⟩->κ b=3
 q:∃ g4 rs,s.a4=sQ ⟨g4,0,nn⟩/\κ g4=4/\cH rc8 W 0 175 8 g4 s.k4 rs/\rs.map (·.1)=H.qu/\rs.length=s.n4/\∀ p ∈ rs,κ (rc8.gd p)=4
 sm:∀ x,κ x≠0->x<W.heap.size
structure mvH (κ:Nat->Nat) (W:Wd) (κ':Nat->Nat) (W':Wd):Prop where
 s:W.heap.size<=W'.heap.size
 c:∀ x,x<W.heap.size->κ' x=κ x
 k:∀ x,x<W.heap.size->κ x=0->W'.heap[x]?=W.heap[x]?
 o:W'.os=W.os/\W'.tape=W.tape/\W'.output=W.output
section
variable {κ κ' κ'' : Nat -> Nat} {H : Ho} {s : Sl} {w W W' W'' : Wd}
def mvH.refl (κ:Nat->Nat) (W:Wd):mvH κ W κ W:=⟨nR _,fun _ _=>rfl,fun _ _ _=>rfl,rfl,rfl,rfl⟩
def mvH.trans (h:mvH κ W κ' W') (k:mvH κ' W' κ'' W''):mvH κ W κ'' W'':=
 ⟨nT h.s k.s,fun x hx=>(k.c x (nL hx h.s)).trans (h.c x hx),fun x hx h0=>(k.k x (nL hx h.s) (by rw[h.c x hx];exact h0)).trans (h.k x hx h0),k.o.1.trans h.o.1,k.o.2.1.trans h.o.2.1,k.o.2.2.trans h.o.2.2⟩
def mvH.of (hb:Bl W W'):mvH κ W κ W':=⟨hb.size,fun _ _=>rfl,fun x hx _=>hb.block x hx,hb.os,hb.tape,hb.output⟩
def mvH.blk {q:Nat} {L:List Value} {T:TypeId} (h:mvH κ W κ' W') (hq:blk W q L T) (h0:κ q=0):blk W' q L T:=hq.kept (h.k q hq.lt h0)
def mvH.cells (h:mvH κ W κ' W') {q:Nat} (hq:W.heap.size<=q\/κ q≠0) (o:Nat) (vs:List Value):mvH κ W κ' (W'.setCells q o vs):=by
 have hb:=sW (B:=0) (nZ q) o vs (bW 0 W');refine⟨by rw[sZ];exact h.s,h.c,fun x hx h0=>(sO q x ?_ _ _ _).trans (h.k x hx h0),hb.os.trans h.o.1,hb.tape.trans h.o.2.1,hb.output.trans h.o.2.2⟩;rintro rfl;rcases hq with hq|hq
 .omega
 .exact hq h0
def bxR.keep {B T T' g n k:Nat} {bx:List R8} {hs:Nat->Hd} (h:bxR B T g n k bx hs W) (hg:W'.heap[g]?=W.heap[g]?) (hd:∀ j b,j<bx.length->(hs j).1=sQ ⟨b,0,nn⟩->W'.heap[b]?=W.heap[b]?) (hT:T<=T'):bxR B T' g n k bx hs W':=
 ⟨h.len,h.cap,h.lo,nL h.hi hT,h.row.up hg,fun j hj=>rangeAt.up (h.rng j hj) hg,fun j hj=>by
  obtain⟨h1,h2⟩:=h.dat j hj
  rcases h2 with⟨e1,e2⟩|⟨b,e1,e2,e3,e4⟩
  .exact⟨h1.none0 e2,qr ⟨e1,e2⟩⟩
  .refine⟨?_,qx ⟨b,e1,e2,om,e4⟩⟩
   have:=hd j b hj e1
   rw[e1] at h1 ⊢
   exact h1.other this⟩
def ffR.mono {g off n k ks T T':Nat} {L:List R5} {hs:Nat->Hd} (h:ffR W g off n k ks L hs T) (hT:T<=T'):ffR W g off n k ks L hs T':=
 ⟨h.len,h.cap,h.rng,h.sp,fun j hj=>by obtain⟨h1,b,e1,e2,e3⟩:=h.dat j hj;exact⟨h1,b,e1,e2,om⟩,nL h.hi hT⟩
def cH.keepC {E sz g k:Nat} {rs:List (R8 × Nat × Nat)} (h:cH rc8 W 0 E sz g k rs) (hg:W'.heap[g]?=W.heap[g]?) (hd:∀ p ∈ rs,W'.heap[rc8.gd p]?=W.heap[rc8.gd p]?) (hz:W.heap.size<=W'.heap.size):cH rc8 W' 0 E sz g k rs:=
 ⟨oK h.own hg,fun p hp=>by obtain⟨d1,d2,d3,d4⟩:=h.dat p hp;exact⟨d1.other (hd p hp),d2,d3,nL d4 hz⟩⟩
def hG.f_ (h:hG κ H s W) (hc:∀ x,κ x=1->κ' x=1/\W'.heap[x]?=W.heap[x]?):∃ gf,s.a1=sQ ⟨gf,0,nn⟩/\κ' gf=1/\W'.ownsRow 0 180 3 (sL (sQ ⟨gf,0,nn⟩) s.n1 s.k1) s.n1 (c3 H.fs)/\bj W' (sQ ⟨gf,0,nn⟩) s.n1 s.k1 H.fs:=by
 obtain⟨gf,e,hk,h0,h1⟩:=h.f;exact⟨gf,e,(hc gf hk).1,oK h0 (hc gf hk).2,h1.same (hc gf hk).2⟩
def hG.x_ (h:hG κ H s W) (hc:∀ x,κ x=2->κ' x=2/\W'.heap[x]?=W.heap[x]?) (hz:W.heap.size<=W'.heap.size):∃ gb hs,s.a2=sQ ⟨gb,0,nn⟩/\κ' gb=2/\bxR 0 W'.heap.size gb s.n2 s.k2 H.bx hs W'/\∀ j b,j<H.bx.length->(hs j).1=sQ ⟨b,0,nn⟩->κ' b=2:=by
 obtain⟨gb,hs,e,hk,h1,h2⟩:=h.x;exact⟨gb,hs,e,(hc gb hk).1,h1.keep (hc gb hk).2 (fun j b hj hb=>(hc b (h2 j b hj hb)).2) hz,fun j b hj hb=>(hc b (h2 j b hj hb)).1⟩
def hG.r_ (h:hG κ H s W) (hc:∀ x,κ x=3->κ' x=3/\W'.heap[x]?=W.heap[x]?) (hz:W.heap.size<=W'.heap.size):∃ gq off hs,s.a3=sQ ⟨gq,off,nn⟩/\κ' gq=3/\az W' gq (off+s.k3*5)/\ffR W' gq off s.n3 s.k3 0 H.ff hs W'.heap.size/\∀ j b,j<H.ff.length->(hs j).1=sQ ⟨b,0,nn⟩->κ' b=3:=by
 obtain⟨gq,off,hs,e,hk,h1,h2,h3⟩:=h.r;refine⟨gq,off,hs,e,(hc gq hk).1,h1.up (hc gq hk).2,(h2.keep fun x hx=>?_).mono hz,fun j b hj hb=>(hc b (h3 j b hj hb)).1⟩;rcases hx with rfl|⟨j,hj,e⟩
 .exact (hc _ hk).2
 .exact (hc _ (h3 j x hj e)).2
def hG.q_ (h:hG κ H s W) (hc:∀ x,κ x=4->κ' x=4/\W'.heap[x]?=W.heap[x]?) (hz:W.heap.size<=W'.heap.size):∃ g4 rs,s.a4=sQ ⟨g4,0,nn⟩/\κ' g4=4/\cH rc8 W' 0 175 8 g4 s.k4 rs/\rs.map (·.1)=H.qu/\rs.length=s.n4/\∀ p ∈ rs,κ' (rc8.gd p)=4:=by
 obtain⟨g4,rs,e,hk,h1,h2,h3,h4⟩:=h.q;exact⟨g4,rs,e,(hc g4 hk).1,h1.keepC (hc g4 hk).2 (fun p hp=>(hc _ (h4 p hp)).2) hz,h2,h3,fun p hp=>(hc _ (h4 p hp)).1⟩
def hG.st (h:hG κ H s W) (he:∀ x,κ x≠0->W'.heap[x]?=W.heap[x]?) (hz:W.heap.size<=W'.heap.size):hG κ H s W':=
 ⟨h.f_ fun x hx=>⟨hx,he x om⟩,h.x_ (fun x hx=>⟨hx,he x om⟩) hz,h.r_ (fun x hx=>⟨hx,he x om⟩) hz,h.q_ (fun x hx=>⟨hx,he x om⟩) hz,fun x hx=>nL (h.sm x hx) hz⟩
def hG.below (h:hG κ H s W) (hb:Bl W W'):hG κ H s W':=h.st (fun x hx=>hb.block x (h.sm x hx)) hb.size
def hG.cells (h:hG κ H s W) {q:Nat} (hq:κ q=0) (o:Nat) (vs:List Value):hG κ H s (W.setCells q o vs):=h.st (fun x hx=>sO q x (by rintro rfl;exact hx hq) _ _ _) (by rw[sZ];exact nR _)
def hG.no (h:hG κ H s W) {x:Nat} (hx:W.heap.size<=x):κ x=0:=Classical.byContradiction fun e=>by have:=h.sm x e;omega
def hG.is (h:hG κ H s W):aK W H s:=by
 obtain⟨gf,e1,_,_,h1⟩:=h.f;obtain⟨gb,hs,e2,_,h2,_⟩:=h.x;obtain⟨gq,off,hs,e3,_,_,h3,_⟩:=h.r;obtain⟨g4,rs,e4,_,h4,hm,hl,_⟩:=h.q;refine⟨by rw[e1];exact h1,by rw[e2];exact h2.is,by rw[e3];exact h3.is,?_⟩;have:=h4.r8.now;rw[hm,hl] at this;rw[e4];exact this
def hG.n4 (h:hG κ H s W):s.n4=H.qu.length:=h.is.qu.len
def hG.n2 (h:hG κ H s W):s.n2=H.bx.length:=h.is.bx.len
def hG.n3 (h:hG κ H s W):s.n3=H.ff.length:=h.is.ff.len
def hG.col (h:hG κ H s W) {g:Nat} (hg:g<W.heap.size) (h0:κ g=0) (c:Nat):hG (fun x=>if x=g then c else κ x) H s W:=by
 have hc:∀ d,d≠0->∀ x,κ x=d->(if x=g then c else κ x)=d/\W.heap[x]?=W.heap[x]?:=fun d hd x hx=>by
  rw[qa (by rintro rfl;omega)];exact⟨hx,rfl⟩
 refine⟨h.f_ (hc 1 om),h.x_ (hc 2 om) (nR _),h.r_ (hc 3 om) (nR _),h.q_ (hc 4 om) (nR _),fun x hx=>?_⟩;by_cases e:x=g
 .omega
 .rw[qa e] at hx;exact h.sm x hx
def mvH.col (h:mvH κ W κ' W') {g:Nat} (hg:W.heap.size<=g) (c:Nat):mvH κ W (fun x=>if x=g then c else κ' x) W':=⟨h.s,fun x hx=>by rw[qa om];exact h.c x hx,h.k,h.o⟩
def hG.putX (h:hG κ H s W) {gb:Nat} (e2:s.a2=sQ ⟨gb,0,nn⟩) {k:Nat} (hk:k<H.bx.length) (b:R8) (hd:Hd) (hb:iB W hd.1 hd.2.1 hd.2.2 b.l) (hw:(hd.1=nn/\hd.2.1=0)\/∃ g,hd.1=sQ ⟨g,0,nn⟩/\g<W.heap.size/\κ g=2/\g≠gb):hG κ { H with bx:=H.bx.set k b } s (W.setCells gb (k*8) (x8 (b,hd)))/\mvH κ W κ (W.setCells gb (k*8) (x8 (b,hd))):=by
 obtain⟨gb',hs,e,hk2,h1,h2⟩:=h.x;obtain rfl:gb'=gb:=by rw[e2] at e;cases e;rfl
 have hz:W.heap.size<=(W.setCells gb' (k*8) (x8 (b,hd))).heap.size:=by rw[sZ];exact nR _
 have ho:∀ d,d≠2->∀ x,κ x=d->κ x=d/\(W.setCells gb' (k*8) (x8 (b,hd))).heap[x]?=W.heap[x]?:=fun d hd' x hx=>⟨hx,sO _ x (by rintro rfl;omega) _ _ _⟩
 have hp:=h1.put k hk b hd hb (by rcases hw with hw | ⟨g,q1,q2,q3,q4⟩;exact qr hw;exact qx ⟨g,q1,nZ _,q2,q4⟩);refine⟨⟨h.f_ (ho 1 om),⟨gb',_,e,hk2,by rw[sZ,aU];exact hp,fun j c hj hc=>?_⟩,h.r_ (ho 3 om) hz,h.q_ (ho 4 om) hz,fun x hx=>by rw[sZ];exact h.sm x hx⟩,(mvH.refl κ W).cells (qx om) _ _⟩;have hj':j<H.bx.length:=by simpa using hj
 by_cases ej:j=k
 .rw[qc ej] at hc;rcases hw with hw|⟨g,q1,q2,q3,q4⟩
  .rw[hw.1] at hc;cases hc
  .rw[q1] at hc;cases hc;exact q3
 .rw[qa ej] at hc;exact h2 j c hj' hc
def hG.setX (h:hG κ H s W) {gb:Nat} (e2:s.a2=sQ ⟨gb,0,nn⟩) {k:Nat} (hk:k<H.bx.length) (v:Int):hG κ (Dl H k v) s (W.setCell ⟨gb,k*8,nn⟩ (I J v))/\mvH κ W κ (W.setCell ⟨gb,k*8,nn⟩ (I J v)):=by
 obtain⟨gb',hs,e,hk2,h1,h2⟩:=h.x;obtain rfl:gb'=gb:=by rw[e2] at e;cases e;rfl
 have es:Dl H k v = { H with bx:=H.bx.set k { H.bx[k] with x:=v } }:=by unfold Dl;rw[dif_pos hk]
 have hz:(W.setCell ⟨gb',k*8,nn⟩ (I J v)).heap.size=W.heap.size:=pQ;have ho:∀ d,d≠2->∀ x,κ x=d->κ x=d/\(W.setCell ⟨gb',k*8,nn⟩ (I J v)).heap[x]?=W.heap[x]?:=fun d hd' x hx=>⟨hx,sO gb' x (by rintro rfl;omega) [_] _ _⟩
 rw[es];exact⟨⟨h.f_ (ho 1 om),⟨gb',_,e,hk2,by rw[hz];exact h1.setX k hk v,fun j c hj hc=>h2 j c (by simpa using hj) hc⟩,h.r_ (ho 3 om) om,h.q_ (ho 4 om) om,fun x hx=>by rw[hz];exact h.sm x hx⟩,(mvH.refl κ W).cells (qx om) _ [_]⟩
structure fw (w:Wd) (κ0:Nat->Nat) (vp vr vq:Nat) (FL:List Value) (T:TypeId) (κ:Nat->Nat) (H:Ho) (s:Sl) (L:List Value) (W:Wd):Prop where
 p:blk W vp L 41
 r:blk W vr Z10 41
 f:blk W vq FL T
 g:hG κ H s W
 m:mvH κ0 w κ W
 z:κ vp=0/\κ vr=0/\κ vq=0/\vp≠vr/\vp≠vq/\w.heap.size<=vp/\w.heap.size<=vr
variable {κ0 : Nat -> Nat} {p r q : Nat} {FL L : List Value} {T : TypeId} {H' : Ho} {s' : Sl}
def fw.call (h:fw w κ0 p r q FL T κ H s L W) (hg:hG κ' H' s' W'/\mvH κ W κ' W'):fw w κ0 p r q FL T κ' H' s' L W':=
 ⟨hg.2.blk h.p h.z.1,hg.2.blk h.r h.z.2.1,hg.2.blk h.f h.z.2.2.1,hg.1,h.m.trans hg.2,by rw[hg.2.c p h.p.lt,hg.2.c r h.r.lt,hg.2.c q h.f.lt];exact h.z⟩
def fw.below (h:fw w κ0 p r q FL T κ H s L W) (hb:Bl W W'):fw w κ0 p r q FL T κ H s L W':=h.call ⟨h.g.below hb,mvH.of hb⟩
def fw.cells (h:fw w κ0 p r q FL T κ H s L W) (o:Nat) (vs:List Value) {L':List Value} (hL:blk (W.setCells p o vs) p L' 41):fw w κ0 p r q FL T κ H s L' (W.setCells p o vs):=
 ⟨hL,h.r.other h.z.2.2.2.1.symm _ _,h.f.other h.z.2.2.2.2.1.symm _ _,h.g.cells h.z.1 _ _,h.m.cells (qr h.z.2.2.2.2.2.1) _ _,h.z⟩
def fw.set (h:fw w κ0 p r q FL T κ H s L W) (i:Nat) (v:Value):fw w κ0 p r q FL T κ H s (L.set i v) (W.setCell ⟨p,i,nn⟩ v):=h.cells i [v] (h.p.set i v)
def fw.put (h:fw w κ0 p r q FL T κ H s L W) (L':List Value) (hl:L.length=L'.length):fw w κ0 p r q FL T κ H s L' (W.setCells p 0 L'):=h.cells 0 L' (by simpa using blk.put [] L [] L' (by simpa using h.p) hl)
def fw.fin {W8:Wd} (h:fw w κ0 p r q FL T κ H s L W) (e8:W.setCells r 0 (hoL H s)=W8):blk W8 r (hoL H s) 41/\hG κ H s W8/\mvH κ0 w κ W8:=by
 subst e8;exact⟨by simpa using blk.put [] Z10 [] (hoL H s) (by simpa using h.r) rfl,h.g.cells h.z.2.1 _ _,h.m.cells (qr h.z.2.2.2.2.2.2) _ _⟩
def fw.new2 (h:hG κ H s w):fw w κ w.heap.size (w.heap.size+1) (w.heap.size+1) Z10 41 κ H s (hoL H s) ((w.alloc (.cells (hoL H s).toArray 41)).alloc (.cells zX.toArray 41)):=by
 have hb:Bl w ((w.alloc (.cells (hoL H s).toArray 41)).alloc (.cells Z10.toArray 41)):=Zw.alloc pQ _;have hr:blk ((w.alloc (.cells (hoL H s).toArray 41)).alloc (.cells Z10.toArray 41)) (w.heap.size+1) Z10 41:=by simpa using blk.new (w.alloc (.cells (hoL H s).toArray 41)) Z10 41
 exact⟨(blk.new w _ 41).alloc _,hr,hr,h.below hb,mvH.of hb,h.no (nR _),h.no (nA _ _),h.no (nA _ _),om,om,om,om⟩
def fw.new3 (h:hG κ H s w) (FL:List Value):fw w κ w.heap.size (w.heap.size+1+1) (w.heap.size+1) FL 67 κ H s (hoL H s) (((w.alloc (.cells (hoL H s).toArray 41)).alloc (.cells FL.toArray 67)).alloc (.cells zX.toArray 41)):=by
 have hb:Bl w (((w.alloc (.cells (hoL H s).toArray 41)).alloc (.cells FL.toArray 67)).alloc (.cells Z10.toArray 41)):=(Zw.alloc pQ _).alloc (by simp;omega) _;have hr:blk (((w.alloc (.cells (hoL H s).toArray 41)).alloc (.cells FL.toArray 67)).alloc (.cells Z10.toArray 41)) (w.heap.size+1+1) Z10 41:=by simpa using blk.new ((w.alloc (.cells (hoL H s).toArray 41)).alloc (.cells FL.toArray 67)) Z10 41
 have hf:blk ((w.alloc (.cells (hoL H s).toArray 41)).alloc (.cells FL.toArray 67)) (w.heap.size+1) FL 67:=by simpa using blk.new (w.alloc (.cells (hoL H s).toArray 41)) FL 67
 exact⟨((blk.new w _ 41).alloc _).alloc _,hr,hf.alloc _,h.below hb,mvH.of hb,h.no (nR _),h.no (by rw[Nat.add_assoc];exact nA _ _),h.no (nA _ _),om,om,om,om⟩
def hA (w:Wd) (κ:Nat->Nat) (H':Ho) (o:Ending) (w':Wd):Prop:=∃ s' κ',o = rT (aG (hoL H' s').toArray)/\Hid (hG κ' H' s' w'/\mvH κ w κ' w')
abbrev fw2 (w:Wd) (κ0 κ:Nat->Nat) (H:Ho) (s:Sl) (L:List Value) (W:Wd):Prop:=fw w κ0 w.heap.size (w.heap.size+1) (w.heap.size+1) Z10 41 κ H s L W
abbrev fw3 (w:Wd) (κ0:Nat->Nat) (FL:List Value) (κ:Nat->Nat) (H:Ho) (s:Sl) (L:List Value) (W:Wd):Prop:=fw w κ0 w.heap.size (w.heap.size+1+1) (w.heap.size+1) FL 67 κ H s L W
section
variable {ops : Array Oper} {rest : List Oper} {op : Oper} {a : Act} {Q : Exit -> Act -> Wd -> Prop} {x y : Operand}
def fw.ld (h:fw w κ0 p r q FL T κ H s (hoL H' s') W) (K:wpList Tp ops Q rest (a.put op.dst (aG (hoL H' s').toArray)) W) (hgd:op.guard=nn:=by rfl) (ho:op.op = .load 41 x:=by rfl) (hx:a.eval x = pT (sQ ⟨p,0,nn⟩):=by rfl):wpList Tp ops Q (op :: rest) a W:=
 Qz (P:=Tp) hgd 41 x ho p 0 hx (hoL H' s') _ h.p.load underlying41 rfl (px _ _) K
def fw.sv (h:fw w κ0 p r q FL T κ H s (hoL H' s') W) {H2:Ho} {s2:Sl} (K:∀ W8,Hid (fw w κ0 p r q FL T κ H s (hoL H2 s2) W8)->wpList Tp ops Q rest (a.put op.dst undef) W8) (hgd:op.guard=nn:=by rfl) (ho:op.op = .store 41 x y:=by rfl) (hx:a.eval x = pT (sQ ⟨p,0,nn⟩):=by rfl) (hy:a.eval y = aG (hoL H2 s2).toArray:=by rfl):wpList Tp ops Q (op :: rest) a W:=
 QD (P:=Tp) hgd 41 x y ho p 0 (hoL H2 s2).toArray hx hy (h.p.there 0 10 (nR _)) (Cw _ _) (oC _ _) (K _ (h.put (hoL H2 s2) rfl))
def fw.rt (h:fw w κ0 p r q FL T κ H s L W) (K:∀ W8,blk W8 r (hoL H s) 41->Hid (hG κ H s W8/\mvH κ0 w κ W8)->wpList Tp ops Q rest (a.put op.dst undef) W8) (hgd:op.guard=nn:=by rfl) (ho:op.op = .store 41 x y:=by rfl) (hx:a.eval x = pT (sQ ⟨r,0,nn⟩):=by rfl) (hy:a.eval y = aG (hoL H s).toArray:=by rfl):wpList Tp ops Q (op :: rest) a W:=
 QD (P:=Tp) hgd 41 x y ho r 0 (hoL H s).toArray hx hy (h.r.there 0 10 (nR _)) (Cw _ _) (oC _ _) (K _ (h.fin rfl).1 (h.fin rfl).2)
def fw.bx (h:fw w κ0 p r q FL T κ H s L W) {gb k:Nat} (e2:s.a2=sQ ⟨gb,0,nn⟩) (hk:k<H.bx.length) (b:R8) (hd:Hd) (hb:iB W hd.1 hd.2.1 hd.2.2 b.l) (hw:(hd.1=nn/\hd.2.1=0)\/∃ g,hd.1=sQ ⟨g,0,nn⟩/\g<W.heap.size/\κ g=2/\g≠gb)
  (K:∀ W8,Hid (fw w κ0 p r q FL T κ { H with bx:=H.bx.set k b } s L W8)->Hid (∀ x,x≠gb->W8.heap[x]?=W.heap[x]?)->wpList Tp ops Q rest (a.put op.dst undef) W8) (hgd:op.guard=nn:=by rfl) (ho:op.op = .store 116 x y:=by rfl) (hx:a.eval x = pT (sQ ⟨gb,k*8,nn⟩):=by rfl) (hy:a.eval y = aG (x8 (b,hd)).toArray:=by rfl):wpList Tp ops Q (op :: rest) a W:=by
 obtain⟨gb',hs,e,_,h1,_⟩:=h.g.x;obtain rfl:gb'=gb:=by rw[e2] at e;cases e;rfl
 exact QD (P:=Tp) hgd 116 x y ho gb' (k*8) (x8 (b,hd)).toArray hx hy (h1.there k hk) fG (sT _ _ _ _ _ _ _ _ _ _) (K _ (h.call (h.g.putX e2 hk b hd hb hw)) (fun x hx=>sO _ x hx _ _ _))
end
def fw.var (h:fw w κ0 p r q FL T κ H s L W) {L2:List Value} {T2:TypeId} (hb:Bl W W') (h2:blk W' W.heap.size L2 T2):fw w κ0 p r W.heap.size L2 T2 κ H s L W':=
 have h':=h.below hb
 ⟨h'.p,h'.r,h2,h'.g,h'.m,h.z.1,h.z.2.1,h.g.no (nR _),h.z.2.2.2.1,Nat.ne_of_lt h.p.lt,h.z.2.2.2.2.2⟩
def Ij (h:blk W p (hoL H s) 41):(loadVar 41 ⟨p,0,nn⟩).run Tp W = .ok (aG (hoL H s).toArray) W:=QI (P:=Tp) W p 0 41 _ _ h.load underlying41 rfl (px H s)
def Hs (h:hG κ H s w) (ev:R8) (ao:Option Addr) (m c:Nat) (hn:H.qu.length<=1000) (hlo:0<=H.lo/\H.lo<=100000) (hf:iB w ao m c ev.l) (hm:m<=1048576) :
  Calls Tp 167 #[aG (hoL H s).toArray,I J ev.x,I J ev.y,I J ev.z,frV ev.e ev.i ev.r ev.d ao m c] w (hA w κ (pH H ev)):=by
 have hql:=h.n4;obtain⟨x,y,z,e,i,r,d,l⟩:=ev;have hml:m=l.length:=hf.len;subst hml;by_cases hq:(s.n4:Int)<H.c3
 .obtain⟨g4,rs,e4,k4,ho,hmap,hlen,hc⟩:=h.q;refine (Jg w H s 0 g4 rs x y z e i r d ao c l e4 hq om ho hlen (nZ _) hf hm).mono ?_;rintro o w' ⟨g',k',gd,kd,rfl,h1,h2,h3,h4,h5⟩;rw[hql] at hq;have hg4:g4<w.heap.size:=h.sm g4 om;have hgd:=(h1.dat _ (List.mem_append.2 (qx (List.mem_singleton.2 rfl)))).2.2;refine⟨qSl s g' (s.n4+1) k',fun x=>if x<w.heap.size then κ x else if x=g'\/x=gd then 4 else 0,by simp only[hoL,pH,loP,qc hq],?_,⟨h5.size,fun x hx=>qc hx,fun x hx h0=>h2 x (by rintro rfl;omega) hx,h5.os,h5.tape,h5.output⟩⟩
  have hk:∀ d,d≠0->d≠4->∀ x,κ x=d->(if x<w.heap.size then κ x else if x=g'\/x=gd then 4 else 0)=d/\w'.heap[x]?=w.heap[x]?:=fun d hd hd4 x hx=>by
   have hxl:=h.sm x om;rw[qc hxl];exact⟨hx,h2 x (by rintro rfl;omega) hxl⟩
  refine⟨h.f_ (hk 1 om om),h.x_ (hk 2 om om) h5.size,h.r_ (hk 3 om om) h5.size,⟨g',_,rfl,?_,h1,by simp only[pH,quP,qc hq,List.map_append,hmap,Qx,List.map_nil],by simp[qSl,hlen],fun p hp=>?_⟩,fun x hx=>?_⟩
  .rcases h3 with rfl|h3
   .rw[qc hg4];exact k4
   .rw[qa om,qc (qr rfl)]
  .rcases List.mem_append.1 hp with hp|hp
   .rw[qc (h.sm _ (by have:=hc p hp;omega))];exact hc p hp
   .rw[List.mem_singleton.1 hp];show (if gd<w.heap.size then κ gd else if gd=g'\/gd=gd then 4 else 0)=4;rw[qa om,qc (qx rfl)]
  .have:=h5.size;by_cases e:x<w.heap.size
   .omega
   .rw[qa e] at hx;by_cases e2:x=g'\/x=gd
    .have:=h1.lt.2;have:gd<w'.heap.size:=hgd.2;rcases e2 with rfl | rfl <;> omega
    .rw[qa e2] at hx;exact Qy rfl hx
 .refine (Jh w H s x y z e i r d ao c l om hlo).mono ?_;rintro o w' ⟨rfl,hb⟩;rw[hql] at hq;refine⟨s,κ,by simp only[hoL,pH,loP,qa hq],?_,mvH.of hb⟩;have:=h.below hb;have e:(pH H ⟨x,y,z,e,i,r,d,l⟩).qu=H.qu:=by simp only[pH,quP,qa hq]
  exact⟨this.f,this.x,this.r,by rw[e];exact this.q,this.sm⟩
def L5 (h:hG κ H s w) (x y z:Int) (hn:H.qu.length<=1000) (hlo:0<=H.lo/\H.lo<=100000) :
  Calls Tp 166 #[aG (hoL H s).toArray,I J x,I J y,I J z] w (hA w κ (pH H (ev3 x y z))):=by
 have F0:Hid _:=fw.new2 h;have HN:Hid (H.qu.length<=1000/\0<=H.lo/\H.lo<=100000):=⟨hn,hlo⟩
 clear h hn hlo;go_enter func166,ntmps166;go_wp2_with (refine fw.ld F0.o ?_);refine (Hs F0.o.g (ev3 x y z) nn 0 0 HN.o.1 HN.o.2 (yM _) om).mono ?_;rintro o w1 ⟨s1,κ1,rfl,G1⟩;have F1:Hid _:=F0.o.call G1.o;go_wp2_with (refine fw.rt F1.o ?_;intro w8 b8 G8);exact bC results166 (Ij b8) ⟨s1,κ1,rfl,G8⟩
end
end Go.Proofs.YtgfolecanghhhaaGreat
