import Derived.Test.YtgfolecanghhhaaGreatK18
import Derived.Test.YtgfolecanghhhaaGreatK27
import Derived.Maps.OwnSet
import Derived.Deep.RegionHeld3
namespace Go.Proofs.YtgfolecanghhhaaGreat
open Option renaming none->nn,some->sQ
open Go.RowKit
set_option linter.all false
open Go.Value renaming int->I,slice->sL,bool->bO,pointer->pT,agg->aG
open Go.IntKind renaming i64->J
open Go.Ending renaming returned->rT
open Go.Proofs.Tryz renaming prog->Tp
section
variable {W u w0 W' b0:World} {hs:Nat->Hd} {H:Ho} {f1 f3 nm g n r3 t q room first:Nat} {D:DataW Unit} {qu bx:List R8} {e:R8}
structure Lg where
 P:Nat
 mb:Nat
 r1:Nat
 r3:Nat
 gf:Nat
 n1:Nat
 kf:Nat
 gb:Nat
 n2:Nat
 kb:Nat
 gr:Nat
 gq:Nat
 s:Nat->Value
 u:World
def GQ (u:World) (q:Nat):Prop:=∀ i,u.cell? ⟨q,i,nn⟩=nn
def Gy (h:u.heap.size<=q):GQ u q:=fun i=>by
 cases e:u.cell? ⟨q,i,nn⟩ with
 | none=>rfl
 | some v=>exact Qy (QC u _ e) (by show ¬ q<_;omega)
def hne {p:Nat} (hq:¬ GQ u q) (hp:GQ u p):q≠p:=fun e=>hq (by rw[e];exact hp)
def kpt (u W:World):Prop:=u.heap.size<=W.heap.size/\∀ q i x,u.cell? ⟨q,i,nn⟩=sQ x->W.heap[q]?=u.heap[q]?
def kpt.to (h:kpt u W) (hz:W.heap.size<=W'.heap.size) (he:∀ q,¬ GQ u q->q<W.heap.size->W'.heap[q]?=W.heap[q]?):kpt u W':=⟨nT h.1 hz,fun q i x hx=>(he q (fun hh=>by rw[hh i] at hx;cases hx) (nL (QC u _ hx) h.1)).trans (h.2 q i x hx)⟩
def kpt.of (h:Bl u W):kpt u W:=⟨h.size,fun q i x hx=>h.block q (QC u _ hx)⟩
def iB.kpt {a:Option Addr} {cap:Nat} {l:List Nat} (h:iB u a n cap l) (k:kpt u W):iB W a n cap l:=by
 refine⟨h.len,h.cap,h.small,fun hl=>?_⟩;obtain⟨g,off,ha,hc⟩:=h.cells hl;refine⟨g,off,ha,fun j hj=>?_⟩;have h1:=hc j hj;have h2:=k.2 g (off+j) _ h1;rw[<- h1];simp only[World.cell?,h2]
def cE.kpt {L:List R5} (h:cE u W g room first L) (k:kpt u W):cE W W g room first L:=fun i hi=>by
 obtain⟨ao,m,c,h1,h2⟩:=h i hi;exact⟨ao,m,c,h1,h2.kpt k⟩
def cw.kpt {L:List R8} (h:cw u W g room first L) (k:kpt u W):cw W W g room first L:=fun i hi=>by
 obtain⟨ao,m,c,h1,h2⟩:=h i hi;exact⟨ao,m,c,h1,h2.kpt k⟩
abbrev lhL (G:Lg) (H:Ho) (f1 f3:Nat):List Value:=liL H.c0 G.r1 H.c2 G.r3 G.gf G.n1 G.kf G.gb G.n2 G.kb G.mb G.gr f1 H.ff.length G.gq f3 H.qu.length H.lo H.st
structure lhB (G:Lg) (H:Ho) (f1 f3:Nat):Prop where
 e1:H.c1=(G.r1:Int)
 e3:H.c3=(G.r3:Int)
 m1:G.n1<=1000
 m2:G.n2<=8
 nk:G.n2<=G.kb
 b1:f1<G.r1/\G.r1<=1000/\H.ff.length<=G.r1
 b3:f3<G.r3/\G.r3<=1000/\H.qu.length<=G.r3
 lo:0<=H.lo/\H.lo<=100000
 s3:∀ j (h:j<H.ff.length),H.ff[j].l.length<=1048576
 s4:∀ j (h:j<H.qu.length),H.qu[j].l.length<=1048576
structure lhD (w0:World) (G:Lg):Prop where
 p:G.gf≠G.P/\G.gb≠G.P/\G.gr≠G.P/\G.gq≠G.P/\G.mb≠G.P
 m:G.gf≠G.mb/\G.gb≠G.mb/\G.gr≠G.mb/\G.gq≠G.mb
 g:G.gf<G.gb/\G.gb<G.gr/\G.gr<G.gq
 lo:w0.heap.size<=G.gf/\w0.heap.size<=G.P/\w0.heap.size<=G.mb
 u:GQ G.u G.P/\GQ G.u G.mb/\GQ G.u G.gb/\GQ G.u G.gr/\GQ G.u G.gq
 wu:∀ a n c l,iB w0 a n c l->iB G.u a n c l
structure lh (w0:World) (G:Lg) (H:Ho) (f1 f3:Nat) (hs:Nat->Hd) (nm:Nat) (D:DataW Unit) (W:World):Prop where
 p:blk W G.P (lhL G H f1 f3) 205
 f:bj W (sQ ⟨G.gf,0,nn⟩) G.n1 G.kf H.fs
 x:dr8 w0 0 G.gb G.n2 H.bx hs 0 W
 r:cE G.u W G.gr G.r1 f1 H.ff
 rz:cu W G.gr (G.r1*5)
 q:cw G.u W G.gq G.r3 f3 H.qu
 qz:cu W G.gq (G.r3*8)
 m:W.ownsMap (H:=Unit) Tp 3 (plainElem Tp 3) G.mb nm D
 b:Bl w0 W
 hi:G.gf<W.heap.size/\G.gr<W.heap.size/\G.gq<W.heap.size
 d:lhD w0 G
 bd:lhB G H f1 f3
 k:kpt G.u W
def lh.below {G:Lg} (h:lh w0 G H f1 f3 hs nm D W) (hb:Bl W W'):lh w0 G H f1 f3 hs nm D W':=
 ⟨h.p.below hb,h.f.below hb,h.x.below hb,h.r.keep (hb.block _ h.hi.2.1),h.rz.below hb h.hi.2.1,h.q.keep (hb.block _ h.hi.2.2),h.qz.below hb h.hi.2.2,h.m.kept (row:=nn) ⟨hb.os,hb.tape,hb.output,hb.size,fun k hk _=>hb.block k hk⟩ pQ,h.b.trans (hb.mono h.b.size),⟨nL h.hi.1 hb.size,nL h.hi.2.1 hb.size,nL h.hi.2.2 hb.size⟩,h.d,h.bd,h.k.to hb.size fun q _ hq=>hb.block q hq⟩
def lh.told {G:Lg} (h:lh w0 G H f1 f3 hs nm D W):Calls Tp 158 #[pT (sQ ⟨G.P,0,nn⟩)] W (pn W H):=by
 obtain⟨c0,c1,c2,c3,fs,bx,ff,qu,lo,st⟩:=H;have e1:=h.bd.e1;have e3:=h.bd.e3;simp only[] at e1 e3;subst e1 e3;have h2:=h.bd.m2;exact xJ W G.P G.mb c0 c2 G.r1 G.r3 fs bx ff qu lo st G.gf G.n1 G.kf G.gb G.n2 G.kb G.gr f1 ff.length G.gq f3 qu.length h.p h.f (h.x.is h.bd.nk) (h.r.kpt h.k) (h.q.kpt h.k) rfl rfl h.bd.m1 om h.bd.b1 h.bd.b3 h.x.sm h.bd.s3 h.bd.s4
def lh.box {G:Lg} {hs':Nat->Hd} (h:lh w0 G H f1 f3 hs nm D W) (hx:dr8 w0 0 G.gb G.n2 bx hs' 0 W') (he:∀ q,q≠G.gb->W'.heap[q]?=W.heap[q]?) (hz:W'.heap.size=W.heap.size):lh w0 G { H with bx:=bx } f1 f3 hs' nm D W':=by
 have dp:=h.d.p;have dm:=h.d.m;have dg:=h.d.g;refine⟨h.p.kept (he _ om),h.f.same (he _ om),hx,h.r.keep (he _ om),h.rz.up (he _ om),h.q.keep (he _ om),h.qz.up (he _ om),?_,hx.bel,by rw[hz];exact h.hi,h.d,⟨h.bd.e1,h.bd.e3,h.bd.m1,h.bd.m2,h.bd.nk,h.bd.b1,h.bd.b3,h.bd.lo,h.bd.s3,h.bd.s4⟩,h.k.to (Nat.le_of_eq hz.symm) fun q hq _=>he q (hne hq h.d.u.2.2.1)⟩;obtain⟨es,clock,q1,q2⟩:=h.m;exact⟨es,clock,(he _ om).trans q1,q2⟩
def dr8.put (h:dr8 b0 0 g n bx hs 0 W) (i:Nat) (hi:i<bx.length) (b:R8) (hd:Hd) (hb:iB b0 hd.1 hd.2.1 hd.2.2 b.l) (hl:b.l.length<=1048576):dr8 b0 0 g n (bx.set i b) (fun j=>if j=i then hd else hs j) 0 (aQ W g (i*8) (x8 (b,hd))):=by
 have hln:=h.len;have hlo:=h.lo;refine⟨by rw[qJ];exact h.len,h.row.setRow _ _ _ _,fun j hj=>?_,fun j hj _=>?_,fun j hj hk=>Qy hk (nN _),fun i j _ hj=>Qy hj (nN _),h.lo,?_,?_,fun j hj=>?_⟩
 .have hj':j<bx.length:=by simpa using hj
  by_cases e:j=i
  .subst e;rw[Qk,qc rfl];intro t u hu;have ht:t<(x8 (b,hd)).length:=(List.getElem?_eq_some_iff.mp hu).1;have ht8:t<8:=by simpa[x8] using ht
   rw[aL g _ _ _ t ht ((h.row (j*8+t) om).1)];rw[qy ht] at hu;exact hu
  .rw[Qn (fun x=>e x.symm),qa e];intro t u hu;have ht:t<8:=by have:=(List.getElem?_eq_some_iff.mp hu).1;simpa[x8] using this
   rw[rO g _ _ _ _ (by simp[x8];omega)];exact h.rng j hj' t u hu
 .have hj':j<bx.length:=by simpa using hj
  by_cases e:j=i
  .subst e;rw[Qk,qc rfl];exact hb
  .rw[Qn (fun x=>e x.symm),qa e];exact h.old j hj' (nZ _)
 .rw[<- aU,sZ];exact h.hi
 .rw[<- aU];exact sW h.lo _ _ h.bel
 .have hj':j<bx.length:=by simpa using hj
  by_cases e:j=i
  .subst e;rw[Qk];exact hl
  .rw[Qn (fun x=>e x.symm)];exact h.sm j hj'
def dr8.setX (h:dr8 b0 0 g n bx hs 0 W) (i:Nat) (hi:i<bx.length) (v:Int):dr8 b0 0 g n (bx.set i { bx[i] with x:=v }) hs 0 (W.setCell ⟨g,i*8,nn⟩ (I J v)):=by
 have hln:=h.len;have el:∀ j (hj:j<(bx.set i { bx[i] with x:=v }).length) (hj':j<bx.length),(bx.set i { bx[i] with x:=v })[j].l=bx[j].l:=by
  intro j hj hj';by_cases e:j=i
  .subst e;rw[Qk]
  .rw[Qn (fun x=>e x.symm)]
 refine⟨by rw[qJ];exact h.len,h.row.setCell _ _,fun j hj=>?_,fun j hj _=>?_,fun j hj hk=>Qy hk (nN _),fun i j _ hj=>Qy hj (nN _),h.lo,?_,h.bel.setCell (by exact h.lo) _,fun j hj=>?_⟩
 .have hj':j<bx.length:=by simpa using hj
  have ot:∀ t,j*8+t≠i*8->(W.setCell ⟨g,i*8,nn⟩ (I J v)).cell? ⟨g,j*8+t,nn⟩=W.cell? ⟨g,j*8+t,nn⟩:=fun t ht=>QG _ _ _ _ (by intro e;simp at e <;> omega);intro t u hu;have ht:t<8:=by have:=(List.getElem?_eq_some_iff.mp hu).1;simpa[x8] using this
  by_cases e:j=i
  .subst e;rw[Qk] at hu;by_cases et:t=0
   .subst et;have e0:u = I J v:=by simpa[x8] using hu.symm
    subst e0;obtain⟨⟨w0,hw0⟩,_⟩:=h.row (j*8) om;exact QS _ _ _ hw0
   .rw[ot t om];refine h.rng j hj' t u ?_;rw[<- hu];match t,ht,et with
    | 1,_,_ | 2,_,_ | 3,_,_ | 4,_,_ | 5,_,_ | 6,_,_ | 7,_,_=>rfl
  .rw[Qn (fun x=>e x.symm)] at hu;rw[ot t om];exact h.rng j hj' t u hu
 .have hj':j<bx.length:=by simpa using hj
  rw[el j hj hj'];exact h.old j hj' (nZ _)
 .exact nL h.hi ((bW 0 W).setCell (nZ _) _).size
 .have hj':j<bx.length:=by simpa using hj
  rw[el j hj hj'];exact h.sm j hj'
def lh.state {G:Lg} (h:lh w0 G H f1 f3 hs nm D W) (i:Nat) (hi:i<H.bx.length) (v:Int):lh w0 G (Dl H i v) f1 f3 hs nm D (W.setCell ⟨G.gb,i*8,nn⟩ (I J v)):=by
 unfold Dl;rw[dif_pos hi];exact h.box (h.x.setX i hi v) (fun q hq=>QA W ⟨G.gb,i*8,nn⟩ q _ hq) pQ
def lh.free {G:Lg} (h:lh w0 G H f1 f3 hs nm D W) (i:Nat) (hi:i<H.bx.length):lh w0 G (lD H i) f1 f3 (fun j=>if j=i then (nn,0,0) else hs j) nm D (W.setCells G.gb (i*8) Z8):=by
 have e:W.setCells G.gb (i*8) Z8=aQ W G.gb (i*8) (x8 (z8,(nn,0,0))):=aU ..;have hx:=h.x.put i hi z8 (nn,0,0) (yM _) (nZ _);rw[<- e] at hx;exact h.box hx (fun q hq=>sO _ q hq _ _ _) (sZ ..)
def lh.tags {G:Lg} {nm':Nat} {D':DataW Unit} (h:lh w0 G H f1 f3 hs nm D W) (hg:W.grownBy W' (sQ G.mb)) (hm:W'.ownsMap (H:=Unit) Tp 3 (plainElem Tp 3) G.mb nm' D'):lh w0 G H f1 f3 hs nm' D' W':=by
 have dp:=h.d.p;have dm:=h.d.m;have dg:=h.d.g;have he:∀ q,q≠G.mb->q<W.heap.size->W'.heap[q]?=W.heap[q]?:=fun q hq hl=>hg.block q hl (by simpa using hq);have hb':Bl w0 W':=h.b.grown hg h.b.size (fun k hk=>by cases hk;exact h.d.lo.2.2);have hz:=hg.size;exact⟨h.p.kept (he _ om h.p.lt),h.f.same (he _ om h.hi.1),h.x.at0 (he _ om h.x.hi) hb',h.r.keep (he _ om h.hi.2.1),h.rz.up (he _ om h.hi.2.1),h.q.keep (he _ om h.hi.2.2),h.qz.up (he _ om h.hi.2.2),hm,hb',⟨by have:=h.hi;omega,by have:=h.hi;omega,by have:=h.hi;omega⟩,h.d,h.bd,h.k.to hz fun q hq hl=>he q (hne hq h.d.u.2.1) hl⟩
def pJ (ht:t=min (r3-qu.length) 1) (hl:qu.length<=r3):qu++[e].take t=quP (r3:Int) qu e:=by
 unfold quP;by_cases h:(qu.length:Int)<(r3:Int)
 .have e1:t=1:=om;rw[qc h,e1];rfl
 .have e1:t=0:=om;rw[qa h,e1];simp
def yY {lo:Int} (ht:t=min (r3-qu.length) 1) (hl:qu.length<=r3) (h0:0<=lo/\lo<=100000):min (lo+(1-(t:Int))) 100000=loP (r3:Int) qu lo:=by
 unfold loP;by_cases h:(qu.length:Int)<(r3:Int)
 .have e1:t=1:=om;rw[qc h,e1];omega
 .have e1:t=0:=om;rw[qa h,e1];split <;> omega
def uJ (ht:t=min (r3-qu.length) 1) (hl:qu.length<=r3):(quP (r3:Int) qu e).length=qu.length+t:=by
 rw[<- pJ ht hl];by_cases h:t=0
 .subst h;simp
 .have e1:t=1:=om;subst e1;simp
def mS {c:Int} (h:∀ j (h:j<qu.length),qu[j].l.length<=1048576) (he:e.l.length<=1048576):∀ j (h:j<(quP c qu e).length),(quP c qu e)[j].l.length<=1048576:=by
 unfold quP;split
 .intro j hj;by_cases hj':j<qu.length
  .rw[qN hj'];exact h j hj'
  .rw[List.getElem_append_right om];simpa using he
 .exact h
def lh.post {G:Lg} (h:lh w0 G H f1 f3 hs nm D W) (ev:R8) (ao:Option Addr) (m c:Nat) (hby:iB G.u ao m c ev.l) (hl:ev.l.length<=1048576) :
  Calls Tp 213 #[pT (sQ ⟨G.P,0,nn⟩),aG #[I J ev.x,I J ev.y,I J ev.z,bO ev.e,I .u32 (ev.i:Int),bO ev.r,I J ev.d,sL ao m c]] W fun o w'=>o = rT (.tuple #[])/\lh w0 G (pH H ev) f1 f3 hs nm D w'/\(∀ b,b≠G.P->b≠G.gq->b<W.heap.size->w'.heap[b]?=W.heap[b]?)/\W.heap.size<=w'.heap.size:=by
 have dp:=h.d.p;have dm:=h.d.m;have dg:=h.d.g;have dl:=h.d.lo;have hb3:=h.bd.b3;refine (yv H.c0 H.c2 G.r1 G.gf G.n1 G.kf G.gb G.n2 G.kb G.mb G.gr f1 H.ff.length H.lo H.st G.u W G.P G.gq G.r3 f3 H.qu ev.x ev.y ev.z ev.e ev.i ev.r ev.d ao m c ev.l h.p om h.qz h.hi.2.2 h.q hb3.1 hb3.2.2 hb3.2.1 hby h.bd.lo.1 h.bd.lo.2 _ rfl).mono ?_;rintro o w' ⟨rfl,hq⟩;have hb':Bl w0 w':=by
  refine⟨hq.o.1.trans h.b.os,hq.o.2.1.trans h.b.tape,hq.o.2.2.trans h.b.output,nT h.b.size hq.s,fun b hb=>?_⟩;rw[hq.k b om om (nL hb h.b.size)];exact h.b.block b hb
 have he:∀ q,q≠G.P->q≠G.gq->q<W.heap.size->w'.heap[q]?=W.heap[q]?:=hq.k;have hz:=hq.s;have hi:=h.hi;refine⟨rfl,⟨?_,h.f.same (he _ om om hi.1),h.x.at0 (he _ om om h.x.hi) hb',h.r.keep (he _ om om hi.2.1),h.rz.up (he _ om om hi.2.1),?_,hq.z,?_,hb',⟨om,om,om⟩,h.d,⟨h.bd.e1,h.bd.e3,h.bd.m1,h.bd.m2,h.bd.nk,h.bd.b1,⟨hb3.1,hb3.2.1,?_⟩,?_,h.bd.s3,?_⟩,h.k.to hz fun q hq hl=>he q (hne hq h.d.u.1) (hne hq h.d.u.2.2.2.2) hl⟩,he,hz⟩
 .have:=hq.p;rw[yY rfl hb3.2.2 h.bd.lo,<- h.bd.e3] at this;have e2:H.qu.length+min (G.r3-H.qu.length) 1=(pH H ev).qu.length:=by
   show _=(quP H.c3 H.qu ev).length;rw[h.bd.e3,uJ rfl hb3.2.2]
  rw[e2] at this;exact this
 .show cw G.u w' G.gq G.r3 f3 (quP H.c3 H.qu ev);rw[h.bd.e3,<- pJ rfl hb3.2.2];exact hq.r
 .obtain⟨es,clock,q1,q2⟩:=h.m;exact⟨es,clock,(he _ om om h.m.lt).trans q1,q2⟩
 .show (quP H.c3 H.qu ev).length<=_;rw[h.bd.e3,uJ rfl hb3.2.2];omega
 .show 0<=loP H.c3 H.qu H.lo/\loP H.c3 H.qu H.lo<=100000;have:=h.bd.lo;unfold loP;split
  .exact this
  .split <;> omega
 .exact mS h.bd.s4 hl
end
open Go.Proofs.Tryz
set_option maxRecDepth 20000
set_option maxHeartbeats 16000000
section
variable {w0 W W':World} {G:Lg} {f1 f3 nm M:Nat} {hs:Nat->Hd} {D:DataW Unit} {C:Co} {H:Ho}
def stZ (te re:Int):Int:=if te=256 then 2 else if 128<=te\/128<=re then 1 else 0
def Kd (w:World) (te re:Int):Calls Tp 236 #[bO (te == 256),I J te,I J re] w fun o w'=>o = rT (I J (stZ te re))/\w=w':=by
 have h:=Ja w (if te=256 then 7 else 0) te re (te == 256) (by by_cases e:te=256 <;> simp[e]);have e:esZ (if te=256 then 7 else 0) te re=stZ te re:=by
  unfold esZ stZ;by_cases e:te=256 <;> simp[e]
 rw[e] at h;exact h
def lh.other (h:lh w0 G H f1 f3 hs nm D W) (M:Nat) (hM:M≠G.P/\M≠G.mb/\M≠G.gf/\M≠G.gb/\M≠G.gr/\M≠G.gq/\w0.heap.size<=M) (he:∀ q,q≠M->W'.heap[q]?=W.heap[q]?) (hz:W'.heap.size=W.heap.size) (hb':Bl w0 W') (hu:GQ G.u M):lh w0 G H f1 f3 hs nm D W':=by
 obtain⟨a1,a2,a3,a4,a5,a6,a7⟩:=hM;refine⟨h.p.kept (he _ (Ne.symm a1)),h.f.same (he _ (Ne.symm a3)),h.x.at0 (he _ (Ne.symm a4)) hb',h.r.keep (he _ (Ne.symm a5)),h.rz.up (he _ (Ne.symm a5)),h.q.keep (he _ (Ne.symm a6)),h.qz.up (he _ (Ne.symm a6)),?_,hb',by rw[hz];exact h.hi,h.d,h.bd,h.k.to (Nat.le_of_eq hz.symm) fun q hq _=>he q (hne hq hu)⟩;obtain⟨es,clock,q1,q2⟩:=h.m;exact⟨es,clock,(he _ (Ne.symm a2)).trans q1,q2⟩
def sgF (s:Nat->Value):List Value:=[s 0,s 1,s 2,s 3,s 4,s 5,s 6,s 7,s 8,s 9]
def mcS (G:Lg) (C:Co):List Value:=mcH G.P C++(sgF G.s++prL)
def II (G:Lg) (C:Co):(mcS G C).length=46:=rfl
def zs (k:Nat):Value:=sgL.getD k (bO false)
def lh.re (h:lh w0 G H f1 f3 hs nm D W) (s:Nat->Value):lh w0 { G with s:=s } H f1 f3 hs nm D W:=⟨h.p,h.f,h.x,h.r,h.rz,h.q,h.qz,h.m,h.b,h.hi,⟨h.d.p,h.d.m,h.d.g,h.d.lo,h.d.u,h.d.wu⟩,⟨h.bd.e1,h.bd.e3,h.bd.m1,h.bd.m2,h.bd.nk,h.bd.b1,h.bd.b3,h.bd.lo,h.bd.s3,h.bd.s4⟩,h.k⟩
structure mc (w0:World) (M:Nat) (G:Lg) (C:Co) (f1 f3:Nat) (hs:Nat->Hd) (nm:Nat) (D:DataW Unit) (W:World):Prop where
 m:blk W M (mcS G C) 147
 h:lh w0 G C.ho f1 f3 hs nm D W
 o:M≠G.P/\M≠G.mb/\M≠G.gf/\M≠G.gb/\M≠G.gr/\M≠G.gq/\w0.heap.size<=M
 e:GQ G.u M
def mc.below (h:mc w0 M G C f1 f3 hs nm D W) (hb:Bl W W'):mc w0 M G C f1 f3 hs nm D W':=⟨h.m.below hb,h.h.below hb,h.o,h.e⟩
def mc.set {C':Co} (h:mc w0 M G C f1 f3 hs nm D W) (k:Nat) (v:Value) (e:(mcS G C).set k v=mcS G C') (eh:C'.ho=C.ho):mc w0 M G C' f1 f3 hs nm D (W.setCell ⟨M,k,none⟩ v):=by
 refine⟨by rw[<- e];exact h.m.set k v,?_,h.o,h.e⟩;rw[eh];exact h.h.other M h.o (fun q hq=>QA W ⟨M,k,none⟩ q _ hq) pQ (h.h.b.setCell (by exact h.o.2.2.2.2.2.2) _) h.e
def mc.post (h:mc w0 M G C f1 f3 hs nm D W) (k a:Int) :
  Calls Tp 213 #[pT (some ⟨G.P,0,none⟩),aG #[I J k,I J a,I J 0,bO false,I .u32 0,bO false,I J 0,sL none 0 0]] W fun o w'=>o = rT (.tuple #[])/\mc w0 M G { C with ho:=pH C.ho ⟨k,a,0,false,0,false,0,[]⟩ } f1 f3 hs nm D w':=by
 refine (h.h.post ⟨k,a,0,false,0,false,0,[]⟩ none 0 0 (yM _) (nZ _)).mono ?_;rintro o w' ⟨rfl,h1,h2,h3⟩;exact⟨rfl,h.m.kept (h2 M h.o.1 h.o.2.2.2.2.2.1 h.m.lt),h1,h.o,h.e⟩
def It (h:mc w0 M G C f1 f3 hs nm D W):Calls Tp 216 #[pT (some ⟨M,0,none⟩)] W fun o w'=>o = rT (I J (stZ C.te C.re))/\mc w0 M G C f1 f3 hs nm D w'/\Bl W w':=by
 have HS:Hid (∀ X,Calls Tp 236 #[bO (C.te == 256),I J C.te,I J C.re] X fun o w'=>o = rT (I J (stZ C.te C.re))/\X=w'):=fun X=>Kd X C.te C.re;have H0:Hid (mc w0 M G C f1 f3 hs nm D W):=h;clear h;go_enter func216,ntmps216;go_wp2_with fail;refine QJ (S:=fun X=>mc w0 M G C f1 f3 hs nm D X) kr ?_;have hS:mc w0 M G C f1 f3 hs nm D (World.drew W):=H0.o.below (bW _ _).drew;have HBD:Hid (Bl W (World.drew W)):=(bW _ _).drew;clear H0;change wpAnyH Tp _ _ _ _ _ _ _ (World.drew W);generalize World.drew W=v0 at *;refine tk 0 ?_;refine tk 1 ?_;refine tk 2 ?_;refine tk 3 ?_ (hy:=fun W hSw=>by (have y:=hSw.m.cell 1 (I J C.te) rfl;go_simp;try rfl));refine tk 4 ?_;refine tk 5 ?_;refine tk 6 ?_;refine tk 7 ?_;refine tk 8 ?_ (hy:=fun W hSw=>by (have y:=hSw.m.cell 1 (I J C.te) rfl;go_simp;try rfl));refine tk 9 ?_;refine tk 10 ?_;refine tk 11 ?_;refine tk 12 ?_ (hy:=fun W hSw=>by (have y:=hSw.m.cell 2 (I J C.re) rfl;go_simp;try rfl));refine al 13 fun K2 hK2=>?_;go_simp;refine (HS.o _).mono ?_;rintro o v1 ⟨rfl,rfl⟩;go_wp2_with fail;refine hK2.out _ _ hS (fun hS2=>?_);clear hK2 K2 hS;have hS:=hS2;clear hS2;refine tk 14 ?_;refine QH kr ?_ _;go_wp2_with fail;go_ret;exact⟨rfl,hS,HBD.o⟩
end
def A1 (w:World) (H:Ho) (s:Sl) (h:aK w H s) (hs:dz s) (hok:dP H) (hm:H.le 1048576) :
  Calls Tp 84 #[aG (hoL H s).toArray] w fun o w'=>∃ (G:Lg) (hd:Nat->Hd),o = rT (pT (some ⟨G.P,0,none⟩))/\lh w G H 0 0 hd G.n2 (dQ Unit H.bx G.n2) w'/\G.n2=H.bx.length:=by
 obtain⟨c0,c1,c2,c3,fs,bx,ff,qu,lo,st⟩:=H;obtain⟨a1,n1,k1,a2,n2,k2,a3,n3,k3,a4,n4,k4⟩:=s;obtain⟨⟨g1,e1⟩,⟨g2,e2⟩⟩:=hs;simp only[] at e1 e2;subst e1 e2;have hcf:=qO hok.cf;have hnf:=hok.nf;have hnq:=hok.nq;have l1:=h.fs.len;have l2:=h.bx.len;have l3:=h.ff.len;have l4:=h.qu.len;have hf16:fs.length<=16:=by
  have:=hok.fs;unfold gV at this;simp at this;exact this.1
 have hm2:=hm.bd;have hm3:=hm.fd;have hm4:=hm.qd;have hm1:=hm.fs;simp only[] at hcf hnf hnq l1 l2 l3 l4 hm1 hm2 hm3 hm4;have hn2:=hok.n2;simp only[] at hn2;obtain⟨r1,hr1⟩ : ∃ r1:Nat,c1=(r1:Int):=⟨c1.toNat,om⟩
 obtain⟨r3,hr3⟩ : ∃ r3:Nat,c3=(r3:Int):=⟨c3.toNat,om⟩
 subst hr1 hr3;subst l3 l4;refine (oa Unit w c0 c2 r1 r3 fs bx ff qu lo st g1 n1 k1 g2 0 n2 k2 a3 ff.length k3 a4 qu.length k4 h.fs h.bx h.ff h.qu om om om om hok.bx hm2).mono ?_;rintro o w' ⟨P,mb,gf,kf,gb,kb,hs',gr,gq,rfl,hl⟩;have hx:=hl.x.k w' rfl hl.b;have hr:=hl.r.k w' rfl hl.b;have hq:=hl.q.k w' rfl hl.b;exact⟨⟨P,mb,r1,r3,gf,n1,kf,gb,n2,kb,gr,gq,fun _=>bO false,w⟩,hs',rfl,⟨hl.p,hl.f.k w' rfl hl.b,hx.1,hr.1,hr.2,hq.1,hq.2,hl.m,hl.b,⟨hl.f.lt,hl.r.lt,hl.q.lt⟩,⟨⟨hl.f.n1,hl.x.n1,hl.r.n1,hl.q.n1,hl.n1⟩,⟨hl.f.n2,hl.x.n2,hl.r.n2,hl.q.n2⟩,hl.d,⟨hl.lo.1,hl.lo.2,hl.n2⟩,(by have a1:=hl.d;have a2:=hl.lo;have a3:=hl.n2;exact⟨Gy (u:=w) (q:=P) om,Gy (u:=w) (q:=mb) om,Gy (u:=w) (q:=gb) om,Gy (u:=w) (q:=gr) om,Gy (u:=w) (q:=gq) om⟩),fun _ _ _ _ h=>h⟩,⟨rfl,rfl,by show n1<=1000;omega,by show n2<=8;omega,hx.2,⟨by show 0<r1;omega,by show r1<=1000;omega,by show ff.length<=r1;omega⟩,⟨by show 0<r3;omega,by show r3<=1000;omega,by show qu.length<=r3;omega⟩,⟨hok.l0,hok.l1⟩,hm3,hm4⟩,kpt.of hl.b⟩,l2⟩
section
variable {H:Ho}
def Ho.le.post {ev:R8} (h:H.le 1048576) (hq:H.qu.length<=1000) (hl:ev.l.length<=1048576):(pH H ev).le 1048576:=by
 refine⟨h.fs,h.bx,h.ff,?_,h.bd,h.fd,mS h.qd hl⟩;show (quP H.c3 H.qu ev).length<=_;unfold quP;split
 .rw[qe,qm];omega
 .exact h.qu
def Ho.le.set (h:H.le 1048576) (k:Nat) (b:R8) (hb:b.l.length<=1048576):Ho.le { H with bx:=H.bx.set k b } 1048576:=by
 refine⟨h.fs,by show (H.bx.set k b).length<=_;rw[qJ];exact h.bx,h.ff,h.qu,fun j hj=>?_,h.fd,h.qd⟩;have hj':j<H.bx.length:=by simpa using hj
 show (H.bx.set k b)[j].l.length<=_;by_cases e:j=k
 .subst e;rw[Qk];exact hb
 .rw[Qn (fun x=>e x.symm)];exact h.bd j hj'
def Ho.le.free (h:H.le 1048576) (k:Nat):(lD H k).le 1048576:=h.set k z8 (nZ _)
def Ho.le.state (h:H.le 1048576) (k:Nat) (v:Int):(Dl H k v).le 1048576:=by
 unfold Dl;split
 .rename_i hk;exact h.set k _ (h.bd k hk)
 .exact h
def Hq {sent:Bool} (h:H.le 1048576) (hq:H.qu.length<=1000):(Cz H sent).le 1048576:=by
 unfold Cz;split
 .rename_i hk;split
  .exact Ho.le.post (h.free _) hq (h.bd _ hk)
  .split
   .exact Ho.le.post (h.free _) hq (nZ _)
   .exact h.state _ _
 .exact h
end
end Go.Proofs.YtgfolecanghhhaaGreat
