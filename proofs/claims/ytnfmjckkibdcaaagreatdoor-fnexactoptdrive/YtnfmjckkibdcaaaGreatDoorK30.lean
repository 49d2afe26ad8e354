import Derived.Maps.OwnSet
import Derived.Test.YtnfmjckkibdcaaaGreatDoorK29
import Derived.Deep.RegionHeld3
namespace Go.Proofs.YtnfmjckkibdcaaaGreatDoor
open Go.RowKit
set_option linter.all false
open Go.Value renaming int->I,slice->sL,bool->bO,pointer->pT,agg->aG
open Go.IntKind renaming i64->J
open Go.Ending renaming returned->rT
open Go.Proofs.Tryz renaming prog->Tp
variable {hs:Nat->Hd} {W w0 W':World} {H:Ho} {f1 f3 nm:Nat} {D:DataW Unit} {bx:List R8}
structure Lg where
 P:Nat
 mb:Nat
 r1:Nat
 r3:Nat
 gf:Nat
 n1:Nat
 kf:Nat
 gb:Nat
 n2:Nat
 kb:Nat
 gr:Nat
 gq:Nat
abbrev lhL (G:Lg) (H:Ho) (f1 f3:Nat):List Value:=liL H.c0 G.r1 H.c2 G.r3 G.gf G.n1 G.kf G.gb G.n2 G.kb G.mb G.gr f1 H.ff.length G.gq f3 H.qu.length H.lo H.st
structure lhB (G:Lg) (H:Ho) (f1 f3:Nat):Prop where
 e1:H.c1=(G.r1:Int)
 e3:H.c3=(G.r3:Int)
 m1:G.n1<=1000
 m2:G.n2<=8
 nk:G.n2<=G.kb
 b1:f1<G.r1/\G.r1<=1000/\H.ff.length<=G.r1
 b3:f3<G.r3/\G.r3<=1000/\H.qu.length<=G.r3
 lo:0<=H.lo/\H.lo<=100000
 s3:∀ j (h:j<H.ff.length),H.ff[j].l.length<=1048576
 s4:∀ j (h:j<H.qu.length),H.qu[j].l.length<=1048576
structure lhD (w0:World) (G:Lg):Prop where
 p:G.gf≠G.P/\G.gb≠G.P/\G.gr≠G.P/\G.gq≠G.P/\G.mb≠G.P
 m:G.gf≠G.mb/\G.gb≠G.mb/\G.gr≠G.mb/\G.gq≠G.mb
 g:G.gf<G.gb/\G.gb<G.gr/\G.gr<G.gq
 lo:w0.heap.size<=G.gf/\w0.heap.size<=G.P/\w0.heap.size<=G.mb
structure lh (w0:World) (G:Lg) (H:Ho) (f1 f3:Nat) (hs:Nat->Hd) (nm:Nat) (D:DataW Unit) (W:World):Prop where
 p:blk W G.P (lhL G H f1 f3) 213
 f:bj W (some ⟨G.gf,0,none⟩) G.n1 G.kf H.fs
 x:dr8 w0 0 G.gb G.n2 H.bx hs 0 W
 r:cE w0 W G.gr G.r1 f1 H.ff
 rz:bu W G.gr (G.r1*5)
 q:cw w0 W G.gq G.r3 f3 H.qu
 qz:bu W G.gq (G.r3*8)
 m:W.ownsMap (H:=Unit) Tp 3 (plainElem Tp 3) G.mb nm D
 b:Bl w0 W
 hi:G.gf<W.heap.size/\G.gr<W.heap.size/\G.gq<W.heap.size
 d:lhD w0 G
 bd:lhB G H f1 f3
def lh.below {G:Lg} (h:lh w0 G H f1 f3 hs nm D W) (hb:Bl W W'):lh w0 G H f1 f3 hs nm D W':=
 ⟨h.p.below hb,h.f.below hb,h.x.below hb,h.r.keep (hb.block _ h.hi.2.1),h.rz.below hb h.hi.2.1,h.q.keep (hb.block _ h.hi.2.2),h.qz.below hb h.hi.2.2,h.m.kept (row:=none) ⟨hb.os,hb.tape,hb.output,hb.size,fun k hk _=>hb.block k hk⟩ pQ,h.b.trans (hb.mono h.b.size),⟨nL h.hi.1 hb.size,nL h.hi.2.1 hb.size,nL h.hi.2.2 hb.size⟩,h.d,h.bd⟩
def lh.told {G:Lg} (h:lh w0 G H f1 f3 hs nm D W):Calls Tp 130 #[pT (some ⟨G.P,0,none⟩)] W (pn W H):=by
 obtain⟨c0,c1,c2,c3,fs,bx,ff,qu,lo,st⟩:=H;have e1:=h.bd.e1;have e3:=h.bd.e3;simp only[] at e1 e3;subst e1 e3;have h2:=h.bd.m2;exact xJ W G.P G.mb c0 c2 G.r1 G.r3 fs bx ff qu lo st G.gf G.n1 G.kf G.gb G.n2 G.kb G.gr f1 ff.length G.gq f3 qu.length h.p h.f (h.x.is h.bd.nk) (h.r.base h.b) (h.q.base h.b) rfl rfl h.bd.m1 om h.bd.b1 h.bd.b3 h.x.sm h.bd.s3 h.bd.s4
def lh.box {G:Lg} {hs':Nat->Hd} (h:lh w0 G H f1 f3 hs nm D W) (hx:dr8 w0 0 G.gb G.n2 bx hs' 0 W') (he:∀ q,q≠G.gb->W'.heap[q]?=W.heap[q]?) (hz:W'.heap.size=W.heap.size):lh w0 G { H with bx:=bx } f1 f3 hs' nm D W':=by
 have dp:=h.d.p;have dm:=h.d.m;have dg:=h.d.g;refine⟨h.p.kept (he _ om),h.f.same (he _ om),hx,h.r.keep (he _ om),h.rz.up (he _ om),h.q.keep (he _ om),h.qz.up (he _ om),?_,hx.bel,by rw[hz];exact h.hi,h.d,⟨h.bd.e1,h.bd.e3,h.bd.m1,h.bd.m2,h.bd.nk,h.bd.b1,h.bd.b3,h.bd.lo,h.bd.s3,h.bd.s4⟩⟩;obtain⟨es,clock,q1,q2⟩:=h.m;exact⟨es,clock,(he _ om).trans q1,q2⟩
def dr8.setX {b0:World} {g n:Nat} (h:dr8 b0 0 g n bx hs 0 W) (i:Nat) (hi:i<bx.length) (v:Int):dr8 b0 0 g n (bx.set i { bx[i] with x:=v }) hs 0 (W.setCell ⟨g,i*8,none⟩ (I J v)):=by
 have hln:=h.len;have el:∀ j (hj:j<(bx.set i { bx[i] with x:=v }).length) (hj':j<bx.length),(bx.set i { bx[i] with x:=v })[j].l=bx[j].l:=by
  intro j hj hj';by_cases e:j=i
  .subst e;rw[Ql]
  .rw[Qo (fun x=>e x.symm)]
 refine⟨by rw[qK];exact h.len,h.row.setCell _ _,fun j hj=>?_,fun j hj _=>?_,fun j hj hk=>Qz hk (nN _),fun i j _ hj=>Qz hj (nN _),h.lo,?_,h.bel.setCell (by exact h.lo) _,fun j hj=>?_⟩
 .have hj':j<bx.length:=by simpa using hj
  have ot:∀ t,j*8+t≠i*8->(W.setCell ⟨g,i*8,none⟩ (I J v)).cell? ⟨g,j*8+t,none⟩=W.cell? ⟨g,j*8+t,none⟩:=fun t ht=>QH _ _ _ _ (by intro e;simp at e <;> omega);intro t u hu;have ht:t<8:=by have:=(List.getElem?_eq_some_iff.mp hu).1;simpa[x8] using this
  by_cases e:j=i
  .subst e;rw[Ql] at hu;by_cases et:t=0
   .subst et;have e0:u = I J v:=by simpa[x8] using hu.symm
    subst e0;obtain⟨⟨w0,hw0⟩,_⟩:=h.row (j*8) om;exact QT _ _ _ hw0
   .rw[ot t om];refine h.rng j hj' t u ?_;rw[<- hu];match t,ht,et with
    | 1,_,_ | 2,_,_ | 3,_,_ | 4,_,_ | 5,_,_ | 6,_,_ | 7,_,_=>rfl
  .rw[Qo (fun x=>e x.symm)] at hu;rw[ot t om];exact h.rng j hj' t u hu
 .have hj':j<bx.length:=by simpa using hj
  rw[el j hj hj'];exact h.old j hj' (nZ _)
 .exact nL h.hi ((bW 0 W).setCell (nZ _) _).size
 .have hj':j<bx.length:=by simpa using hj
  rw[el j hj hj'];exact h.sm j hj'
def lh.state {G:Lg} (h:lh w0 G H f1 f3 hs nm D W) (i:Nat) (hi:i<H.bx.length) (v:Int):lh w0 G (Dl H i v) f1 f3 hs nm D (W.setCell ⟨G.gb,i*8,none⟩ (I J v)):=by
 unfold Dl;rw[dif_pos hi];exact h.box (h.x.setX i hi v) (fun q hq=>QB W ⟨G.gb,i*8,none⟩ q _ hq) pQ
set_option maxRecDepth 20000
set_option maxHeartbeats 16000000
variable {w0 W W':World} {G:Lg} {f1 f3 nm M:Nat} {hs:Nat->Hd} {D:DataW Unit} {C:Co}
def stZ (te re:Int):Int:=if te=256 then 2 else if 128<=te\/128<=re then 1 else 0
def ID (w:World) (te re:Int):Calls Tp 292 #[bO (te == 256),I J te,I J re] w fun o w'=>o = rT (I J (stZ te re))/\w=w':=by
 have h:=Hk w (if te=256 then 7 else 0) te re (te == 256) (by by_cases e:te=256 <;> simp[e]);have e:esZ (if te=256 then 7 else 0) te re=stZ te re:=by
  unfold esZ stZ;by_cases e:te=256 <;> simp[e]
 rw[e] at h;exact h
def lh.other {H:Ho} (h:lh w0 G H f1 f3 hs nm D W) (M:Nat) (hM:M≠G.P/\M≠G.mb/\M≠G.gf/\M≠G.gb/\M≠G.gr/\M≠G.gq/\w0.heap.size<=M) (he:∀ q,q≠M->W'.heap[q]?=W.heap[q]?) (hz:W'.heap.size=W.heap.size) (hb':Bl w0 W'):lh w0 G H f1 f3 hs nm D W':=by
 obtain⟨a1,a2,a3,a4,a5,a6,a7⟩:=hM;refine⟨h.p.kept (he _ (Ne.symm a1)),h.f.same (he _ (Ne.symm a3)),h.x.at0 (he _ (Ne.symm a4)) hb',h.r.keep (he _ (Ne.symm a5)),h.rz.up (he _ (Ne.symm a5)),h.q.keep (he _ (Ne.symm a6)),h.qz.up (he _ (Ne.symm a6)),?_,hb',by rw[hz];exact h.hi,h.d,h.bd⟩;obtain⟨es,clock,q1,q2⟩:=h.m;exact⟨es,clock,(he _ (Ne.symm a2)).trans q1,q2⟩
structure mc (w0:World) (M:Nat) (G:Lg) (C:Co) (f1 f3:Nat) (hs:Nat->Hd) (nm:Nat) (D:DataW Unit) (W:World):Prop where
 m:blk W M (mcL G.P C) 151
 h:lh w0 G C.ho f1 f3 hs nm D W
 o:M≠G.P/\M≠G.mb/\M≠G.gf/\M≠G.gb/\M≠G.gr/\M≠G.gq/\w0.heap.size<=M
def mc.below (h:mc w0 M G C f1 f3 hs nm D W) (hb:Bl W W'):mc w0 M G C f1 f3 hs nm D W':=⟨h.m.below hb,h.h.below hb,h.o⟩
def mc.set {C':Co} (h:mc w0 M G C f1 f3 hs nm D W) (k:Nat) (v:Value) (e:(mcL G.P C).set k v=mcL G.P C') (eh:C'.ho=C.ho):mc w0 M G C' f1 f3 hs nm D (W.setCell ⟨M,k,none⟩ v):=by
 refine⟨by rw[<- e];exact h.m.set k v,?_,h.o⟩;rw[eh];exact h.h.other M h.o (fun q hq=>QB W ⟨M,k,none⟩ q _ hq) pQ (h.h.b.setCell (by exact h.o.2.2.2.2.2.2) _)
def IC (h:mc w0 M G C f1 f3 hs nm D W):Calls Tp 272 #[pT (some ⟨M,0,none⟩)] W fun o w'=>o = rT (I J (stZ C.te C.re))/\mc w0 M G C f1 f3 hs nm D w'/\Bl W w':=by
 have HS:Hid (∀ X,Calls Tp 292 #[bO (C.te == 256),I J C.te,I J C.re] X fun o w'=>o = rT (I J (stZ C.te C.re))/\X=w'):=fun X=>ID X C.te C.re;have H0:Hid (mc w0 M G C f1 f3 hs nm D W):=h;clear h;go_enter Tryz.func272,Tryz.ntmps272;go_wp2_with fail;refine QK (S:=fun X=>mc w0 M G C f1 f3 hs nm D X) kr ?_;have hS:mc w0 M G C f1 f3 hs nm D (World.drew W):=H0.o.below (bW _ _).drew;have HBD:Hid (Bl W (World.drew W)):=(bW _ _).drew;clear H0;change wpAnyH Tp _ _ _ _ _ _ _ (World.drew W);generalize World.drew W=v0 at *;refine tk 0 ?_;refine tk 1 ?_;refine tk 2 ?_;refine tk 3 ?_ (hy:=fun W hSw=>by (have y:=hSw.m.cell 1 (I J C.te) rfl;go_simp;try rfl));refine tk 4 ?_;refine tk 5 ?_;refine tk 6 ?_;refine tk 7 ?_;refine tk 8 ?_ (hy:=fun W hSw=>by (have y:=hSw.m.cell 1 (I J C.te) rfl;go_simp;try rfl));refine tk 9 ?_;refine tk 10 ?_;refine tk 11 ?_;refine tk 12 ?_ (hy:=fun W hSw=>by (have y:=hSw.m.cell 2 (I J C.re) rfl;go_simp;try rfl));refine al 13 fun K2 hK2=>?_;go_simp;refine (HS.o _).mono ?_;rintro o v1 ⟨rfl,rfl⟩;go_wp2_with fail;refine hK2.out _ _ hS (fun hS2=>?_);clear hK2 K2 hS;have hS:=hS2;clear hS2;refine tk 14 ?_;refine QI kr ?_ _;go_wp2_with fail;go_ret;exact⟨rfl,hS,HBD.o⟩
def A1 (w:World) (H:Ho) (s:Sl) (h:aK w H s) (hs:dz s) (hok:dP H) (hm:H.le 1048576) :
  Calls Tp 123 #[aG (hoL H s).toArray] w fun o w'=>∃ (G:Lg) (hd:Nat->Hd),o = rT (pT (some ⟨G.P,0,none⟩))/\lh w G H 0 0 hd G.n2 (dQ Unit H.bx G.n2) w'/\G.n2=H.bx.length:=by
 obtain⟨c0,c1,c2,c3,fs,bx,ff,qu,lo,st⟩:=H;obtain⟨a1,n1,k1,a2,n2,k2,a3,n3,k3,a4,n4,k4⟩:=s;obtain⟨⟨g1,e1⟩,⟨g2,e2⟩⟩:=hs;simp only[] at e1 e2;subst e1 e2;have hcf:=qP hok.cf;have hnf:=hok.nf;have hnq:=hok.nq;have l1:=h.fs.len;have l2:=h.bx.len;have l3:=h.ff.len;have l4:=h.qu.len;have hf16:fs.length<=16:=by
  have:=hok.fs;unfold gV at this;simp at this;exact this.1
 have hm2:=hm.bd;have hm3:=hm.fd;have hm4:=hm.qd;have hm1:=hm.fs;simp only[] at hcf hnf hnq l1 l2 l3 l4 hm1 hm2 hm3 hm4;have hn2:=hok.n2;simp only[] at hn2;obtain⟨r1,hr1⟩ : ∃ r1:Nat,c1=(r1:Int):=⟨c1.toNat,om⟩
 obtain⟨r3,hr3⟩ : ∃ r3:Nat,c3=(r3:Int):=⟨c3.toNat,om⟩
 subst hr1 hr3;subst l3 l4;refine (oa Unit w c0 c2 r1 r3 fs bx ff qu lo st g1 n1 k1 g2 0 n2 k2 a3 ff.length k3 a4 qu.length k4 h.fs h.bx h.ff h.qu om om om om hok.bx hm2).mono ?_;rintro o w' ⟨P,mb,gf,kf,gb,kb,hs',gr,gq,rfl,hl⟩;have hx:=hl.x.k w' rfl hl.b;have hr:=hl.r.k w' rfl hl.b;have hq:=hl.q.k w' rfl hl.b;exact⟨⟨P,mb,r1,r3,gf,n1,kf,gb,n2,kb,gr,gq⟩,hs',rfl,⟨hl.p,hl.f.k w' rfl hl.b,hx.1,hr.1,hr.2,hq.1,hq.2,hl.m,hl.b,⟨hl.f.lt,hl.r.lt,hl.q.lt⟩,⟨⟨hl.f.n1,hl.x.n1,hl.r.n1,hl.q.n1,hl.n1⟩,⟨hl.f.n2,hl.x.n2,hl.r.n2,hl.q.n2⟩,hl.d,⟨hl.lo.1,hl.lo.2,hl.n2⟩⟩,⟨rfl,rfl,by show n1<=1000;omega,by show n2<=8;omega,hx.2,⟨by show 0<r1;omega,by show r1<=1000;omega,by show ff.length<=r1;omega⟩,⟨by show 0<r3;omega,by show r3<=1000;omega,by show qu.length<=r3;omega⟩,⟨hok.l0,hok.l1⟩,hm3,hm4⟩⟩,l2⟩
end Go.Proofs.YtnfmjckkibdcaaaGreatDoor
