import Derived.Test.YtnfmjckkibdcaaaGreatDoorK34
import Derived.Maps.OwnSet
import Derived.Deep.RegionHeld3
namespace Go.Proofs.YtnfmjckkibdcaaaGreatDoor
open Go.RowKit
set_option linter.all false
open Go.Value renaming int->I,slice->sL,bool->bO,pointer->pT,agg->aG
open Go.IntKind renaming i64->J
open Go.Ending renaming returned->rT
open Go.Proofs.Tryz renaming prog->Tp
variable {w0 W:World} {H:Ho} {f1 f3 nm:Nat} {hs:Nat->Hd} {D:DataW Unit}
structure Lg where
 P:Nat
 mb:Nat
 r1:Nat
 r3:Nat
 gf:Nat
 n1:Nat
 kf:Nat
 gb:Nat
 n2:Nat
 kb:Nat
 gr:Nat
 gq:Nat
abbrev lhL (G:Lg) (H:Ho) (f1 f3:Nat):List Value:=liL H.c0 G.r1 H.c2 G.r3 G.gf G.n1 G.kf G.gb G.n2 G.kb G.mb G.gr f1 H.ff.length G.gq f3 H.qu.length H.lo H.st
structure lhB (G:Lg) (H:Ho) (f1 f3:Nat):Prop where
 e1:H.c1=(G.r1:Int)
 e3:H.c3=(G.r3:Int)
 m1:G.n1<=1000
 m2:G.n2<=8
 nk:G.n2<=G.kb
 b1:f1<G.r1/\G.r1<=1000/\H.ff.length<=G.r1
 b3:f3<G.r3/\G.r3<=1000/\H.qu.length<=G.r3
 lo:0<=H.lo/\H.lo<=100000
 s3:∀ j (h:j<H.ff.length),H.ff[j].l.length<=1048576
 s4:∀ j (h:j<H.qu.length),H.qu[j].l.length<=1048576
structure lhD (w0:World) (G:Lg):Prop where
 p:G.gf≠G.P/\G.gb≠G.P/\G.gr≠G.P/\G.gq≠G.P/\G.mb≠G.P
 m:G.gf≠G.mb/\G.gb≠G.mb/\G.gr≠G.mb/\G.gq≠G.mb
 g:G.gf<G.gb/\G.gb<G.gr/\G.gr<G.gq
 lo:w0.heap.size<=G.gf/\w0.heap.size<=G.P/\w0.heap.size<=G.mb
structure lh (w0:World) (G:Lg) (H:Ho) (f1 f3:Nat) (hs:Nat->Hd) (nm:Nat) (D:DataW Unit) (W:World):Prop where
 p:blk W G.P (lhL G H f1 f3) 213
 f:bj W (some ⟨G.gf,0,none⟩) G.n1 G.kf H.fs
 x:dr8 w0 0 G.gb G.n2 H.bx hs 0 W
 r:cE w0 W G.gr G.r1 f1 H.ff
 rz:bu W G.gr (G.r1*5)
 q:cw w0 W G.gq G.r3 f3 H.qu
 qz:bu W G.gq (G.r3*8)
 m:W.ownsMap (H:=Unit) Tp 3 (plainElem Tp 3) G.mb nm D
 b:Bl w0 W
 hi:G.gf<W.heap.size/\G.gr<W.heap.size/\G.gq<W.heap.size
 d:lhD w0 G
 bd:lhB G H f1 f3
def lh.below {G:Lg} {W':World} (h:lh w0 G H f1 f3 hs nm D W) (hb:Bl W W'):lh w0 G H f1 f3 hs nm D W':=
 ⟨h.p.below hb,h.f.below hb,h.x.below hb,h.r.keep (hb.block _ h.hi.2.1),h.rz.below hb h.hi.2.1,h.q.keep (hb.block _ h.hi.2.2),h.qz.below hb h.hi.2.2,h.m.kept (row:=none) ⟨hb.os,hb.tape,hb.output,hb.size,fun k hk _=>hb.block k hk⟩ pQ,h.b.trans (hb.mono h.b.size),⟨nL h.hi.1 hb.size,nL h.hi.2.1 hb.size,nL h.hi.2.2 hb.size⟩,h.d,h.bd⟩
def lh.told {G:Lg} (h:lh w0 G H f1 f3 hs nm D W):Calls Tp 130 #[pT (some ⟨G.P,0,none⟩)] W (pn W H):=by
 obtain⟨c0,c1,c2,c3,fs,bx,ff,qu,lo,st⟩:=H;have e1:=h.bd.e1;have e3:=h.bd.e3;simp only[] at e1 e3;subst e1 e3;have h2:=h.bd.m2;exact xJ W G.P G.mb c0 c2 G.r1 G.r3 fs bx ff qu lo st G.gf G.n1 G.kf G.gb G.n2 G.kb G.gr f1 ff.length G.gq f3 qu.length h.p h.f (h.x.is h.bd.nk) (h.r.base h.b) (h.q.base h.b) rfl rfl h.bd.m1 om h.bd.b1 h.bd.b3 h.x.sm h.bd.s3 h.bd.s4
structure mc (w0:World) (M:Nat) (G:Lg) (C:Co) (f1 f3:Nat) (hs:Nat->Hd) (nm:Nat) (D:DataW Unit) (W:World):Prop where
 m:blk W M (mcL G.P C) 151
 h:lh w0 G C.ho f1 f3 hs nm D W
 o:M≠G.P/\M≠G.mb/\M≠G.gf/\M≠G.gb/\M≠G.gr/\M≠G.gq/\w0.heap.size<=M
def mc.below {w0:World} {M:Nat} {G:Lg} {C:Co} {f1 f3:Nat} {hs:Nat->Hd} {nm:Nat} {D:DataW Unit} {W W':World} (h:mc w0 M G C f1 f3 hs nm D W) (hb:Bl W W'):mc w0 M G C f1 f3 hs nm D W':=⟨h.m.below hb,h.h.below hb,h.o⟩
set_option maxHeartbeats 16000000
def A1 (w:World) (H:Ho) (s:Sl) (h:aK w H s) (hs:dz s) (hok:dP H) (hm:H.le 1048576) :
  Calls Tp 123 #[aG (hoL H s).toArray] w fun o w'=>∃ (G:Lg) (hd:Nat->Hd),o = rT (pT (some ⟨G.P,0,none⟩))/\lh w G H 0 0 hd G.n2 (dQ Unit H.bx G.n2) w'/\G.n2=H.bx.length:=by
 obtain⟨c0,c1,c2,c3,fs,bx,ff,qu,lo,st⟩:=H;obtain⟨a1,n1,k1,a2,n2,k2,a3,n3,k3,a4,n4,k4⟩:=s;obtain⟨⟨g1,e1⟩,⟨g2,e2⟩⟩:=hs;simp only[] at e1 e2;subst e1 e2;have hcf:=qP hok.cf;have hnf:=hok.nf;have hnq:=hok.nq;have l1:=h.fs.len;have l2:=h.bx.len;have l3:=h.ff.len;have l4:=h.qu.len;have hf16:fs.length<=16:=by
  have:=hok.fs;unfold gV at this;simp at this;exact this.1
 have hm2:=hm.bd;have hm3:=hm.fd;have hm4:=hm.qd;have hm1:=hm.fs;simp only[] at hcf hnf hnq l1 l2 l3 l4 hm1 hm2 hm3 hm4;have hn2:=hok.n2;simp only[] at hn2;obtain⟨r1,hr1⟩ : ∃ r1:Nat,c1=(r1:Int):=⟨c1.toNat,om⟩
 obtain⟨r3,hr3⟩ : ∃ r3:Nat,c3=(r3:Int):=⟨c3.toNat,om⟩
 subst hr1 hr3;subst l3 l4;refine (oa Unit w c0 c2 r1 r3 fs bx ff qu lo st g1 n1 k1 g2 0 n2 k2 a3 ff.length k3 a4 qu.length k4 h.fs h.bx h.ff h.qu om om om om hok.bx hm2).mono ?_;rintro o w' ⟨P,mb,gf,kf,gb,kb,hs',gr,gq,rfl,hl⟩;have hx:=hl.x.k w' rfl hl.b;have hr:=hl.r.k w' rfl hl.b;have hq:=hl.q.k w' rfl hl.b;exact⟨⟨P,mb,r1,r3,gf,n1,kf,gb,n2,kb,gr,gq⟩,hs',rfl,⟨hl.p,hl.f.k w' rfl hl.b,hx.1,hr.1,hr.2,hq.1,hq.2,hl.m,hl.b,⟨hl.f.lt,hl.r.lt,hl.q.lt⟩,⟨⟨hl.f.n1,hl.x.n1,hl.r.n1,hl.q.n1,hl.n1⟩,⟨hl.f.n2,hl.x.n2,hl.r.n2,hl.q.n2⟩,hl.d,⟨hl.lo.1,hl.lo.2,hl.n2⟩⟩,⟨rfl,rfl,by show n1<=1000;omega,by show n2<=8;omega,hx.2,⟨by show 0<r1;omega,by show r1<=1000;omega,by show ff.length<=r1;omega⟩,⟨by show 0<r3;omega,by show r3<=1000;omega,by show qu.length<=r3;omega⟩,⟨hok.l0,hok.l1⟩,hm3,hm4⟩⟩,l2⟩
end Go.Proofs.YtnfmjckkibdcaaaGreatDoor
