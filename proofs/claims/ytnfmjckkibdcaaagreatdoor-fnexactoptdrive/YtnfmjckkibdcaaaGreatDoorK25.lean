import Derived.Test.YtnfmjckkibdcaaaGreatDoorK19
import Derived.Test.YtnfmjckkibdcaaaGreatDoorK24
import Derived.Deep.RegionLaw
import Derived.Deep.DeepCutAuto
namespace Go.Proofs.YtnfmjckkibdcaaaGreatDoor
open Go.RowKit
set_option linter.all false
abbrev zHo:Ho:=⟨0,0,0,0,[],[],[],[],0,0⟩
abbrev zSl:Sl:=⟨none,0,0,none,0,0,none,0,0,none,0,0⟩
def CT (W:World):aK W zHo zSl:=⟨⟨rfl,nR _,fun e=>Qz rfl e⟩,⟨rfl,nR _,fun e=>Qz rfl e⟩,⟨rfl,nR _,fun e=>Qz rfl e⟩,⟨rfl,nR _,fun e=>Qz rfl e⟩⟩
open Option renaming none->nn,some->sQ
open Go.Value renaming int->I,slice->sL,bool->bO,pointer->pT,agg->aG
open Go.IntKind renaming i64->J
open Go.Ending renaming returned->rT
variable {W W':World} {B n g T k E T0 T1 T2:Nat} {bx bs:List R8} {hs:Nat->Hd} {H:Ho} {s:Sl}
abbrev z8:R8:=⟨0,0,0,false,0,false,0,[]⟩
structure bxR (B T g n k:Nat) (bx:List R8) (hs:Nat->Hd) (W:World):Prop where
 len:n=bx.length
 cap:n<=k
 lo:B<=g
 hi:g<T
 row:az W g (n*8)
 rng:∀ j (h:j<bx.length),W.rangeAt g (j*8) (x8 (bx[j],hs j))
 dat:∀ j (h:j<bx.length),iB W (hs j).1 (hs j).2.1 (hs j).2.2 bx[j].l/\(((hs j).1=nn/\(hs j).2.1=0)\/∃ b,(hs j).1=sQ ⟨b,0,nn⟩/\B<=b/\b<T/\b≠g)
def iB.none0 {a:Option Addr} {c:Nat} {l:List Nat} (h:iB W a n c l) (hn:n=0):iB W' a n c l:=⟨h.len,h.cap,h.small,fun hne=>Qz (List.length_pos_iff.2 hne) (by have:=h.len;omega)⟩
def bxR.st (h:bxR B T g n k bx hs W) (he:∀ x,B<=x->x<T->W'.heap[x]?=W.heap[x]?):bxR B T g n k bx hs W':=
 ⟨h.len,h.cap,h.lo,h.hi,h.row.up (he g h.lo h.hi),fun j hj=>rangeAt.up (h.rng j hj) (he g h.lo h.hi),fun j hj=>by
  obtain⟨h1,h2⟩:=h.dat j hj
  refine⟨?_,h2⟩
  rcases h2 with⟨e1,e2⟩|⟨b,e1,e2,e3,_⟩
  .exact h1.none0 e2
  .rw[e1] at h1 ⊢
   exact h1.other (he b e2 e3)⟩
def CY {o:Nat} {b:R8} {h:Hd} (hr:W.rangeAt g o (x8 (b,h))) (hd:iB W h.1 h.2.1 h.2.2 b.l):at8 W g o b h.1 h.2.1 h.2.2:=
 ⟨hr 0 _ rfl,hr 1 _ rfl,hr 2 _ rfl,hr 3 _ rfl,hr 4 _ rfl,hr 5 _ rfl,hr 6 _ rfl,hr 7 _ rfl,hd⟩
def bxR.is (h:bxR B T g n k bx hs W):aM W (sQ ⟨g,0,nn⟩) n k bx:=
 ⟨h.len,h.cap,fun _=>⟨g,0,rfl,fun j hj=>⟨_,_,_,by rw[zf];exact CY (h.rng j hj) (h.dat j hj).1⟩⟩⟩
def cR.bxR (h:cR B T E g n k bx W):∃ hs,bxR B T g n k bx hs W:=by
 have hi:=h.is;obtain⟨rs,h2,h3,h4,h5,h6⟩:=h;have hl:=h2.lt;obtain⟨g1,c1,e1,q1,q2,q3,q4⟩:=eY h2.own (by intro e;cases e);rcases cS h2.own with⟨e,_⟩|⟨g2,c2,e2,_,_,_,hrf,hrg⟩
 .cases e
 cases e2;subst h3;refine⟨fun j=>(rs.map fun p=>((sQ ⟨p.2.1,0,nn⟩,p.1.l.length,p.2.2):Hd)).getD j (nn,0,0),⟨hi.len,hi.cap,hl.1,h5,by rw[<- h4];exact hrf,fun j hj=>?_,fun j hj=>?_⟩⟩
 .have hj':j<rs.length:=by simpa using hj
  have e:x8 ((rs.map (·.1))[j],(rs.map fun p=>((sQ ⟨p.2.1,0,nn⟩,p.1.l.length,p.2.2):Hd)).getD j (nn,0,0))=rc8.enc rs[j]:=by
   simp[x8,rc8,List.getD,hj']
  rw[e];intro t u hu;have ht:t<8:=by have:=(List.getElem?_eq_some_iff.mp hu).1;simpa[rc8] using this
  have:=hrg (j*8+t) u (by rw[oM rc8.enc 8 (fun _=>rfl) rs j hj' t ht];exact hu);rw[zf] at this;exact this
 .have hj':j<rs.length:=by simpa using hj
  have hm:=zh hj';obtain⟨d1,d2,d3,d4⟩:=h2.dat rs[j] hm;simp only[Qi,List.getD,List.getElem?_map,qA hj',Option.map_some,Option.getD_some];exact⟨d1,qy ⟨_,rfl,d2,h6 _ hm,d3⟩⟩
def bxR.setX (h:bxR B T g n k bx hs W) (i:Nat) (hi:i<bx.length) (v:Int):bxR B T g n k (bx.set i { bx[i] with x:=v }) hs (W.setCell ⟨g,i*8,nn⟩ (I J v)):=by
 have oth:∀ x,x≠g->(W.setCell ⟨g,i*8,nn⟩ (I J v)).heap[x]?=W.heap[x]?:=fun x hx=>QB W ⟨g,i*8,nn⟩ x _ hx;refine⟨by rw[qK];exact h.len,h.cap,h.lo,h.hi,h.row.setCell _ _,fun j hj=>?_,fun j hj=>?_⟩
 .have hj':j<bx.length:=by simpa using hj
  have ot:∀ t,j*8+t≠i*8->(W.setCell ⟨g,i*8,nn⟩ (I J v)).cell? ⟨g,j*8+t,nn⟩=W.cell? ⟨g,j*8+t,nn⟩:=fun t ht=>QH _ _ _ _ (by intro e;simp at e <;> omega);intro t u hu;have ht:t<8:=by have:=(List.getElem?_eq_some_iff.mp hu).1;simpa[x8] using this
  by_cases e:j=i
  .subst e;rw[Ql] at hu;by_cases et:t=0
   .subst et;have e0:u = I J v:=by simpa[x8] using hu.symm
    subst e0;obtain⟨⟨w0,hw0⟩,_⟩:=h.row (j*8) (by have:=h.len;omega);exact QT _ _ _ hw0
   .rw[ot t om];refine h.rng j hj' t u ?_;rw[<- hu];match t,ht,et with
    | 1,_,_ | 2,_,_ | 3,_,_ | 4,_,_ | 5,_,_ | 6,_,_ | 7,_,_=>rfl
  .rw[Qo (fun x=>e x.symm)] at hu;rw[ot t om];exact h.rng j hj' t u hu
 .have hj':j<bx.length:=by simpa using hj
  have e:(bx.set i { bx[i] with x:=v })[j].l=bx[j].l:=by
   by_cases e:j=i
   .subst e;rw[Ql]
   .rw[Qo (fun x=>e x.symm)]
  rw[e];obtain⟨h1,h2⟩:=h.dat j hj';refine⟨?_,h2⟩;rcases h2 with⟨e1,e2⟩|⟨b,e1,e2,e3,e4⟩
  .exact h1.none0 e2
  .rw[e1] at h1 ⊢;exact h1.other (oth b e4)
structure spS (B T0 T1 T2:Nat) (H:Ho) (s:Sl) (W:World):Prop where
 f:∃ gf,s.a1=sQ ⟨gf,0,nn⟩/\B<=gf/\gf<T0/\bj W (sQ ⟨gf,0,nn⟩) s.n1 s.k1 H.fs
 x:∃ gb hs,s.a2=sQ ⟨gb,0,nn⟩/\bxR T0 T1 gb s.n2 s.k2 H.bx hs W
 r:∃ gq,s.a3=sQ ⟨gq,0,nn⟩/\j0 T1 T2 47 gq s.n3 s.k3 H.ff W
 q:∃ g4,s.a4=sQ ⟨g4,0,nn⟩/\cR T2 W.heap.size 240 g4 s.n4 s.k4 H.qu W
 o:B<=T0/\T0<=T1/\T1<=T2/\T2<=W.heap.size
def spS.is (h:spS B T0 T1 T2 H s W):aK W H s:=by
 obtain⟨gf,e1,_,_,h1⟩:=h.f;obtain⟨gb,hs,e2,h2⟩:=h.x;obtain⟨gq,e3,h3⟩:=h.r;obtain⟨g4,e4,h4⟩:=h.q;exact⟨by rw[e1];exact h1,by rw[e2];exact h2.is,by rw[e3];exact h3.is,by rw[e4];exact h4.is⟩
def cR.mono {T':Nat} (h:cR B T E g n k bs W) (hT:T<=T'):cR B T' E g n k bs W:=by
 obtain⟨rs,h1,h2,h3,h4,h5⟩:=h;exact⟨rs,h1,h2,h3,om,fun p hp=>nL (h5 p hp) hT⟩
def cR.keep (h:cR B T E g n k bs W) (he:∀ x,B<=x->x<T->W'.heap[x]?=W.heap[x]?):cR B T E g n k bs W':=by
 obtain⟨rs,h1,h2,h3,h4,h5⟩:=h;refine⟨rs,⟨oK h1.own (he g h1.lt.1 h4),fun p hp=>?_⟩,h2,h3,h4,h5⟩;obtain⟨d1,d2,d3,d4⟩:=h1.dat p hp;have e:=he _ d2 (h5 p hp);refine⟨d1.other e,d2,d3,?_⟩;rw[Qm d4] at e;exact aJ e
def j0.keep {bs:List R5} (h:j0 B T E g n k bs W) (he:∀ x,B<=x->x<T->W'.heap[x]?=W.heap[x]?):j0 B T E g n k bs W':=by
 obtain⟨rs,h1,h2,h3,h4,h5⟩:=h;refine⟨rs,⟨oK h1.own (he g h1.lt.1 h4),fun p hp=>?_⟩,h2,h3,h4,h5⟩;obtain⟨d1,d2,d3,d4⟩:=h1.dat p hp;have e:=he _ d2 (h5 p hp);refine⟨d1.other e,d2,d3,?_⟩;rw[Qm d4] at e;exact aJ e
def spS.st (h:spS B T0 T1 T2 H s W) (he:∀ x,B<=x->x<W.heap.size->W'.heap[x]?=W.heap[x]?) (hz:W.heap.size<=W'.heap.size):spS B T0 T1 T2 H s W':=by
 obtain⟨o1,o2,o3,o4⟩:=h.o;obtain⟨gf,e1,h1a,h1b,h1⟩:=h.f;obtain⟨gb,hs,e2,h2⟩:=h.x;obtain⟨gq,e3,h3⟩:=h.r;obtain⟨g4,e4,h4⟩:=h.q;exact⟨⟨gf,e1,h1a,h1b,h1.same (he gf h1a om)⟩,⟨gb,hs,e2,h2.st fun x h1 h2=>he x om om⟩,⟨gq,e3,h3.keep fun x h1 h2=>he x om om⟩,⟨g4,e4,(h4.keep fun x h1 h2=>he x om h2).mono hz⟩,⟨o1,o2,o3,om⟩⟩
def spS.below (h:spS B T0 T1 T2 H s W) (hb:Bl W W'):spS B T0 T1 T2 H s W':=h.st (fun x _ hx=>hb.block x hx) hb.size
variable {w:World} {H:Ho} {k:Nat}
def Dl (H:Ho) (k:Nat) (v:Int):Ho:=if h:k<H.bx.length then { H with bx:=H.bx.set k { H.bx[k] with x:=v } } else H
structure reS (w:World) (L:List Value) (W:World):Prop where
 p:blk W w.heap.size L 41
 r:blk W (w.heap.size+1) Z10 41
def reS.new (w:World) (L:List Value):reS w L ((w.alloc (.cells L.toArray 41)).alloc (.cells Z10.toArray 41)):=by
 refine⟨(blk.new w _ 41).alloc _,?_⟩;have:=blk.new (w.alloc (.cells L.toArray 41)) Z10 41;simpa using this
def reS.below {L:List Value} {W W':World} (h:reS w L W) (hb:Bl W W'):reS w L W':=⟨h.p.below hb,h.r.below hb⟩
def yg (hk:k<H.bx.length) (v:Int):Dl H k v = { H with bx:=H.bx.set k { H.bx[k] with x:=v } }:=by
 unfold Dl;rw[dif_pos hk]
def I6 {B T0 T1 T2 gb:Nat} {w5 w6 w9:World} {s:Sl} {hs:Nat->Hd} (h0:spS B T0 T1 T2 H s w) (h5:spS B T0 T1 T2 H s w5) (b5:Bl w w5) (b6:Bl w5 w6) (e2:s.a2=some ⟨gb,0,none⟩) (hx:bxR T0 T1 gb s.n2 s.k2 H.bx hs w6) (hk:k<H.bx.length) (v:Int) (hz:w.heap.size<w5.heap.size/\w.heap.size+1<w5.heap.size) {L:List Value} (e9:(w6.setCell ⟨gb,k*8,none⟩ (I J v)).setCells (w.heap.size+1) 0 L=w9):spS B T0 T1 T2 (Dl H k v) s w9:=by
 have ho:=h0.o;have hxl:=hx.lo;have hxh:=hx.hi;have hz9:w9.heap.size=w6.heap.size:=by rw[<- e9,sZ];simp
 have hz6:=b6.size;have o9:∀ x,x≠w.heap.size+1->w9.heap[x]?=(w6.setCell ⟨gb,k*8,none⟩ (I J v)).heap[x]?:=fun x hx=>by rw[<- e9];exact sO _ x hx _ _ _
 have o7:∀ x,x≠gb->(w6.setCell ⟨gb,k*8,none⟩ (I J v)).heap[x]?=w6.heap[x]?:=fun x hx=>QB w6 ⟨gb,k*8,none⟩ x _ hx;have k9:∀ x,x≠gb->x<w.heap.size->w9.heap[x]?=w.heap[x]?:=fun x h1 h2=>(o9 x om).trans ((o7 x h1).trans ((b6.block x om).trans (b5.block x h2)));rw[yg hk];obtain⟨gf,e1,h1a,h1b,h1⟩:=h0.f;obtain⟨gq,e3,h3⟩:=h0.r;obtain⟨g4,e4,h4⟩:=h0.q;refine⟨⟨gf,e1,h1a,h1b,h1.same (k9 gf om om)⟩,⟨gb,hs,e2,(hx.setX k hk v).st fun x h1 h2=>o9 x om⟩,⟨gq,e3,h3.keep fun x h1 h2=>k9 x om om⟩,⟨g4,e4,?_⟩,⟨ho.1,ho.2.1,ho.2.2.1,om⟩⟩;exact (h4.keep fun x h1 h2=>k9 x om h2).mono om
open Go.Proofs.Tryz renaming prog->Tp
def Fl (W:World) (H:Ho) (s:Sl) (h:aK W H s) (hn:H.le 1048576):Calls Tp 55 #[aG (hoL H s).toArray] W fun o w'=>∃ s' T0 T1 T2,o = rT (aG (hoL H s').toArray)/\spS (W.heap.size+3) T0 T1 T2 H s' w'/\s'.n2=H.bx.length/\s'.n4=H.qu.length/\Bl W w':=by
 rw[<- gR];refine (tl W H s h hn).mono ?_;rintro o w' ⟨gf,kf,gb,kb,gq,kq,g4,k4,T0,T1,T2,T3,rfl,⟨o1,o2,o3,o4,o5,o6⟩,hst,_,hb⟩;obtain⟨h1,h2,h3,h4⟩:=hst.now;obtain⟨hs,h2'⟩:=h2.bxR;exact⟨⟨some ⟨gf,0,none⟩,s.n1,kf,some ⟨gb,0,none⟩,s.n2,kb,some ⟨gq,0,none⟩,s.n3,kq,some ⟨g4,0,none⟩,s.n4,k4⟩,T0,T1,T2,by rw[gR],⟨⟨gf,rfl,o1,o2,h1⟩,⟨gb,hs,rfl,h2'⟩,⟨gq,rfl,h3⟩,⟨g4,rfl,h4.mono o6⟩,⟨om,o3,o4,om⟩⟩,h.bx.len,h.qu.len,hb⟩
end Go.Proofs.YtnfmjckkibdcaaaGreatDoor
