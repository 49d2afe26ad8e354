import Derived.Test.YtnfmjckkibdcaaaGreatDoorK06
import Derived.ProofKit
import Derived.OpenShut
import Derived.Lib.SmallJoins
namespace Go.Proofs.YtnfmjckkibdcaaaGreatDoor
set_option linter.all false
open Option renaming none->nn,some->sQ
set_option maxRecDepth 20000
open Go.ChangeShapes Go.WideShapes Go.ChangeAt Go.RowKit
open Go.Value renaming int->I,slice->sL,bool->bO,pointer->pT,agg->aG
open Go.IntKind renaming i64->J
open Go.Ending renaming returned->rT
open Go.Proofs.Tryz renaming prog->Tp
variable {W:World} {fuel:Nat} {v:Value} {cs:List Value}
def Tryz.cells3:Tp.cellsOf 3=1:=kr
def Tryz.cells4:Tp.cellsOf 4=1:=kr
def Tryz.cells5:Tp.cellsOf 5=1:=kr
def Tryz.cells44:Tp.cellsOf 44=1:=kr
def Tryz.cells45:Tp.cellsOf 45=1:=kr
def Tryz.cells244:Tp.cellsOf 244=3:=kr
def Tryz.cells64:Tp.cellsOf 64=5:=kr
def Tryz.cells233:Tp.cellsOf 233=8:=kr
def Tryz.cells236:Tp.cellsOf 236=8:=kr
def uf {H:Type} {enc:TypeId × Value->H} {y:DataW H × List MemPlace}
  (h:DataW.trod enc Tp W 0 (fun _=>true) true fuel 45 [v]=sQ y):∃ a n cap l,v = sL a n cap/\iB W a n cap l/\n<=maxLen:=by
 rcases open_ints Tryz.underlying45 Tryz.underlying5 Tryz.cells5 h with⟨hcs,_⟩|⟨x,n,c,zs,hcs,_,hl,hm,hz,_,hcell,hwz⟩
 .simp at hcs;exact⟨nn,0,0,[],hcs,⟨rfl,nR _,(fun x hx=>by cases hx),fun e=>Qz rfl e⟩,by unfold maxLen;omega⟩
 .simp at hcs;have hz':zs.length=c:=by simpa using hz
  have hb:∀ z ∈ zs,0<=z/\z<256:=by
   intro z hzz;have:=bounds_u8 (hwz z hzz);omega
  have hlen:(zs.take n).length=n:=by rw[qj];omega
  refine⟨sQ x,n,c,(zs.take n).map Int.toNat,hcs,⟨by rw[qV,hlen],hl,?_,?_⟩,om⟩
  .intro u hu;rw[List.mem_map] at hu;obtain⟨z,hz1,rfl⟩:=hu;have:=hb z (qL hz1);omega
  .intro hne;have hn0:0<n:=by
    rcases Nat.eq_zero_or_pos n with e|e
    .subst e;simp at hne
    .exact e
   obtain⟨b,off,spot⟩:=x;have hc0:=hcell 0 om;have hspot:spot=nn:=by simpa[Addr.add] using World.cell?_spot hc0
   subst hspot;refine⟨b,off,rfl,fun j hj=>?_⟩;have hj':j<n:=by rw[qV,hlen] at hj;exact hj
   have hcj:=hcell j om;have e2:(⟨b,off,nn⟩ : Addr).add j=⟨b,off+j,nn⟩:=by simp only[Addr.add];split <;> simp_all
   rw[e2] at hcj;rw[hcj];have hzj:zs.getD j 0=zs[j]'om:=by simp[List.getD,show j<zs.length by omega]
   have hbj:=hb (zs[j]'om) (qn _);rw[hzj,Qi,List.getElem_take];congr 2;omega
def vU {H:Type} {enc:TypeId × Value->H} {y:DataW H × List MemPlace}
  (h:DataW.trod enc Tp W 0 (fun _=>true) true fuel 244 cs=sQ y):∃ b:R3,cs=[bO b.e,I .u32 b.m,I .u32 b.k]:=by
 obtain⟨xs,n,_,_,hcl,hlen,hfs⟩:=Q0 Tryz.underlying244 h;rw[Tryz.cells244] at hcl;match cs,hcl with
 | [c0,c1,c2],_=>
  match xs,hlen with
  | [y0,y1,y2],_=>
   have h0:DataW.trod enc Tp W 0 (fun _=>true) true n 4 (List.take (Tp.cellsOf 4) [c0,c1,c2])=sQ y0:=hfs 0 _ rfl;have h1:DataW.trod enc Tp W 0 (fun _=>true) true n 44 (List.take (Tp.cellsOf 44) [c1,c2])=sQ y1:=hfs 1 _ rfl;have h2:DataW.trod enc Tp W 0 (fun _=>true) true n 44 (List.take (Tp.cellsOf 44) [c2])=sQ y2:=hfs 2 _ rfl;rw[Tryz.cells4] at h0;rw[Tryz.cells44] at h1 h2;obtain⟨e,e0,_⟩:=Q5 Tryz.underlying4 h0;obtain⟨x1,e1,_,_⟩:=QP Tryz.underlying44 h1;obtain⟨x2,e2,_,_⟩:=QP Tryz.underlying44 h2;refine⟨⟨e,x1,x2⟩,?_⟩;simp at e0 e1 e2;rw[e0,e1,e2]
def jA {H:Type} {enc:TypeId × Value->H} {y:DataW H × List MemPlace}
  (h:DataW.trod enc Tp W 0 (fun _=>true) true fuel 64 cs=sQ y):∃ (b:R5) (a:Option Addr) (n cap:Nat),cs=[bO b.e,I .u32 (b.i:Int),bO b.r,I J b.d,sL a n cap]/\iB W a n cap b.l/\n<=maxLen:=by
 obtain⟨xs,n,_,_,hcl,hlen,hfs⟩:=Q0 Tryz.underlying64 h;rw[Tryz.cells64] at hcl;match cs,hcl with
 | [c0,c1,c2,c3,c4],_=>
  match xs,hlen with
  | [y0,y1,y2,y3,y4],_=>
   have h0:DataW.trod enc Tp W 0 (fun _=>true) true n 4 (List.take (Tp.cellsOf 4) [c0,c1,c2,c3,c4])=sQ y0:=hfs 0 _ rfl;have h1:DataW.trod enc Tp W 0 (fun _=>true) true n 44 (List.take (Tp.cellsOf 44) [c1,c2,c3,c4])=sQ y1:=hfs 1 _ rfl;have h2:DataW.trod enc Tp W 0 (fun _=>true) true n 4 (List.take (Tp.cellsOf 4) [c2,c3,c4])=sQ y2:=hfs 2 _ rfl;have h3:DataW.trod enc Tp W 0 (fun _=>true) true n 3 (List.take (Tp.cellsOf 3) [c3,c4])=sQ y3:=hfs 3 _ rfl;have h4:DataW.trod enc Tp W 0 (fun _=>true) true n 45 (List.take (Tp.cellsOf 45) [c4])=sQ y4:=hfs 4 _ rfl;rw[Tryz.cells4] at h0 h2;rw[Tryz.cells44] at h1;rw[Tryz.cells3] at h3;rw[Tryz.cells45] at h4;obtain⟨e,e0,_⟩:=Q5 Tryz.underlying4 h0;obtain⟨i,e1,_,wi⟩:=QP Tryz.underlying44 h1;obtain⟨rr,e2,_⟩:=Q5 Tryz.underlying4 h2;obtain⟨dd,e3,_,_⟩:=QP Tryz.underlying3 h3;obtain⟨a,m,cap,l,e4,hy,hm⟩:=uf h4;have hi:=bounds_u32 wi;refine⟨⟨e,i.toNat,rr,dd,l⟩,a,m,cap,?_,hy,hm⟩;have e1':((i.toNat:Nat):Int)=i:=om;simp only[e1'];simp at e0 e1 e2 e3;rw[e0,e1,e2,e3,e4]
def Ak {H:Type} {enc:TypeId × Value->H} {y:DataW H × List MemPlace}
  (h:DataW.trod enc Tp W 0 (fun _=>true) true fuel 233 cs=sQ y):∃ (b:R8) (a:Option Addr) (n cap:Nat),cs=[I J b.x,I J b.y,I J b.z,bO b.e,I .u32 (b.i:Int),bO b.r,I J b.d,sL a n cap]/\iB W a n cap b.l/\n<=maxLen:=by
 obtain⟨xs,n,_,_,hcl,hlen,hfs⟩:=Q0 Tryz.underlying233 h;rw[Tryz.cells233] at hcl;match cs,hcl with
 | [c0,c1,c2,c3,c4,c5,c6,c7],_=>
  match xs,hlen with
  | [y0,y1,y2,y3],_=>
   have h0:DataW.trod enc Tp W 0 (fun _=>true) true n 3 (List.take (Tp.cellsOf 3) [c0,c1,c2,c3,c4,c5,c6,c7])=sQ y0:=hfs 0 _ rfl;have h1:DataW.trod enc Tp W 0 (fun _=>true) true n 3 (List.take (Tp.cellsOf 3) [c1,c2,c3,c4,c5,c6,c7])=sQ y1:=hfs 1 _ rfl;have h2:DataW.trod enc Tp W 0 (fun _=>true) true n 3 (List.take (Tp.cellsOf 3) [c2,c3,c4,c5,c6,c7])=sQ y2:=hfs 2 _ rfl;have h3:DataW.trod enc Tp W 0 (fun _=>true) true n 64 (List.take (Tp.cellsOf 64) [c3,c4,c5,c6,c7])=sQ y3:=hfs 3 _ rfl;rw[Tryz.cells3] at h0 h1 h2;rw[Tryz.cells64] at h3;obtain⟨x0,e0,_,_⟩:=QP Tryz.underlying3 h0;obtain⟨x1,e1,_,_⟩:=QP Tryz.underlying3 h1;obtain⟨x2,e2,_,_⟩:=QP Tryz.underlying3 h2;obtain⟨f,a,m,cap,e3,hy,hm⟩:=jA h3;refine⟨⟨x0,x1,x2,f.e,f.i,f.r,f.d,f.l⟩,a,m,cap,?_,hy,hm⟩;simp at e0 e1 e2 e3;obtain⟨q3,q4,q5,q6,q7⟩:=e3;rw[e0,e1,e2,q3,q4,q5,q6,q7]
def tO {H:Type} {enc:TypeId × Value->H} {y:DataW H × List MemPlace}
  (h:DataW.trod enc Tp W 0 (fun _=>true) true fuel 236 cs=sQ y):∃ (b:R8) (a:Option Addr) (n cap:Nat),cs=[I J b.x,I J b.y,I J b.z,bO b.e,I .u32 (b.i:Int),bO b.r,I J b.d,sL a n cap]/\iB W a n cap b.l/\n<=maxLen:=by
 obtain⟨xs,n,_,_,hcl,hlen,hfs⟩:=Q0 Tryz.underlying236 h;rw[Tryz.cells236] at hcl;match cs,hcl with
 | [c0,c1,c2,c3,c4,c5,c6,c7],_=>
  match xs,hlen with
  | [y0,y1,y2,y3],_=>
   have h0:DataW.trod enc Tp W 0 (fun _=>true) true n 3 (List.take (Tp.cellsOf 3) [c0,c1,c2,c3,c4,c5,c6,c7])=sQ y0:=hfs 0 _ rfl;have h1:DataW.trod enc Tp W 0 (fun _=>true) true n 3 (List.take (Tp.cellsOf 3) [c1,c2,c3,c4,c5,c6,c7])=sQ y1:=hfs 1 _ rfl;have h2:DataW.trod enc Tp W 0 (fun _=>true) true n 3 (List.take (Tp.cellsOf 3) [c2,c3,c4,c5,c6,c7])=sQ y2:=hfs 2 _ rfl;have h3:DataW.trod enc Tp W 0 (fun _=>true) true n 64 (List.take (Tp.cellsOf 64) [c3,c4,c5,c6,c7])=sQ y3:=hfs 3 _ rfl;rw[Tryz.cells3] at h0 h1 h2;rw[Tryz.cells64] at h3;obtain⟨x0,e0,_,_⟩:=QP Tryz.underlying3 h0;obtain⟨x1,e1,_,_⟩:=QP Tryz.underlying3 h1;obtain⟨x2,e2,_,_⟩:=QP Tryz.underlying3 h2;obtain⟨f,a,m,cap,e3,hy,hm⟩:=jA h3;refine⟨⟨x0,x1,x2,f.e,f.i,f.r,f.d,f.l⟩,a,m,cap,?_,hy,hm⟩;simp at e0 e1 e2 e3;obtain⟨q3,q4,q5,q6,q7⟩:=e3;rw[e0,e1,e2,q3,q4,q5,q6,q7]
def iu {H:Type} {enc:TypeId × Value->H} {y:DataW H × List MemPlace} {t e:TypeId} (ht:Tp.underlying t=sQ (.slice e)) (sz:Nat) (hsz:Tp.cellsOf e=sz) (hs0:0<sz)
  (h:DataW.trod enc Tp W 0 (fun _=>true) true fuel t [v]=sQ y):∃ (a:Option Addr) (n cap:Nat),v = sL a n cap/\n<=cap/\n<=maxLen/\(n≠0->∃ g off,a=sQ ⟨g,off,nn⟩/\∀ i,i<n->∃ (cs:List Value) (m:Nat) (z:DataW H × List MemPlace),DataW.trod enc Tp W 0 (fun _=>true) true m e cs=sQ z/\∀ j,j<sz->W.cell? ⟨g,off+i*sz+j,nn⟩=cs[j]?):=by
 rcases DataW.trod_slice ht h with⟨hcs,_⟩|⟨x,len,cap,elems,rest,n,_,hcs,_,_,hl,hm,hel,hall,_,_⟩
 .simp at hcs;exact⟨nn,0,0,hcs,nR _,by unfold maxLen;omega,fun h=>Qz rfl h⟩
 .simp at hcs;refine⟨sQ x,len,cap,hcs,hl,om,fun hn0=>?_⟩;rw[hsz] at hall;have get:∀ i,i<len->∃ cs,W.cells? 0 (x.add (i*sz)) sz=sQ cs/\∃ z,DataW.trod enc Tp W 0 (fun _=>true) true n e cs=sQ z:=by
   intro i hi;have h1:=hall i hi;rw[qA om] at h1;cases h2:W.cells? 0 (x.add (i*sz)) sz with
   | none=>rw[h2] at h1;simp at h1
   | some cs=>rw[h2] at h1;exact⟨cs,rfl,_,h1⟩
  obtain⟨b,off,spot⟩:=x;obtain⟨cs0,hc0,_⟩:=get 0 om;have hspot:spot=nn:=by
   have hl0:=(World.cells?_some hc0).2.1;have h3:=(World.cells?_some hc0).2.2 0 hs0;rw[qA om] at h3;simpa[Addr.add] using World.cell?_spot h3
  subst hspot;refine⟨b,off,rfl,fun i hi=>?_⟩;obtain⟨cs,hc,z,hz⟩:=get i hi;refine⟨cs,n,z,hz,fun j hj=>?_⟩;have:=(World.cells?_some hc).2.2 j hj;rw[Addr.add_mid,Addr.add_mid] at this;exact this
def iw {α:Type} {n:Nat} {p:Nat->α->Prop} (h:∀ i,i<n->∃ b,p i b):∃ bs:List α,bs.length=n/\∀ j (hj:j<bs.length),p j bs[j]:=by
 refine⟨List.ofFn (n:=n) fun i=>Classical.choose (h i.1 i.2),pQ,fun j hj=>?_⟩;rw[List.getElem_ofFn];exact Classical.choose_spec (h j (by simpa using hj))
def xt {H:Type} {enc:TypeId × Value->H} {y:DataW H × List MemPlace} (h:DataW.trod enc Tp W 0 (fun _=>true) true fuel 25 [v]=sQ y) :
  ∃ (a:Option Addr) (n cap:Nat) (bs:List R8),v = sL a n cap/\aM W a n cap bs/\bs.length<=9223372036854775807/\∀ j (h:j<bs.length),bs[j].l.length<=9223372036854775807:=by
 obtain⟨a,n,cap,rfl,hc,hm,hall⟩:=iu Tryz.underlying25 8 Tryz.cells233 (by decide) h;have hm':n<=9223372036854775807:=by unfold maxLen at hm;omega
 by_cases h0:n=0
 .subst h0;exact⟨a,0,cap,[],rfl,⟨rfl,hc,fun e=>Qz rfl e⟩,pQ,fun j hj=>by cases hj⟩
 .obtain⟨g,off,rfl,hx⟩:=hall h0
  obtain⟨bs,hl,hb⟩:=iw (p:=fun i (b:R8)=>(∃ ao m c,at8 W g (off+i*8) b ao m c)/\b.l.length<=9223372036854775807) (fun i hi=>by
   obtain⟨cs,m,z,hz,hj⟩:=hx i hi
   obtain⟨b,ao,k,c,rfl,hy,hk⟩:=Ak hz
   exact⟨b,⟨ao,k,c,hj 0 (by decide),hj 1 (by decide),hj 2 (by decide),hj 3 (by decide),hj 4 (by decide),hj 5 (by decide),hj 6 (by decide),hj 7 (by decide),hy⟩,by rw[<- hy.len];unfold maxLen at hk;omega⟩)
  exact⟨_,n,cap,bs,rfl,⟨hl.symm,hc,fun _=>⟨g,off,rfl,fun j hj=>(hb j hj).1⟩⟩,om,fun j hj=>(hb j hj).2⟩
def rE {H:Type} {enc:TypeId × Value->H} {y:DataW H × List MemPlace} (h:DataW.trod enc Tp W 0 (fun _=>true) true fuel 26 [v]=sQ y) :
  ∃ (a:Option Addr) (n cap:Nat) (bs:List R5),v = sL a n cap/\cl W a n cap bs/\bs.length<=9223372036854775807/\∀ j (h:j<bs.length),bs[j].l.length<=9223372036854775807:=by
 obtain⟨a,n,cap,rfl,hc,hm,hall⟩:=iu Tryz.underlying26 5 Tryz.cells64 (by decide) h;have hm':n<=9223372036854775807:=by unfold maxLen at hm;omega
 by_cases h0:n=0
 .subst h0;exact⟨a,0,cap,[],rfl,⟨rfl,hc,fun e=>Qz rfl e⟩,pQ,fun j hj=>by cases hj⟩
 .obtain⟨g,off,rfl,hx⟩:=hall h0
  obtain⟨bs,hl,hb⟩:=iw (p:=fun i (b:R5)=>(∃ ao m c,at5 W g (off+i*5) b ao m c)/\b.l.length<=9223372036854775807) (fun i hi=>by
   obtain⟨cs,m,z,hz,hj⟩:=hx i hi
   obtain⟨b,ao,k,c,rfl,hy,hk⟩:=jA hz
   exact⟨b,⟨ao,k,c,hj 0 (by decide),hj 1 (by decide),hj 2 (by decide),hj 3 (by decide),hj 4 (by decide),hy⟩,by rw[<- hy.len];unfold maxLen at hk;omega⟩)
  exact⟨_,n,cap,bs,rfl,⟨hl.symm,hc,fun _=>⟨g,off,rfl,fun j hj=>(hb j hj).1⟩⟩,om,fun j hj=>(hb j hj).2⟩
def rG {H:Type} {enc:TypeId × Value->H} {y:DataW H × List MemPlace} (h:DataW.trod enc Tp W 0 (fun _=>true) true fuel 27 [v]=sQ y) :
  ∃ (a:Option Addr) (n cap:Nat) (bs:List R8),v = sL a n cap/\aM W a n cap bs/\bs.length<=9223372036854775807/\∀ j (h:j<bs.length),bs[j].l.length<=9223372036854775807:=by
 obtain⟨a,n,cap,rfl,hc,hm,hall⟩:=iu Tryz.underlying27 8 Tryz.cells236 (by decide) h;have hm':n<=9223372036854775807:=by unfold maxLen at hm;omega
 by_cases h0:n=0
 .subst h0;exact⟨a,0,cap,[],rfl,⟨rfl,hc,fun e=>Qz rfl e⟩,pQ,fun j hj=>by cases hj⟩
 .obtain⟨g,off,rfl,hx⟩:=hall h0
  obtain⟨bs,hl,hb⟩:=iw (p:=fun i (b:R8)=>(∃ ao m c,at8 W g (off+i*8) b ao m c)/\b.l.length<=9223372036854775807) (fun i hi=>by
   obtain⟨cs,m,z,hz,hj⟩:=hx i hi
   obtain⟨b,ao,k,c,rfl,hy,hk⟩:=tO hz
   exact⟨b,⟨ao,k,c,hj 0 (by decide),hj 1 (by decide),hj 2 (by decide),hj 3 (by decide),hj 4 (by decide),hj 5 (by decide),hj 6 (by decide),hj 7 (by decide),hy⟩,by rw[<- hy.len];unfold maxLen at hk;omega⟩)
  exact⟨_,n,cap,bs,rfl,⟨hl.symm,hc,fun _=>⟨g,off,rfl,fun j hj=>(hb j hj).1⟩⟩,om,fun j hj=>(hb j hj).2⟩
def oN {H:Type} {enc:TypeId × Value->H} {y:DataW H × List MemPlace} (h:DataW.trod enc Tp W 0 (fun _=>true) true fuel 24 [v]=sQ y) :
  ∃ (a:Option Addr) (n cap:Nat) (bs:List R3),v = sL a n cap/\bj W a n cap bs/\bs.length<=9223372036854775807:=by
 obtain⟨a,n,cap,rfl,hc,hm,hall⟩:=iu Tryz.underlying24 3 Tryz.cells244 (by decide) h;have hm':n<=9223372036854775807:=by unfold maxLen at hm;omega
 by_cases h0:n=0
 .subst h0;exact⟨a,0,cap,[],rfl,⟨rfl,hc,fun e=>Qz rfl e⟩,pQ⟩
 .obtain⟨g,off,rfl,hx⟩:=hall h0
  obtain⟨bs,hl,hb⟩:=iw (p:=fun i (b:R3)=>at3 W g (off+i*3) b) (fun i hi=>by
   obtain⟨cs,m,z,hz,hj⟩:=hx i hi
   obtain⟨b,rfl⟩:=vU hz
   exact⟨b,hj 0 (by decide),hj 1 (by decide),hj 2 (by decide)⟩)
  exact⟨_,n,cap,bs,rfl,⟨hl.symm,hc,fun _=>⟨g,off,rfl,fun j hj=>hb j hj⟩⟩,om⟩
variable {W:World} {fuel:Nat} {cs:List Value}
def Tryz.cells23:Tp.cellsOf 23=4:=kr
def Tryz.cells24:Tp.cellsOf 24=1:=kr
def Tryz.cells25:Tp.cellsOf 25=1:=kr
def Tryz.cells26:Tp.cellsOf 26=1:=kr
def Tryz.cells27:Tp.cellsOf 27=1:=kr
def Tryz.cells29:Tp.cellsOf 29=10:=kr
def rR {H:Type} {enc:TypeId × Value->H} {y:DataW H × List MemPlace}
  (h:DataW.trod enc Tp W 0 (fun _=>true) true fuel 23 cs=sQ y):∃ a b c d:Int,cs=[I J a,I J b,I J c,I J d]:=by
 obtain⟨xs,n,_,_,hcl,hlen,hfs⟩:=Q0 Tryz.underlying23 h;rw[Tryz.cells23] at hcl;match cs,hcl with
 | [c0,c1,c2,c3],_=>
  match xs,hlen with
  | [y0,y1,y2,y3],_=>
   have h0:DataW.trod enc Tp W 0 (fun _=>true) true n 3 (List.take (Tp.cellsOf 3) [c0,c1,c2,c3])=sQ y0:=hfs 0 _ rfl;have h1:DataW.trod enc Tp W 0 (fun _=>true) true n 3 (List.take (Tp.cellsOf 3) [c1,c2,c3])=sQ y1:=hfs 1 _ rfl;have h2:DataW.trod enc Tp W 0 (fun _=>true) true n 3 (List.take (Tp.cellsOf 3) [c2,c3])=sQ y2:=hfs 2 _ rfl;have h3:DataW.trod enc Tp W 0 (fun _=>true) true n 3 (List.take (Tp.cellsOf 3) [c3])=sQ y3:=hfs 3 _ rfl;rw[Tryz.cells3] at h0 h1 h2 h3;obtain⟨x0,e0,_,_⟩:=QP Tryz.underlying3 h0;obtain⟨x1,e1,_,_⟩:=QP Tryz.underlying3 h1;obtain⟨x2,e2,_,_⟩:=QP Tryz.underlying3 h2;obtain⟨x3,e3,_,_⟩:=QP Tryz.underlying3 h3;simp at e0 e1 e2 e3;exact⟨x0,x1,x2,x3,by rw[e0,e1,e2,e3]⟩
def wQ {H:Type} {enc:TypeId × Value->H} {y:DataW H × List MemPlace}
  (h:DataW.trod enc Tp W 0 (fun _=>true) true fuel 29 cs=sQ y):∃ (h:Ho) (s:Sl),cs=[I J h.c0,I J h.c1,I J h.c2,I J h.c3,sL s.a1 s.n1 s.k1,sL s.a2 s.n2 s.k2,sL s.a3 s.n3 s.k3,sL s.a4 s.n4 s.k4,I J h.lo,I J h.st]/\aK W h s/\h.le 9223372036854775807:=by
 obtain⟨xs,n,_,_,hcl,hlen,hfs⟩:=Q0 Tryz.underlying29 h;rw[Tryz.cells29] at hcl;match cs,hcl with
 | [c0,c1,c2,c3,c4,c5,c6,c7,c8,c9],_=>
  match xs,hlen with
  | [y0,y1,y2,y3,y4,y5,y6],_=>
   have h0:DataW.trod enc Tp W 0 (fun _=>true) true n 23 (List.take (Tp.cellsOf 23) [c0,c1,c2,c3,c4,c5,c6,c7,c8,c9])=sQ y0:=hfs 0 _ rfl;have h1:DataW.trod enc Tp W 0 (fun _=>true) true n 24 (List.take (Tp.cellsOf 24) [c4,c5,c6,c7,c8,c9])=sQ y1:=hfs 1 _ rfl;have h2:DataW.trod enc Tp W 0 (fun _=>true) true n 25 (List.take (Tp.cellsOf 25) [c5,c6,c7,c8,c9])=sQ y2:=hfs 2 _ rfl;have h3:DataW.trod enc Tp W 0 (fun _=>true) true n 26 (List.take (Tp.cellsOf 26) [c6,c7,c8,c9])=sQ y3:=hfs 3 _ rfl;have h4:DataW.trod enc Tp W 0 (fun _=>true) true n 27 (List.take (Tp.cellsOf 27) [c7,c8,c9])=sQ y4:=hfs 4 _ rfl;have h5:DataW.trod enc Tp W 0 (fun _=>true) true n 3 (List.take (Tp.cellsOf 3) [c8,c9])=sQ y5:=hfs 5 _ rfl;have h6:DataW.trod enc Tp W 0 (fun _=>true) true n 3 (List.take (Tp.cellsOf 3) [c9])=sQ y6:=hfs 6 _ rfl;rw[Tryz.cells23] at h0;rw[Tryz.cells24] at h1;rw[Tryz.cells25] at h2;rw[Tryz.cells26] at h3;rw[Tryz.cells27] at h4;rw[Tryz.cells3] at h5 h6;obtain⟨x0,x1,x2,x3,e0⟩:=rR h0;obtain⟨a1,n1,k1,fs,e1,r1,l1⟩:=oN h1;obtain⟨a2,n2,k2,bx,e2,r2,l2,d2⟩:=xt h2;obtain⟨a3,n3,k3,ff,e3,r3,l3,d3⟩:=rE h3;obtain⟨a4,n4,k4,qu,e4,r4,l4,d4⟩:=rG h4;obtain⟨lo,e5,_,_⟩:=QP Tryz.underlying3 h5;obtain⟨st,e6,_,_⟩:=QP Tryz.underlying3 h6;refine⟨⟨x0,x1,x2,x3,fs,bx,ff,qu,lo,st⟩,⟨a1,n1,k1,a2,n2,k2,a3,n3,k3,a4,n4,k4⟩,?_,⟨r1,r2,r3,r4⟩,⟨l1,l2,l3,l4,d2,d3,d4⟩⟩;simp at e0 e5 e6;obtain⟨q0,q1,q2,q3⟩:=e0;rw[q0,q1,q2,q3,e1,e2,e3,e4,e5,e6]
end Go.Proofs.YtnfmjckkibdcaaaGreatDoor
