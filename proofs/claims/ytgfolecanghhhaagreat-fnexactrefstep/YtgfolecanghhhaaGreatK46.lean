import Derived.Test.YtgfolecanghhhaaGreatK37
import Derived.ProofKit
import Derived.OpenShut
import Derived.Lib.SmallJoins
namespace Go.Proofs.YtgfolecanghhhaaGreat
open Go.Proofs.Tryz
open Option renaming none->nn,some->sQ
open Go renaming World->Wd
set_option maxRecDepth 40000
open Go.ChangeShapes Go.WideShapes Go.ChangeAt Go.RowKit
set_option linter.all false
open Go.Value renaming int->I,slice->sL,bool->bO,pointer->pT,agg->aG
open Go.IntKind renaming i64->J
open Go.Ending renaming returned->rT
open Go.Proofs.Tryz renaming prog->Tp
def cells3:Tp.cellsOf 3=1:=kr
def cells4:Tp.cellsOf 4=1:=kr
def cells5:Tp.cellsOf 5=1:=kr
def cells64:Tp.cellsOf 64=1:=kr
def cells65:Tp.cellsOf 65=1:=kr
def cells190:Tp.cellsOf 190=3:=kr
def cells165:Tp.cellsOf 165=5:=kr
def cells167:Tp.cellsOf 167=8:=kr
def cells171:Tp.cellsOf 171=8:=kr
def cells23:Tp.cellsOf 23=4:=kr
def cells24:Tp.cellsOf 24=1:=kr
def cells25:Tp.cellsOf 25=1:=kr
def cells26:Tp.cellsOf 26=1:=kr
def cells27:Tp.cellsOf 27=1:=kr
def cells29:Tp.cellsOf 29=10:=kr
def uf {H:Type} {enc:TypeId × Value->H} {W:Wd} {fuel:Nat} {v:Value} {y:DataW H × List MemPlace}
  (h:DataW.trod enc Tp W 0 (fun _=>true) true fuel 65 [v]=sQ y):∃ a n cap l,v = sL a n cap/\iB W a n cap l/\n<=maxLen:=by
 rcases open_ints underlying65 underlying5 cells5 h with⟨hcs,_⟩|⟨x,n,c,zs,hcs,_,hl,hm,hz,_,hcell,hwz⟩
 .simp at hcs;exact⟨nn,0,0,[],hcs,⟨rfl,nR _,(fun x hx=>by cases hx),fun e=>Qy rfl e⟩,by unfold maxLen;omega⟩
 .simp at hcs;have hz':zs.length=c:=by simpa using hz
  have hb:∀ z ∈ zs,0<=z/\z<256:=by
   intro z hzz;have:=bounds_u8 (hwz z hzz);omega
  have hlen:(zs.take n).length=n:=by rw[qj];omega
  refine⟨sQ x,n,c,(zs.take n).map Int.toNat,hcs,⟨by rw[qU,hlen],hl,?_,?_⟩,om⟩
  .intro u hu;rw[List.mem_map] at hu;obtain⟨z,hz1,rfl⟩:=hu;have:=hb z (qK hz1);omega
  .intro hne;have hn0:0<n:=by
    rcases Nat.eq_zero_or_pos n with e|e
    .subst e;simp at hne
    .exact e
   obtain⟨b,off,spot⟩:=x;have hc0:=hcell 0 om;have hspot:spot=nn:=by simpa[Addr.add] using World.cell?_spot hc0
   subst hspot;refine⟨b,off,rfl,fun j hj=>?_⟩;have hj':j<n:=by rw[qU,hlen] at hj;exact hj
   have hcj:=hcell j om;have e2:(⟨b,off,nn⟩ : Addr).add j=⟨b,off+j,nn⟩:=by simp only[Addr.add];split <;> simp_all
   rw[e2] at hcj;rw[hcj];have hzj:zs.getD j 0=zs[j]'om:=by simp[List.getD,show j<zs.length by omega]
   have hbj:=hb (zs[j]'om) (qn _);rw[hzj,Qh,List.getElem_take];congr 2;omega
def iu {H:Type} {enc:TypeId × Value->H} {W:Wd} {fuel:Nat} {v:Value} {y:DataW H × List MemPlace} {t e:TypeId} (ht:Tp.underlying t=sQ (.slice e)) (sz:Nat) (hsz:Tp.cellsOf e=sz) (hs0:0<sz)
  (h:DataW.trod enc Tp W 0 (fun _=>true) true fuel t [v]=sQ y):∃ (a:Option Addr) (n cap:Nat),v = sL a n cap/\n<=cap/\n<=maxLen/\(n≠0->∃ g off,a=sQ ⟨g,off,nn⟩/\∀ i,i<n->∃ (cs:List Value) (m:Nat) (z:DataW H × List MemPlace),DataW.trod enc Tp W 0 (fun _=>true) true m e cs=sQ z/\∀ j,j<sz->W.cell? ⟨g,off+i*sz+j,nn⟩=cs[j]?):=by
 rcases DataW.trod_slice ht h with⟨hcs,_⟩|⟨x,len,cap,elems,rest,n,_,hcs,_,_,hl,hm,hel,hall,_,_⟩
 .simp at hcs;exact⟨nn,0,0,hcs,nR _,by unfold maxLen;omega,fun h=>Qy rfl h⟩
 .simp at hcs;refine⟨sQ x,len,cap,hcs,hl,om,fun hn0=>?_⟩;rw[hsz] at hall;have get:∀ i,i<len->∃ cs,W.cells? 0 (x.add (i*sz)) sz=sQ cs/\∃ z,DataW.trod enc Tp W 0 (fun _=>true) true n e cs=sQ z:=by
   intro i hi;have h1:=hall i hi;rw[qy om] at h1;cases h2:W.cells? 0 (x.add (i*sz)) sz with
   | none=>rw[h2] at h1;simp at h1
   | some cs=>rw[h2] at h1;exact⟨cs,rfl,_,h1⟩
  obtain⟨b,off,spot⟩:=x;obtain⟨cs0,hc0,_⟩:=get 0 om;have hspot:spot=nn:=by
   have hl0:=(World.cells?_some hc0).2.1;have h3:=(World.cells?_some hc0).2.2 0 hs0;rw[qy om] at h3;simpa[Addr.add] using World.cell?_spot h3
  subst hspot;refine⟨b,off,rfl,fun i hi=>?_⟩;obtain⟨cs,hc,z,hz⟩:=get i hi;refine⟨cs,n,z,hz,fun j hj=>?_⟩;have:=(World.cells?_some hc).2.2 j hj;rw[Addr.add_mid,Addr.add_mid] at this;exact this
def iw {α:Type} {n:Nat} {p:Nat->α->Prop} (h:∀ i,i<n->∃ b,p i b):∃ bs:List α,bs.length=n/\∀ j (hj:j<bs.length),p j bs[j]:=by
 refine⟨List.ofFn (n:=n) fun i=>Classical.choose (h i.1 i.2),pQ,fun j hj=>?_⟩;rw[List.getElem_ofFn];exact Classical.choose_spec (h j (by simpa using hj))
def Hg {H:Type} (enc:TypeId × Value->H) (W:Wd) (n:Nat) (cs:List Value) (fs:Array Field):Prop:=∀ (i:Nat) (f:Field),fs[i]?=sQ f->∃ y,DataW.trod enc Tp W 0 (fun _=>true) true n f.type ((cs.drop f.offset).take (Tp.cellsOf f.type))=sQ y
section
variable {H : Type} {enc : TypeId × Value -> H} {W : Wd} {n : Nat} {cs : List Value} {fs : Array Field}
def GM {t:TypeId} {x:DataW H × List MemPlace} (ht:Tp.underlying t=sQ (.struct fs)) (h:DataW.trod enc Tp W 0 (fun _=>true) true n t cs=sQ x):∃ n,Hg enc W n cs fs/\cs.length=Tp.cellsOf t:=by
 obtain⟨xs,n,_,_,hcl,hlen,hfs⟩:=QZ ht h;refine⟨n,fun i f hf=>?_,hcl⟩;have hi:i<xs.length:=by rw[hlen];exact (Array.getElem?_eq_some_iff.1 hf).1
 exact⟨xs[i],by rw[hfs i f hf,qy hi]⟩
def IU {k:Nat} {v:Value} (h:(cs.drop k).take 1=[v]):cs.drop k=v :: cs.drop (k+1):=by
 have:=List.take_append_drop 1 (cs.drop k);rw[h,List.drop_drop] at this;exact this.symm
def Hg.int (h:Hg enc W n cs fs) (k o:Nat) (hf:∃ f,fs[k]?=sQ f/\f.type=3/\f.offset=o):∃ z:Int,cs.drop o = I J z :: cs.drop (o+1):=by
 obtain⟨f,hf,ht,rfl⟩:=hf;obtain⟨y,hy⟩:=h k f hf;rw[ht,cells3] at hy;obtain⟨z,e,_,_⟩:=QO underlying3 hy;exact⟨z,IU e⟩
def Hg.bool (h:Hg enc W n cs fs) (k o:Nat) (hf:∃ f,fs[k]?=sQ f/\f.type=4/\f.offset=o):∃ z:Bool,cs.drop o = bO z :: cs.drop (o+1):=by
 obtain⟨f,hf,ht,rfl⟩:=hf;obtain⟨y,hy⟩:=h k f hf;rw[ht,cells4] at hy;obtain⟨z,e,_⟩:=Q4 underlying4 hy;exact⟨z,IU e⟩
def Hg.u32 (h:Hg enc W n cs fs) (k o:Nat) (hf:∃ f,fs[k]?=sQ f/\f.type=64/\f.offset=o):∃ z:Nat,cs.drop o = I .u32 (z:Int) :: cs.drop (o+1):=by
 obtain⟨f,hf,ht,rfl⟩:=hf;obtain⟨y,hy⟩:=h k f hf;rw[ht,cells64] at hy;obtain⟨z,e,_,w⟩:=QO underlying64 hy;have:=bounds_u32 w;exact⟨z.toNat,by rw[IU e];congr 2;omega⟩
def Hg.sub (h:Hg enc W n cs fs) (k o t c:Nat) (hf:∃ f,fs[k]?=sQ f/\f.type=t/\f.offset=o) (hc:Tp.cellsOf t=c):∃ y,DataW.trod enc Tp W 0 (fun _=>true) true n t ((cs.drop o).take c)=sQ y:=by
 obtain⟨f,hf,rfl,rfl⟩:=hf;obtain⟨y,hy⟩:=h k f hf;rw[hc] at hy;exact⟨y,hy⟩
def Hg.one (h:Hg enc W n cs fs) (k o t:Nat) (hf:∃ f,fs[k]?=sQ f/\f.type=t/\f.offset=o) (hc:Tp.cellsOf t=1) (hl:o<cs.length):∃ v y,DataW.trod enc Tp W 0 (fun _=>true) true n t [v]=sQ y/\cs.drop o=v :: cs.drop (o+1):=by
 obtain⟨y,hy⟩:=h.sub k o t 1 hf hc;rw[List.drop_eq_getElem_cons hl] at hy;exact⟨cs[o],y,hy,List.drop_eq_getElem_cons hl⟩
end
section
variable {H : Type} {enc : TypeId × Value -> H} {W : Wd} {fuel : Nat} {cs : List Value} {x : DataW H × List MemPlace}
def vU (hf:DataW.trod enc Tp W 0 (fun _=>true) true fuel 190 cs=sQ x):∃ b:R3,cs=[bO b.e,I .u32 b.m,I .u32 b.k]:=by
 obtain⟨n,h,hl⟩:=GM underlying190 hf;rw[cells190] at hl;obtain⟨x0,e0⟩:=h.bool 0 0 ⟨_,rfl,rfl,rfl⟩;obtain⟨x1,e1⟩:=h.u32 1 1 ⟨_,rfl,rfl,rfl⟩;obtain⟨x2,e2⟩:=h.u32 2 2 ⟨_,rfl,rfl,rfl⟩;refine⟨⟨x0,x1,x2⟩,?_⟩;rw[show cs=cs.drop 0 from rfl,e0,e1,e2,qq om]
abbrev r5 (cs:List Value) (W:Wd) (b:R5) (a:Option Addr) (n cap:Nat):Prop:=cs=[bO b.e,I .u32 (b.i:Int),bO b.r,I J b.d,sL a n cap]/\iB W a n cap b.l/\n<=maxLen
abbrev r8 (cs:List Value) (W:Wd) (b:R8) (a:Option Addr) (n cap:Nat):Prop:=cs=[I J b.x,I J b.y,I J b.z,bO b.e,I .u32 (b.i:Int),bO b.r,I J b.d,sL a n cap]/\iB W a n cap b.l/\n<=maxLen
def jA (hf:DataW.trod enc Tp W 0 (fun _=>true) true fuel 165 cs=sQ x):∃ (b:R5) (a:Option Addr) (n cap:Nat),r5 cs W b a n cap:=by
 obtain⟨n,h,hl⟩:=GM underlying165 hf;rw[cells165] at hl;obtain⟨x0,e0⟩:=h.bool 0 0 ⟨_,rfl,rfl,rfl⟩;obtain⟨x1,e1⟩:=h.u32 1 1 ⟨_,rfl,rfl,rfl⟩;obtain⟨x2,e2⟩:=h.bool 2 2 ⟨_,rfl,rfl,rfl⟩;obtain⟨x3,e3⟩:=h.int 3 3 ⟨_,rfl,rfl,rfl⟩;obtain⟨v,y,hv,e4⟩:=h.one 4 4 65 ⟨_,rfl,rfl,rfl⟩ cells65 om;obtain⟨a,m,cap,l,rfl,hy,hm⟩:=uf hv;refine⟨⟨x0,x1,x2,x3,l⟩,a,m,cap,?_,hy,hm⟩;rw[show cs=cs.drop 0 from rfl,e0,e1,e2,e3,e4,qq om]
def Ki {t:TypeId} (ht:t=167\/t=171) (hf:DataW.trod enc Tp W 0 (fun _=>true) true fuel t cs=sQ x):∃ (b:R8) (a:Option Addr) (n cap:Nat),r8 cs W b a n cap:=by
 rcases ht with rfl|rfl;all_goals
  obtain⟨n,h,hl⟩:=GM (by first|exact underlying167|exact underlying171) hf;rw[(by first | exact cells167 | exact cells171:Tp.cellsOf _=8)] at hl;obtain⟨x0,e0⟩:=h.int 0 0 ⟨_,rfl,rfl,rfl⟩;obtain⟨x1,e1⟩:=h.int 1 1 ⟨_,rfl,rfl,rfl⟩;obtain⟨x2,e2⟩:=h.int 2 2 ⟨_,rfl,rfl,rfl⟩;obtain⟨y,h3⟩:=h.sub 3 3 165 5 ⟨_,rfl,rfl,rfl⟩ cells165;rw[qf (by rw[Qg,hl];decide)] at h3;obtain⟨f,a,m,cap,e3,hy,hm⟩:=jA h3;refine⟨⟨x0,x1,x2,f.e,f.i,f.r,f.d,f.l⟩,a,m,cap,?_,hy,hm⟩;rw[show cs=cs.drop 0 from rfl,e0,e1,e2,e3]
end
section
variable {H : Type} {enc : TypeId × Value -> H} {W : Wd} {fuel : Nat} {v : Value} {y : DataW H × List MemPlace}
def L7 {t e:TypeId} (ht:Tp.underlying t=sQ (.slice e)) (he:e=167\/e=171) (hs:Tp.cellsOf e=8) (h:DataW.trod enc Tp W 0 (fun _=>true) true fuel t [v]=sQ y) :
  ∃ (a:Option Addr) (n cap:Nat) (bs:List R8),v = sL a n cap/\aM W a n cap bs/\bs.length<=9223372036854775807/\∀ j (h:j<bs.length),bs[j].l.length<=9223372036854775807:=by
 obtain⟨a,n,cap,rfl,hc,hm,hall⟩:=iu ht 8 hs (by decide) h;have hm':n<=9223372036854775807:=by unfold maxLen at hm;omega
 by_cases h0:n=0
 .subst h0;exact⟨a,0,cap,[],rfl,⟨rfl,hc,fun e=>Qy rfl e⟩,pQ,fun j hj=>by cases hj⟩
 .obtain⟨g,off,rfl,hx⟩:=hall h0
  obtain⟨bs,hl,hb⟩:=iw (p:=fun i (b:R8)=>(∃ ao m c,at8 W g (off+i*8) b ao m c)/\b.l.length<=9223372036854775807) (fun i hi=>by
   obtain⟨cs,m,z,hz,hj⟩:=hx i hi
   obtain⟨b,ao,k,c,rfl,hy,hk⟩:=Ki he hz
   exact⟨b,⟨ao,k,c,hj 0 (by decide),hj 1 (by decide),hj 2 (by decide),hj 3 (by decide),hj 4 (by decide),hj 5 (by decide),hj 6 (by decide),hj 7 (by decide),hy⟩,by rw[<- hy.len];unfold maxLen at hk;omega⟩)
  exact⟨_,n,cap,bs,rfl,⟨hl.symm,hc,fun _=>⟨g,off,rfl,fun j hj=>(hb j hj).1⟩⟩,om,fun j hj=>(hb j hj).2⟩
def rE (h:DataW.trod enc Tp W 0 (fun _=>true) true fuel 26 [v]=sQ y) :
  ∃ (a:Option Addr) (n cap:Nat) (bs:List R5),v = sL a n cap/\cl W a n cap bs/\bs.length<=9223372036854775807/\∀ j (h:j<bs.length),bs[j].l.length<=9223372036854775807:=by
 obtain⟨a,n,cap,rfl,hc,hm,hall⟩:=iu underlying26 5 cells165 (by decide) h;have hm':n<=9223372036854775807:=by unfold maxLen at hm;omega
 by_cases h0:n=0
 .subst h0;exact⟨a,0,cap,[],rfl,⟨rfl,hc,fun e=>Qy rfl e⟩,pQ,fun j hj=>by cases hj⟩
 .obtain⟨g,off,rfl,hx⟩:=hall h0
  obtain⟨bs,hl,hb⟩:=iw (p:=fun i (b:R5)=>(∃ ao m c,at5 W g (off+i*5) b ao m c)/\b.l.length<=9223372036854775807) (fun i hi=>by
   obtain⟨cs,m,z,hz,hj⟩:=hx i hi
   obtain⟨b,ao,k,c,rfl,hy,hk⟩:=jA hz
   exact⟨b,⟨ao,k,c,hj 0 (by decide),hj 1 (by decide),hj 2 (by decide),hj 3 (by decide),hj 4 (by decide),hy⟩,by rw[<- hy.len];unfold maxLen at hk;omega⟩)
  exact⟨_,n,cap,bs,rfl,⟨hl.symm,hc,fun _=>⟨g,off,rfl,fun j hj=>(hb j hj).1⟩⟩,om,fun j hj=>(hb j hj).2⟩
def oN (h:DataW.trod enc Tp W 0 (fun _=>true) true fuel 24 [v]=sQ y) :
  ∃ (a:Option Addr) (n cap:Nat) (bs:List R3),v = sL a n cap/\bj W a n cap bs/\bs.length<=9223372036854775807:=by
 obtain⟨a,n,cap,rfl,hc,hm,hall⟩:=iu underlying24 3 cells190 (by decide) h;have hm':n<=9223372036854775807:=by unfold maxLen at hm;omega
 by_cases h0:n=0
 .subst h0;exact⟨a,0,cap,[],rfl,⟨rfl,hc,fun e=>Qy rfl e⟩,pQ⟩
 .obtain⟨g,off,rfl,hx⟩:=hall h0
  obtain⟨bs,hl,hb⟩:=iw (p:=fun i (b:R3)=>at3 W g (off+i*3) b) (fun i hi=>by
   obtain⟨cs,m,z,hz,hj⟩:=hx i hi
   obtain⟨b,rfl⟩:=vU hz
   exact⟨b,hj 0 (by decide),hj 1 (by decide),hj 2 (by decide)⟩)
  exact⟨_,n,cap,bs,rfl,⟨hl.symm,hc,fun _=>⟨g,off,rfl,fun j hj=>hb j hj⟩⟩,om⟩
end
def wQ {H:Type} {enc:TypeId × Value->H} {W:Wd} {fuel:Nat} {cs:List Value} {y:DataW H × List MemPlace}
  (h:DataW.trod enc Tp W 0 (fun _=>true) true fuel 29 cs=sQ y):∃ (h:Ho) (s:Sl),cs=[I J h.c0,I J h.c1,I J h.c2,I J h.c3,sL s.a1 s.n1 s.k1,sL s.a2 s.n2 s.k2,sL s.a3 s.n3 s.k3,sL s.a4 s.n4 s.k4,I J h.lo,I J h.st]/\aK W h s/\h.le 9223372036854775807:=by
 obtain⟨n,g,hl⟩:=GM underlying29 h;rw[cells29] at hl;obtain⟨y0,g0⟩:=g.sub 0 0 23 4 ⟨_,rfl,rfl,rfl⟩ cells23;obtain⟨m,f,_⟩:=GM underlying23 g0;obtain⟨x0,e0⟩:=f.int 0 0 ⟨_,rfl,rfl,rfl⟩;obtain⟨x1,e1⟩:=f.int 1 1 ⟨_,rfl,rfl,rfl⟩;obtain⟨x2,e2⟩:=f.int 2 2 ⟨_,rfl,rfl,rfl⟩;obtain⟨x3,e3⟩:=f.int 3 3 ⟨_,rfl,rfl,rfl⟩;obtain⟨v1,_,h1,d1⟩:=g.one 1 4 24 ⟨_,rfl,rfl,rfl⟩ cells24 om;obtain⟨v2,_,h2,d2⟩:=g.one 2 5 25 ⟨_,rfl,rfl,rfl⟩ cells25 om;obtain⟨v3,_,h3,d3⟩:=g.one 3 6 26 ⟨_,rfl,rfl,rfl⟩ cells26 om;obtain⟨v4,_,h4,d4⟩:=g.one 4 7 27 ⟨_,rfl,rfl,rfl⟩ cells27 om;obtain⟨lo,d5⟩:=g.int 5 8 ⟨_,rfl,rfl,rfl⟩;obtain⟨st,d6⟩:=g.int 6 9 ⟨_,rfl,rfl,rfl⟩;obtain⟨a1,n1,k1,fs,rfl,r1,l1⟩:=oN h1;obtain⟨a2,n2,k2,bx,rfl,r2,l2,q2⟩:=L7 underlying25 (qr rfl) cells167 h2;obtain⟨a3,n3,k3,ff,rfl,r3,l3,q3⟩:=rE h3;obtain⟨a4,n4,k4,qu,rfl,r4,l4,q4⟩:=L7 underlying27 (qx rfl) cells171 h4;refine⟨⟨x0,x1,x2,x3,fs,bx,ff,qu,lo,st⟩,⟨a1,n1,k1,a2,n2,k2,a3,n3,k3,a4,n4,k4⟩,?_,⟨r1,r2,r3,r4⟩,⟨l1,l2,l3,l4,q2,q3,q4⟩⟩;have t0:(cs.drop 0).take 4=[I J x0,I J x1,I J x2,I J x3]:=by
  rw[show (cs.drop 0).take 4=((cs.drop 0).take 4).drop 0 from rfl,e0,e1,e2,e3,qq (by simp;omega)]
 have t1:=List.take_append_drop 4 cs;rw[show cs.take 4=_ from t0,d1,d2,d3,d4,d5,d6,qq om] at t1;exact t1.symm
def cells31:Tp.cellsOf 31=21:=kr
def Ky {H:Type} {enc:TypeId × Value->H} {W:Wd} {fuel:Nat} {cs:List Value} {x:DataW H × List MemPlace} (hf:DataW.trod enc Tp W 0 (fun _=>true) true fuel 31 cs=sQ x):∃ (C:Co) (s:Sl),cs=coL C s/\aK W C.ho s/\C.ho.le 9223372036854775807:=by
 obtain⟨n,h,hl⟩:=GM underlying31 hf;rw[cells31] at hl;obtain⟨x0,e0⟩:=h.int 0 0 ⟨_,rfl,rfl,rfl⟩;obtain⟨x1,e1⟩:=h.int 1 1 ⟨_,rfl,rfl,rfl⟩;obtain⟨x2,e2⟩:=h.int 2 2 ⟨_,rfl,rfl,rfl⟩;obtain⟨x3,e3⟩:=h.bool 3 3 ⟨_,rfl,rfl,rfl⟩;obtain⟨x4,e4⟩:=h.bool 4 4 ⟨_,rfl,rfl,rfl⟩;obtain⟨x5,e5⟩:=h.bool 5 5 ⟨_,rfl,rfl,rfl⟩;obtain⟨x6,e6⟩:=h.bool 6 6 ⟨_,rfl,rfl,rfl⟩;obtain⟨x7,e7⟩:=h.bool 7 7 ⟨_,rfl,rfl,rfl⟩;obtain⟨x8,e8⟩:=h.int 8 8 ⟨_,rfl,rfl,rfl⟩;obtain⟨x9,e9⟩:=h.int 9 9 ⟨_,rfl,rfl,rfl⟩;obtain⟨x10,e10⟩:=h.int 10 10 ⟨_,rfl,rfl,rfl⟩;obtain⟨y,hy⟩:=h 11 _ rfl;have h11:DataW.trod enc Tp W 0 (fun _=>true) true n 29 ((cs.drop 11).take (Tp.cellsOf 29))=sQ y:=hy;rw[cells29,qf (by rw[Qg,hl];decide)] at h11;obtain⟨ho,s,e11,r11,l11⟩:=wQ h11;refine⟨⟨x0,x1,x2,x3,x4,x5,x6,x7,x8,x9,x10,ho⟩,s,?_,r11,l11⟩;rw[show cs=cs.drop 0 from rfl,e0,e1,e2,e3,e4,e5,e6,e7,e8,e9,e10,e11];rfl
def yo {H:Type} {enc:TypeId × Value->H} {W:Wd} {r:Reach} {b0:Nat} {v:Value} {d:DataW H} {p:List MemPlace}
  (hv:Value.okWide Tp W r b0 33 v) (h:DataW.Trod enc Tp W 0 (fun _=>true) true 33 v d p) :
  ∃ (C:Co) (s:Sl) (hd:ByteArray),v = aG (rfL C s hd).toArray/\aK W C.ho s/\C.ho.le 9223372036854775807/\hd.size<=maxLen:=by
 obtain⟨⟨cs⟩,rfl,hsz⟩:=okWide_struct underlying33 hv;obtain⟨fuel,hf⟩:=h;obtain⟨n,h,hl⟩:=GM underlying33 hf;have hl:cs.length=22:=hl.trans kr;have h:Hg enc W n cs _:=h;obtain⟨y0,h0⟩:=h.sub 0 0 31 21 ⟨_,rfl,rfl,rfl⟩ cells31;obtain⟨x,y1,h1,e1⟩:=h.one 1 21 9 ⟨_,rfl,rfl,rfl⟩ kr om;obtain⟨C,s,e0,r1,r2⟩:=Ky h0;obtain⟨hd,e2,_,r3⟩:=DataW.trod_string underlying9 h1;refine⟨C,s,hd,?_,r1,r2,r3⟩;have t0:=List.take_append_drop 21 cs;rw[show cs.take 21=coL C s from e0,e1,qq om] at t0;simp at e2;rw[<- t0,e2];rfl
end Go.Proofs.YtgfolecanghhhaaGreat
