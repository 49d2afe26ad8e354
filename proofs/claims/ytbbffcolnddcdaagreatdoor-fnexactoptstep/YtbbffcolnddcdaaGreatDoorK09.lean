import Derived.ProofKit
import Derived.OpenShut
import Derived.Lib.SmallJoins
import Derived.Test.YtbbffcolnddcdaaGreatDoorK05
namespace Go.Proofs.YtbbffcolnddcdaaGreatDoor
open Go.Proofs.Tryz
open Option renaming none->nn,some->sQ
open Go renaming World->Wd
set_option maxRecDepth 20000
open Go.ChangeShapes Go.WideShapes Go.ChangeAt Go.RowKit
set_option linter.all false
open Go.Value renaming int->I,slice->sL,bool->bO,pointer->pT,agg->aG
open Go.IntKind renaming i64->J
open Go.Ending renaming returned->rT
open Go.Proofs.Tryz renaming prog->Tp
def cells3:Tp.cellsOf 3=1:=kr
def cells4:Tp.cellsOf 4=1:=kr
def cells5:Tp.cellsOf 5=1:=kr
def cells32:Tp.cellsOf 32=1:=kr
def cells33:Tp.cellsOf 33=1:=kr
def cells218:Tp.cellsOf 218=3:=kr
def cells35:Tp.cellsOf 35=5:=kr
def cells205:Tp.cellsOf 205=8:=kr
def cells208:Tp.cellsOf 208=8:=kr
def cells23:Tp.cellsOf 23=4:=kr
def cells24:Tp.cellsOf 24=1:=kr
def cells25:Tp.cellsOf 25=1:=kr
def cells26:Tp.cellsOf 26=1:=kr
def cells27:Tp.cellsOf 27=1:=kr
def cells29:Tp.cellsOf 29=10:=kr
def rV{t e B:Nat}{k:IntKind}(L:Tp.underlying t=sQ (.slice e))(E:Tp.underlying e=sQ (.int k))(C:Tp.cellsOf e=1)(hB:∀z:Int,(Lit.int k z).wf=true->0<=z/\z<B){H:Type}{enc:TypeId × Value->H}{W:Wd}{fuel:Nat}{v:Value}{y:DataW H × List MemPlace}
  (h:DataW.trod enc Tp W 0 (fun _=>true) true fuel t [v]=sQ y):∃(a:Option Addr)(n cap:Nat)(l:List Nat),v=sL a n cap/\(n=l.length/\n<=cap/\(∀x∈l,x<B)/\(l≠[]->∃g off,a=sQ ⟨g,off,nn⟩/\∀j(h:j<l.length),W.cell? ⟨g,off+j,nn⟩=sQ (.int k (l[j]:Int))))/\n<=maxLen:=by
 rcases open_ints L E C h with⟨d,_⟩|⟨x,n,c,zs,d,_,G,U,O,_,i,M⟩
 .simp at d;exact⟨nn,0,0,[],d,⟨rfl,nR _,(fun x N=>by cases N),fun e=>Qj rfl e⟩,by unfold maxLen;omega⟩
 .simp at d;have Y:zs.length=c:=by simpa using O
  have f:=fun z R=>hB z (M z R);have s:(zs.take n).length=n:=by rw[qh];omega
  refine⟨sQ x,n,c,(zs.take n).map Int.toNat,d,⟨by rw[qP,s],G,?_,?_⟩,om⟩
  .intro u hu;rw[List.mem_map]at hu;obtain⟨z,P,rfl⟩:=hu;have:=f z (qF P);omega
  .intro hne;have X:0<n:=by
    rcases Nat.eq_zero_or_pos n with e|e
    .subst e;simp at hne
    .exact e
   obtain⟨b,off,S⟩:=x;have D:=i 0 om;have K:S=nn:=by simpa[Addr.add]using World.cell?_spot D
   subst K;refine⟨b,off,rfl,fun j r=>?_⟩;have T:j<n:=by rw[qP,s]at r;exact r
   have p:=i j om;have w:(⟨b,off,nn⟩:Addr).add j=⟨b,off+j,nn⟩:=by simp only[Addr.add];split<;>simp_all
   rw[w]at p;rw[p];have Q:zs.getD j 0=zs[j]'om:=by simp[List.getD,show j<zs.length by omega]
   have A:=f (zs[j]'om) (ql _);rw[Q,za,List.getElem_take,Q6 A.1]
def uW{H:Type}{enc:TypeId × Value->H}{W:Wd}{fuel:Nat}{v:Value}{y:DataW H × List MemPlace}
  (h:DataW.trod enc Tp W 0 (fun _=>true) true fuel 33 [v]=sQ y):∃a n cap l,v=sL a n cap/\iB W a n cap l/\n<=maxLen:=by
 obtain⟨a,n,c,l,e,⟨h1,b,d,f⟩,g⟩:=rV (B:=256) underlying33 underlying5 cells5 (fun z h=>by have:=bounds_u8 h;omega) h;exact⟨a,n,c,l,e,⟨h1,b,d,f⟩,g⟩
def jV{H:Type}{enc:TypeId × Value->H}{W:Wd}{fuel:Nat}{v:Value}{y:DataW H × List MemPlace}{t e:TypeId}(C:Tp.underlying t=sQ (.slice e))(c:Nat)(B:Tp.cellsOf e=c)(w:0<c)
  (h:DataW.trod enc Tp W 0 (fun _=>true) true fuel t [v]=sQ y):∃(a:Option Addr)(n cap:Nat),v=sL a n cap/\n<=cap/\n<=maxLen/\(n≠0->∃g off,a=sQ ⟨g,off,nn⟩/\∀i,i<n->∃(cs:List Value)(m:Nat)(z:DataW H × List MemPlace),DataW.trod enc Tp W 0 (fun _=>true) true m e cs=sQ z/\∀j,j<c->W.cell? ⟨g,off+i*c+j,nn⟩=cs[j]?):=by
 rcases DataW.trod_slice C h with⟨d,_⟩|⟨x,len,cap,K,rest,n,_,d,_,_,u,N,L,l,_,_⟩
 .simp at d;exact⟨nn,0,0,d,nR _,by unfold maxLen;omega,fun h=>Qj rfl h⟩
 .simp at d;refine⟨sQ x,len,cap,d,u,om,fun O=>?_⟩;rw[B]at l;have f:∀i,i<len->∃cs,W.cells? 0 (x.add (i*c)) c=sQ cs/\∃z,DataW.trod enc Tp W 0 (fun _=>true) true n e cs=sQ z:=by
   intro i hi;have h1:=l i hi;rw[Q4 om]at h1;cases h2:W.cells? 0 (x.add (i*c)) c with
   |none=>rw[h2]at h1;simp at h1
   |some cs=>rw[h2]at h1;exact⟨cs,rfl,_,h1⟩
  obtain⟨b,off,E⟩:=x;obtain⟨G,p,_⟩:=f 0 om;have A:E=nn:=by
   have M:=(World.cells?_some p).2.1;have k:=(World.cells?_some p).2.2 0 w;rw[Q4 om]at k;simpa[Addr.add]using World.cell?_spot k
  subst A;refine⟨b,off,rfl,fun i hi=>?_⟩;obtain⟨cs,r,z,D⟩:=f i hi;refine⟨cs,n,z,D,fun j s=>?_⟩;have:=(World.cells?_some r).2.2 j s;rw[Addr.add_mid,Addr.add_mid]at this;exact this
def jX{d:Type}{n:Nat}{p:Nat->d->Prop}(h:∀i,i<n->∃b,p i b):∃a:List d,a.length=n/\∀j(c:j<a.length),p j a[j]:=by
 refine⟨List.ofFn (n:=n) fun i=>Classical.choose (h i.1 i.2),pQ,fun j c=>?_⟩;rw[List.getElem_ofFn];exact Classical.choose_spec (h j (by simpa using c))
def kT{H:Type}(enc:TypeId × Value->H)(W:Wd)(n:Nat)(cs:List Value)(fs:Array Field):Prop:=∀(i:Nat)(f:Field),fs[i]?=sQ f->∃y,DataW.trod enc Tp W 0 (fun _=>true) true n f.type ((cs.drop f.offset).take (Tp.cellsOf f.type))=sQ y
section
variable{H:Type}{enc:TypeId × Value->H}{W:Wd}{n:Nat}{cs:List Value}{fs:Array Field}
def g8{t:TypeId}{x:DataW H × List MemPlace}(e:Tp.underlying t=sQ (.struct fs))(h:DataW.trod enc Tp W 0 (fun _=>true) true n t cs=sQ x):∃n,kT enc W n cs fs/\cs.length=Tp.cellsOf t:=by
 obtain⟨xs,n,_,_,b,d,c⟩:=QK e h;refine⟨n,fun i f a=>?_,b⟩;have hi:i<xs.length:=by rw[d];exact(Array.getElem?_eq_some_iff.1 a).1
 exact⟨xs[i],by rw[c i f a,Q4 hi]⟩
def rh{k:Nat}{v:Value}(h:(cs.drop k).take 1=[v]):cs.drop k=v::cs.drop (k+1):=by
 have:=List.take_append_drop 1 (cs.drop k);rw[h,List.drop_drop]at this;exact this.symm
def kT.int(h:kT enc W n cs fs)(k o:Nat)(a:∃f,fs[k]?=sQ f/\f.type=3/\f.offset=o):∃z:Int,cs.drop o=I J z::cs.drop (o+1):=by
 obtain⟨f,a,b,rfl⟩:=a;obtain⟨y,hy⟩:=h k f a;rw[b,cells3]at hy;obtain⟨z,e,_,_⟩:=Qz underlying3 hy;exact⟨z,rh e⟩
def kT.bool(h:kT enc W n cs fs)(k o:Nat)(a:∃f,fs[k]?=sQ f/\f.type=4/\f.offset=o):∃z:Bool,cs.drop o=bO z::cs.drop (o+1):=by
 obtain⟨f,a,b,rfl⟩:=a;obtain⟨y,hy⟩:=h k f a;rw[b,cells4]at hy;obtain⟨z,e,_⟩:=QP underlying4 hy;exact⟨z,rh e⟩
def kT.u32(h:kT enc W n cs fs)(k o:Nat)(a:∃f,fs[k]?=sQ f/\f.type=32/\f.offset=o):∃z:Nat,cs.drop o=I .u32 (z:Int)::cs.drop (o+1):=by
 obtain⟨f,a,b,rfl⟩:=a;obtain⟨y,hy⟩:=h k f a;rw[b,cells32]at hy;obtain⟨z,e,_,w⟩:=Qz underlying32 hy;have:=bounds_u32 w;exact⟨z.toNat,by rw[rh e];congr 2;omega⟩
def kT.sub(h:kT enc W n cs fs)(k o t c:Nat)(a:∃f,fs[k]?=sQ f/\f.type=t/\f.offset=o)(b:Tp.cellsOf t=c):∃y,DataW.trod enc Tp W 0 (fun _=>true) true n t ((cs.drop o).take c)=sQ y:=by
 obtain⟨f,a,rfl,rfl⟩:=a;obtain⟨y,hy⟩:=h k f a;rw[b]at hy;exact⟨y,hy⟩
def kT.one(h:kT enc W n cs fs)(k o t:Nat)(c:∃f,fs[k]?=sQ f/\f.type=t/\f.offset=o)(b:Tp.cellsOf t=1)(a:o<cs.length):∃v y,DataW.trod enc Tp W 0 (fun _=>true) true n t [v]=sQ y/\cs.drop o=v::cs.drop (o+1):=by
 obtain⟨y,hy⟩:=h.sub k o t 1 c b;rw[List.drop_eq_getElem_cons a]at hy;exact⟨cs[o],y,hy,List.drop_eq_getElem_cons a⟩
end
section
variable{H:Type}{enc:TypeId × Value->H}{W:Wd}{fuel:Nat}{cs:List Value}{x:DataW H × List MemPlace}
def wX(f:DataW.trod enc Tp W 0 (fun _=>true) true fuel 218 cs=sQ x):∃b:R3,cs=[bO b.e,I .u32 b.m,I .u32 b.k]:=by
 obtain⟨n,h,g⟩:=g8 underlying218 f;rw[cells218]at g;obtain⟨i,a⟩:=h.bool 0 0 ⟨_,rfl,rfl,rfl⟩;obtain⟨j,c⟩:=h.u32 1 1 ⟨_,rfl,rfl,rfl⟩;obtain⟨l,d⟩:=h.u32 2 2 ⟨_,rfl,rfl,rfl⟩;refine⟨⟨i,j,l⟩,?_⟩;rw[show cs=cs.drop 0 from rfl,a,c,d,qo om]
abbrev r5(cs:List Value)(W:Wd)(b:R5)(a:Option Addr)(n cap:Nat):Prop:=cs=[bO b.e,I .u32 (b.i:Int),bO b.r,I J b.d,sL a n cap]/\iB W a n cap b.l/\n<=maxLen
abbrev r8(cs:List Value)(W:Wd)(b:R8)(a:Option Addr)(n cap:Nat):Prop:=cs=[I J b.x,I J b.y,I J b.z,bO b.e,I .u32 (b.i:Int),bO b.r,I J b.d,sL a n cap]/\iB W a n cap b.l/\n<=maxLen
def jW(i:DataW.trod enc Tp W 0 (fun _=>true) true fuel 35 cs=sQ x):∃(b:R5)(a:Option Addr)(n cap:Nat),r5 cs W b a n cap:=by
 obtain⟨n,h,j⟩:=g8 underlying35 i;rw[cells35]at j;obtain⟨r,c⟩:=h.bool 0 0 ⟨_,rfl,rfl,rfl⟩;obtain⟨s,d⟩:=h.u32 1 1 ⟨_,rfl,rfl,rfl⟩;obtain⟨t,e⟩:=h.bool 2 2 ⟨_,rfl,rfl,rfl⟩;obtain⟨u,f⟩:=h.int 3 3 ⟨_,rfl,rfl,rfl⟩;obtain⟨v,y,p,g⟩:=h.one 4 4 33 ⟨_,rfl,rfl,rfl⟩ cells33 om;obtain⟨a,m,cap,l,rfl,hy,k⟩:=uW p;refine⟨⟨r,s,t,u,l⟩,a,m,cap,?_,hy,k⟩;rw[show cs=cs.drop 0 from rfl,c,d,e,f,g,qo om]
def wS{t:TypeId}(A:t=205\/t=208)(u:DataW.trod enc Tp W 0 (fun _=>true) true fuel t cs=sQ x):∃(b:R8)(a:Option Addr)(n cap:Nat),r8 cs W b a n cap:=by
 rcases A with rfl|rfl;all_goals
  obtain⟨n,h,g⟩:=g8 (by first|exact underlying205|exact underlying208) u;rw[(by first|exact cells205|exact cells208:Tp.cellsOf _=8)]at g;obtain⟨B,j⟩:=h.int 0 0 ⟨_,rfl,rfl,rfl⟩;obtain⟨C,k⟩:=h.int 1 1 ⟨_,rfl,rfl,rfl⟩;obtain⟨D,p⟩:=h.int 2 2 ⟨_,rfl,rfl,rfl⟩;obtain⟨y,c⟩:=h.sub 3 3 35 5 ⟨_,rfl,rfl,rfl⟩ cells35;rw[QY (by rw[Q9,g];decide)]at c;obtain⟨f,a,m,cap,s,hy,w⟩:=jW c;refine⟨⟨B,C,D,f.e,f.i,f.r,f.d,f.l⟩,a,m,cap,?_,hy,w⟩;rw[show cs=cs.drop 0 from rfl,j,k,p,s]
end
section
variable{H:Type}{enc:TypeId × Value->H}{W:Wd}{fuel:Nat}{v:Value}{y:DataW H × List MemPlace}
def Du{t e:TypeId}(E:Tp.underlying t=sQ (.slice e))(A:e=205\/e=208)(hs:Tp.cellsOf e=8)(h:DataW.trod enc Tp W 0 (fun _=>true) true fuel t [v]=sQ y):∃(a:Option Addr)(n cap:Nat)(f:List R8),v=sL a n cap/\aP W a n cap f/\f.length<=9223372036854775807/\∀j(h:j<f.length),f[j].l.length<=9223372036854775807:=by
 obtain⟨a,n,cap,rfl,u,D,w⟩:=jV E 8 hs (by decide) h;have K:n<=9223372036854775807:=by unfold maxLen at D;omega
 by_cases h0:n=0
 .subst h0;exact⟨a,0,cap,[],rfl,⟨rfl,u,fun e=>Qj rfl e⟩,pQ,fun j d=>by cases d⟩
 .obtain⟨g,off,rfl,hx⟩:=w h0
  obtain⟨f,C,s⟩:=jX (p:=fun i(b:R8)=>(∃r m c,at8 W g (off+i*8) b r m c)/\b.l.length<=9223372036854775807) (fun i hi=>by
   obtain⟨cs,m,z,G,d⟩:=hx i hi
   obtain⟨b,r,k,c,rfl,hy,B⟩:=wS A G
   exact⟨b,⟨r,k,c,d 0 (by decide),d 1 (by decide),d 2 (by decide),d 3 (by decide),d 4 (by decide),d 5 (by decide),d 6 (by decide),d 7 (by decide),hy⟩,by rw[<- hy.len];unfold maxLen at B;omega⟩)
  exact⟨_,n,cap,f,rfl,⟨C.symm,u,fun _=>⟨g,off,rfl,fun j d=>(s j d).1⟩⟩,om,fun j d=>(s j d).2⟩
def sT(h:DataW.trod enc Tp W 0 (fun _=>true) true fuel 26 [v]=sQ y):∃(a:Option Addr)(n cap:Nat)(f:List R5),v=sL a n cap/\cn W a n cap f/\f.length<=9223372036854775807/\∀j(h:j<f.length),f[j].l.length<=9223372036854775807:=by
 obtain⟨a,n,cap,rfl,t,B,u⟩:=jV underlying26 5 cells35 (by decide) h;have D:n<=9223372036854775807:=by unfold maxLen at B;omega
 by_cases h0:n=0
 .subst h0;exact⟨a,0,cap,[],rfl,⟨rfl,t,fun e=>Qj rfl e⟩,pQ,fun j d=>by cases d⟩
 .obtain⟨g,off,rfl,hx⟩:=u h0
  obtain⟨f,A,s⟩:=jX (p:=fun i(b:R5)=>(∃r m c,at5 W g (off+i*5) b r m c)/\b.l.length<=9223372036854775807) (fun i hi=>by
   obtain⟨cs,m,z,C,d⟩:=hx i hi
   obtain⟨b,r,k,c,rfl,hy,w⟩:=jW C
   exact⟨b,⟨r,k,c,d 0 (by decide),d 1 (by decide),d 2 (by decide),d 3 (by decide),d 4 (by decide),hy⟩,by rw[<- hy.len];unfold maxLen at w;omega⟩)
  exact⟨_,n,cap,f,rfl,⟨A.symm,t,fun _=>⟨g,off,rfl,fun j d=>(s j d).1⟩⟩,om,fun j d=>(s j d).2⟩
def pY(h:DataW.trod enc Tp W 0 (fun _=>true) true fuel 24 [v]=sQ y):∃(a:Option Addr)(n cap:Nat)(d:List R3),v=sL a n cap/\bB W a n cap d/\d.length<=9223372036854775807:=by
 obtain⟨a,n,cap,rfl,f,s,k⟩:=jV underlying24 3 cells218 (by decide) h;have u:n<=9223372036854775807:=by unfold maxLen at s;omega
 by_cases h0:n=0
 .subst h0;exact⟨a,0,cap,[],rfl,⟨rfl,f,fun e=>Qj rfl e⟩,pQ⟩
 .obtain⟨g,off,rfl,hx⟩:=k h0
  obtain⟨d,r,l⟩:=jX (p:=fun i(b:R3)=>at3 W g (off+i*3) b) (fun i hi=>by
   obtain⟨cs,m,z,t,c⟩:=hx i hi
   obtain⟨b,rfl⟩:=wX t
   exact⟨b,c 0 (by decide),c 1 (by decide),c 2 (by decide)⟩)
  exact⟨_,n,cap,d,rfl,⟨r.symm,f,fun _=>⟨g,off,rfl,fun j c=>l j c⟩⟩,om⟩
end
def xA{H:Type}{enc:TypeId × Value->H}{W:Wd}{fuel:Nat}{cs:List Value}{y:DataW H × List MemPlace}
  (h:DataW.trod enc Tp W 0 (fun _=>true) true fuel 29 cs=sQ y):∃(h:Ho)(s:Sl),cs=[I J h.c0,I J h.c1,I J h.c2,I J h.c3,sL s.a1 s.n1 s.k1,sL s.a2 s.n2 s.k2,sL s.a3 s.n3 s.k3,sL s.a4 s.n4 s.k4,I J h.lo,I J h.st]/\bj W h s/\h.le 9223372036854775807:=by
 obtain⟨n,g,E⟩:=g8 underlying29 h;rw[cells29]at E;obtain⟨y0,A⟩:=g.sub 0 0 23 4 ⟨_,rfl,rfl,rfl⟩ cells23;obtain⟨m,f,_⟩:=g8 underlying23 A;obtain⟨a,r⟩:=f.int 0 0 ⟨_,rfl,rfl,rfl⟩;obtain⟨b,t⟩:=f.int 1 1 ⟨_,rfl,rfl,rfl⟩;obtain⟨c,u⟩:=f.int 2 2 ⟨_,rfl,rfl,rfl⟩;obtain⟨d,w⟩:=f.int 3 3 ⟨_,rfl,rfl,rfl⟩;obtain⟨X,_,h1,e⟩:=g.one 1 4 24 ⟨_,rfl,rfl,rfl⟩ cells24 om;obtain⟨Y,_,B,i⟩:=g.one 2 5 25 ⟨_,rfl,rfl,rfl⟩ cells25 om;obtain⟨Z,_,C,j⟩:=g.one 3 6 26 ⟨_,rfl,rfl,rfl⟩ cells26 om;obtain⟨v4,_,D,k⟩:=g.one 4 7 27 ⟨_,rfl,rfl,rfl⟩ cells27 om;obtain⟨lo,l⟩:=g.int 5 8 ⟨_,rfl,rfl,rfl⟩;obtain⟨st,p⟩:=g.int 6 9 ⟨_,rfl,rfl,rfl⟩;obtain⟨a1,n1,k1,fs,rfl,Q,G⟩:=pY h1;obtain⟨a2,n2,k2,bx,rfl,R,K,N⟩:=Du underlying25 (qp rfl) cells205 B;obtain⟨a3,n3,k3,ff,rfl,S,L,O⟩:=sT C;obtain⟨a4,n4,k4,qu,rfl,T,M,P⟩:=Du underlying27 (qt rfl) cells208 D;refine⟨⟨a,b,c,d,fs,bx,ff,qu,lo,st⟩,⟨a1,n1,k1,a2,n2,k2,a3,n3,k3,a4,n4,k4⟩,?_,⟨Q,R,S,T⟩,⟨G,K,L,M,N,O,P⟩⟩;have U:(cs.drop 0).take 4=[I J a,I J b,I J c,I J d]:=by
  rw[show(cs.drop 0).take 4=((cs.drop 0).take 4).drop 0 from rfl,r,t,u,w,qo (by simp;omega)]
 have t1:=List.take_append_drop 4 cs;rw[show cs.take 4=_ from U,e,i,j,k,l,p,qo om]at t1;exact t1.symm
end Go.Proofs.YtbbffcolnddcdaaGreatDoor
