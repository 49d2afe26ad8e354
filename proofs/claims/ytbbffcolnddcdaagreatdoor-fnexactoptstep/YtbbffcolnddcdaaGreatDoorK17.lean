import Derived.Deep.DeepCutAuto
import Derived.Test.YtbbffcolnddcdaaGreatDoorK16
import Derived.Test.YtbbffcolnddcdaaGreatDoorK13
import Derived.Deep.RegionHeld3
import Derived.Deep.RegionWith
namespace Go.Proofs.YtbbffcolnddcdaaGreatDoor
set_option linter.all false
open Go.RowKit
section
variable{f lf rn lv cr ac d:Int}{e r:Bool}{i b:Nat}{l:List Nat}
def bG(S:Sc)(b:Nat):Sc:=if 11<=S.f then{S with rn:=0,lv:=0}else{S with rn:=if 0<S.rn/\(b:Int)=S.lv then S.rn+1 else 1,lv:=b}
def dZ(S:Sc)(b:Nat):Sc:=if S.f<=9 then{S with cr:=((M.dE S.cr.toNat b:Nat):Int)}else S
def ew(S:Sc)(b:Nat):Sc:=if S.f=10 then{S with ac:=(2*S.ac+b)%32768}else S
def cT(T:Sc):Sc:=if T.lf=1 then{T with f:=ax T.f T.e T.r T.d,lf:=aS (ax T.f T.e T.r T.d) T.e T.d,l:=if ax T.f T.e T.r T.d=9 then[]else T.l}else{T with lf:=T.lf-1}
def cB(S:Sc)(b:Nat):Sc:=cT (aQ (ew (dZ (bG S b) b) b) b)
def sR(h:11<=f):bG ⟨f,lf,rn,lv,cr,ac,e,i,r,d,l⟩ b=⟨f,lf,0,0,cr,ac,e,i,r,d,l⟩:=QW h
def sP(h:f<11)(h1:0<rn)(a:(b:Int)=lv):bG ⟨f,lf,rn,lv,cr,ac,e,i,r,d,l⟩ b=⟨f,lf,rn+1,b,cr,ac,e,i,r,d,l⟩:=by
 refine(QV (by show¬11<=f;omega)).trans ?_;simp only[];rw[QW ⟨h1,a⟩]
def og(h:f<11)(h1:¬(0<rn/\(b:Int)=lv)):bG ⟨f,lf,rn,lv,cr,ac,e,i,r,d,l⟩ b=⟨f,lf,1,b,cr,ac,e,i,r,d,l⟩:=by
 refine(QV (by show¬11<=f;omega)).trans ?_;simp only[];rw[QV h1]
def ym(T U:Sc):Sc:={T with e:=U.e,i:=U.i,r:=U.r,d:=U.d,l:=U.l}
def uK(f lf rn lv cr ac h g c a:Int)(e:Bool)(i:Nat)(r:Bool)(d:Int)(l:List Nat)(b:Nat):aQ ⟨f,lf,h,g,c,a,e,i,r,d,l⟩ b=ym ⟨f,lf,h,g,c,a,e,i,r,d,l⟩ (aQ ⟨f,lf,rn,lv,cr,ac,e,i,r,d,l⟩ b):=by
 unfold aQ ym;simp only[];split
 .rfl
 split
 .rfl
 split
 .rfl
 split
 .rfl
 split<;>rfl
def iH(T:Sc)(b:Nat)(j:b<2)(a:0<=T.d)(c:T.d<=15)(hs:∀x∈T.l,x<256):(aQ T b).f=T.f/\(aQ T b).lf=T.lf/\0<=(aQ T b).d/\(aQ T b).d<=15/\(∀x∈(aQ T b).l,x<256):=by
 unfold aQ;split
 .exact⟨rfl,rfl,a,c,hs⟩
 split
 .exact⟨rfl,rfl,a,c,hs⟩
 split
 .exact⟨rfl,rfl,a,c,hs⟩
 split
 .exact⟨rfl,rfl,by show 0<=(2*T.d+b)%16;omega,by show(2*T.d+b)%16<=15;omega,hs⟩
 split
 .refine⟨rfl,rfl,a,c,?_⟩;show ∀x∈eu T.l T.lf b,x<256;intro x g;unfold eu at g;split at g
  .rcases List.mem_append.1 g with h|h
   .exact hs x h
   .have:x=b:=by simpa using h
    omega
  .rcases List.mem_or_eq_of_mem_set g with h|h
   .exact hs x h
   .omega
 .exact⟨rfl,rfl,a,c,hs⟩
end
open Go.Proofs.Tryz
set_option maxRecDepth 20000
set_option maxHeartbeats 16000000
open Go.Value renaming int->I,slice->sL,bool->bO,pointer->pT,agg->aG
open Go.IntKind renaming i64->J
open Go.Ending renaming returned->rT
open Go.Proofs.Tryz renaming prog->Tp
section
variable{k:Nat}{bx:List R8}{st:Int}{w:World}
def cV(st:Int)(b:R8):Prop:=if b.x=0 then(b.y=0/\b.z=0/\zFr b.e b.i b.r b.d b.l.length)else((1<=b.x/\b.x<=3)/\(0<=b.y/\b.y<=9999)/\(0<=b.z/\b.z<st)/\vB b.e b.i b.r b.d b.l.length=true)
def far(a b:R8):Prop:=a.x≠0->b.x≠0->a.y≠b.y/\a.z≠b.z
def iJ(bx:List R8):Nat:=bx.countP (fun b=>b.x !=0&&b.x !=1)
def da(st:Int)(bx:List R8):Prop:=(∀j(h:j<bx.length),cV st bx[j])/\(∀i j(hi:i<bx.length)(hj:j<bx.length),i<j->far bx[i] bx[j])/\iJ bx<=1
structure obS(w:World)(H:Ho)(s:Sl)(W:World):Prop where
 p:blk W w.heap.size (hoL H s) 50
 b:Bl w W
def obS.below{H:Ho}{s:Sl}{W W':World}(h:obS w H s W)(hb:Bl W W'):obS w H s W':=⟨h.p.below hb,h.b.trans (hb.mono h.b.size)⟩
def uX(bx:List R8)(k:Nat)(h:k<bx.length):iJ (bx.take (k+1))=iJ (bx.take k)+(if(bx[k].x !=0&&bx[k].x !=1)=true then 1 else 0):=by
 unfold iJ;rw[qe h,List.countP_append];simp[List.countP_cons]
def an{ops:Array Oper}{rest:List Oper}{op:Oper}{a:Act}{Q:Exit->Act->World->Prop}(hw:Region.wanted op (yielded ops a.tmps)=true)(ty:TypeId)(x:Operand)(ho:op.op= .load ty x)
  (b o:Nat) (hx:a.eval x=pT (some ⟨b,o,none⟩)) (cs:List Value) (d:TypeDesc) (hc:w.rangeAt b o cs)
  (hu:Tp.underlying ty=some d) (hd:d.isRow=true) (hi:(Tp.info? ty).map (·.size)=some cs.length)
  (h:wpList Tp ops Q rest (a.put op.dst (aG cs.toArray)) w):wpList Tp ops Q (op::rest) a w:=
 wpList_step fun K hK=>by
  simp only[hw,if_true];exact wp_load_mid ty x ho b o hx cs d hc hu hd hi (hK _ _ h)
def n9(hk:k<bx.length)(h:¬cV st bx[k]):¬da st bx:=fun hh=>h (hh.1 k hk)
def xj{i:Nat}(hi:i<bx.length)(hk:k<bx.length)(hik:i<k)(h:¬far bx[i] bx[k]):¬da st bx:=fun hh=>h (hh.2.1 i k hi hk hik)
def AM(c:∀i j(hi:i<bx.length)(a:j<bx.length),i<j->j<k->far bx[i] bx[j])(f:k<bx.length)(h:∀i(hi:i<bx.length),i<k->far bx[i] bx[k]):∀i j(hi:i<bx.length)(a:j<bx.length),i<j->j<k+1->far bx[i] bx[j]:=by
 intro i j hi a b d;by_cases e:j=k
 .subst e;exact h i hi b
 .exact c i j hi a b om
def lP{c:Type}{p:c->Prop}{a:List c}(f:k<a.length)(h:∀j(b:j<a.length),j<k->p a[j])(h1:p a[k]):∀j(b:j<a.length),j<k+1->p a[j]:=by
 intro j b d;by_cases e:j=k
 .subst e;exact h1
 .exact h j b om
structure rbS(st:Int)(bx:List R8)(k:Nat)(b:R8):Prop where
 bad:¬cV st b->¬da st bx
 good:cV st b->∀j(hj:j<bx.length),j<k+1->cV st bx[j]
 fars:(∀i(hi:i<bx.length),i<k->far bx[i] b)->∀i j(hi:i<bx.length)(hj:j<bx.length),i<j->j<k+1->far bx[i] bx[j]
 bf:∀i(hi:i<bx.length),i<k->¬far bx[i] b->¬da st bx
 bn:iJ (bx.take (k+1))=iJ (bx.take k)+(if(b.x !=0&&b.x !=1)=true then 1 else 0)
def rbS.of(hk:k<bx.length)(hA:∀j(hj:j<bx.length),j<k->cV st bx[j])(hD:∀i j(hi:i<bx.length)(hj:j<bx.length),i<j->j<k->far bx[i] bx[j]):rbS st bx k bx[k]:=
 ⟨n9 hk,fun ho=>lP hk hA ho,fun ho=>AM hD hk ho,fun i hi hik hf=>xj hi hk hik hf,uX bx k hk⟩
def mZ(w:World)(H:Ho)(s:Sl)(h:aP w s.a2 s.n2 s.k2 H.bx)(hn:s.n2<=8):ce 161 #[hoV H s] w fun o w'=>bH o (da H.st H.bx)/\Bl w w':=by
 have HH:=hI h;have K:=hI h.len;have am:=h.cap;have H0:Hid (obS w H s (w.alloc (.cells (hoL H s).toArray 50))):=⟨blk.new w _ 50,Zw⟩
 clear h;rw[gC];go_enter func161,ntmps161;go_wp2_with fail;go_loopw [3,4] (fun b i wr=>∃k q:Nat,k<=s.n2/\i=I J (k:Int)/\b=I J (q:Int)/\q<=k/\q=iJ (H.bx.take k)/\(∀j(A:j<H.bx.length),j<k->cV H.st H.bx[j])/\(∀i j(hi:i<H.bx.length)(A:j<H.bx.length),i<j->j<k->far H.bx[i] H.bx[j])/\obS w H s wr) (fun _ i _=>s.n2-(intOf i).toNat);case atStart=>exact⟨0,0,nZ _,rfl,rfl,nR _,by simp[iJ],fun j A h=>Qj h (nN _),fun i j hi A h1 Z=>Qj Z (nN _),H0.o⟩
 case round=>
  obtain⟨k,q,hk,rfl,rfl,aw,R,hA,Q,hS⟩:=hrel;have Y:=hI hS;have x5:=hS.p.cell 5 _ rfl;by_cases ap:k<s.n2
  .have hkl:k<H.bx.length:=by have:=K.o;omega
   obtain⟨g,off,ha,hc⟩:=HH.o.cells (by intro e;rw[e]at hkl;cases hkl);obtain⟨C,m,c,O⟩:=hc k hkl;have HC:Hid (∀W,Bl w W->∀j(h:j<H.bx.length),∃C m c,at8 W g (off+j*8) H.bx[j] C m c):=fun W hW j A=>by obtain⟨a,b,c,h⟩:=hc j A;exact⟨a,b,c,h.below hW⟩
   have a0:=hI ha;rw[ha]at x5;have a5:=rbS.of hkl hA Q;have X:=(O.below Y.o.b).range;have hM:=O.dat.len;have a4:=hI R;clear O hc ha R hA Q hS;generalize H.bx[k]=b at*;obtain⟨x,y,z,e,i,r,d,l⟩:=b;dsimp only at X hM;have u:=hI a5;have a6:=hI X;have E:Hid (cV H.st ⟨x,y,z,e,i,r,d,l⟩↔(x=0/\y=0/\z=0/\zFr e i r d m)\/(x≠0/\(1<=x/\x<=3)/\(0<=y/\y<=9999)/\(0<=z/\z<H.st)/\vB e i r d m=true)):=by
    show _↔_;unfold cV;dsimp only;rw[<- hM];by_cases h:x=0<;>simp[h]
   clear a5 X hM;have n:Hid (blk (wr.alloc (.cells #[I J x,I J y,I J z,bO e,I .u32 (i:Int),bO r,I J d,sL C m c] 114)) wr.heap.size [I J x,I J y,I J z,bO e,I .u32 (i:Int),bO r,I J d,sL C m c] 114/\obS w H s (wr.alloc (.cells #[I J x,I J y,I J z,bO e,I .u32 (i:Int),bO r,I J d,sL C m c] 114))):=⟨blk.new wr _ 114,Y.o.below Zw⟩
   go_upto_region 6 with(refine ZG 114 a6.o underlying114 cK ?_)
   generalize wr.alloc _=w3 at*;have p9:=n.o.2.p.cell 9 _ rfl;have u0:=n.o.1.cell 0 _ rfl;have u1:=n.o.1.cell 1 _ rfl;have u2:=n.o.1.cell 2 _ rfl;have u3:=n.o.1.cell 3 _ rfl;have u4:=n.o.1.cell 4 _ rfl;have u5:=n.o.1.cell 5 _ rfl;have u6:=n.o.1.cell 6 _ rfl;have u7:=n.o.1.cell 7 _ rfl;go_wp2_with fail
   all_goals try
    go_ret;exact⟨⟨false,rfl,by simpa using u.o.bad (fun h=>by rcases E.o.1 h with⟨h1,Z,h3,_⟩|⟨h1,⟨Z,h3⟩,⟨h4,h5⟩,⟨h6,h7⟩,_⟩<;>first|omega|simp_all)⟩,n.o.2.b⟩
   .refine (eE _ e i r d C m c).mono ?_;rintro o T ⟨⟨bb,rfl,h1⟩,G⟩;have f:=hI (n.o.2.below G);have D:Hid (bb=true↔cV H.st ⟨x,y,z,e,i,r,d,l⟩):=⟨fun h=>E.o.2 (qp ⟨by simp_all,by assumption,by assumption,h1.1 h⟩),fun h=>h1.2 (by rcases E.o.1 h with h|h;exact h.2.2.2;simp_all)⟩
    have HX:Hid (x=0):=by show _=_;simp_all
    clear h1 G;cases bb
    .go_wp2_with fail;go_ret;exact⟨⟨false,rfl,by simpa using u.o.bad (fun h=>by have:=D.o.2 h;simp at this)⟩,f.o.b⟩
    .go_wp2_with fail;go_roundw;case rel=>
      refine⟨k+1,q,om,by go_num,rfl,om,?_,u.o.good (D.o.1 (by trivial)),u.o.fars (fun i hi ao _ h=>Qj HX.o h),f.o⟩;rw[u.o.bn,<- a4.o,HX.o];simp
     case measure=>simp[intOf];omega
   .refine (aX _ e i r d C m c).mono ?_;rintro o T ⟨rfl,G⟩;have f:Hid (blk T wr.heap.size [I J x,I J y,I J z,bO e,I .u32 (i:Int),bO r,I J d,sL C m c] 114/\obS w H s T):=⟨n.o.1.below G,n.o.2.below G⟩
    have L:Hid (x≠0):=by show¬_=_;simp_all
    have D:Hid (vB e i r d m=true↔cV H.st ⟨x,y,z,e,i,r,d,l⟩):=⟨fun h=>E.o.2 (qt ⟨L.o,by have:=L.o;omega,om,om,h⟩),fun h=>by rcases E.o.1 h with h|h;(exact Qj h.1 L.o);exact h.2.2.2.2⟩
    obtain⟨b,M⟩:∃b,vB e i r d m=b:=⟨_,rfl⟩
    rw[M]at D;rw[M];clear M G E a6 n p9 u0 u1 u2 u3 u4 u5 u6 u7;cases b
    .go_wp2_with fail;go_ret;exact⟨⟨false,rfl,by simpa using u.o.bad (fun h=>by have:=D.o.2 h;simp at this)⟩,f.o.2.b⟩
    have a3:=hI (D.o.1 rfl);have y0:=f.o.1.cell 0 _ rfl;have y1:=f.o.1.cell 1 _ rfl;have y2:=f.o.1.cell 2 _ rfl;have S:=f.o.2.p.cell 5 _ rfl;rw[a0.o]at S;clear D;go_wp2_with fail;all_goals
     have HN:Hid (iJ (H.bx.take (k+1))=q+(if(x !=1)=true then 1 else 0)):=by show _=_;have h1:=L.o;rw[u.o.bn,<- a4.o];simp[h1]
     clear y0 y1 y2 S x5;generalize wr.heap.size=PB at*;go_loopw [6] (fun j wr=>∃v:Nat,v<=k/\j=I J (v:Int)/\(∀B(hi:B<H.bx.length),B<v->far H.bx[B] ⟨x,y,z,e,i,r,d,l⟩)/\Bl T wr) (fun j _=>k-(intOf j).toNat);case atStart=>exact⟨0,nZ _,rfl,fun i hi h=>Qj h (nN _),bW _ _⟩
     case round=>
      obtain⟨v,b4,rfl,hF,N⟩:=hrel;have P:=hI N;have U:=hI hF;have y1:=(f.o.1.below N).cell 1 _ rfl;have y2:=(f.o.1.below N).cell 2 _ rfl;have S:=(f.o.2.below N).p.cell 5 _ rfl;rw[a0.o]at S;clear hF N;by_cases ad:v<k
      .have hvl:v<H.bx.length:=by have:=K.o;omega
       have b5:v<s.n2:=om;obtain⟨ak,m',c',O⟩:=HC.o _ (f.o.2.below P.o).b v hvl;obtain⟨u0,u1,u2,-,-,-,-,-,-⟩:=O;have a8:Hid (far H.bx[v] ⟨x,y,z,e,i,r,d,l⟩->∀B(hi:B<H.bx.length),B<v+1->far H.bx[B] ⟨x,y,z,e,i,r,d,l⟩):=fun h1=>lP (p:=fun t=>far t ⟨x,y,z,e,i,r,d,l⟩) hvl U.o h1;have a9:=hI (u.o.bf v hvl ad);generalize H.bx[v]=b' at*;obtain⟨x',y',z',e',B,r',d',l'⟩:=b';dsimp only at u0 u1 u2;obtain⟨b1,e1⟩:∃b,(x' !=0)=b:=⟨_,rfl⟩
       obtain⟨b2,e2⟩:∃b,(y'==y)=b:=⟨_,rfl⟩
       obtain⟨b3,e3⟩:∃b,(z'==z)=b:=⟨_,rfl⟩
       have HV:Hid (far ⟨x',y',z',e',B,r',d',l'⟩ ⟨x,y,z,e,i,r,d,l⟩↔(b1&&(b2||b3))=false):=by
        show _↔_;have h1:=L.o;simp only[far,<- e1,<- e2,<- e3];by_cases af:x'=0<;>simp[af,h1]
       cases b1;rotate_left
       cases b2;cases b3;all_goals
        go_wp2;go_quiet (fail);have a1:=hI (QB P.o nq);go_wp2;first|(go_roundw;(case rel=>exact⟨v+1,om,by go_num,a8.o (HV.o.2 (by trivial)),a1.o⟩);(case measure=>simp[intOf];omega))|(go_ret;exact⟨⟨false,rfl,by simpa using a9.o (fun h=>by have:=HV.o.1 h;simp at this)⟩,(f.o.2.below a1.o).b⟩)
      .have hve:v=k:=om;subst hve;go_wp2;go_roundw
       case rel=>first
        |exact⟨v+1,q+1,om,by go_num,by go_num,om,by have:=HN.o;simp_all,u.o.good a3.o,u.o.fars U.o,f.o.2.below P.o⟩
        |exact⟨v+1,q,om,by go_num,rfl,om,by have:=HN.o;simp_all,u.o.good a3.o,u.o.fars U.o,f.o.2.below P.o⟩
       case measure=>simp[intOf];omega
  .have hkn:k=s.n2:=om;subst hkn;have a7:Hid (da H.st H.bx↔q<=1):=by
    show _↔_;rw[QY (by have:=K.o;omega)]at R;exact⟨fun h=>by have:=h.2.2;omega,fun h=>⟨fun j A=>hA j A (by have:=K.o;omega),fun i j hi A ac=>Q i j hi A ac (by have:=K.o;omega),om⟩⟩
   clear R hA Q hS;obtain⟨b,M⟩:∃b,decide ((q:Int)<=1)=b:=⟨_,rfl⟩
   have HD:Hid (b=true↔q<=1):=by show _↔_;rw[<- M];simp;omega
   go_wp2;go_ret;exact⟨⟨b,rfl,HD.o.trans a7.o.symm⟩,Y.o.b⟩
end
structure dP(H:Ho):Prop where
 cf:mT H.c0 H.c1 H.c2 H.c3=true
 fs:ig H.fs=true
 nb:(H.bx.length:Int)=H.c0
 nf:(H.ff.length:Int)<=H.c1
 nq:(H.qu.length:Int)<=H.c3
 l0:0<=H.lo
 l1:H.lo<=100000
 s0:0<=H.st
 s1:H.st<=1000000
 ff:H.ff.all gQ=true
 qu:H.qu.all gB=true
 bx:da H.st H.bx
def wy{e:Bool}{i:Nat}{r:Bool}{d:Int}{n:Nat}(h:zFr e i r d n):vB e i r d n=true:=by
 obtain⟨rfl,rfl,rfl,rfl,rfl⟩:=h;decide
def Ap(w:World)(H:Ho)(s:Sl)(h:bj w H s)(hn:H.le 1048576):ce 99 #[hoV H s] w fun o w'=>bH o (dP H)/\Bl w w':=by
 have G:Hid (obS w H s (w.alloc (.cells (hoL H s).toArray 50))):=⟨blk.new w _ 50,Zw⟩
 have HH:=hI h;have v:Hid (s.n2=H.bx.length/\s.n3=H.ff.length/\s.n4=H.qu.length/\s.n3<=s.k3/\s.n4<=s.k4):=⟨h.bx.len,h.ff.len,h.qu.len,h.ff.cap,h.qu.cap⟩
 have ak:Hid (∀W,Bl w W->ce 160 #[sL s.a1 s.n1 s.k1] W fun o w'=>o=rT (bO (ig H.fs))/\Bl W w'):=fun W hW=>kQ W _ _ _ _ (h.fs.below hW) (by rw[h.fs.len];exact hn.fs);have a9:Hid (s.n2<=8->∀W,Bl w W->ce 161 #[hoV H s] W fun o w'=>bH o (da H.st H.bx)/\Bl W w'):=fun h8 W hW=>mZ W H s (h.bx.below hW) h8;have q0:=G.o.p.cell 0 _ rfl;have q1:=G.o.p.cell 1 _ rfl;have q2:=G.o.p.cell 2 _ rfl;have q3:=G.o.p.cell 3 _ rfl;clear h hn;rw[gC];go_enter func99,ntmps99;go_wp2_with fail;refine(lZ _ H.c0 H.c1 H.c2 H.c3).mono ?_;rintro o w1 ⟨rfl,a5⟩;have N:=hI (G.o.below a5);have E:=Bool.eq_false_or_eq_true (mT H.c0 H.c1 H.c2 H.c3);have ad:Hid (∀b,mT H.c0 H.c1 H.c2 H.c3=b->dP H->b=true):=fun b e h=>by rw[<- e];exact h.cf
 generalize a:mT H.c0 H.c1 H.c2 H.c3=b at*;have a0:Hid (mT H.c0 H.c1 H.c2 H.c3=b):=a;clear q0 q1 q2 q3 a5 G a E;cases b
 .have HB:Hid (¬dP H):=fun h=>by have:=ad.o _ rfl h;cases this
  go_wp2_with fail;go_ret;exact⟨⟨false,rfl,by simpa using HB.o⟩,N.o.b⟩
 have q4:=N.o.p.cell 4 _ rfl;go_wp2_with fail;refine(ak.o _ N.o.b).mono ?_;rintro o w2 ⟨rfl,a6⟩;have n:=hI (N.o.below a6);generalize a:ig H.fs=b at*;have a2:Hid (ig H.fs=b):=a;clear q4 a6 N a;cases b
 .have HB:Hid (¬dP H):=fun h=>by have:=h.fs;rw[a2.o]at this;cases this
  go_wp2_with fail;go_ret;exact⟨⟨false,rfl,by simpa using HB.o⟩,n.o.b⟩
 have a3:Hid (¬((s.n2:Int)=H.c0/\(s.n3:Int)<=H.c1/\(s.n4:Int)<=H.c3/\0<=H.lo/\H.lo<=100000/\0<=H.st/\H.st<=1000000)->¬dP H):=fun h f=>h (by have:=v.o;have:=f.nb;have:=f.nf;have:=f.nq;have:=f.l0;have:=f.l1;have:=f.s0;have:=f.s1;omega);have q0:=n.o.p.cell 0 _ rfl;have q1:=n.o.p.cell 1 _ rfl;have q3:=n.o.p.cell 3 _ rfl;have q5:=n.o.p.cell 5 _ rfl;have q6:=n.o.p.cell 6 _ rfl;have q7:=n.o.p.cell 7 _ rfl;have q8:=n.o.p.cell 8 _ rfl;have q9:=n.o.p.cell 9 _ rfl;go_wp2_with fail
 all_goals try
  go_ret;exact⟨⟨false,rfl,by simpa using a3.o (fun f=>by first|omega|(have h9:=f.1;simp_all))⟩,n.o.b⟩
 have a:(s.n2:Int)=H.c0:=by simp_all
 have ac:=qJ a0.o;have A:Hid (((H.bx.length:Int)=H.c0/\s.n2<=8)/\(H.ff.length:Int)<=H.c1/\(H.qu.length:Int)<=H.c3/\0<=H.lo/\H.lo<=100000/\0<=H.st/\H.st<=1000000):=by have:=v.o;exact⟨om,om,om,om,om,om,om⟩
 have aw:s.n3<=16:=om;have b1:s.n4<=32:=om;clear q0 q1 q3 q5 q6 q7 q8 q9 a ac a3;go_loopw [3] (fun i wr=>∃k:Nat,k<=s.n3/\i=I J (k:Int)/\(∀j(R:j<H.ff.length),j<k->gQ H.ff[j]=true)/\obS w H s wr) (fun i _=>s.n3-(intOf i).toNat);case atStart=>exact⟨0,nZ _,rfl,fun j R h=>Qj h (nN _),n.o⟩
 case round=>
  obtain⟨k,hk,rfl,hA,hS⟩:=hrel;have C:=hI hA;have g:=hI hS;have x6:=hS.p.cell 6 _ rfl;clear hA hS;by_cases a8:k<s.n3
  .have hkl:k<H.ff.length:=by have:=v.o;omega
   obtain⟨g3,o3,P,E⟩:=(HH.o.below g.o.b).ff.cells (fun e=>by rw[e]at hkl;cases hkl);have ap:=v.o.2.2.2.1;obtain⟨t,m,c,u⟩:=E k hkl;rw[P]at x6;have K:Hid (gQ H.ff[k]=true->∀j(R:j<H.ff.length),j<k+1->gQ H.ff[j]=true):=fun h=>iQ hkl C.o h;have L:Hid (gQ H.ff[k]=false->¬dP H):=fun h f=>by have:=f.ff;rw[lq hkl h]at this;cases this
   generalize H.ff[k]=Z at*;obtain⟨e,i,r,d,l⟩:=Z;obtain⟨r0,r1,r2,r3,r4,hD⟩:=u;have B:=hD.len;dsimp only at r0 r1 r2 r3 r4 B;have a4:gQ ⟨e,i,r,d,l⟩=vB e i r d m:=by unfold gQ;rw[B]
   rw[a4]at K L;clear E hD B a4 P;go_wp2_with fail;refine(aX wr e i r d t m c).mono ?_;rintro o w4 ⟨rfl,M⟩;have D:=hI M;clear M r0 r1 r2 r3 r4;obtain⟨b,a⟩:∃b,vB e i r d m=b:=⟨_,rfl⟩
   rw[a]at K L;rw[a];clear a;cases b
   .go_wp2_with fail;go_ret;exact⟨⟨false,rfl,by simpa using L.o (by trivial)⟩,(g.o.below D.o).b⟩
   .go_wp2_with fail;go_roundw;case rel=>exact⟨k+1,om,by go_num,K.o (by trivial),g.o.below D.o⟩
    case measure=>simp[intOf];omega
  .have HFF:Hid (H.ff.all gQ=true):=jN (by have:=v.o;omega) C.o;clear C;go_wp2_with fail;clear x6;have O3:=hI g.o;clear g;go_loopw [4] (fun i wr=>∃k:Nat,k<=s.n4/\i=I J (k:Int)/\(∀j(R:j<H.qu.length),j<k->gB H.qu[j]=true)/\obS w H s wr) (fun i _=>s.n4-(intOf i).toNat);case atStart=>exact⟨0,nZ _,rfl,fun j R h=>Qj h (nN _),O3.o⟩
   case round=>
    clear hk a8;obtain⟨k,hk,rfl,hA,hS⟩:=hrel;have C:=hI hA;have g:=hI hS;have x7:=hS.p.cell 7 _ rfl;clear hA hS;by_cases a8:k<s.n4
    .have hkl:k<H.qu.length:=by have:=v.o;omega
     obtain⟨g4,o4,P,E⟩:=(HH.o.below g.o.b).qu.cells (fun e=>by rw[e]at hkl;cases hkl);have ap:=v.o.2.2.2.2;obtain⟨t,m,c,u⟩:=E k hkl;rw[P]at x7;have K:Hid (gB H.qu[k]=true->∀j(R:j<H.qu.length),j<k+1->gB H.qu[j]=true):=fun h=>iQ hkl C.o h;have L:Hid (¬gB H.qu[k]=true->¬dP H):=fun h f=>by have:=f.qu;rw[lq hkl (by simpa using h)]at this;cases this
     have X:=u.range;generalize H.qu[k]=Z at*;obtain⟨x,y,z,e,i,r,d,l⟩:=Z;have B:=u.dat.len;dsimp only at X B;have am:=hI X;have Y:Hid (blk (wr.alloc (.cells #[I J x,I J y,I J z,bO e,I .u32 (i:Int),bO r,I J d,sL t m c] 212)) wr.heap.size [I J x,I J y,I J z,bO e,I .u32 (i:Int),bO r,I J d,sL t m c] 212/\obS w H s (wr.alloc (.cells #[I J x,I J y,I J z,bO e,I .u32 (i:Int),bO r,I J d,sL t m c] 212))):=⟨blk.new wr _ 212,g.o.below Zw⟩
     have U:Hid (vB e i r d m=true->1<=x/\x<=12/\0<=y/\y<=9999/\0<=z/\z<=9->gB ⟨x,y,z,e,i,r,d,l⟩=true):=fun h h2=>by simp only[gB,<- B,h];simp;omega
     have T:Hid (gB ⟨x,y,z,e,i,r,d,l⟩=true->vB e i r d m=true/\1<=x/\x<=12/\0<=y/\y<=9999/\0<=z/\z<=9):=fun h=>by simp only[gB,<- B]at h;simp at h;exact⟨by simp_all,om,om,om,om,om,om⟩
     clear u B X E P;go_wp2_with(refine ZG 212 am.o underlying212 i7 ?_)
     all_goals try
      go_ret;exact⟨⟨false,rfl,by simpa using L.o (fun h=>by have:=T.o h;omega)⟩,Y.o.2.b⟩
     have HX:Hid (1<=x/\x<=12/\0<=y/\y<=9999/\0<=z/\z<=9):=⟨om,om,om,om,om,om⟩
     refine(eE _ e i r d t m c).mono ?_;rintro o w4 ⟨⟨O,rfl,h1⟩,M⟩;have D:Hid (blk w4 wr.heap.size [I J x,I J y,I J z,bO e,I .u32 (i:Int),bO r,I J d,sL t m c] 212/\obS w H s w4):=⟨Y.o.1.below M,Y.o.2.below M⟩
     have ao:Hid (O=true->vB e i r d m=true):=fun h=>wy (h1.1 h);clear h1 M;cases O
     .go_wp2_with (first|(refine ZG 53 (D.o.1.loadAt [I J x,I J y,I J z] [bO e,I .u32 (i:Int),bO r,I J d,sL t m c] []) underlying53 cE ?_)|(refine an (by rfl) 53 _ rfl wr.heap.size 3 rfl _ _ (D.o.1.loadAt [I J x,I J y,I J z] [bO e,I .u32 (i:Int),bO r,I J d,sL t m c] []) underlying53 rfl cE ?_))
      refine(aX _ e i r d t m c).mono ?_;rintro o w5 ⟨rfl,Q⟩;have S:=hI (D.o.2.below Q);obtain⟨b,a⟩:∃b,vB e i r d m=b:=⟨_,rfl⟩
      rw[a]at U T;rw[a];clear a Q;cases b
      .go_wp2_with fail;go_ret;exact⟨⟨false,rfl,by simpa using L.o (fun h=>by have:=(T.o h).1;simp at this)⟩,S.o.b⟩
      .go_wp2_with fail;go_roundw;case rel=>exact⟨k+1,om,by go_num,K.o (U.o (by trivial) HX.o),S.o⟩
       case measure=>simp[intOf];omega
     .go_wp2_with fail;go_roundw;case rel=>exact⟨k+1,om,by go_num,K.o (U.o (ao.o (by trivial)) HX.o),D.o.2⟩
      case measure=>simp[intOf];omega
    .have HQU:Hid (H.qu.all gB=true):=jN (by have:=v.o;omega) C.o
     clear C;go_wp2_with(refine ZG 50 g.o.p.load underlying50 (fj _ _) ?_)
     rw[<- gC];refine(a9.o A.o.1.2 _ g.o.b).mono ?_;rintro o w5 ⟨⟨O,rfl,a7⟩,Q⟩;have af:Hid (O=true↔dP H):=a7.trans ⟨fun u=>⟨a0.o,a2.o,A.o.1.1,A.o.2.1,A.o.2.2.1,A.o.2.2.2.1,A.o.2.2.2.2.1,A.o.2.2.2.2.2.1,A.o.2.2.2.2.2.2,HFF.o,HQU.o,u⟩,fun u=>u.bx⟩;have S:=hI ((g.o.below Q).b);clear a7 Q;go_wp2_with fail;go_ret;exact⟨⟨O,rfl,af.o⟩,S.o⟩
def gX(w:World)(b:R8)(a:Option Addr)(n cap:Nat):ce 176 #[bxV b.x b.y b.z b.e b.i b.r b.d a n cap] w fun o w'=>o=rT (bO (b.x==2||b.x==3))/\Bl w w':=by
 obtain⟨x,y,z,e,i,r,d,l⟩:=b;have c:Hid (Bl w (w.alloc (.cells #[I J x,I J y,I J z,bO e,I .u32 (i:Int),bO r,I J d,sL a n cap] 114))):=Zw;by_cases f:x=2
 .subst f;go_enter func176,ntmps176;go_wp2;go_ret;exact⟨rfl,c.o⟩
 .have h2':(x==2)=false:=by simpa using f
  go_enter func176,ntmps176;go_wp2;go_ret;exact⟨ai (by simp[h2']),c.o⟩
def oS(w:World)(b:R8)(st:Int)(a:Option Addr)(n cap:Nat)(h:iB w a n cap b.l)(O:0<=st/\st<=1000000):ce 206 #[bxV b.x b.y b.z b.e b.i b.r b.d a n cap,I J st] w fun o w'=>bH o (cV st b)/\Bl w w':=by
 have E:=h.len;obtain⟨x,y,z,e,i,r,d,l⟩:=b;simp only[]at E h ⊢;have f:Hid (Bl w (w.alloc (.cells #[I J x,I J y,I J z,bO e,I .u32 (i:Int),bO r,I J d,sL a n cap] 114))):=Zw;have u:Hid (∀W,Bl w W->ce 186 #[frV e i r d a n cap] W fun o w'=>o=rT (bO (vB e i r d n))/\Bl W w'):=fun W C=>dU W e i r d a n cap l (h.below C);have t:Hid (∀W,Bl w W->ce 191 #[frV e i r d a n cap,frV false 0 false 0 none 0 0] W fun o w'=>o=rT (bO ((e==false)&&(r==false)&&((i:Int)==((0:Nat):Int))&&(d==0)&&decide (l=[])))/\Bl W w'):=fun W C=>lH W e i r d a n cap l (h.below C) false 0 false 0 none 0 0 [] ⟨rfl,nR _,fun _ M=>(by cases M),fun hne=>Qj rfl hne⟩;have K:Hid (n=l.length):=E;clear h E;by_cases A:x=0
 .subst A;have c:Hid (cV st ⟨0,y,z,e,i,r,d,l⟩↔(y=0/\z=0/\zFr e i r d l.length)):=by show _↔_;unfold cV;rw[QW rfl]
  by_cases G:y=0
  .subst G;by_cases H:z=0
   .subst H;go_enter func206,ntmps206
    go_wp2_with(go_at_call 191;refine(t.o _ f.o).mono ?_;rintro o p ⟨rfl,D⟩)
    go_ret;refine⟨⟨_,rfl,?_⟩,f.o.trans (D.mono f.o.size)⟩;rw[c.o];unfold zFr;simp;cases e<;>cases r<;>simp;constructor
    .rintro⟨⟨h1,g⟩,k⟩;exact⟨h1,g,by rw[k]⟩
    .rintro⟨h1,g,k⟩;exact⟨⟨h1,g⟩,by simpa using k⟩
   .have hz':(z==0)=false:=by simpa using H
    go_enter func206,ntmps206;go_wp2;go_ret;exact⟨⟨false,rfl,by rw[c.o];simp[H]⟩,f.o⟩
  .have hy':(y==0)=false:=by simpa using G
   go_enter func206,ntmps206;go_wp2;go_ret;exact⟨⟨false,rfl,by rw[c.o];simp[G]⟩,f.o⟩
 .have c:Hid (cV st ⟨x,y,z,e,i,r,d,l⟩↔((1<=x/\x<=3)/\(0<=y/\y<=9999)/\(0<=z/\z<st)/\vB e i r d n=true)):=by show _↔_;unfold cV;rw[QV A,K.o]
  have P:(x==0)=false:=by simpa using A
  have j:Hid (∀(W:World)(v l m:Int)(B:Bool),decide (l<=v/\v<=m)=B->ce 124 #[I J v,I J l,I J m] W fun o w'=>o=rT (bO B)/\W=w'):=fun W v l m B L=>L ▸ bT W v l m;have N:IntKind.i64.wrap (st-1)=st-1:=by rw[QC];omega
  clear A;by_cases h1:1<=x/\x<=3
  .have J1:Hid (∀W,ce 124 #[I J x,I J 1,I J 3] W fun o w'=>o=rT (bO true)/\W=w'):=fun W=>j.o W x 1 3 true (qy h1);by_cases g:0<=y/\y<=9999
   .have J2:Hid (∀W,ce 124 #[I J y,I J 0,I J 9999] W fun o w'=>o=rT (bO true)/\W=w'):=fun W=>j.o W y 0 9999 true (qy g);by_cases k:0<=z/\z<=st-1
    .have J3:Hid (∀W,ce 124 #[I J z,I J 0,I J (st-1)] W fun o w'=>o=rT (bO true)/\W=w'):=fun W=>j.o W z 0 (st-1) true (qy k);have s:Hid (cV st ⟨x,y,z,e,i,r,d,l⟩↔vB e i r d n=true):=c.o.trans ⟨fun h=>h.2.2.2,fun h=>⟨h1,g,⟨k.1,om⟩,h⟩⟩;clear h1 g k j c t;go_enter func206,ntmps206
     go_wp2_with(first|(go_at_call 124;first|(refine(J1.o _).mono ?_;rintro o p ⟨rfl,rfl⟩;clear J1)|(refine(J2.o _).mono ?_;rintro o p ⟨rfl,rfl⟩;clear J2)|(refine(J3.o _).mono ?_;rintro o p ⟨rfl,rfl⟩;clear J3))|(go_at_call 186;refine(u.o _ f.o).mono ?_;rintro o p ⟨rfl,D⟩))
     go_ret;exact⟨⟨_,rfl,s.o.symm⟩,f.o.trans (D.mono f.o.size)⟩
    .have J3:Hid (∀W,ce 124 #[I J z,I J 0,I J (st-1)] W fun o w'=>o=rT (bO false)/\W=w'):=fun W=>j.o W z 0 (st-1) false (qm k);have s:Hid (¬cV st ⟨x,y,z,e,i,r,d,l⟩):=fun h=>k (by have:=(c.o.1 h).2.2.1;omega);clear h1 g k j c t u;go_enter func206,ntmps206
     go_wp2_with(go_at_call 124;first|(refine(J1.o _).mono ?_;rintro o p ⟨rfl,rfl⟩;clear J1)|(refine(J2.o _).mono ?_;rintro o p ⟨rfl,rfl⟩;clear J2)|(refine(J3.o _).mono ?_;rintro o p ⟨rfl,rfl⟩;clear J3))
     go_ret;exact⟨⟨false,rfl,by simpa using s.o⟩,f.o⟩
   .have J2:Hid (∀W,ce 124 #[I J y,I J 0,I J 9999] W fun o w'=>o=rT (bO false)/\W=w'):=fun W=>j.o W y 0 9999 false (qm g);have s:Hid (¬cV st ⟨x,y,z,e,i,r,d,l⟩):=fun h=>g (c.o.1 h).2.1;clear h1 g j c t u;go_enter func206,ntmps206
    go_wp2_with(go_at_call 124;first|(refine(J1.o _).mono ?_;rintro o p ⟨rfl,rfl⟩;clear J1)|(refine(J2.o _).mono ?_;rintro o p ⟨rfl,rfl⟩;clear J2))
    go_ret;exact⟨⟨false,rfl,by simpa using s.o⟩,f.o⟩
  .have J1:Hid (∀W,ce 124 #[I J x,I J 1,I J 3] W fun o w'=>o=rT (bO false)/\W=w'):=fun W=>j.o W x 1 3 false (qm h1);have s:Hid (¬cV st ⟨x,y,z,e,i,r,d,l⟩):=fun h=>h1 (c.o.1 h).1;clear h1 j c t u;go_enter func206,ntmps206
   go_wp2_with(go_at_call 124;refine(J1.o _).mono ?_;rintro o p ⟨rfl,rfl⟩;clear J1)
   go_ret;exact⟨⟨false,rfl,by simpa using s.o⟩,f.o⟩
open Option renaming none->nn,some->sQ
def yN:(Tp.info? 228).map (·.size)=sQ 3:=kr
def yM:(Tp.info? 230).map (·.size)=sQ 3:=kr
def Ik{w W:World}{P k:Nat}{a:Option Addr}{n c:Nat}{its:List R5}(h:cn w a n c its)(p:Bl w W)(u:w.heap.size<=P)(v:w.heap.size<=k):itF f5 R5.l 5 w W P k a n c its:=by
 refine⟨h.len,h.cap,fun hne=>?_⟩;obtain⟨g,off,e,r⟩:=h.cells hne;have s:g<w.heap.size:=by
  obtain⟨d,m,i,b⟩:=r 0 (List.length_pos_iff.2 hne);exact Qn w _ b.c0
 refine⟨g,off,e,om,om,nL s p.size,fun j t=>?_⟩;obtain⟨d,m,i,b⟩:=r j t;exact⟨d,m,i,cY b.range p s,b.dat⟩
def Ij{w W:World}{P k:Nat}{a:Option Addr}{n c:Nat}{its:List R8}(h:aP w a n c its)(p:Bl w W)(u:w.heap.size<=P)(v:w.heap.size<=k):itF f8 R8.l 8 w W P k a n c its:=by
 refine⟨h.len,h.cap,fun hne=>?_⟩;obtain⟨g,off,e,r⟩:=h.cells hne;have s:g<w.heap.size:=by
  obtain⟨d,m,i,b⟩:=r 0 (List.length_pos_iff.2 hne);exact Qn w _ b.c0
 refine⟨g,off,e,om,om,nL s p.size,fun j t=>?_⟩;obtain⟨d,m,i,b⟩:=r j t;exact⟨d,m,i,cY b.range p s,b.dat⟩
abbrev rgL(gs room C:Nat):List Value:=[sL (be gs) room room,I J 0,I J (C:Int)]
section
variable{R:Type}{f:R->Option Addr->Nat->Nat->List Value}{dt:R->List Nat}{q:Nat}{rt:TypeId}{w0 w w2 w4:World}{room n:Nat}{its:List R}{x:Obj}
def EJ(h:w.heap.size+1<w2.heap.size/\Bl w w2/\blk w2 w.heap.size [sL nn 0 0,I J 0,I J 0] rt)(a:ptF f dt q rt (rgL (w.heap.size+1) room) w0 (w2.alloc x) w4 w2.heap.size (w.heap.size+1) room 0 its n):ptF f dt q rt (rgL (w.heap.size+1) room) w0 (w2.alloc x) w4 w2.heap.size (w.heap.size+1) room 0 its n/\blk w4 w.heap.size [sL nn 0 0,I J 0,I J 0] rt/\Bl w w4/\w.heap.size+1<w4.heap.size/\w.heap.size<w2.heap.size:=by
 obtain⟨h1,c,d⟩:=h;have b:=c.alloc c.size x;have hs:=a.s;simp at hs;exact⟨a,(a.k w.heap.size om om (by simp;omega)).trans ((Below.heap_alloc _ _ _ om).trans d),⟨a.o.1.trans b.os,a.o.2.1.trans b.tape,a.o.2.2.trans b.output,nT b.size a.s,fun y hy=>(a.k y om om (nL hy b.size)).trans (b.block y hy)⟩,om,om⟩
def EK{d:Nat}{a b c:Value}(h:ptF f dt q rt (rgL (w.heap.size+1) room) w0 w2 w4 d (w.heap.size+1) room 0 its n/\blk w4 w.heap.size [sL nn 0 0,I J 0,I J 0] rt/\Bl w w4/\w.heap.size+1<w4.heap.size/\w.heap.size<d):w.heap.size<=w.heap.size+1/\w.heap.size+1<(((w4.setCell ⟨w.heap.size,0,nn⟩ a).setCell ⟨w.heap.size,1,nn⟩ b).setCell ⟨w.heap.size,2,nn⟩ c).heap.size/\bU (((w4.setCell ⟨w.heap.size,0,nn⟩ a).setCell ⟨w.heap.size,1,nn⟩ b).setCell ⟨w.heap.size,2,nn⟩ c) (w.heap.size+1) (room*q)/\iS f dt q w0 (((w4.setCell ⟨w.heap.size,0,nn⟩ a).setCell ⟨w.heap.size,1,nn⟩ b).setCell ⟨w.heap.size,2,nn⟩ c) (w.heap.size+1) room 0 its/\Bl w (((w4.setCell ⟨w.heap.size,0,nn⟩ a).setCell ⟨w.heap.size,1,nn⟩ b).setCell ⟨w.heap.size,2,nn⟩ c):=by
 have e:∀y,y≠w.heap.size->(((w4.setCell ⟨w.heap.size,0,nn⟩ a).setCell ⟨w.heap.size,1,nn⟩ b).setCell ⟨w.heap.size,2,nn⟩ c).heap[y]?=w4.heap[y]?:=fun y hy=>(Ql _ _ _ _ (by exact hy)).trans ((Ql _ _ _ _ (by exact hy)).trans (Ql _ _ _ _ (by exact hy)));exact⟨om,by simpa using h.2.2.2.1,h.1.z.up (e _ om),h.1.r.keep (e _ om),((h.2.2.1.setCell (by exact nR _) _).setCell (by exact nR _) _).setCell (by exact nR _) _⟩
end
def sj{R:Type}(f:R->Option Addr->Nat->Nat->List Value)(dt:R->List Nat)(q:Nat)(C:TypeId)(s fr B:FuncId)(rt:TypeId)(y:s=241/\fr=264/\C=53/\q=5/\B=212/\rt=228\/s=242/\fr=265/\C=212/\q=8/\B=213/\rt=230)(r:∀b v m c,(f b v m c).length=q)(ho:∀b v m c,(f b v m c).toArray.all (·.oneCell')=true)
  (w0 w:World) (A:Bl w0 w) (room:Nat) (its:List R) (a:Option Addr) (n c:Nat) (hi:∀W P j,Bl w0 W->w0.heap.size<=P->w0.heap.size<=j->itF f dt q w0 W P j a n c its) (h1:1<=room) (Q:room<=1000) (Z:n<=room) :
  ce B #[I J (room:Int),sL a n c] w fun o w'=>∃j,o=rT (aG #[sL (be j) room room,I J 0,I J (n:Int)])/\w.heap.size<=j/\j<w'.heap.size/\bU w' j (room*q)/\iS f dt q w0 w' j room 0 its/\Bl w w':=by
 have a1:max (room:Int) 0=(room:Int):=om;have u:=hI A;have e:Hid (Bl w (w.alloc (.cells #[sL nn 0 0,I J 0,I J 0] rt))/\blk (w.alloc (.cells #[sL nn 0 0,I J 0,I J 0] rt)) w.heap.size [sL nn 0 0,I J 0,I J 0] rt):=⟨Zw,blk.new w _ rt⟩
 have M:Hid (∀X g,blk X g (rgL (w.heap.size+1) room 0) rt->w.heap.size+1≠g->bU X (w.heap.size+1) (room*q)->w.heap.size+1<X.heap.size->Bl w0 X->w0.heap.size<=g->ce s #[ap g,sL a n c] X fun o w'=>o=rT (I J (n:Int))/\ptF f dt q rt (rgL (w.heap.size+1) room) w0 X w' g (w.heap.size+1) room 0 its n):=by
  intro X g t S T U Y h8;have D:=hi X g (w.heap.size+1) Y h8 (by have:=A.size;omega);have:=Et f dt q C s fr (by rcases y with h|h;exact qp ⟨h.1,h.2.1,h.2.2.1,h.2.2.2.1⟩;exact qt ⟨h.1,h.2.1,h.2.2.1,h.2.2.2.1⟩) r ho rt (rgL (w.heap.size+1) room) 0 w0 X g (w.heap.size+1) room 0 [] its a n c ⟨fun _=>rfl,fun _=>rfl,fun _=>rfl,fun _ _=>rfl⟩ t S T U (fun i hi=>Qj hi (nN _)) h1 (nZ _) Q D om n (by simp;omega);have N:([]:List R)++its.take n=its:=by rw[D.len];simp
  have O:([]:List R).length+n=n:=pQ;rw[N,O]at this;exact this
 have L:Hid (∀X b l,blk X b l rt->l.length=3->(loadVar rt ⟨b,0,nn⟩).run Tp X= .ok (aG l.toArray) X):=by
  intro X b l E t;rcases y with⟨_,_,_,_,_,rfl⟩|⟨_,_,_,_,_,rfl⟩
  .exact Qt (P:=Tp) _ b 0 228 _ _ E.load underlying228 rfl (by rw[t];exact yN)
  .exact Qt (P:=Tp) _ b 0 230 _ _ E.load underlying230 rfl (by rw[t];exact yM)
 clear hi h1 Z A r ho;rcases y with⟨rfl,rfl,rfl,rfl,rfl,rfl⟩|⟨rfl,rfl,rfl,rfl,rfl,rfl⟩
 all_goals
  first|go_enter func212,ntmps212|go_enter func213,ntmps213
  go_wp2_with((first|refine fX _ 47 53 _ 5 48 info53 underlying47 (by decide) rfl _ _ rfl _ room rfl rfl rfl om ?_|refine fX _ 48 212 _ 8 72 info212 underlying48 (by decide) rfl _ _ rfl _ room rfl rfl rfl om ?_);intro w2 K k G;have H2:Hid (bU w2 (w.heap.size+1) (room*_)/\w.heap.size+1<w2.heap.size/\Bl w w2/\blk w2 w.heap.size [sL nn 0 0,I J 0,I J 0] _):=⟨by simpa using K,by simpa using G,⟨k.os.trans e.o.1.os,k.tape.trans e.o.1.tape,k.output.trans e.o.1.output,nT e.o.1.size k.size,fun q r=>(k.block q (nL r e.o.1.size) pQ).trans (e.o.1.block q r)⟩,(k.block _ e.o.2.lt pQ).trans e.o.2⟩;clear K k G)
  refine(M.o _ w2.heap.size (blk.new w2 _ _) (by have:=H2.o.2.1;omega) (H2.o.1.below Zw H2.o.2.1) (by have:=H2.o.2.1;simp;omega) (u.o.trans ((H2.o.2.2.1.alloc H2.o.2.2.1.size _).mono u.o.size)) (nT u.o.size H2.o.2.2.1.size)).mono ?_;rintro o w4 ⟨rfl,H⟩;have d:=sM (EJ H2.o.2 H);clear H H2;have y0:=d.o.1.p.cell 0 _ rfl;have y1:=d.o.1.p.cell 1 _ rfl;have y2:=d.o.1.p.cell 2 _ rfl;have x0:=d.o.2.1.cell 0 _ rfl;have x1:=d.o.2.1.cell 1 _ rfl;have x2:=d.o.2.1.cell 2 _ rfl;have z0:=d.o.2.1.free 0;have z1:=d.o.2.1.free 1;have z2:=d.o.2.1.free 2;have a0:=d.o.2.2.2.2;go_wp2_with fail;clear y0 y1 y2 x0 x1 x2 z0 z1 z2 a0;have hF:=((d.o.2.1.set 0 (sL (be (w.heap.size+1)) room room)).set 1 (I J 0)).set 2 (I J (n:Int));refine Qp (rC (by first|exact results212|exact results213) _ _ w.heap.size _ rfl (L.o _ _ _ hF rfl)) rfl ?_;exact⟨w.heap.size+1,rfl,EK d.o⟩
def pC(w0 w:World)(hb0:Bl w0 w)(room:Nat)(its:List R5)(a:Option Addr)(n c:Nat)(h:cn w0 a n c its)(h1:1<=room)(h2:room<=1000)(hn:n<=room):ce 212 #[I J (room:Int),sL a n c] w fun o w'=>∃gs,o=rT (aG #[sL (be gs) room room,I J 0,I J (n:Int)])/\w.heap.size<=gs/\gs<w'.heap.size/\bU w' gs (room*5)/\dq w0 w' gs room 0 its/\Bl w w':=
 sj f5 R5.l 5 53 241 264 212 228 (qp ⟨rfl,rfl,rfl,rfl,rfl,rfl⟩) (fun _ _ _ _=>rfl) (fun b ao m c=>lN _ _ _ _ _ _ _) w0 w hb0 room its a n c (fun W P gs=>Ik h) h1 h2 hn
def pB(w0 w:World)(hb0:Bl w0 w)(room:Nat)(its:List R8)(a:Option Addr)(n c:Nat)(h:aP w0 a n c its)(h1:1<=room)(h2:room<=1000)(hn:n<=room):ce 213 #[I J (room:Int),sL a n c] w fun o w'=>∃gs,o=rT (aG #[sL (be gs) room room,I J 0,I J (n:Int)])/\w.heap.size<=gs/\gs<w'.heap.size/\bU w' gs (room*8)/\eI w0 w' gs room 0 its/\Bl w w':=
 sj f8 R8.l 8 212 242 265 213 230 (qt ⟨rfl,rfl,rfl,rfl,rfl,rfl⟩) (fun _ _ _ _=>rfl) (fun b ao m c=>mS _ _ _ _ _ _ _ _ _ _) w0 w hb0 room its a n c (fun W P gs=>Ij h) h1 h2 hn
def kH(w:World)(v:Int):ce 29 #[I J v] w fun o w'=>o=rT (bO (decide (v=0\/v=1)))/\w=w':=by
 by_cases h0:v=0
 .subst h0;go_enter func29,ntmps29;go_wp2;go_ret;exact⟨pQ,rfl⟩
 .have d0:(v==0)=false:=by simpa using h0
  by_cases h1:v=1
  .subst h1;go_enter func29,ntmps29;go_wp2;go_ret;exact⟨pQ,rfl⟩
  .have d1:(v==1)=false:=by simpa using h1
   go_enter func29,ntmps29;go_wp2;go_ret;exact⟨by simp[h0,h1],rfl⟩
def vmB(C:Co):Bool:=!(!decide (C.lv=0\/C.lv=1)||((C.lv==1)&& !((C.p==2)&&C.wk&&decide (0<C.ct))))&& !(C.wk&&(!(C.p==2)||C.ov))&& !(C.ov&& !(C.p==2)&& !(C.p==3)&& !(C.p==4))&& !(C.ow&& !(C.wk&&C.tx))&& !(C.tx&&((C.p==0)||(C.p==7)))&& !(!C.tx&&(C.p==6))&&(!C.ak||(C.p==7))
def j1(l p c:Int)(wk:Bool):(!decide (l=0\/l=1)||(l==1&& !(p==2&&wk&&decide (0<c))))=false↔((0<=l/\l<=1)/\(l=1->p=2/\wk=true/\0<c)):=by
 rw[Bool.or_eq_false_iff,k4];refine and_congr ?_ Iff.rfl;simp;omega
def j5(p:Int)(tx:Bool):(tx&&(p==0||p==7))=false↔(tx=true->p≠7/\p≠0):=by rw[Bool.or_comm];exact k8 p tx
def j6(p:Int)(tx:Bool):(!tx&&p==6)=false↔(p=6->tx=true):=by rw[Bool.and_comm];exact k9 p tx
def j7(p:Int)(a:Bool):(!a||p==7)=true↔(a=true->p=7):=by cases a<;>simp
def vmG(w:World)(C:Co)(s:Sl):ce 127 #[aG (coL C s).toArray] w fun o w'=>bH o (vmB C=true)/\Bl w w':=by
 obtain⟨X,c⟩:∃X:Prop,Hid (X↔(vmB C=true)):=⟨_,Iff.rfl⟩
 rw[<- c.o];have d:Hid (ctS w w.heap.size C s (w.alloc (.cells (coL C s).toArray 52))):=ctS.new w C s;have Q:Hid (∀W,ce 29 #[I J C.lv] W fun o w'=>o=rT (bO (decide (C.lv=0\/C.lv=1)))/\W=w'):=fun W=>kH W C.lv;have e:Hid (vmB C=(!(!decide (C.lv=0\/C.lv=1)||((C.lv==1)&& !((C.p==2)&&C.wk&&decide (0<C.ct))))&& !(C.wk&&(!(C.p==2)||C.ov))&& !(C.ov&& !(C.p==2)&& !(C.p==3)&& !(C.p==4))&& !(C.ow&& !(C.wk&&C.tx))&& !(C.tx&&((C.p==0)||(C.p==7)))&& !(!C.tx&&(C.p==6))&&(!C.ak||(C.p==7)))):=rfl;obtain⟨j,B⟩:∃b:Bool,decide (C.lv=0\/C.lv=1)=b:=⟨_,rfl⟩
 obtain⟨l,U,a5⟩:∃b:Bool,(C.lv==1)=b/\(C.lv !=1)= !b:=⟨_,rfl,rfl⟩
 obtain⟨a,Y,a6⟩:∃b:Bool,(C.p==2)=b/\(C.p !=2)= !b:=⟨_,rfl,rfl⟩
 obtain⟨t,T⟩:∃b:Bool,decide (0<C.ct)=b:=⟨_,rfl⟩
 obtain⟨n,Z,a7⟩:∃b:Bool,(C.p==3)=b/\(C.p !=3)= !b:=⟨_,rfl,rfl⟩
 obtain⟨u,a0,a8⟩:∃b:Bool,(C.p==4)=b/\(C.p !=4)= !b:=⟨_,rfl,rfl⟩
 obtain⟨r,a3,ad⟩:∃b:Bool,(C.p==0)=b/\(C.p !=0)= !b:=⟨_,rfl,rfl⟩
 obtain⟨k,a2,ac⟩:∃b:Bool,(C.p==7)=b/\(C.p !=7)= !b:=⟨_,rfl,rfl⟩
 obtain⟨v,a1,a9⟩:∃b:Bool,(C.p==6)=b/\(C.p !=6)= !b:=⟨_,rfl,rfl⟩
 obtain⟨wk,H⟩:∃b:Bool,C.wk=b:=⟨_,rfl⟩
 obtain⟨ov,D⟩:∃b:Bool,C.ov=b:=⟨_,rfl⟩
 obtain⟨ow,E⟩:∃b:Bool,C.ow=b:=⟨_,rfl⟩
 obtain⟨tx,G⟩:∃b:Bool,C.tx=b:=⟨_,rfl⟩
 obtain⟨y,A⟩:∃b:Bool,C.ak=b:=⟨_,rfl⟩
 rw[B,U,Y,T,Z,a0,a3,a2,a1,H,D,E,G,A]at e;rw[B]at Q;have y0:=d.o.p.cell 0 (I J C.p) rfl;have y1:=d.o.p.cell 1 (I J C.ct) rfl;have y2:=d.o.p.cell 2 (I J C.lv) rfl;have y3:=d.o.p.cell 3 (bO C.wk) rfl;have y4:=d.o.p.cell 4 (bO C.ov) rfl;have y5:=d.o.p.cell 5 (bO C.ow) rfl;have y6:=d.o.p.cell 6 (bO C.tx) rfl;have y7:=d.o.p.cell 7 (bO C.ak) rfl;rw[H]at y3;rw[D]at y4;rw[E]at y5;rw[G]at y6;rw[A]at y7;clear H D E G A B;generalize a4:w.alloc (.cells (coL C s).toArray 52)=wc at*;go_enter func127,ntmps127;go_upto_region 2 with fail
 try rw[a4]
 go_cut [7] (fun x i=>x=bO (!j||(l&& !(a&&wk&&t)))/\i=wc);case first=>
  as_aux_lemma=>
  clear c e;have f:(j=true/\l=true/\a=true/\wk=true/\t=true)\/(j=true/\l=true/\a=true/\wk=true/\t=false)\/(j=true/\l=true/\a=true/\wk=false)\/(j=true/\l=true/\a=false)\/(j=true/\l=false)\/(j=false):=by cases j<;>cases l<;>cases a<;>cases wk<;>cases t<;>simp
  rcases f with⟨rfl,rfl,rfl,rfl,rfl⟩|⟨rfl,rfl,rfl,rfl,rfl⟩|⟨rfl,rfl,rfl,rfl⟩|⟨rfl,rfl,rfl⟩|⟨rfl,rfl⟩|rfl<;>(
   go_wp2_with(go_at_call 29;refine(Q.o _).mono ?_;rintro o w2 ⟨rfl,rfl⟩)
   go_meet
   case rel=>exact⟨rfl,rfl⟩)
 case rest=>
 obtain⟨rfl,h⟩:=hcut;subst h;obtain⟨c1,g⟩:∃b,(!j||(l&& !(a&&wk&&t)))=b:=⟨_,rfl⟩
 rw[g];have K:Hid ((!j||(l&& !(a&&wk&&t)))=c1):=g;clear g;cases c1;case true=>
  as_aux_lemma=>
  go_wp2_with fail;go_ret;refine⟨⟨_,rfl,?_⟩,d.o.b⟩;rw[c.o,e.o,K.o];simp
 case false=>
 go_upto_region 4 with fail
 go_cut [30] (fun x i=>x=bO (wk&&(!a||ov))/\i=wc);case first=>
  as_aux_lemma=>
  clear c e;have f:(wk=true/\a=true/\ov=true)\/(wk=true/\a=true/\ov=false)\/(wk=true/\a=false)\/(wk=false):=by cases wk<;>cases a<;>cases ov<;>simp
  rcases f with⟨rfl,rfl,rfl⟩|⟨rfl,rfl,rfl⟩|⟨rfl,rfl⟩|rfl<;>(
   go_wp2_with fail;go_meet
   case rel=>exact⟨rfl,rfl⟩)
 case rest=>
 obtain⟨rfl,h⟩:=hcut;subst h;obtain⟨c2,g⟩:∃b,(wk&&(!a||ov))=b:=⟨_,rfl⟩
 rw[g];have L:Hid ((wk&&(!a||ov))=c2):=g;clear g;cases c2;case true=>
  as_aux_lemma=>
  go_wp2_with fail;go_ret;refine⟨⟨_,rfl,?_⟩,d.o.b⟩;rw[c.o,e.o,L.o];simp
 case false=>
 go_upto_region 6 with fail
 go_cut [41] (fun x i=>x=bO (ov&& !a&& !n&& !u)/\i=wc);case first=>
  as_aux_lemma=>
  clear c e;have f:(ov=true/\a=true)\/(ov=true/\a=false/\n=true)\/(ov=true/\a=false/\n=false/\u=true)\/(ov=true/\a=false/\n=false/\u=false)\/(ov=false):=by cases ov<;>cases a<;>cases n<;>cases u<;>simp
  rcases f with⟨rfl,rfl⟩|⟨rfl,rfl,rfl⟩|⟨rfl,rfl,rfl,rfl⟩|⟨rfl,rfl,rfl,rfl⟩|rfl<;>(
   go_wp2_with fail;go_meet
   case rel=>exact⟨rfl,rfl⟩)
 case rest=>
 obtain⟨rfl,h⟩:=hcut;subst h;obtain⟨c3,g⟩:∃b,(ov&& !a&& !n&& !u)=b:=⟨_,rfl⟩
 rw[g];have M:Hid ((ov&& !a&& !n&& !u)=c3):=g;clear g;cases c3;case true=>
  as_aux_lemma=>
  go_wp2_with fail;go_ret;refine⟨⟨_,rfl,?_⟩,d.o.b⟩;rw[c.o,e.o,M.o];simp
 case false=>
 go_upto_region 8 with fail
 go_cut [58] (fun x i=>x=bO (ow&& !(wk&&tx))/\i=wc);case first=>
  as_aux_lemma=>
  clear c e;have f:(ow=true/\wk=true/\tx=true)\/(ow=true/\wk=true/\tx=false)\/(ow=true/\wk=false)\/(ow=false):=by cases ow<;>cases wk<;>cases tx<;>simp
  rcases f with⟨rfl,rfl,rfl⟩|⟨rfl,rfl,rfl⟩|⟨rfl,rfl⟩|rfl<;>(
   go_wp2_with fail;go_meet
   case rel=>exact⟨rfl,rfl⟩)
 case rest=>
 obtain⟨rfl,h⟩:=hcut;subst h;obtain⟨c4,g⟩:∃b,(ow&& !(wk&&tx))=b:=⟨_,rfl⟩
 rw[g];have N:Hid ((ow&& !(wk&&tx))=c4):=g;clear g;cases c4;case true=>
  as_aux_lemma=>
  go_wp2_with fail;go_ret;refine⟨⟨_,rfl,?_⟩,d.o.b⟩;rw[c.o,e.o,N.o];simp
 case false=>
 go_upto_region 10 with fail
 go_cut [70] (fun x i=>x=bO (tx&&(r||k))/\i=wc);case first=>
  as_aux_lemma=>
  clear c e;have f:(tx=true/\r=true)\/(tx=true/\r=false/\k=true)\/(tx=true/\r=false/\k=false)\/(tx=false):=by cases tx<;>cases r<;>cases k<;>simp
  rcases f with⟨rfl,rfl⟩|⟨rfl,rfl,rfl⟩|⟨rfl,rfl,rfl⟩|rfl<;>(
   go_wp2_with fail;go_meet
   case rel=>exact⟨rfl,rfl⟩)
 case rest=>
 obtain⟨rfl,h⟩:=hcut;subst h;obtain⟨R,g⟩:∃b,(tx&&(r||k))=b:=⟨_,rfl⟩
 rw[g];have O:Hid ((tx&&(r||k))=R):=g;clear g;cases R;case true=>
  as_aux_lemma=>
  go_wp2_with fail;go_ret;refine⟨⟨_,rfl,?_⟩,d.o.b⟩;rw[c.o,e.o,O.o];simp
 case false=>
 go_upto_region 12 with fail
 go_cut [83] (fun x i=>x=bO (!tx&&v)/\i=wc);case first=>
  as_aux_lemma=>
  clear c e;have f:(tx=true)\/(tx=false/\v=true)\/(tx=false/\v=false):=by cases tx<;>cases v<;>simp
  rcases f with rfl|⟨rfl,rfl⟩|⟨rfl,rfl⟩<;>(
   go_wp2_with fail;go_meet
   case rel=>exact⟨rfl,rfl⟩)
 case rest=>
 obtain⟨rfl,h⟩:=hcut;subst h;obtain⟨S,g⟩:∃b,(!tx&&v)=b:=⟨_,rfl⟩
 rw[g];have P:Hid ((!tx&&v)=S):=g;clear g;cases S;case true=>
  as_aux_lemma=>
  go_wp2_with fail;go_ret;refine⟨⟨_,rfl,?_⟩,d.o.b⟩;rw[c.o,e.o,P.o];simp
 case false=>
 rw[e.o,K.o,L.o,M.o,N.o,O.o,P.o]at c;go_upto_region 14 with fail
 go_cut [2] (fun x i=>x=bO (!y||k)/\i=wc);case first=>
  clear c e;have f:(y=true/\k=true)\/(y=true/\k=false)\/(y=false):=by cases y<;>cases k<;>simp
  rcases f with⟨rfl,rfl⟩|⟨rfl,rfl⟩|rfl<;>(
   go_wp2_with fail;go_meet
   case rel=>exact⟨rfl,rfl⟩)
 case rest=>
 obtain⟨rfl,h⟩:=hcut;subst h;go_wp2_with fail;go_ret;refine⟨⟨_,rfl,?_⟩,d.o.b⟩;rw[c.o];simp
open Go renaming World->Wd
def Dp:(Tp.info? 177).map (·.size)=some 3:=kr
def GO(w:Wd):(Instr.index 179 (aG prL.toArray) (I J 0)).run Tp w= .ok (aG #[I J 0,I J 0,.func (.func 178) #[] #[]]) w:=by
 simp[Instr.index,asIntOf,QO underlying179,prL,part,sizeOf177,isAgg177]
def GN(w:Wd):(Instr.index 179 (aG prL.toArray) (I J 1)).run Tp w= .ok (aG #[I J 0,I J 0,.func (.func 179) #[] #[]]) w:=by
 simp[Instr.index,asIntOf,QO underlying179,prL,part,sizeOf177,isAgg177]
def GM(w:Wd):(Instr.index 179 (aG prL.toArray) (I J 2)).run Tp w= .ok (aG #[I J 0,I J 5,.func (.func 180) #[] #[]]) w:=by
 simp[Instr.index,asIntOf,QO underlying179,prL,part,sizeOf177,isAgg177]
def GL(w:Wd):(Instr.index 179 (aG prL.toArray) (I J 3)).run Tp w= .ok (aG #[I J 0,I J 15,.func (.func 181) #[] #[]]) w:=by
 simp[Instr.index,asIntOf,QO underlying179,prL,part,sizeOf177,isAgg177]
def GK(w:Wd):(Instr.index 179 (aG prL.toArray) (I J 4)).run Tp w= .ok (aG #[I J 1,I J 7,.func (.func 182) #[] #[]]) w:=by
 simp[Instr.index,asIntOf,QO underlying179,prL,part,sizeOf177,isAgg177]
def GJ(w:Wd):(Instr.index 179 (aG prL.toArray) (I J 5)).run Tp w= .ok (aG #[I J 0,I J 2,.func (.func 183) #[] #[]]) w:=by
 simp[Instr.index,asIntOf,QO underlying179,prL,part,sizeOf177,isAgg177]
def GI(w:Wd):(Instr.index 179 (aG prL.toArray) (I J 6)).run Tp w= .ok (aG #[I J 0,I J 7,.func (.func 184) #[] #[]]) w:=by
 simp[Instr.index,asIntOf,QO underlying179,prL,part,sizeOf177,isAgg177]
def GH(w:Wd):(Instr.index 179 (aG prL.toArray) (I J 7)).run Tp w= .ok (aG #[I J 0,I J 10,.func (.func 185) #[] #[]]) w:=by
 simp[Instr.index,asIntOf,QO underlying179,prL,part,sizeOf177,isAgg177]
def vcG(w:Wd)(C:Co)(s:Sl)(lo hi:Int)(n:Nat)(hix:∀W,(Instr.index 179 (aG prL.toArray) (I J C.p)).run Tp W= .ok (aG #[I J lo,I J hi,.func (.func n) #[] #[]]) W):ce 126 #[aG (coL C s).toArray] w fun o w'=>bH o ((0<=C.te/\C.te<=256)/\(0<=C.re/\C.re<=255)/\(C.p=7↔C.te=256)/\(lo<=C.ct/\C.ct<=hi)/\(0<=C.rn/\C.rn<=127)/\((C.p=7/\C.ak=true)\/(C.rn=0/\(¬C.p=7\/C.ct=0))))/\Bl w w':=by
 obtain⟨X,HX⟩:∃X:Prop,Hid (X↔((0<=C.te/\C.te<=256)/\(0<=C.re/\C.re<=255)/\(C.p=7↔C.te=256)/\(lo<=C.ct/\C.ct<=hi)/\(0<=C.rn/\C.rn<=127)/\((C.p=7/\C.ak=true)\/(C.rn=0/\(¬C.p=7\/C.ct=0))))):=⟨_,Iff.rfl⟩
 rw[<- HX.o];have H0:Hid (ctS w w.heap.size C s (w.alloc (.cells (coL C s).toArray 52))):=ctS.new w _ s;have HPR:=hI i9;have HIR:=hI bT;have HIX:=hI hix;clear hix;go_enter func126,ntmps126;go_upto_region 1 with fail
 go_cut [3] (fun s3 wx=>∃b,s3=ap b/\Hid (blk wx b [I J lo,I J hi,.func (.func n) #[] #[]] 177)/\Hid (ctS w w.heap.size C s wx));case first=>
  refine Qu (S:=fun X=>ctS w w.heap.size C s X) kr ?_;have hS:=H0.o.below (bW _ _).drew;clear H0;change wpAnyH Tp _ _ _ _ _ _ _ (World.drew (w.alloc (.cells (coL C s).toArray 52)));generalize World.drew (w.alloc (.cells (coL C s).toArray 52))=v0 at*;refine tk 1 ?_;refine tk 2 ?_ (hy:=fun W hSw=>by(have y:=hSw.p.cell 0 (I J C.p) rfl;go_simp;try rfl));refine Qq (rs:=[0,4]) kr pQ ?_;refine QT rfl (fun K2 hK2=>?_) (QT rfl (fun K2 hK2=>?_) QU)
  .go_simp;refine(HPR.o _).mono ?_;rintro o v1 ⟨rfl,hb⟩;have hS1:=hS.below hb;clear hb;go_wp2_with fail;refine hK2.out _ _ hS1 (fun hS2=>?_);clear hK2 K2 hS1 hS;have hS:=hS2;clear hS2;refine wV 3 (aG #[I J lo,I J hi,.func (.func n) #[] #[]]) ?_ hS ?_
   .intro W hSw;clear hS;go_simp;simp only[HIX.o,Result.andThen_ok]
   simp only[aZ];refine al 4 fun K2 hK2=>?_;go_simp;have hS1:ctS w w.heap.size C s (v1.alloc (.cells #[I J 0,I J 0,.nilFunc] 177)):=hS.below Zw;have HRZ:Hid (blk (v1.alloc (.cells #[I J 0,I J 0,.nilFunc] 177)) v1.heap.size [I J 0,I J 0,.nilFunc] 177):=blk.new v1 _ 177;have HBL:=hI hS.p.lt;refine hK2.out _ _ hS1 (fun hS2=>?_);clear hK2 K2 hS1 hS;have hS:=hS2;clear hS2;refine al 5 fun K2 hK2=>?_;rw[QW (by rfl)];refine QE 177 (.tmp 3) (.tmp 8) rfl v1.heap.size 0 #[I J lo,I J hi,.func (.func n) #[] #[]] rfl rfl (HRZ.o.there 0 _ pQ) Dp (Qv (by simp[Value.oneCell'])) ?_;generalize hW8:World.setCells (v1.alloc (.cells #[I J 0,I J 0,.nilFunc] 177)) v1.heap.size 0 _=w8;have HR:Hid (blk w8 v1.heap.size [I J lo,I J hi,.func (.func n) #[] #[]] 177):=by
    have:=blk.put [] [I J 0,I J 0,.nilFunc] [] [I J lo,I J hi,.func (.func n) #[] #[]] (w:=(v1.alloc (.cells #[I J 0,I J 0,.nilFunc] 177))) (b:=v1.heap.size) (T:=177) (by simpa using HRZ.o) rfl;show blk _ _ _ _;rw[<- hW8];simpa using this
   have hS8:ctS w w.heap.size C s w8:=by
    rw[<- hW8];exact⟨hS.p.kept (sO _ _ (Nat.ne_of_lt HBL.o) _ _ _),sW (Q5 HBL.o) 0 _ hS.b⟩
   have H1:=hI hS8;clear hW8;refine hK2.out _ _ hS8 (fun hS3=>?_);refine Qs kr ?_ _;clear hS hK2 K2 hS8 hS3;go_wp2_with fail;go_meet;case rel=>exact⟨_,rfl,HR,H1⟩
  .go_simp;have hS1:ctS w w.heap.size C s (v0.alloc (.cells #[I J 0,I J 0,.nilFunc] 177)):=hS.below Zw;have HRY:Hid (blk (v0.alloc (.cells #[I J 0,I J 0,.nilFunc] 177)) v0.heap.size [I J 0,I J 0,.nilFunc] 177):=blk.new v0 _ 177;have HBL:Hid (w.heap.size<v0.heap.size):=hS.p.lt;refine hK2.out _ _ hS1 (fun hS2=>?_);clear hK2 K2 hS1 hS;have hS:=hS2;clear hS2;refine al 0 fun K2 hK2=>?_;go_simp;refine(HPR.o _).mono ?_;rintro o v1 ⟨rfl,hb⟩;have hS1:=hS.below hb;have HRZ:Hid (blk v1 v0.heap.size [I J 0,I J 0,.nilFunc] 177):=HRY.o.below hb;clear hb HRY;go_wp2_with fail;refine hK2.out _ _ hS1 (fun hS2=>?_);clear hK2 K2 hS1 hS;have hS:=hS2;clear hS2;refine wV 3 (aG #[I J lo,I J hi,.func (.func n) #[] #[]]) ?_ hS ?_
   .intro W hSw;clear hS;go_simp;simp only[HIX.o,Result.andThen_ok]
   simp only[aZ];refine al 5 fun K2 hK2=>?_;rw[QW (by rfl)];refine QE 177 (.tmp 3) (.tmp 8) rfl v0.heap.size 0 #[I J lo,I J hi,.func (.func n) #[] #[]] rfl rfl (HRZ.o.there 0 _ pQ) Dp (Qv (by simp[Value.oneCell'])) ?_;generalize hW8:World.setCells v1 v0.heap.size 0 _=w8;have HR:Hid (blk w8 v0.heap.size [I J lo,I J hi,.func (.func n) #[] #[]] 177):=by
    have:=blk.put [] [I J 0,I J 0,.nilFunc] [] [I J lo,I J hi,.func (.func n) #[] #[]] (w:=v1) (b:=v0.heap.size) (T:=177) (by simpa using HRZ.o) rfl;show blk _ _ _ _;rw[<- hW8];simpa using this
   have hS8:ctS w w.heap.size C s w8:=by
    rw[<- hW8];exact⟨hS.p.kept (sO _ _ (Nat.ne_of_lt HBL.o) _ _ _),sW (Q5 HBL.o) 0 _ hS.b⟩
   have H1:Hid (ctS w w.heap.size C s w8):=hS8;clear hW8;refine hK2.out _ _ hS8 (fun hS3=>?_);refine Qs kr ?_ _;clear hS hK2 K2 hS8 hS3;go_wp2_with fail;go_meet;case rel=>exact⟨_,rfl,HR,H1⟩
 case rest=>
 obtain⟨b,rfl,HR,H1⟩:=hcut;have y0:=H1.o.p.cell 0 (I J C.p) rfl;have y1:=H1.o.p.cell 1 (I J C.ct) rfl;have y7:=H1.o.p.cell 7 (bO C.ak) rfl;have y8:=H1.o.p.cell 8 (I J C.rn) rfl;have y9:=H1.o.p.cell 9 (I J C.te) rfl;have y10:=H1.o.p.cell 10 (I J C.re) rfl;have z0:=HR.o.cell 0 (I J lo) rfl;have z1:=HR.o.cell 1 (I J hi) rfl;have bb:∀(x y:Int),∃b:Bool,(x==y)=b/\Hid (b=true↔x=y):=fun x y=>⟨_,rfl,by show _↔_;simp⟩
 have bd:∀(l x m:Int),∃b:Bool,decide (l<=x/\x<=m)=b/\Hid (b=true↔l<=x/\x<=m):=fun l x m=>⟨_,rfl,by show _↔_;simp⟩
 obtain⟨b7,e7,f7⟩:=bb C.p 7;obtain⟨b2,e2,f2⟩:=bb C.te 256;obtain⟨bn,en,fn⟩:=bb C.rn 0;obtain⟨bc,ec,fc⟩:=bb C.ct 0;obtain⟨bt,et,ft⟩:=bd 0 C.te 256;obtain⟨br,er,fr⟩:=bd 0 C.re 255;obtain⟨bq,eq,fq⟩:=bd lo C.ct hi;obtain⟨bm,em,fm⟩:=bd 0 C.rn 127;obtain⟨ak,ea⟩:∃b,C.ak=b:=⟨_,rfl⟩
 rw[ea]at y7 HX;have n7:(C.p !=7)= !b7:=by rw[<- e7];rfl
 rw[<- ft.o,<- fr.o,<- f7.o,<- f2.o,<- fq.o,<- fm.o,<- fn.o,<- fc.o]at HX;clear bb bd HIX HPR H0 ft fr f7 f2 fq fm fn fc ea;go_upto_region 2 with fail
 go_cut [27] (fun s27 wx=>s27=bO (!bt|| !br||(b7 !=b2))/\wx=wc);case first=>
  clear HX;cases bt<;>cases br<;>cases b7<;>cases b2<;>(
   go_wp2_with(go_at_call 124;refine(HIR.o _ _ _ _).mono ?_;rintro o w2 ⟨rfl,rfl⟩;first|rw[et]|rw[er])
   go_meet
   case rel=>exact⟨rfl,rfl⟩)
 case rest=>
 obtain⟨rfl,hw⟩:=hcut;subst hw;obtain⟨c1,g1⟩:∃b,(!bt|| !br||(b7 !=b2))=b:=⟨_,rfl⟩
 rw[g1];have G1:Hid ((!bt|| !br||(b7 !=b2))=c1):=g1;clear g1 et er e2 y9 y10;cases c1;case true=>
  go_wp2_with fail;go_ret;refine⟨⟨_,rfl,?_⟩,H1.o.b⟩;rw[HX.o];have g:=G1.o;clear HX HIR H1 HR y0 y1 y7 y8 z0 z1 e7 en ec eq em n7 G1;cases bt<;>cases br<;>cases b7<;>cases b2<;>simp_all
 case false=>
 go_upto_region 4 with fail
 go_cut [41] (fun s41 wx=>s41=bO (!bq|| !bm)/\wx=wc);case first=>
  clear HX G1;cases bq<;>cases bm<;>(
   go_wp2_with(go_at_call 124;refine(HIR.o _ _ _ _).mono ?_;rintro o w2 ⟨rfl,rfl⟩;first|rw[eq]|rw[em])
   go_meet
   case rel=>exact⟨rfl,rfl⟩)
 case rest=>
 obtain⟨rfl,hw⟩:=hcut;subst hw;obtain⟨c2,g2⟩:∃b,(!bq|| !bm)=b:=⟨_,rfl⟩
 rw[g2];have G2:Hid ((!bq|| !bm)=c2):=g2;clear g2 eq em z0 z1 HR HIR;cases c2;case true=>
  go_wp2_with fail;go_ret;refine⟨⟨_,rfl,?_⟩,H1.o.b⟩;rw[HX.o];have g:=G2.o;clear HX H1 y0 y1 y7 y8 e7 en ec n7 G1 G2;cases bq<;>cases bm<;>simp_all
 case false=>
 go_upto_region 6 with fail
 go_cut [4] (fun s4 wx=>s4=bO (b7&&ak)/\wx=wc);case first=>
  clear HX G1 G2;cases b7<;>cases ak<;>(
   go_wp2_with fail;go_meet
   case rel=>exact⟨rfl,rfl⟩)
 case rest=>
 obtain⟨rfl,hw⟩:=hcut;subst hw;obtain⟨c3,g3⟩:∃b,(b7&&ak)=b:=⟨_,rfl⟩
 rw[g3];have G3:Hid ((b7&&ak)=c3):=g3;clear g3 y7;go_upto_region 7 with fail
 go_cut [2] (fun s2 wx=>s2=bO (c3||(bn&&(!b7||bc)))/\wx=wc);case first=>
  clear HX G1 G2 G3;cases c3<;>cases bn<;>cases b7<;>cases bc<;>(
   go_wp2_with fail;go_meet
   case rel=>exact⟨rfl,rfl⟩)
 case rest=>
 obtain⟨rfl,hw⟩:=hcut;subst hw;go_wp2_with fail;go_ret;refine⟨⟨_,rfl,?_⟩,H1.o.b⟩;rw[HX.o,<- G3.o];have g:=G1.o;have g':=G2.o;clear HX H1 y0 y1 y8 e7 en ec n7 G1 G2 G3 c3;cases bt<;>cases br<;>cases b7<;>cases b2<;>cases bq<;>cases bm<;>simp_all
def eT(W:World)(M:Nat)(a tx:Bool)(p:Int)(b:(p==1)=a)(c:W.cell? ⟨M,3,none⟩=some (I J p))(d:W.cell? ⟨M,9,none⟩=some (bO tx)):ce 132 #[ap M] W fun o w'=>o=rT (bO (a&&tx))/\w'=W:=by
 cases a
 .go_enter func132,ntmps132;go_wp2_with fail;go_ret;exact⟨rfl,rfl⟩
 .go_enter func132,ntmps132;go_wp2_with fail;go_ret;exact⟨rfl,rfl⟩
abbrev scZ:Sc:=⟨0,0,0,0,0,0,false,0,false,0,[]⟩
end Go.Proofs.YtbbffcolnddcdaaGreatDoor
