import Derived.Test.YtbbffcolnddcdaaGreatDoorK27
import Derived.Test.YtbbffcolnddcdaaGreatDoorK29
import Derived.StillTailTactics
namespace Go.Proofs.YtbbffcolnddcdaaGreatDoor
open Go.Proofs.Tryz
open Option renaming none->nn,some->sQ
set_option maxRecDepth 20000
open Go.RowKit
set_option linter.all false
set_option maxHeartbeats 16000000
open Go.Value renaming int->I,slice->sL,bool->bO,pointer->pT,agg->aG
open Go.IntKind renaming i64->J
open Go.Ending renaming returned->rT
open Go.Proofs.Tryz renaming prog->Tp
section
variable{w0 W w:World}{G:Lg}{H:Ho}{f1 f3 nm g room first:Nat}{hs:Nat->Hd}{D:DataW Unit}{f:R5}{r:List R5}
def dq.tail(h:dq w0 W g room first (f::r)):dq w0 W g room ((first+1)%room) r:=fun i hi=>by
 obtain⟨a,m,c,h1,b⟩:=h (i+1) (by simpa using hi);refine⟨a,m,c,?_,by simpa using b⟩;have e:((first+1)%room+i)%room=(first+(i+1))%room:=by
  rw[Nat.mod_add_mod];congr 1;omega
 rw[e];simpa using h1
def lh.fifo(h:lh w0 G H f1 f3 hs nm D W){f:R5}{r:List R5}(s:H.ff=f::r):lh w0 G {H with ff:=r} ((f1+1)%G.r1) f3 hs nm D ((W.setCell ⟨G.P,8,nn⟩ (I J (((f1+1)%G.r1:Nat):Int))).setCell ⟨G.P,9,nn⟩ (I J (r.length:Int))):=by
 have c:=h.d.p;have dl:=h.d.lo;have A:=h.bd.b1;have B:H.ff.length=r.length+1:=by rw[s];rfl
 have C:=h.bd.s3;have y:=h.r;rw[s]at y;have a:∀q,q≠G.P->((W.setCell ⟨G.P,8,nn⟩ (I J (((f1+1)%G.r1:Nat):Int))).setCell ⟨G.P,9,nn⟩ (I J (r.length:Int))).heap[q]?=W.heap[q]?:=fun q i=>(Ql _ _ _ _ (by exact i)).trans (Ql _ _ _ _ (by exact i));have v:Bl w0 ((W.setCell ⟨G.P,8,nn⟩ (I J (((f1+1)%G.r1:Nat):Int))).setCell ⟨G.P,9,nn⟩ (I J (r.length:Int))):=(h.b.setCell (by exact dl.2.1) _).setCell (by exact dl.2.1) _;have n:W.heap.size<=((W.setCell ⟨G.P,8,nn⟩ (I J (((f1+1)%G.r1:Nat):Int))).setCell ⟨G.P,9,nn⟩ (I J (r.length:Int))).heap.size:=(((bW 0 W).setCell (nZ _) _).setCell (nZ _) _).size;refine⟨(h.p.set 8 _).set 9 _,h.f.same (a _ c.1),h.x.at0 (a _ c.2.1) v,y.tail.keep (a _ c.2.2.1),h.rz.up (a _ c.2.2.1),h.q.keep (a _ c.2.2.2.1),h.qz.up (a _ c.2.2.2.1),?_,v,⟨nL h.hi.1 n,nL h.hi.2.1 n,nL h.hi.2.2 n⟩,h.d,⟨h.bd.e1,h.bd.e3,h.bd.m1,h.bd.m2,h.bd.nk,⟨Qc _ om,A.2.1,by show r.length<=_;omega⟩,h.bd.b3,h.bd.lo,fun j t=>?_,h.bd.s4⟩,h.k.to n fun q i _=>a q (hne i h.d.u.1)⟩
 .obtain⟨es,clock,q1,q2⟩:=h.m;exact⟨es,clock,(a _ c.2.2.2.2).trans q1,q2⟩
 .have hj':j+1<H.ff.length:=by rw[B];have:j<r.length:=t;omega
  have e:r[j]'(t)=H.ff[j+1]:=by simp[s]
  show(r[j]'(t)).l.length<=_;rw[e];exact C (j+1) hj'
def dq.one(h:dq w0 W g room first (f::r)):dq w0 W g room first [f]:=fun i hi=>by
 have e:i=0:=by simpa using hi
 subst e;obtain⟨a,m,c,h1,b⟩:=h 0 pQ;exact⟨a,m,c,by simpa using h1,by simpa using b⟩
def Ae(h:lh w0 G H f1 f3 hs nm D w){f:R5}{r:List R5}(s:H.ff=f::r):ce 236 #[pT (sQ ⟨G.P,7,nn⟩),I J 1] w fun e w'=>∃a k j m c,e=rT (sL (be a) 1 k)/\(w.heap.size<=a/\a<w'.heap.size/\1<=k/\w'.rangeAt a 0 [bO f.e,I .u32 (f.i:Int),bO f.r,I J f.d,sL j m c]/\iB G.u j m c f.l)/\Bl w w':=by
 have x:=h.r;rw[s]at x;have n:=h.bd.b1;have L:H.ff.length=r.length+1:=by rw[s];rfl
 refine(Af G.u w G.P 7 G.gr G.r1 f1 [f] H.ff.length 1 (by rw[L];simp) (h.p.cell 7 _ rfl) (h.p.cell 8 _ rfl) (h.p.cell 9 _ rfl) x.one n.1 ⟨om,n.2.1⟩ (by simp;omega)).mono ?_;rintro e w' ⟨v,y,rfl,t,C,ho,B⟩;have M:y.length=1:=by
  have:=congrArg List.length t;simpa using this
 obtain⟨b,rfl⟩:=List.length_eq_one_iff.1 M;obtain⟨⟨e,i,S,d,l⟩,j,m,c⟩:=b;have K:(⟨e,i,S,d,l⟩:R5)=f:=by simpa using t
 subst K;have E:=C 0 pQ;rcases cg ho with⟨T,A⟩|⟨a,k,rfl,N,O,Q,U,R⟩
 .simp at A
 .exact⟨a,k,j,m,c,rfl,⟨N,O,Q,R,E⟩,B⟩
def wD(h:lh w0 G H f1 f3 hs nm D w){f:R5}{r:List R5}(A:H.ff=f::r):ce 287 #[pT (sQ ⟨G.P,7,nn⟩),I J 1] w fun e w'=>∃b s n m c,e=rT (sL (be b) 1 s)/\(w.heap.size<=b/\b<w'.heap.size/\1<=s/\w'.rangeAt b 0 [bO f.e,I .u32 (f.i:Int),bO f.r,I J f.d,sL n m c]/\iB G.u n m c f.l)/\lh w0 G {H with ff:=r} ((f1+1)%G.r1) f3 hs nm D w'/\(∀q,q≠G.P->q<w.heap.size->w'.heap[q]?=w.heap[q]?)/\w.heap.size<=w'.heap.size:=by
 have C:=hI (Ae h A);have B:=hI h;have v:=hI A;have E:=hI h.p.lt;clear h A;go_enter func287,ntmps287;go_wp2_with fail;refine C.o.mono ?_;rintro e a ⟨b,s,n,m,c,rfl,M,y⟩;have j:=hI (B.o.below y);have k:=hI M;have t:=hI y;have O:=j.o.p.cell 7 _ rfl;have R:=j.o.p.cell 8 _ rfl;have S:a.cell? ⟨G.P,9,nn⟩=sQ (I J ((r.length:Int)+1)):=by
  have:=j.o.p.cell 9 _ rfl;rw[v.o]at this;exact this
 have z8:=j.o.p.free 8;have T:=j.o.p.free 9;have a0:=j.o.bd.b1;have a1:H.ff.length=r.length+1:=by rw[v.o];rfl
 have a3:r.length<=1000:=om;obtain⟨Q,x⟩:∃Q,(f1+1)%G.r1=Q:=⟨_,rfl⟩
 have K:=hI x;have a5:IntKind.i64.wrap ((f1:Int)+1)=((f1+1:Nat):Int):=by rw[QC];omega
 have a2:¬G.r1=0:=om;have Z:((f1+1:Nat):Int).tmod (G.r1:Int)=(Q:Int):=by rw[<- x];exact(Int.ofNat_tmod _ _).symm
 have a4:((f1:Int)+1).tmod (G.r1:Int)=(Q:Int):=Z;have a6:IntKind.i64.wrap ((r.length:Int)+1-1)=(r.length:Int):=by rw[QC];omega
 clear C B M y x;go_wp2_with fail;refine wp_region_still_tail 16 kr kr ?_;change wpStill Tp _ (World.drew a) (fun U=>wpList Tp _ _ _ U (World.drew a)) _ _;have Y:Bl a (World.drew a):=(bW _ _).drew;have j:=hI (j.o.below Y);have k:Hid (w.heap.size<=b/\b<(World.drew a).heap.size/\1<=s/\(World.drew a).rangeAt b 0 [bO f.e,I .u32 (f.i:Int),bO f.r,I J f.d,sL n m c]/\iB G.u n m c f.l):=k.o;have t:=hI t.o.drew;have O:(World.drew a).cell? ⟨G.P,7,nn⟩=sQ (sL (be G.gr) G.r1 G.r1):=O;have R:(World.drew a).cell? ⟨G.P,8,nn⟩=sQ (I J (f1:Int)):=R;have S:(World.drew a).cell? ⟨G.P,9,nn⟩=sQ (I J ((r.length:Int)+1)):=S;have z8:(World.drew a).frozen? ⟨G.P,8,nn⟩=false:=z8;have T:(World.drew a).frozen? ⟨G.P,9,nn⟩=false:=T;generalize World.drew a=N at*;simp only[List.take_succ_cons,List.take_zero,List.drop_succ_cons,List.drop_zero];repeat still_step
 refine wpStill_nil ?_;go_wp2_with fail;go_ret;have L:=j.o.fifo v.o;rw[K.o]at L;refine⟨b,s,n,m,c,rfl,⟨k.o.1,?_,k.o.2.2.1,?_,k.o.2.2.2.2⟩,by rw[K.o];exact L,fun q h1 X=>?_,?_⟩
 .exact nL k.o.2.1 (((bW 0 N).setCell (nZ _) _).setCell (nZ _) _).size
 .exact rangeAt.up k.o.2.2.2.1 ((Ql _ _ _ _ (by show b≠G.P;have:=k.o.1;have:=E.o;omega)).trans (Ql _ _ _ _ (by show b≠G.P;have:=k.o.1;have:=E.o;omega)))
 .exact ((Ql _ _ _ _ (by exact h1)).trans (Ql _ _ _ _ (by exact h1))).trans (t.o.block q X)
 .exact nT t.o.size (((bW 0 N).setCell (nZ _) _).setCell (nZ _) _).size
end
open Go.IntKind renaming i64->J,u32->Zk
section
variable{ops:Array Oper}{w:World}{Q:Act->Prop}{op:Oper}{a:Act}{rest:List Oper}{fs:List R3}{F:R5}
def oM(hw:Region.wanted op (yielded ops a.tmps)=false)(h:wpStill Tp ops w Q rest (a.put op.dst undef)):wpStill Tp ops w Q (op::rest) a:=
 wpStill_step fun K hK=>by
  rw[hw];exact hK _ h
def tu(v:Value)(hw:Region.wanted op (yielded ops a.tmps)=true)(hx:(execOp a.eval op).run Tp w= .ok (.value v) w)(h:wpStill Tp ops w Q rest (a.put op.dst v)):wpStill Tp ops w Q (op::rest) a:=
 wpStill_step fun K hK=>by
  simp only[hw,if_true];unfold Oper.still;rw[hx];exact⟨rfl,hK _ h⟩
def EE(j t:Nat)(o:Oper):Bool:=(match o.guard with|some (i,true)=>i==j|_=>false)&&(match o.dst with|some d=>d !=t|none=>true)
def iV{j t:Nat}(f:((ops[j]?).bind (·.dst))=some t){rest:List Oper}:∀(l:List Oper)(a:Act),l.all (EE j t)=true->a.tmps[t]?=some (bO false)->wpStill Tp ops w Q rest (l.foldl (fun a o=>a.put o.dst undef) a)->wpStill Tp ops w Q (l++rest) a
 |[],a,_,_,h=>h
 |o::l,a,c,ht,h=>by
  simp only[List.all_cons,Q3]at c;obtain⟨ho,c⟩:=c;unfold EE at ho;simp only[Q3]at ho;refine oM ?_ (iV f l _ c ?_ h)
  .unfold Region.wanted;revert ho
   rcases o.guard with _|⟨i,b⟩
   .simp
   .cases b
    .simp
    .intro ho;have e:i=j:=by simpa using ho.1
     subst e;simp only[yielded,f,Option.bind_some,ht];rfl
  .revert ho
   rcases hd:o.dst with _|d
   .intro _;simpa[Act.put]using ht
   .intro ho;have hne:d≠t:=by simpa using ho.2
    simp only[Act.put];rw[Array.getElem?_setIfInBounds_ne hne];exact ht
def ru{L:List Oper}(n:Nat){j t:Nat}(c:((ops[j]?).bind (·.dst))=some t)(e:op.guard=none)(hd:op.dst=some t)(f:(execOp a.eval op).run Tp w= .ok (.value (bO false)) w)(d:t<a.tmps.size)(b:(L.take n).all (EE j t)=true)(h:wpStill Tp ops w Q (L.drop n) ((L.take n).foldl (fun a o=>a.put o.dst undef) (a.put (some t) (bO false)))):wpStill Tp ops w Q (op::L) a:=by
 refine tu (bO false) (by unfold Region.wanted;rw[e]) f ?_;rw[hd,<- List.take_append_drop n L];refine iV c _ _ b ?_ ?_
 .simp only[Act.put];rw[Array.getElem?_setIfInBounds_self_of_lt d]
 .exact h
def dH(F:R5)(x:R3):Bool:=x.e==F.e&&(bits .and Zk (F.i:Int) x.m==bits .and Zk x.k x.m)
def gj(fs:List R3)(F:R5):Bool:=fs.any (dH F)||fs.length==0
def b0(n:Nat):((n:Int)==0)=(n==0):=by
 rw[Q0];simp
def nY{k:Nat}(b:k<fs.length)(h:dH F fs[k]=true):gj fs F=true:=by
 unfold gj;have:fs.any (dH F)=true:=List.any_eq_true.2 ⟨_,ql b,h⟩;rw[this];rfl
def rX(h:∀j(b:j<fs.length),dH F fs[j]=false):gj fs F=(fs.length==0):=by
 unfold gj;have:fs.any (dH F)=false:=by
  rw[List.any_eq_false];intro x c;obtain⟨j,b,rfl⟩:=List.getElem_of_mem c;rw[h j b];simp
 rw[this];rfl
def pI(w:World)(a:Option Addr)(n cap:Nat)(fs:List R3)(F:R5)(v:Option Addr)(x fc:Nat)(h:bB w a n cap fs)(hn:n<=1000):ce 165 #[sL a n cap,frV F.e F.i F.r F.d v x fc] w fun o w'=>o=rT (bO (gj fs F))/\Bl w w':=by
 obtain⟨f,fI,p,l,u⟩:=F;have a0:=h.cap;have D:=hI h.len;have U:=hI h;have W:Hid (blk (w.alloc (.cells [bO f,I Zk (fI:Int),bO p,I J l,sL v x fc].toArray 53)) w.heap.size [bO f,I Zk (fI:Int),bO p,I J l,sL v x fc] 53):=blk.new w _ 53;have T:Hid (Bl w (w.alloc (.cells [bO f,I Zk (fI:Int),bO p,I J l,sL v x fc].toArray 53))):=Zw;clear h;go_enter func165,ntmps165;go_wp2_with fail;go_loopw [5] (fun i wr=>∃k:Nat,k<=n/\i=I J (k:Int)/\(∀j(s:j<fs.length),j<k->dH ⟨f,fI,p,l,u⟩ fs[j]=false)/\Bl w wr/\blk wr w.heap.size [bO f,I Zk (fI:Int),bO p,I J l,sL v x fc] 53) (fun i _=>n-(intOf i).toNat);case atStart=>exact⟨0,nZ _,rfl,fun j s h=>Qj h (nN _),T.o,W.o⟩
 case round=>
  obtain⟨k,hk,rfl,M,K,N⟩:=hrel;have c:=hI (qB K N);have C:=hI M;clear K N M;by_cases a2:k<n
  .have hkl:k<fs.length:=by have:=D.o;omega
   obtain⟨g,off,rfl,L⟩:=U.o.cells (by intro e;rw[e]at hkl;cases hkl);have h0:=(L k hkl).below c.o.1
   have H:Hid (dH ⟨f,fI,p,l,u⟩ fs[k]=false->∀j(s:j<fs.length),j<k+1->dH ⟨f,fI,p,l,u⟩ fs[j]=false):=fun A j s a1=>by
    by_cases e:j=k
    .subst e;exact A
    .exact C.o j s om
   have X:Hid (dH ⟨f,fI,p,l,u⟩ fs[k]=true->gj fs ⟨f,fI,p,l,u⟩=true):=nY hkl;clear L C;have P:=h0.c0;have R:=h0.c1;have S:=h0.c2;have z0:=c.o.2.cell 0 _ rfl;have z1:=c.o.2.cell 1 _ rfl;clear h0;generalize fs[k]=b at*;obtain⟨e,B,O⟩:=b;simp only[]at P R S;go_wp2_with fail;refine wp_region_still_lit kr kr ?_;change wpStill Tp _ (World.drew wr) (fun Y=>Exit.then _ _ Exit.normal Y (World.drew wr)) _ _;change(World.drew wr).cell? _=_ at P R S z0 z1;have c:=hI (qB c.o.1.drew (c.o.2.below (bW _ _).drew));generalize World.drew wr=v0 at*;by_cases y:e=f
   .subst y;by_cases A:(bits .and Zk (fI:Int) B==bits .and Zk O B)=true
    .have G:=hI (X.o (by unfold dH;simp only[A,Bool.and_true,beq_self_eq_true]));repeat (still_step)
     refine wpStill_nil ?_;go_wp2_with fail;go_ret;exact⟨by rw[G.o];rfl,c.o.1⟩
    .have hx':(bits .and Zk (fI:Int) B==bits .and Zk O B)=false:=by simpa using A
     have E:=hI (H.o (by unfold dH;simp only[hx',Bool.and_false]));repeat (still_step)
     refine wpStill_nil ?_;go_wp2_with fail;go_roundw;case rel=>exact⟨k+1,om,by go_num,E.o,c.o.1,c.o.2⟩
     case measure=>simp[intOf];omega
   .have E:=hI (H.o (by unfold dH;simp[y]))
    cases e<;>cases f<;>first
     |exact Qj rfl y
     |(clear y
       (iterate 8 still_step)
       refine ru 20 (j:=8) (t:=20) rfl rfl rfl rfl pQ rfl ?_
       simp only[List.take_succ_cons,List.take_zero,List.drop_succ_cons,List.drop_zero,List.foldl_cons,List.foldl_nil,Act.put,aA,aB,aC]
       still_step
       refine wpStill_nil ?_
       go_wp2_with fail;go_roundw
       case rel=>exact⟨k+1,om,by go_num,E.o,c.o.1,c.o.2⟩
       case measure=>simp[intOf];omega)
  .have hkn:k=n:=om;subst hkn;have G:=hI (rX (fun j s=>C.o j s (by have:=D.o;omega)));have Z:k=fs.length:=D.o;subst Z;go_wp2_with fail;go_ret;refine⟨?_,c.o.1⟩;rw[G.o,<- b0 fs.length];rfl
end
def tZ(w:World)(P:Nat)(g n cap:Nat)(c:List R3)(F:R5)(u:Option Addr)(v fc:Nat)(K:w.cell? ⟨P,4,nn⟩=sQ (sL (be g) n cap))(h:bB w (be g) n cap c)(hn:n<=1000):ce 286 #[ap P,frV F.e F.i F.r F.d u v fc] w fun o w'=>o=rT (bO (gj c F))/\Bl w w':=by
 obtain⟨f,fI,p,l,t⟩:=F;have a1:=h.cap;have C:=hI h.len;have T:=hI h;have U:Hid (blk (w.alloc (.cells [bO f,I Zk (fI:Int),bO p,I J l,sL u v fc].toArray 53)) w.heap.size [bO f,I Zk (fI:Int),bO p,I J l,sL u v fc] 53):=blk.new w _ 53;have L:Hid (Bl w (w.alloc (.cells [bO f,I Zk (fI:Int),bO p,I J l,sL u v fc].toArray 53))):=Zw;have N:Hid (∀X,Bl w X->X.cell? ⟨P,4,nn⟩=sQ (sL (be g) n cap)):=fun X Z=>(Z.cell (by exact Qn w _ K)).trans K;have a0:=N.o _ L.o;clear h K;go_enter func286,ntmps286;go_wp2_with fail;clear a0;go_loopw [12] (fun i wr=>∃k:Nat,k<=n/\i=I J (k:Int)/\(∀j(s:j<c.length),j<k->dH ⟨f,fI,p,l,t⟩ c[j]=false)/\Bl w wr/\blk wr w.heap.size [bO f,I Zk (fI:Int),bO p,I J l,sL u v fc] 53) (fun i _=>n-(intOf i).toNat);case atStart=>exact⟨0,nZ _,rfl,fun j s h=>Qj h (nN _),L.o,U.o⟩
 case round=>
  obtain⟨k,hk,rfl,R,O,S⟩:=hrel;have a:=hI (qB O S);have B:=hI R;clear O S R;by_cases a3:k<n
  .have hkl:k<c.length:=by have:=C.o;omega
   obtain⟨g',off,Y,Q⟩:=T.o.cells (by intro e;rw[e]at hkl;cases hkl);cases Y;have h0:=(Q k hkl).below a.o.1;rw[qg]at h0
   have M:Hid (dH ⟨f,fI,p,l,t⟩ c[k]=false->∀j(s:j<c.length),j<k+1->dH ⟨f,fI,p,l,t⟩ c[j]=false):=fun A j s a2=>by
    by_cases e:j=k
    .subst e;exact A
    .exact B.o j s om
   have W:Hid (dH ⟨f,fI,p,l,t⟩ c[k]=true->gj c ⟨f,fI,p,l,t⟩=true):=nY hkl;clear Q B;have x0:=h0.c0;have x1:=h0.c1;have x2:=h0.c2;clear h0;generalize c[k]=b at*;obtain⟨e,x,H⟩:=b;simp only[]at x0 x1 x2;have G:Bl wr (wr.alloc (.cells [bO e,I Zk x,I Zk H].toArray 147)):=Zw;have a:=hI (qB (a.o.1.trans (G.mono a.o.1.size)) (a.o.2.below G));clear G;have z0:=a.o.2.cell 0 _ rfl;have z1:=a.o.2.cell 1 _ rfl;by_cases y:e=f
   .subst y;by_cases A:(bits .and Zk (fI:Int) x==bits .and Zk H x)=true
    .have E:=hI (W.o (by unfold dH;simp only[A,Bool.and_true,beq_self_eq_true]));go_wp2_with fail;go_ret;exact⟨by rw[E.o];rfl,a.o.1⟩
    .have hx':(bits .and Zk (fI:Int) x==bits .and Zk H x)=false:=by simpa using A
     have D:=hI (M.o (by unfold dH;simp only[hx',Bool.and_false]));go_wp2_with fail;go_roundw;case rel=>exact⟨k+1,om,by go_num,D.o,a.o.1,a.o.2⟩
     case measure=>simp[intOf];omega
   .have D:=hI (M.o (by unfold dH;simp[y]))
    cases e<;>cases f<;>first
     |exact Qj rfl y
     |(clear y
       go_wp2_with fail;go_roundw
       case rel=>exact⟨k+1,om,by go_num,D.o,a.o.1,a.o.2⟩
       case measure=>simp[intOf];omega)
  .have hkn:k=n:=om;subst hkn;have E:=hI (rX (fun j s=>B.o j s (by have:=C.o;omega)));have hl:k=c.length:=C.o;subst hl;have a4:=N.o _ a.o.1;go_wp2_with fail;go_ret;refine⟨?_,a.o.1⟩;rw[E.o,<- b0 c.length];rfl
def cq(H:Ho)(F:R5):Ho:=
 if vB F.e F.i F.r F.d F.l.length=true/\gj H.fs F=true then
  (if(H.ff.length:Int)=H.c1 then
   (if H.c2=0 then pH H (evF 3 0 0 F)
    else match H.ff with
    |[]=>H
    |f::r=>pH (fHo (pH H (evF 3 0 0 f)) (r++[F])) (evF 2 0 0 F))
   else pH (fHo H (H.ff++[F])) (evF 2 0 0 F))
 else H
def lh.putF{w0:World}{G:Lg}{H:Ho}{y A:Nat}{hs:Nat->Hd}{N:Nat}{D:DataW Unit}{W:World}(h:lh w0 G H y A hs N D W)(F:R5)(w:Option Addr)(m c:Nat)(O:iB G.u w m c F.l)(C:F.l.length<=1048576)(Z:H.ff.length<G.r1)(t:Nat)(L:W.heap[t]?=some (.cells #[bO F.e,I .u32 (F.i:Int),bO F.r,I J F.d,sL w m c] 53))(hne:t≠G.P/\t≠G.gr):ce 241 #[pT (some ⟨G.P,7,none⟩),sL (be t) 1 1] W fun o w'=>o=rT (I J 1)/\lh w0 G (fHo H (H.ff++[F])) y A hs N D w'/\(∀b,b≠G.P->b≠G.gr->b<W.heap.size->w'.heap[b]?=W.heap[b]?)/\W.heap.size<=w'.heap.size:=by
 have Y:=h.d.p;have X:=h.d.m;have U:=h.d.g;have dl:=h.d.lo;have v:=h.bd.b1
 refine(wZ H.c0 H.c2 G.r3 G.gf G.n1 G.kf G.gb G.n2 G.kb G.mb G.gq A H.qu.length H.lo H.st G.u W G.P G.gr G.r1 y H.ff [F] (be t) 1 1 h.p om h.rz h.hi.2.1 h.r v.1 v.2.2 v.2.1 ⟨rfl,nR _,fun _=>⟨t,0,rfl,hne.1,hne.2,av L,fun j B=>⟨w,m,c,by
   have R:j=0:=by simp at B;omega
   subst R;exact⟨cd L,O⟩⟩⟩⟩ om 1 om).mono ?_
 rintro o w' ⟨rfl,a⟩;have K:Bl w0 w':=by
  refine⟨a.o.1.trans h.b.os,a.o.2.1.trans h.b.tape,a.o.2.2.trans h.b.output,nT h.b.size a.s,fun b E=>?_⟩;rw[a.k b om om (nL E h.b.size)];exact h.b.block b E
 have n:=a.k;have M:=a.s;have hi:=h.hi;have T:=a.r;have S:=a.p;refine⟨rfl,⟨?_,h.f.same (n _ om om hi.1),h.x.at0 (n _ om om h.x.hi) K,T,a.z,h.q.keep (n _ om om hi.2.2),h.qz.up (n _ om om hi.2.2),?_,K,⟨om,om,om⟩,h.d,⟨h.bd.e1,h.bd.e3,h.bd.m1,h.bd.m2,h.bd.nk,⟨v.1,v.2.1,?_⟩,h.bd.b3,h.bd.lo,?_,h.bd.s4⟩,h.k.to M fun q a C=>n q (Go.Proofs.YtbbffcolnddcdaaGreatDoor.hne a h.d.u.1) (Go.Proofs.YtbbffcolnddcdaaGreatDoor.hne a h.d.u.2.2.2.1) C⟩,n,M⟩
 .have e2:(fHo H (H.ff++[F])).ff.length=H.ff.length+1:=by simp
  unfold lhL;rw[e2];exact S
 .obtain⟨es,clock,q1,q2⟩:=h.m;exact⟨es,clock,(n _ om om h.m.lt).trans q1,q2⟩
 .show (H.ff++[F]).length<=_;simp;omega
 .intro j B;have Q:j<H.ff.length+1:=by simpa using B
  show((H.ff++[F])[j]'(by simpa using Q)).l.length<=_;by_cases e:j<H.ff.length
  .rw[qI e];exact h.bd.s3 j e
  .rw[List.getElem_append_right om];simpa using C
section
variable{G:Lg}{W X Y w0:World}{f1 f3 nm:Nat}
def frD(G:Lg)(W X:World):Prop:=(∀q,q≠G.P->q≠G.gq->q≠G.gr->q<W.heap.size->X.heap[q]?=W.heap[q]?)/\W.heap.size<=X.heap.size
def frD.of(h:Bl W X):frD G W X:=⟨fun q _ _ _ hq=>h.block q hq,h.size⟩
def frD.step(h:frD G W X)(ho:∀q,q≠G.P->q≠G.gq->q≠G.gr->q<X.heap.size->Y.heap[q]?=X.heap[q]?)(hz:X.heap.size<=Y.heap.size):frD G W Y:=
 ⟨fun q a b c d=>(ho q a b c (nL d h.2)).trans (h.1 q a b c d),nT h.2 hz⟩
def frD.below(h:frD G W X)(hb:Bl X Y):frD G W Y:=h.step (fun q _ _ _ hq=>hb.block q hq) hb.size
def frD.post(h:frD G W X)(ho:∀b,b≠G.P->b≠G.gq->b<X.heap.size->Y.heap[b]?=X.heap[b]?)(hz:X.heap.size<=Y.heap.size):frD G W Y:=h.step (fun q a b _ hq=>ho q a b hq) hz
def frD.put(h:frD G W X)(ho:∀b,b≠G.P->b≠G.gr->b<X.heap.size->Y.heap[b]?=X.heap[b]?)(hz:X.heap.size<=Y.heap.size):frD G W Y:=h.step (fun q a _ c hq=>ho q a c hq) hz
def frD.take(h:frD G W X)(ho:∀b,b≠G.P->b<X.heap.size->Y.heap[b]?=X.heap[b]?)(hz:X.heap.size<=Y.heap.size):frD G W Y:=h.step (fun q a _ _ hq=>ho q a hq) hz
def uN{H:Ho}{hs:Nat->Hd}{D:DataW Unit}(h:lh w0 G H f1 f3 hs nm D W)(F:R5)(b:Option Addr)(a fc:Nat)(hf:iB G.u b a fc F.l)(bw:a<=1048576)(bs:H.c2=0\/H.c2=1):ce 267 #[ap G.P,frV F.e F.i F.r F.d b a fc] W fun o w'=>o=rT (.tuple #[])/\(∃br,lh w0 G (cq H F) br f3 hs nm D w')/\frD G W w':=by
 have a4:Hid (Bl W (W.alloc (.cells [bO F.e,I Zk (F.i:Int),bO F.r,I J F.d,sL b a fc].toArray 53))):=Zw;have b2:Hid (blk (W.alloc (.cells [bO F.e,I Zk (F.i:Int),bO F.r,I J F.d,sL b a fc].toArray 53)) W.heap.size [bO F.e,I Zk (F.i:Int),bO F.r,I J F.d,sL b a fc] 53):=blk.new W _ 53;have af:=hI (h.below a4.o);have L:=hI h.lts;have n:Hid (iB G.u b a fc F.l/\F.l.length<=1048576/\a=F.l.length):=⟨hf,by have:=hf.len;omega,hf.len⟩
 have bf:Hid (∀X,lh w0 G H f1 f3 hs nm D X->ce 186 #[frV F.e F.i F.r F.d b a fc] X fun o w'=>o=rT (bO (vB F.e F.i F.r F.d a))/\Bl X w'):=fun X v=>dU X _ _ _ _ _ _ _ _ (hf.kpt v.k);have bc:Hid (∀X,lh w0 G H f1 f3 hs nm D X->ce 286 #[ap G.P,frV F.e F.i F.r F.d b a fc] X fun o w'=>o=rT (bO (gj H.fs F))/\Bl X w'):=fun X v=>tZ X G.P G.gf G.n1 G.kf H.fs F b a fc (v.p.cell 4 _ rfl) v.f v.bd.m1;have b8:Hid (∀X,lh w0 G H f1 f3 hs nm D X->ce 264 #[pT (sQ ⟨G.P,7,nn⟩)] X fun o w'=>o=rT (I J ((G.r1-H.ff.length:Nat):Int))/\Bl X w'):=fun X v=>DH X G.P 7 _ G.r1 G.r1 H.ff.length (v.p.cell 7 _ rfl) (v.p.cell 9 _ rfl) v.bd.b1.2.2 (by have:=v.bd.b1;omega) 264 (qp rfl);clear h hf;go_enter func267,ntmps267;go_wp2_with(refine Zi 53 [bO F.e,I Zk (F.i:Int),bO F.r,I J F.d,sL b a fc] b2.o.load underlying53 cE ?_);refine(bf.o _ af.o).mono ?_;rintro o w1 ⟨rfl,a7⟩;have a5:=hI (af.o.below a7);have ak:=hI (b2.o.below a7);have g:Hid (frD G W w1):=frD.of (a4.o.trans (a7.mono a4.o.size));clear a7 af b2 a4 bf;by_cases hv:vB F.e F.i F.r F.d a=true
 .rw[hv];go_wp2_with(refine an (by first|rfl|(simp[Region.wanted,yielded];done)|(simp[Region.wanted,yielded];omega)) 53 _ rfl W.heap.size 0 rfl [bO F.e,I Zk (F.i:Int),bO F.r,I J F.d,sL b a fc] _ ak.o.load underlying53 rfl cE ?_);refine(bc.o _ a5.o).mono ?_;rintro o w2 ⟨rfl,a8⟩;have a6:=hI (a5.o.below a8);have b9:=hI (ak.o.below a8);have g:=hI (g.o.below a8);clear a8 a5 ak bc;have HV:Hid (vB F.e F.i F.r F.d F.l.length=true):=by show _=_;rw[<- n.o.2.2];exact hv
  by_cases hp:gj H.fs F=true
  .rw[hp];have ac:Hid (cq H F=if(H.ff.length:Int)=H.c1 then(if H.c2=0 then pH H (evF 3 0 0 F)else match H.ff with|[]=>H|f::r=>pH (fHo (pH H (evF 3 0 0 f)) (r++[F])) (evF 2 0 0 F))else pH (fHo H (H.ff++[F])) (evF 2 0 0 F)):=by
    show _=_;unfold cq;rw[QW ⟨HV.o,hp⟩];try rfl
   go_wp2_with fail;refine(b8.o _ a6.o).mono ?_;rintro o w3 ⟨rfl,a9⟩;have y:=hI (a6.o.below a9);have U:=hI (b9.o.below a9);have g:=hI (g.o.below a9);clear a9 a6 b9 b8;have bt:=y.o.bd.b1;have b3:=y.o.bd.e1;by_cases b5:H.ff.length=G.r1
   .have hfr:G.r1-H.ff.length=0:=om;rw[hfr];have b4:(H.ff.length:Int)=H.c1:=by rw[b3];omega
    have y2:=y.o.p.cell 2 _ rfl;rcases bs with h0|h0
    .have w:Hid (cq H F=pH H (evF 3 0 0 F)):=by
      show _=_;rw[ac.o,QW b4,QW h0]
     rw[h0]at y2;have A:=hI (y.o.post (evF 3 0 0 F) b a fc n.o.1 n.o.2.1);go_wp2_with(refine Zi 53 [bO F.e,I Zk (F.i:Int),bO F.r,I J F.d,sL b a fc] U.o.load underlying53 cE ?_);refine A.o.mono ?_;rintro o w7 ⟨rfl,B,C,E⟩;have Q:=hI B;have g:=hI (g.o.post C E);clear B A C E;go_wp2_with fail;refine bN ?_
     exact⟨rfl,⟨_,by rw[w.o];exact Q.o⟩,g.o⟩
    .have hne:¬H.c2=0:=om;obtain⟨f,r,N⟩:∃f r,H.ff=f::r:=by
      cases hff:H.ff with
      |nil=>rw[hff]at b5;simp at b5;omega
      |cons f r=>exact⟨f,r,rfl⟩
     have w:Hid (cq H F=pH (fHo (pH H (evF 3 0 0 f)) (r++[F])) (evF 2 0 0 F)):=by
      show _=_;rw[ac.o,QW b4,QV hne,N]
     have b7:=y.o.bd.s3 0 (by rw[N];simp);have e0:H.ff[0]'(by rw[N];simp)=f:=by simp[N]
     rw[e0]at b7;have bk:r.length<G.r1:=by
      have:=congrArg List.length N;simp at this;omega
     have bn:=hI bk;rw[h0]at y2;have be:=hI (wD y.o N);have bq:=hI b7;clear b7 e0 N bk b4 b3 bt b5 hfr;obtain⟨gE,gI,gR,gD,gL⟩:=f;go_wp2_with fail;refine be.o.mono ?_;rintro o w4 ⟨gx,kx,ao,m,c,rfl,⟨h1,h2,h3,h4,h5⟩,h6,h7,h8⟩;have aw:=hI (U.o.kept (h7 _ (by have:=L.o.1;omega) U.o.lt));have bg:=hI h4;have bA:1<=kx:=h3;have bb:=hI (h6.post (evF 3 0 0 ⟨gE,gI,gR,gD,gL⟩) ao m c h5 bq.o);have g:=hI (g.o.take h7 h8);clear h1 h2 h3 h4 h5 h6 h7 h8 be U y;go_wp2_with(refine Zi 53 [bO gE,I Zk (gI:Int),bO gR,I J gD,sL ao m c] bg.o underlying53 cE ?_);refine bb.o.mono ?_;rintro o w5 ⟨rfl,bi,b6,bu⟩;have bm:=hI bi;have bo:=hI (aw.o.kept (b6 _ (by have:=L.o.1;omega) (by have:=L.o.2.2.2.2.2;omega) aw.o.lt));have g:=hI (g.o.post b6 bu);clear bi b6 bb aw bg;go_wp2_with fail;refine Qu (S:=fun X=>blk X W.heap.size [bO F.e,I Zk (F.i:Int),bO F.r,I J F.d,sL b a fc] 53) kr ?_;have hS:=bo.o.below (bW _ _).drew;have K:=hI (bm.o.below (bW _ _).drew);have g:=hI (g.o.below (bW _ _).drew);change wpAnyH Tp _ _ _ _ _ _ _ (World.drew w5);generalize World.drew w5=j at*;refine wV 0 (ap G.P) ?_ hS ?_
     .intro W hSw;clear hS;go_simp
     simp only[Act.put,aA,aB,aC,aD,aE];refine wV 1 (ap G.P) ?_ hS ?_
     .intro W hSw;clear hS;go_simp
     simp only[aZ];refine wV 2 (pT (sQ ⟨G.P,7,nn⟩)) ?_ hS ?_
     .intro W hSw;clear hS;go_simp
     simp only[aZ];refine wU 3 (.agg [bO F.e,I Zk (F.i:Int),bO F.r,I J F.d,sL b a fc].toArray) rfl (Qw (by rfl) 53 _ rfl W.heap.size 0 rfl [bO F.e,I Zk (F.i:Int),bO F.r,I J F.d,sL b a fc] _ (fun X h=>h.load) underlying53 rfl cE) hS ?_;simp only[aZ];refine Qq (rs:=[4]) kr pQ ?_;refine QT rfl (fun M s=>?_) QU;go_simp;have x:Bl j (j.alloc (.cells [bO F.e,I Zk (F.i:Int),bO F.r,I J F.d,sL b a fc].toArray 53)):=Zw;have a1:=hS.below x;have T:Hid ((j.alloc (.cells [bO F.e,I Zk (F.i:Int),bO F.r,I J F.d,sL b a fc].toArray 53)).heap[j.heap.size]?=sQ (.cells [bO F.e,I Zk (F.i:Int),bO F.r,I J F.d,sL b a fc].toArray 53)):=Qy j _;have R:=hI (K.o.below x);have g:=hI (g.o.below x);have Z:=hI K.o.lts;refine s.out _ _ a1 (fun t=>?_);clear s M a1 hS x K;have hS:=t;clear t;generalize (j.alloc (.cells [bO F.e,I Zk (F.i:Int),bO F.r,I J F.d,sL b a fc].toArray 53))=v1 at*;generalize j.heap.size=ib at*;refine Qq (rs:=[5]) kr pQ ?_;refine QT rfl (fun M s=>?_) QU;go_simp;refine(R.o.putF F b a fc n.o.1 n.o.2.1 (by exact bn.o) ib T.o ⟨by have:=Z.o.1;omega,by have:=Z.o.2.2.2.2.1;omega⟩).mono ?_;rintro o v2 ⟨rfl,a2,O,a3⟩;have a0:=hS.kept (O _ (by have:=L.o.1;omega) (by have:=L.o.2.2.2.2.1;omega) hS.lt);have ad:=hI a2;have g:=hI (g.o.put O a3);clear a2 O a3;go_wp2_with fail;refine s.out _ _ a0 (fun t=>?_);clear s M a0 hS R T;have am:=hI t;clear t;refine Qs kr ?_ _;have A:=hI (ad.o.post (evF 2 0 0 F) b a fc n.o.1 n.o.2.1);go_wp2_with(refine Zi 53 [bO F.e,I Zk (F.i:Int),bO F.r,I J F.d,sL b a fc] am.o.load underlying53 cE ?_);refine A.o.mono ?_;rintro o w7 ⟨rfl,B,C,E⟩;have Q:=hI B;have g:=hI (g.o.post C E);clear B A C E;go_wp2_with fail;refine bN ?_
     exact⟨rfl,⟨_,by rw[w.o];exact Q.o⟩,g.o⟩
   .obtain⟨q,hq⟩:∃q:Nat,G.r1-H.ff.length=q+1:=⟨G.r1-H.ff.length-1,om⟩
    rw[hq];have bD:(((q+1:Nat):Int)==0)=false:=by simp;omega
    have w:Hid (cq H F=pH (fHo H (H.ff++[F])) (evF 2 0 0 F)):=by
     show _=_;rw[ac.o,QV (by rw[b3];omega)]
    go_wp2_with fail;refine Qu (S:=fun X=>blk X W.heap.size [bO F.e,I Zk (F.i:Int),bO F.r,I J F.d,sL b a fc] 53) kr ?_;have hS:=U.o.below (bW _ _).drew;have K:=hI (y.o.below (bW _ _).drew);have g:=hI (g.o.below (bW _ _).drew);change wpAnyH Tp _ _ _ _ _ _ _ (World.drew w3);generalize World.drew w3=j at*;refine wV 0 (ap G.P) ?_ hS ?_
    .intro W hSw;clear hS;go_simp
    simp only[Act.put,aA,aB,aC,aD,aE];refine wV 1 (ap G.P) ?_ hS ?_
    .intro W hSw;clear hS;go_simp
    simp only[aZ];refine wV 2 (pT (sQ ⟨G.P,7,nn⟩)) ?_ hS ?_
    .intro W hSw;clear hS;go_simp
    simp only[aZ];refine wU 3 (.agg [bO F.e,I Zk (F.i:Int),bO F.r,I J F.d,sL b a fc].toArray) rfl (Qw (by rfl) 53 _ rfl W.heap.size 0 rfl [bO F.e,I Zk (F.i:Int),bO F.r,I J F.d,sL b a fc] _ (fun X h=>h.load) underlying53 rfl cE) hS ?_;simp only[aZ];refine Qq (rs:=[4]) kr pQ ?_;refine QT rfl (fun M s=>?_) QU;go_simp;have x:Bl j (j.alloc (.cells [bO F.e,I Zk (F.i:Int),bO F.r,I J F.d,sL b a fc].toArray 53)):=Zw;have a1:=hS.below x;have T:Hid ((j.alloc (.cells [bO F.e,I Zk (F.i:Int),bO F.r,I J F.d,sL b a fc].toArray 53)).heap[j.heap.size]?=sQ (.cells [bO F.e,I Zk (F.i:Int),bO F.r,I J F.d,sL b a fc].toArray 53)):=Qy j _;have R:=hI (K.o.below x);have g:=hI (g.o.below x);have Z:=hI K.o.lts;refine s.out _ _ a1 (fun t=>?_);clear s M a1 hS x K;have hS:=t;clear t;generalize (j.alloc (.cells [bO F.e,I Zk (F.i:Int),bO F.r,I J F.d,sL b a fc].toArray 53))=v1 at*;generalize j.heap.size=ib at*;refine Qq (rs:=[5]) kr pQ ?_;refine QT rfl (fun M s=>?_) QU;go_simp;refine(R.o.putF F b a fc n.o.1 n.o.2.1 om ib T.o ⟨by have:=Z.o.1;omega,by have:=Z.o.2.2.2.2.1;omega⟩).mono ?_;rintro o v2 ⟨rfl,a2,O,a3⟩;have a0:=hS.kept (O _ (by have:=L.o.1;omega) (by have:=L.o.2.2.2.2.1;omega) hS.lt);have ad:=hI a2;have g:=hI (g.o.put O a3);clear a2 O a3;go_wp2_with fail;refine s.out _ _ a0 (fun t=>?_);clear s M a0 hS R T;have am:=hI t;clear t;refine Qs kr ?_ _;have A:=hI (ad.o.post (evF 2 0 0 F) b a fc n.o.1 n.o.2.1);go_wp2_with(refine Zi 53 [bO F.e,I Zk (F.i:Int),bO F.r,I J F.d,sL b a fc] am.o.load underlying53 cE ?_);refine A.o.mono ?_;rintro o w7 ⟨rfl,B,C,E⟩;have Q:=hI B;have g:=hI (g.o.post C E);clear B A C E;go_wp2_with fail;refine bN ?_
    exact⟨rfl,⟨_,by rw[w.o];exact Q.o⟩,g.o⟩
  .have hp':gj H.fs F=false:=by simpa using hp
   rw[hp'];have w:Hid (cq H F=H):=by
    show _=_;unfold cq;rw[QV (by intro h;exact hp h.2)]
   go_wp2_with fail;refine bN ?_
   exact⟨rfl,⟨f1,by rw[w.o];exact a6.o⟩,g.o⟩
 .have hv':vB F.e F.i F.r F.d a=false:=by simpa using hv
  rw[hv'];have w:Hid (cq H F=H):=by
   show _=_;unfold cq;rw[QV (by intro h;rw[<- n.o.2.2]at h;exact hv h.1)]
  go_wp2_with fail;refine bN ?_
  exact⟨rfl,⟨f1,by rw[w.o];exact a5.o⟩,g.o⟩
def mx.deliver{M:Nat}{C:Co}(h:mx w0 M G f1 f3 nm C W)(F:R5)(c:Option Addr)(a fc:Nat)(j:iB G.u c a fc F.l)(k:a<=1048576)(g:C.ho.c2=0\/C.ho.c2=1):ce 267 #[ap G.P,frV F.e F.i F.r F.d c a fc] W fun o w'=>o=rT (.tuple #[])/\∃b,mx w0 M G b f3 nm {C with ho:=cq C.ho F} w':=by
 obtain⟨hs,D,h⟩:=h;refine(uN h.h F c a fc j k g).mono ?_;rintro o w' ⟨rfl,⟨b,h1⟩,f⟩;exact⟨rfl,b,hs,D,h.m.kept (f.1 M h.o.1 (by have:=h.o;omega) (by have:=h.o;omega) h.m.lt),h1,h.o,h.e⟩
end
def dG(n:Int):Int:=max (n-1) 0
def rQ(w:World)(n:Int)(a:0<=n/\n<=1000):ce 266 #[I J n] w fun o w'=>o=rT (I J (dG n))/\w=w':=by
 go_enter func266,ntmps266;go_wp2;go_ret;exact⟨rfl,rfl⟩
def aU(C:Co)(k:Int)(F:R5):Co:=
 if k=1 then{C with ho:=bz C.ho true,te:=dG C.te,p:=5}
 else if k=2 then{C with ho:=cq C.ho F,re:=dG (min C.re 128)}
 else if k=3 then{C with p:=5}
 else if k=4 then ovC C
 else if k=5 then{C with ho:=bz C.ho false,tx:=false}
 else C
def my(w0:World)(M:Nat)(G:Lg)(f3 nm:Nat)(C:Co)(W:World):Prop:=∃f1,mx w0 M G f1 f3 nm C W
section
variable{w0:World}{M:Nat}{G:Lg}{f1 f3 nm:Nat}{C:Co}{W:World}
def jo(a0:mx w0 M G f1 f3 nm C W)(k:Int)(F:R5)(v:Option Addr)(f fc:Nat)(hf:iB G.u v f fc F.l)(a6:f<=1048576)(a5:C.ho.c2=0\/C.ho.c2=1)(ht:0<=C.te/\C.te<=256)(hr:0<=C.re/\C.re<=255)(a2:∀j(hj:j<C.ho.bx.length),(Lit.int .i64 C.ho.bx[j].y).wf=true):ce 243 #[ap M,I J k,frV F.e F.i F.r F.d v f fc] W fun o w'=>o=rT (.tuple #[])/\my w0 M G f3 nm (aU C k F) w':=by
 have a1:Bl W (W.alloc (.cells [bO F.e,I .u32 (F.i:Int),bO F.r,I J F.d,sL v f fc].toArray 53)):=Zw;have A:Hid (blk (W.alloc (.cells [bO F.e,I .u32 (F.i:Int),bO F.r,I J F.d,sL v f fc].toArray 53)) W.heap.size [bO F.e,I .u32 (F.i:Int),bO F.r,I J F.d,sL v f fc] 53):=blk.new W _ 53;have a:=ar (a0.below a1);have Q:=ar a2;have a3:=ar hf;generalize g:W.alloc (.cells [bO F.e,I .u32 (F.i:Int),bO F.r,I J F.d,sL v f fc].toArray 53)=V at*;have K:=a.o.m.cell 0 (ap G.P) rfl;have L:=a.o.m.cell 3 (I J C.p) rfl;have N:=a.o.m.free 3;clear a0 a1 a2 hf;obtain⟨R,e1,_,h⟩:=eqB k 1;obtain⟨S,e2,_,n⟩:=eqB k 2;obtain⟨T,Z,_,s⟩:=eqB k 3;obtain⟨U,E,_,t⟩:=eqB k 4;obtain⟨Y,B,_,f5⟩:=eqB k 5;have n1:R=false->¬k=1:=fun e x=>by have:=h.o.2 x;rw[e]at this;cases this
 have n2:S=false->¬k=2:=fun e x=>by have:=n.o.2 x;rw[e]at this;cases this
 have n3:T=false->¬k=3:=fun e x=>by have:=s.o.2 x;rw[e]at this;cases this
 have n4:U=false->¬k=4:=fun e x=>by have:=t.o.2 x;rw[e]at this;cases this
 have w:Y=false->¬k=5:=fun e x=>by have:=f5.o.2 x;rw[e]at this;cases this
 cases R;case true=>
  have b:Hid (aU C k F={C with ho:=bz C.ho true,te:=dG C.te,p:=5}):=by show _=_;unfold aU;rw[QW (h.o.1 rfl)]
  have D:Hid (∀X,ce 266 #[I J C.te] X fun o w'=>o=rT (I J (dG C.te))/\X=w'):=fun X=>rQ X _ ⟨ht.1,om⟩;clear n1 n2 n3 n4 w h n s t f5 e2 Z E B;go_enter func243,ntmps243;try rw[g]
  go_wp2_with fail;refine(a.o.release true Q.o).mono ?_;rintro o H ⟨rfl,h1⟩;have c:=ar h1;have y1:=h1.m.cell 1 (I J C.te) rfl;have z1:=h1.m.free 1;have x3:=h1.m.cell 3 (I J C.p) rfl;have w3:=h1.m.free 3;clear h1 K L N a A g;go_wp2_with(go_at_call 266;refine(D.o _).mono ?_;rintro o w2 ⟨rfl,rfl⟩);refine bN ?_
  refine⟨rfl,f1,?_⟩;rw[b.o];exact(c.o.set 1 (I J (dG C.te)) {C with ho:=bz C.ho true,te:=dG C.te} rfl rfl).set 3 (I J 5) _ rfl rfl
 cases S;case true=>
  have b:Hid (aU C k F={C with ho:=cq C.ho F,re:=dG (min C.re 128)}):=by show _=_;unfold aU;rw[QV (n1 rfl),QW (n.o.1 rfl)]
  have D:Hid (∀X,ce 266 #[I J (min C.re 128)] X fun o w'=>o=rT (I J (dG (min C.re 128)))/\X=w'):=fun X=>rQ X _ ⟨om,om⟩;clear n1 n2 n3 n4 w h n s t f5 Z E B;go_enter func243,ntmps243;try rw[g]
  go_wp2_with fail;refine wp_region_still_tail 6 kr kr ?_;have c:=ar (a.o.below (bW _ _).drew);have O:=ar (A.o.below (bW _ _).drew);change wpStill Tp _ (World.drew V) (fun a'=>wpList Tp _ _ _ a' (World.drew V)) _ _;have x0:=c.o.m.cell 0 (ap G.P) rfl;clear a A g K L N;generalize World.drew V=v0 at*;simp only[List.take_succ_cons,List.take_zero,List.drop_succ_cons,List.drop_zero];still_step
  still_step
  still_step
  still_step
  still_step
  refine dT (by rfl) 53 _ rfl W.heap.size 0 rfl [bO F.e,I .u32 (F.i:Int),bO F.r,I J F.d,sL v f fc] _ O.o.load underlying53 rfl cE ?_;refine wpStill_nil ?_;go_wp2_with fail;refine(c.o.deliver F v f fc a3.o a6 a5).mono ?_;rintro o H ⟨rfl,a4,h1⟩;have H2:=ar h1;have y2:=h1.m.cell 2 (I J C.re) rfl;have z2:=h1.m.free 2;clear h1 x0 c O;go_wp2_with(go_at_call 266;refine(D.o _).mono ?_;rintro o w2 ⟨rfl,rfl⟩);refine bN ?_
  refine⟨rfl,a4,?_⟩;rw[b.o];exact H2.o.set 2 (I J (dG (min C.re 128))) _ rfl rfl
 cases T;case true=>
  have b:Hid (aU C k F={C with p:=5}):=by show _=_;unfold aU;rw[QV (n1 rfl),QV (n2 rfl),QW (s.o.1 rfl)]
  clear n1 n2 n3 n4 w h n s t f5 E B;go_enter func243,ntmps243;try rw[g]
  go_wp2_with fail;refine bN ?_
  refine⟨rfl,f1,?_⟩;rw[b.o];exact a.o.set 3 (I J 5) _ rfl rfl
 cases U;case true=>
  have b:Hid (aU C k F=ovC C):=by show _=_;unfold aU;rw[QV (n1 rfl),QV (n2 rfl),QV (n3 rfl),QW (t.o.1 rfl)]
  clear n1 n2 n3 n4 w h n s t f5 B;go_enter func243,ntmps243;try rw[g]
  go_wp2_with fail;refine(gO a.o).mono ?_;rintro o H ⟨rfl,h1⟩;have c:=ar h1;clear h1;go_wp2_with fail;refine bN ?_
  exact⟨rfl,f1,by rw[b.o];exact c.o⟩
 cases Y;case true=>
  have b:Hid (aU C k F={C with ho:=bz C.ho false,tx:=false}):=by show _=_;unfold aU;rw[QV (n1 rfl),QV (n2 rfl),QV (n3 rfl),QV (n4 rfl),QW (f5.o.1 rfl)]
  clear n1 n2 n3 n4 w h n s t f5;go_enter func243,ntmps243;try rw[g]
  go_wp2_with fail;refine(a.o.release false Q.o).mono ?_;rintro o H ⟨rfl,h1⟩;have c:=ar h1;have y9:=h1.m.cell 9 (bO C.tx) rfl;have z9:=h1.m.free 9;clear h1 K L N a A g;go_wp2_with fail;refine bN ?_
  refine⟨rfl,f1,?_⟩;rw[b.o];exact c.o.set 9 (bO false) _ rfl rfl
 have b:Hid (aU C k F=C):=by show _=_;unfold aU;rw[QV (n1 rfl),QV (n2 rfl),QV (n3 rfl),QV (n4 rfl),QV (w rfl)]
 clear n1 n2 n3 n4 w h n s t f5;go_enter func243,ntmps243;try rw[g]
 go_wp2_with fail;refine bN ?_
 exact⟨rfl,f1,by rw[b.o];exact a.o⟩
end
section
variable{w0:World}{M:Nat}{G:Lg}{f1 f3 nm:Nat}{C:Co}{W:World}{p:Nat->Bool}
def lv(M:Nat)(G:Lg)(q:Nat):Bool:=q==M||(q==G.P||(q==G.mb||(q==G.gb||(q==G.gr||q==G.gq))))
def DC{q:Nat}(h1:q≠M)(h:q≠G.P/\q≠G.mb/\q≠G.gb/\q≠G.gr/\q≠G.gq):lv M G q=false:=by
 unfold lv;simp[h1,h.1,h.2.1,h.2.2.1,h.2.2.2.1,h.2.2.2.2]
def bln(W:World)(p:Nat->Bool):World:={W with heap:=W.heap.mapIdx fun i o=>if p i then .cells #[] 0 else o}
def Ba(q:Nat):(bln W p).heap[q]?=(W.heap[q]?).map fun o=>if p q then .cells #[] 0 else o:=by
 unfold bln;simp[Array.getElem?_mapIdx]
def fJ{q:Nat}(h:p q=false):(bln W p).heap[q]?=W.heap[q]?:=by
 rw[Ba];simp[h]
def mC{q:Nat}(h:p q=true):iU (bln W p) q:=fun i=>by
 simp only[World.cell?];rw[Ba,h];cases W.heap[q]?<;>simp
def C3:kpt (bln W p) W:=by
 refine⟨by unfold bln;simp,fun q i x a=>?_⟩;cases e:p q
 .exact (fJ e).symm
 .rw[mC e i]at a;cases a
def kh{u:World}{a:Option Addr}{n c:Nat}{l:List Nat}(h:iB u a n c l)(k:kpt u W)(t:∀q,p q=true->∀i j,u.cell? ⟨q,i,none⟩≠some (I .u8 j)):iB (bln W p) a n c l:=by
 refine⟨h.len,h.cap,h.small,fun hne=>?_⟩;obtain⟨g,off,f,r⟩:=h.cells hne;refine⟨g,off,f,fun j s=>?_⟩;have h1:=r j s;have b:=k.2 g (off+j) _ h1;have d:p g=false:=by
  cases e:p g
  .rfl
  .exact Qj h1 (t g e _ _)
 rw[<- h1];simp only[World.cell?,fJ d,b]
def mx.holes(h:mx w0 M G f1 f3 nm C W):∀q,lv M G q=true->iU G.u q:=by
 obtain⟨_,_,h⟩:=h;intro q a;obtain⟨u1,u2,u3,u4,u5⟩:=h.h.d.u;unfold lv at a;simp only[Bool.or_eq_true,beq_iff_eq]at a;rcases a with rfl|rfl|rfl|rfl|rfl|rfl
 .exact h.e
 all_goals assumption
def mx.base(h:mx w0 M G f1 f3 nm C W)(p:Nat->Bool)(t:∀q,lv M G q=true->p q=true)(s:∀q,p q=true->∀i j,G.u.cell? ⟨q,i,none⟩≠some (I .u8 j)):mx w0 M {G with u:=bln W p} f1 f3 nm C W:=by
 obtain⟨hs,D,h⟩:=h;have e:=h.h.k;have ho:∀q,lv M G q=true->iU (bln W p) q:=fun q v=>mC (t q v);refine⟨hs,D,h.m,⟨h.h.p,h.h.f,h.h.x,fun i hi=>?_,h.h.rz,fun i hi=>?_,h.h.qz,h.h.m,h.h.b,h.h.hi,⟨h.h.d.p,h.h.d.m,h.h.d.g,h.h.d.lo,⟨ho _ (by simp[lv]),ho _ (by simp[lv]),ho _ (by simp[lv]),ho _ (by simp[lv]),ho _ (by simp[lv])⟩,fun a n c l q=>kh (h.h.d.wu a n c l q) e s⟩,⟨h.h.bd.e1,h.h.bd.e3,h.h.bd.m1,h.h.bd.m2,h.h.bd.nk,h.h.bd.b1,h.h.bd.b3,h.h.bd.lo,h.h.bd.s3,h.h.bd.s4⟩,C3⟩,h.o,ho M (by simp[lv])⟩
 .obtain⟨ao,m,c,h1,h2⟩:=h.h.r i hi;exact⟨ao,m,c,h1,kh h2 e s⟩
 .obtain⟨ao,m,c,h1,h2⟩:=h.h.q i hi;exact⟨ao,m,c,h1,kh h2 e s⟩
def mx.base0(h:mx w0 M G f1 f3 nm C W):mx w0 M {G with u:=bln W (lv M G)} f1 f3 nm C W:=h.base _ (fun _ h=>h) fun q hq i j e=>by
 rw[h.holes q hq i]at e;cases e
def mx.sight(h:mx w0 M G f1 f3 nm C W)(s:Nat->Value):mx w0 M {G with s:=s} f1 f3 nm C (W.setCells M 12 (sgF s)):=by
 obtain⟨hs,D,h⟩:=h;refine⟨hs,D,?_,?_,h.o,h.e⟩
 .have h':blk W M (mcH G.P C++sgF G.s++prL) 184:=by
   have:=h.m;unfold mcS at this;rwa [<- Q2]at this
  have:=blk.put (mcH G.P C) (sgF G.s) prL (sgF s) h' rfl;unfold mcS;rw[<- Q2];exact this
 .exact (h.h.other M h.o (fun q a=>sO _ q a _ _ _) (sZ ..) (sW h.o.2.2.2.2.2.2 12 _ h.h.b) h.e).re s
def mx.stay(h:mx w0 M G f1 f3 nm C W){R:Nat}{L:List Value}{T:TypeId}{x:Value}(hR:blk G.u R (x::L) T):blk W R (x::L) T:=by
 obtain⟨_,_,h⟩:=h;exact(h.h.k.2 R 0 x (hR.cell 0 x rfl)).trans hR
end
end Go.Proofs.YtbbffcolnddcdaaGreatDoor
