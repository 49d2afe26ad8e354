import Derived.Test.YtbbffcolnddcdaaGreatDoorK20
import Derived.ArgAppend
namespace Go.Proofs.YtbbffcolnddcdaaGreatDoor
open Go.Proofs.Tryz
open Option renaming none->nn,some->sQ
open Go.RowKit
set_option linter.all false
open Go.Value renaming int->I,slice->sL,bool->bO,pointer->pT,agg->aG
open Go.IntKind renaming i64->J
open Go.Ending renaming returned->rT
open Go.Proofs.Tryz renaming prog->Tp
section
variable{W:World}{g off n ks T k:Nat}{hs:Nat->Hd}{L r:List R5}{f:R5}
abbrev X5:=R5 × Hd
def x5(t:X5):List Value:=f5 t.1 t.2.1 t.2.2.1 t.2.2.2
structure ffR(W:World)(g off n k ks:Nat)(L:List R5)(hs:Nat->Hd)(T:Nat):Prop where
 len:n=L.length
 cap:n<=k
 rng:∀j(h:j<L.length),W.rangeAt g (off+j*5) (x5 (L[j],hs j))
 sp:∀t,t<ks*5->(W.cell? ⟨g,off+t,nn⟩).isSome=true/\W.frozen? ⟨g,off+t,nn⟩=false
 dat:∀j(h:j<L.length),iB W (hs j).1 (hs j).2.1 (hs j).2.2 L[j].l/\∃b,(hs j).1=be b/\b≠g/\b<T
 hi:g<T
def DU{o:Nat}{b:R5}{h:Hd}(hr:W.rangeAt g o (x5 (b,h)))(hd:iB W h.1 h.2.1 h.2.2 b.l):at5 W g o b h.1 h.2.1 h.2.2:=
 ⟨hr 0 _ rfl,hr 1 _ rfl,hr 2 _ rfl,hr 3 _ rfl,hr 4 _ rfl,hd⟩
def ffR.is(h:ffR W g off n k ks L hs T):cn W (sQ ⟨g,off,nn⟩) n k L:=
 ⟨h.len,h.cap,fun _=>⟨g,off,rfl,fun j hj=>⟨_,_,_,DU (h.rng j hj) (h.dat j hj).1⟩⟩⟩
def ffR.keep{W':World}(h:ffR W g off n k ks L hs T)(c:∀x,x=g\/(∃j,j<L.length/\(hs j).1=be x)->W'.heap[x]?=W.heap[x]?):ffR W' g off n k ks L hs T:=by
 refine⟨h.len,h.cap,fun j d=>rangeAt.up (h.rng j d) (c g (qp rfl)),fun t e=>?_,fun j d=>?_,h.hi⟩
 .obtain⟨h1,h2⟩:=h.sp t e;have a:W'.cell? ⟨g,off+t,nn⟩=W.cell? ⟨g,off+t,nn⟩:=by
   unfold World.cell?;rw[c g (qp rfl)]
  rw[a,World.frozen?_of_block (c g (qp rfl))];exact⟨h1,h2⟩
 .obtain⟨h1,b,a,e2,e3⟩:=h.dat j d;refine⟨?_,b,a,e2,e3⟩;have:=c b (qt ⟨j,d,a⟩);rw[a]at h1 ⊢;exact h1.other this
def ffR.tail(h:ffR W g off n k ks (f::r) hs T):ffR W g (off+5) (n-1) (k-1) (ks-1) r (fun j=>hs (j+1)) T:=by
 have b:=h.len;have c:=h.cap;simp only[qV]at b;refine⟨om,om,fun j a=>?_,fun t d=>?_,fun j a=>?_,h.hi⟩
 .have:=h.rng (j+1) (by simpa using a);have e:off+(j+1)*5=off+5+j*5:=om;rw[e]at this;simpa using this
 .have:=h.sp (5+t) om;rw[<- Nat.add_assoc]at this;exact this
 .have:=h.dat (j+1) (by simpa using a);simpa using this
def ffR.tail1(h:ffR W g off n 1 ks (f::r) hs T):ffR W g off (n-1) 0 0 r (fun j=>hs (j+1)) T:=by
 have b:=h.len;have d:=h.cap;simp only[qV]at b;have e:r=[]:=List.length_eq_zero_iff.1 om;subst e;exact⟨om,om,fun j a=>(by cases a),fun t c=>Qj c om,fun j a=>(by cases a),h.hi⟩
def tt{o:Oper}{a:Act}{K:Act->World->Prop}{Q:Exit->Act->World->Prop}{w:World}(s x:Operand)
  (ho:o.op= .call {callee:=.builtin .append,args:=#[s,x],argTypes:=#[47,47]})
  (b off n cap:Nat) (olds:List Value) (hs:a.eval s=sL (sQ ⟨b,off,nn⟩) n cap) (D:olds.length=n*5) (E:∀j u,olds[j]?=sQ u->w.cell? ⟨b,off+j,nn⟩=sQ u)
  (h:Nat) (c:List Value) (y:a.eval x=sL (be h) 1 1) (t:c.length=5) (B:w.heap[h]?=sQ (.cells c.toArray 53)) (h1:∀u∈c,u.oneCell'=true) (N:n<=100000)
  (v:n+1<=cap->∀j,j<c.length->(w.cell? ⟨b,off+n*5+j,nn⟩).isSome=true/\w.frozen? ⟨b,off+n*5+j,nn⟩=false)
  (G:n+1<=cap->K (a.put o.dst (sL (sQ ⟨b,off,nn⟩) (n+1) cap)) (w.setCells b (off+n*5) c))
  (C:cap<n+1->∀l w',w'.ownsRow w.heap.size 53 5 l (n+1) (olds++c)->w.grownBy w' nn->K (a.put o.dst l) w') :
  o.wp Tp a w K Q:=by
 obtain⟨A,hi,H,e,M⟩:=QH info53;have p:∀j u,c[j]?=sQ u->w.cell? ((⟨h,0,nn⟩:Addr).add j)=sQ u:=by
  intro j u d;have:=cd B j u d;rw[Addr.add_lit];exact this
 by_cases i:n+1<=cap
 .have hrun:=run_append_room_cells (P:=Tp) w 47 o.type 53 A underlying47 hi b off n cap ⟨h,0,nn⟩ 1 1 c (by rw[t,e]) p h1 i (fun j d=>by rw[e];exact(v i j d).1) (fun j d=>by rw[e];exact(v i j d).2);rw[e]at hrun;unfold Oper.wp execOp;simp only[ho,resolve,invoke,builtin,QS,Sem.run_pure,Result.andThen_ok,List.map_toArray,Qi,List.map_nil,hs,y,hrun];exact G i
 .obtain⟨l,w',hrun,r1,r2⟩:=run_append_arg_grows (P:=Tp) w 47 o.type 53 A _ 5 48 underlying47 hi H e M rfl (by decide) ⟨b,off,nn⟩ n cap olds D (fun j u d=>by rw[Addr.add_lit];exact E j u d) ⟨h,0,nn⟩ 1 1 c (by rw[t]) p om (by unfold maxLen;omega) om;unfold Oper.wp execOp;simp only[ho,resolve,invoke,builtin,QS,Sem.run_pure,Result.andThen_ok,List.map_toArray,Qi,List.map_nil,hs,y,hrun];exact C om l w' r1 r2
def ffR.room(h:ffR W g off n k ks L hs T)(C:ks=k)(E:n+1<=k)(F:R5)(hd:Hd)(w:iB W hd.1 hd.2.1 hd.2.2 F.l)(T':Nat)(K:T<=T')(B:∃b,hd.1=be b/\b≠g/\b<T'):ffR (W.setCells g (off+n*5) (x5 (F,hd))) g off (n+1) k 0 (L++[F]) (fun j=>if j<L.length then hs j else hd) T':=by
 have D:=h.len;subst C;rw[aT];have A:∀x,x≠g->(aO W g (off+n*5) (x5 (F,hd))).heap[x]?=W.heap[x]?:=fun x H=>aM g x H _ _ _;refine⟨by simp;omega,E,fun j p=>?_,fun t a=>Qj a om,fun j p=>?_,by have:=h.hi;omega⟩
 .have hj':j<L.length+1:=by simpa using p
  by_cases e:j<L.length
  .rw[qI e,QW e];intro t u c;have a:t<5:=by have:=(List.getElem?_eq_some_iff.mp c).1;simpa[x5,f5]using this
   rw[rO g _ _ _ _ (by simp[x5,f5];omega)];exact h.rng j e t u c
  .have ej:j=L.length:=om;subst ej;rw[List.getElem_append_right (nR _),QV e];simp only[Nat.sub_self,aE];intro t u c;have a:=(List.getElem?_eq_some_iff.mp c).1;have M:t<5:=by simpa[x5,f5]using a
   have y:=(h.sp (n*5+t) om).1;rw[<- Nat.add_assoc]at y;obtain⟨v,G⟩:=Option.isSome_iff_exists.1 y;rw[<- D,az g _ _ _ t a ⟨v,G⟩];rw[Q4 a]at c;exact c
 .have hj':j<L.length+1:=by simpa using p
  by_cases e:j<L.length
  .rw[qI e,QW e];obtain⟨h1,b,d,i,s⟩:=h.dat j e;refine⟨?_,b,d,i,om⟩;rw[d]at h1 ⊢;exact h1.other (A b i)
  .have ej:j=L.length:=om;subst ej;rw[List.getElem_append_right (nR _),QV e];simp only[Nat.sub_self,aE];obtain⟨b,d,i,s⟩:=B;refine⟨?_,b,d,i,s⟩;rw[d]at w ⊢;exact w.other (A b i)
def ffC(L:List R5)(hs:Nat->Hd):List Value:=(List.ofFn fun i:Fin L.length=>((L[i],hs i):X5)).flatMap x5
def lp(L:List R5)(hs:Nat->Hd):(ffC L hs).length=L.length*5:=by
 unfold ffC;rw[AF x5 5 (fun _=>rfl),List.length_ofFn]
def AJ(L:List R5)(hs:Nat->Hd)(j:Nat)(a:j<L.length)(t:Nat)(b:t<5):(ffC L hs)[j*5+t]?=(x5 (L[j],hs j))[t]?:=by
 unfold ffC;rw[ln x5 5 (fun _=>rfl) _ j (by simpa using a) t b];simp
def ffR.olds(h:ffR W g off n k ks L hs T):∀j u,(ffC L hs)[j]?=sQ u->W.cell? ⟨g,off+j,nn⟩=sQ u:=by
 intro j u a;have c:=(List.getElem?_eq_some_iff.mp a).1;rw[lp]at c;have e:j=j / 5*5+j%5:=om;have h1:j / 5<L.length:=om;have b:j%5<5:=Qc _ om;rw[e,AJ L hs _ h1 _ b]at a;have:=h.rng (j / 5) h1 (j%5) u a;rw[e,<- Nat.add_assoc];have d:(j / 5*5+j%5) / 5=j / 5:=om;exact this
def ffR.grow{w':World}(h:ffR W g off n k ks L hs T)(F:R5)(hd:Hd)(x:iB W hd.1 hd.2.1 hd.2.2 F.l)(K:T<=W.heap.size)(B:∃b,hd.1=be b/\b<W.heap.size)(A:Value)(ho:w'.ownsRow W.heap.size 53 5 A (n+1) (ffC L hs++x5 (F,hd)))(p:W.grownBy w' nn):∃d i,A=sL (be d) (n+1) i/\W.heap.size<=d/\ffR w' d 0 (n+1) i 0 (L++[F]) (fun j=>if j<L.length then hs j else hd) w'.heap.size:=by
 have M:=h.len;rcases cg ho with⟨_,e⟩|⟨d,i,rfl,D,E,G,O,y⟩
 .omega
 refine⟨d,i,rfl,D,⟨by simp;omega,G,fun j s=>?_,fun t v=>Qj v om,fun j s=>?_,E⟩⟩
 .have hj':j<L.length+1:=by simpa using s
  by_cases e:j<L.length
  .rw[qI e,QW e];intro t u a;have v:t<5:=by have:=(List.getElem?_eq_some_iff.mp a).1;simpa[x5,f5]using this
   rw[<- AJ L hs j e t v]at a;have C:=(List.getElem?_eq_some_iff.mp a).1;have:=y (j*5+t) u (by rw[qU C];exact a);rw[<- Nat.add_assoc]at this;exact this
  .have ej:j=L.length:=om;subst ej;rw[List.getElem_append_right (nR _),QV e];simp only[Nat.sub_self,aE];intro t u a;have:=y (L.length*5+t) u (by rw[qT (by rw[lp];omega),lp,Qa];exact a);rw[<- Nat.add_assoc]at this;exact this
 .have hj':j<L.length+1:=by simpa using s
  have N:=p.size;by_cases e:j<L.length
  .rw[qI e,QW e];obtain⟨h1,b,c,H,w⟩:=h.dat j e;refine⟨?_,b,c,om,om⟩;rw[c]at h1 ⊢;exact h1.other (p.block b om pQ)
  .have ej:j=L.length:=om;subst ej;rw[List.getElem_append_right (nR _),QV e];simp only[Nat.sub_self,aE];obtain⟨b,c,w⟩:=B;refine⟨?_,b,c,om,om⟩;rw[c]at x ⊢;exact x.other (p.block b w pQ)
end
end Go.Proofs.YtbbffcolnddcdaaGreatDoor
