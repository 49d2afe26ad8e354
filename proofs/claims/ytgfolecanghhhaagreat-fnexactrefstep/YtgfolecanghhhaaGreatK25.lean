import Derived.Test.YtgfolecanghhhaaGreatK16
import Derived.ArgAppend
namespace Go.Proofs.YtgfolecanghhhaaGreat
open Go.Proofs.Tryz
open Option renaming none->nn,some->sQ
open Go.RowKit
set_option linter.all false
open Go.Value renaming int->I,slice->sL,bool->bO,pointer->pT,agg->aG
open Go.IntKind renaming i64->J
open Go.Ending renaming returned->rT
open Go.Proofs.Tryz renaming prog->Tp
section
variable {W:World} {g off n ks T k:Nat} {hs:Nat->Hd} {L r:List R5} {f:R5}
structure ffR (W:World) (g off n k ks:Nat) (L:List R5) (hs:Nat->Hd) (T:Nat):Prop where
 len:n=L.length
 cap:n<=k
 rng:∀ j (h:j<L.length),W.rangeAt g (off+j*5) (x5 (L[j],hs j))
 sp:∀ t,t<ks*5->(W.cell? ⟨g,off+t,nn⟩).isSome=true/\W.frozen? ⟨g,off+t,nn⟩=false
 dat:∀ j (h:j<L.length),iB W (hs j).1 (hs j).2.1 (hs j).2.2 L[j].l/\∃ b,(hs j).1=sQ ⟨b,0,nn⟩/\b≠g/\b<T
 hi:g<T
def Mb {o:Nat} {b:R5} {h:Hd} (hr:W.rangeAt g o (x5 (b,h))) (hd:iB W h.1 h.2.1 h.2.2 b.l):at5 W g o b h.1 h.2.1 h.2.2:=
 ⟨hr 0 _ rfl,hr 1 _ rfl,hr 2 _ rfl,hr 3 _ rfl,hr 4 _ rfl,hd⟩
def ffR.is (h:ffR W g off n k ks L hs T):cl W (sQ ⟨g,off,nn⟩) n k L:=
 ⟨h.len,h.cap,fun _=>⟨g,off,rfl,fun j hj=>⟨_,_,_,Mb (h.rng j hj) (h.dat j hj).1⟩⟩⟩
def ffR.keep {W':World} (h:ffR W g off n k ks L hs T) (he:∀ x,x=g\/(∃ j,j<L.length/\(hs j).1=sQ ⟨x,0,nn⟩)->W'.heap[x]?=W.heap[x]?):ffR W' g off n k ks L hs T:=by
 refine⟨h.len,h.cap,fun j hj=>rangeAt.up (h.rng j hj) (he g (qr rfl)),fun t ht=>?_,fun j hj=>?_,h.hi⟩
 .obtain⟨h1,h2⟩:=h.sp t ht;have e1:W'.cell? ⟨g,off+t,nn⟩=W.cell? ⟨g,off+t,nn⟩:=by
   unfold World.cell?;rw[he g (qr rfl)]
  rw[e1,World.frozen?_of_block (he g (qr rfl))];exact⟨h1,h2⟩
 .obtain⟨h1,b,e1,e2,e3⟩:=h.dat j hj;refine⟨?_,b,e1,e2,e3⟩;have:=he b (qx ⟨j,hj,e1⟩);rw[e1] at h1 ⊢;exact h1.other this
def ffR.tail (h:ffR W g off n k ks (f :: r) hs T):ffR W g (off+5) (n-1) (k-1) (ks-1) r (fun j=>hs (j+1)) T:=by
 have hl:=h.len;have hc:=h.cap;simp only[Qa] at hl;refine⟨om,om,fun j hj=>?_,fun t ht=>?_,fun j hj=>?_,h.hi⟩
 .have:=h.rng (j+1) (by simpa using hj);have e:off+(j+1)*5=off+5+j*5:=om;rw[e] at this;simpa using this
 .have:=h.sp (5+t) om;rw[<- Nat.add_assoc] at this;exact this
 .have:=h.dat (j+1) (by simpa using hj);simpa using this
def ffR.tail1 (h:ffR W g off n 1 ks (f :: r) hs T):ffR W g off (n-1) 0 0 r (fun j=>hs (j+1)) T:=by
 have hl:=h.len;have hc:=h.cap;simp only[Qa] at hl;have e:r=[]:=List.length_eq_zero_iff.1 om;subst e;exact⟨om,om,fun j hj=>(by cases hj),fun t ht=>Qy ht om,fun j hj=>(by cases hj),h.hi⟩
def Jq {o:Oper} {a:Act} {K:Act->World->Prop} {Q:Exit->Act->World->Prop} {w:World} (s x:Operand)
  (ho:o.op = .call { callee:=.builtin .append,args:=#[s,x],argTypes:=#[38,38] })
  (b off n cap:Nat) (olds:List Value) (hs:a.eval s = sL (sQ ⟨b,off,nn⟩) n cap) (hlo:olds.length=n*5) (holds:∀ j u,olds[j]?=sQ u->w.cell? ⟨b,off+j,nn⟩=sQ u)
  (ib:Nat) (news:List Value) (hx:a.eval x = sL (sQ ⟨ib,0,nn⟩) 1 1) (hl:news.length=5) (hb:w.heap[ib]?=sQ (.cells news.toArray 67)) (h1:∀ u ∈ news,u.oneCell'=true) (hn:n<=100000)
  (hspare:n+1<=cap->∀ j,j<news.length->(w.cell? ⟨b,off+n*5+j,nn⟩).isSome=true/\w.frozen? ⟨b,off+n*5+j,nn⟩=false)
  (hroom:n+1<=cap->K (a.put o.dst (sL (sQ ⟨b,off,nn⟩) (n+1) cap)) (w.setCells b (off+n*5) news))
  (hgrow:cap<n+1->∀ v' w',w'.ownsRow w.heap.size 67 5 v' (n+1) (olds++news)->w.grownBy w' nn->K (a.put o.dst v') w') :
  o.wp Tp a w K Q:=by
 obtain⟨i0,hi,hz0,hz1,hz2⟩:=QW info67;have hc:∀ j u,news[j]?=sQ u->w.cell? ((⟨ib,0,nn⟩ : Addr).add j)=sQ u:=by
  intro j u hj;have:=dc hb j u hj;rw[Addr.add_lit];exact this
 by_cases hr:n+1<=cap
 .have hrun:=run_append_room_cells (P:=Tp) w 38 o.type 67 i0 underlying38 hi b off n cap ⟨ib,0,nn⟩ 1 1 news (by rw[hl,hz1]) hc h1 hr (fun j hj=>by rw[hz1];exact (hspare hr j hj).1) (fun j hj=>by rw[hz1];exact (hspare hr j hj).2);rw[hz1] at hrun;unfold Oper.wp execOp;simp only[ho,resolve,invoke,builtin,Q7,Sem.run_pure,Result.andThen_ok,List.map_toArray,Qx,List.map_nil,hs,hx,hrun];exact hroom hr
 .obtain⟨v',w',hrun,r1,r2⟩:=run_append_arg_grows (P:=Tp) w 38 o.type 67 i0 _ 5 48 underlying38 hi hz0 hz1 hz2 rfl (by decide) ⟨b,off,nn⟩ n cap olds hlo (fun j u hj=>by rw[Addr.add_lit];exact holds j u hj) ⟨ib,0,nn⟩ 1 1 news (by rw[hl]) hc om (by unfold maxLen;omega) om;unfold Oper.wp execOp;simp only[ho,resolve,invoke,builtin,Q7,Sem.run_pure,Result.andThen_ok,List.map_toArray,Qx,List.map_nil,hs,hx,hrun];exact hgrow om v' w' r1 r2
def ffR.room (h:ffR W g off n k ks L hs T) (hk:ks=k) (hr:n+1<=k) (F:R5) (hd:Hd) (hb:iB W hd.1 hd.2.1 hd.2.2 F.l) (T':Nat) (hT:T<=T') (hbe:∃ b,hd.1=sQ ⟨b,0,nn⟩/\b≠g/\b<T'):ffR (W.setCells g (off+n*5) (x5 (F,hd))) g off (n+1) k 0 (L++[F]) (fun j=>if j<L.length then hs j else hd) T':=by
 have hln:=h.len;subst hk;rw[aU];have oth:∀ x,x≠g->(aQ W g (off+n*5) (x5 (F,hd))).heap[x]?=W.heap[x]?:=fun x hx=>aI g x hx _ _ _;refine⟨by simp;omega,hr,fun j hj=>?_,fun t ht=>Qy ht om,fun j hj=>?_,by have:=h.hi;omega⟩
 .have hj':j<L.length+1:=by simpa using hj
  by_cases e:j<L.length
  .rw[qN e,qc e];intro t u hu;have ht:t<5:=by have:=(List.getElem?_eq_some_iff.mp hu).1;simpa[x5,f5] using this
   rw[rO g _ _ _ _ (by simp[x5,f5];omega)];exact h.rng j e t u hu
  .have ej:j=L.length:=om;subst ej;rw[List.getElem_append_right (nR _),qa e];simp only[Nat.sub_self,aE];intro t u hu;have ht:t<(x5 (F,hd)).length:=(List.getElem?_eq_some_iff.mp hu).1;have ht5:t<5:=by simpa[x5,f5] using ht
   have hc:=(h.sp (n*5+t) om).1;rw[<- Nat.add_assoc] at hc;obtain⟨v,hv⟩:=Option.isSome_iff_exists.1 hc;rw[<- hln,aL g _ _ _ t ht ⟨v,hv⟩];rw[qy ht] at hu;exact hu
 .have hj':j<L.length+1:=by simpa using hj
  by_cases e:j<L.length
  .rw[qN e,qc e];obtain⟨h1,b,e1,e2,e3⟩:=h.dat j e;refine⟨?_,b,e1,e2,om⟩;rw[e1] at h1 ⊢;exact h1.other (oth b e2)
  .have ej:j=L.length:=om;subst ej;rw[List.getElem_append_right (nR _),qa e];simp only[Nat.sub_self,aE];obtain⟨b,e1,e2,e3⟩:=hbe;refine⟨?_,b,e1,e2,e3⟩;rw[e1] at hb ⊢;exact hb.other (oth b e2)
def ffC (L:List R5) (hs:Nat->Hd):List Value:=(List.ofFn fun i:Fin L.length=>((L[i],hs i):X5)).flatMap x5
def Hj (L:List R5) (hs:Nat->Hd):(ffC L hs).length=L.length*5:=by
 unfold ffC;rw[Lc x5 5 (fun _=>rfl),List.length_ofFn]
def Lf (L:List R5) (hs:Nat->Hd) (j:Nat) (hj:j<L.length) (t:Nat) (ht:t<5):(ffC L hs)[j*5+t]?=(x5 (L[j],hs j))[t]?:=by
 unfold ffC;rw[oM x5 5 (fun _=>rfl) _ j (by simpa using hj) t ht];simp
def ffR.olds (h:ffR W g off n k ks L hs T):∀ j u,(ffC L hs)[j]?=sQ u->W.cell? ⟨g,off+j,nn⟩=sQ u:=by
 intro j u hu;have hj:=(List.getElem?_eq_some_iff.mp hu).1;rw[Hj] at hj;have e:j=j / 5*5+j % 5:=om;have h1:j / 5<L.length:=om;have h2:j % 5<5:=Qr _ om;rw[e,Lf L hs _ h1 _ h2] at hu;have:=h.rng (j / 5) h1 (j % 5) u hu;rw[e,<- Nat.add_assoc];have e2:(j / 5*5+j % 5) / 5=j / 5:=om;exact this
def ffR.grow {w':World} (h:ffR W g off n k ks L hs T) (F:R5) (hd:Hd) (hb:iB W hd.1 hd.2.1 hd.2.2 F.l) (hT:T<=W.heap.size) (hbe:∃ b,hd.1=sQ ⟨b,0,nn⟩/\b<W.heap.size) (v':Value) (ho:w'.ownsRow W.heap.size 67 5 v' (n+1) (ffC L hs++x5 (F,hd))) (hg:W.grownBy w' nn):∃ g' k',v' = sL (sQ ⟨g',0,nn⟩) (n+1) k'/\W.heap.size<=g'/\ffR w' g' 0 (n+1) k' 0 (L++[F]) (fun j=>if j<L.length then hs j else hd) w'.heap.size:=by
 have hln:=h.len;rcases cS ho with⟨_,e⟩|⟨g',k',rfl,q1,q2,q3,q4,q5⟩
 .omega
 refine⟨g',k',rfl,q1,⟨by simp;omega,q3,fun j hj=>?_,fun t ht=>Qy ht om,fun j hj=>?_,q2⟩⟩
 .have hj':j<L.length+1:=by simpa using hj
  by_cases e:j<L.length
  .rw[qN e,qc e];intro t u hu;have ht:t<5:=by have:=(List.getElem?_eq_some_iff.mp hu).1;simpa[x5,f5] using this
   rw[<- Lf L hs j e t ht] at hu;have hl:=(List.getElem?_eq_some_iff.mp hu).1;have:=q5 (j*5+t) u (by rw[qZ hl];exact hu);rw[<- Nat.add_assoc] at this;exact this
  .have ej:j=L.length:=om;subst ej;rw[List.getElem_append_right (nR _),qa e];simp only[Nat.sub_self,aE];intro t u hu;have:=q5 (L.length*5+t) u (by rw[qY (by rw[Hj];omega),Hj,Qp];exact hu);rw[<- Nat.add_assoc] at this;exact this
 .have hj':j<L.length+1:=by simpa using hj
  have hz:=hg.size;by_cases e:j<L.length
  .rw[qN e,qc e];obtain⟨h1,b,e1,e2,e3⟩:=h.dat j e;refine⟨?_,b,e1,om,om⟩;rw[e1] at h1 ⊢;exact h1.other (hg.block b om pQ)
  .have ej:j=L.length:=om;subst ej;rw[List.getElem_append_right (nR _),qa e];simp only[Nat.sub_self,aE];obtain⟨b,e1,e3⟩:=hbe;refine⟨?_,b,e1,om,om⟩;rw[e1] at hb ⊢;exact hb.other (hg.block b e3 pQ)
end
end Go.Proofs.YtgfolecanghhhaaGreat
