import Derived.Test.YtkfcfigbgmbaiaaGreatK18
import Derived.ArgAppend
namespace Go.Proofs.YtkfcfigbgmbaiaaGreat
open Go.RowKit
set_option linter.unusedVariables false
open Go.Value renaming int→I,slice→sL,bool→bO,pointer→pT,agg→aG
open Go.IntKind renaming i64→J
open Go.Ending renaming returned→rT
open Go.Proofs.Tryz renaming prog→Tp
variable {W:World} {g off n ks T k:Nat} {hs:Nat→Hd} {L r:List R5} {f:R5}
structure ffR (W:World) (g off n k ks:Nat) (L:List R5) (hs:Nat→Hd) (T:Nat):Prop where
 len:n=L.length
 cap:n≤k
 rng:∀ j (h:j<L.length),W.rangeAt g (off+j*5) (x5 (L[j],hs j))
 sp:∀ t,t<ks*5→(W.cell? ⟨g,off+t,none⟩).isSome=true∧W.frozen? ⟨g,off+t,none⟩=false
 dat:∀ j (h:j<L.length),iB W (hs j).1 (hs j).2.1 (hs j).2.2 L[j].l∧∃ b,(hs j).1=some ⟨b,0,none⟩∧b≠g∧b<T
 hi:g<T
theorem x5_at5 {o:Nat} {b:R5} {h:Hd} (hr:W.rangeAt g o (x5 (b,h))) (hd:iB W h.1 h.2.1 h.2.2 b.l):at5 W g o b h.1 h.2.1 h.2.2:=
 ⟨hr 0 _ rfl,hr 1 _ rfl,hr 2 _ rfl,hr 3 _ rfl,hr 4 _ rfl,hd⟩
theorem ffR.is (h:ffR W g off n k ks L hs T):isR5s W (some ⟨g,off,none⟩) n k L:=
 ⟨h.len,h.cap,fun _=>⟨g,off,rfl,fun j hj=>⟨_,_,_,x5_at5 (h.rng j hj) (h.dat j hj).1⟩⟩⟩
theorem ffR.keep {W':World} (h:ffR W g off n k ks L hs T) (he:∀ x,x=g∨(∃ j,j<L.length∧(hs j).1=some ⟨x,0,none⟩)→W'.heap[x]?=W.heap[x]?):ffR W' g off n k ks L hs T:=by
 refine⟨h.len,h.cap,fun j hj=>rangeAt.up (h.rng j hj) (he g (Or.inl rfl)),fun t ht=>?_,fun j hj=>?_,h.hi⟩
 ·obtain⟨h1,h2⟩:=h.sp t ht
  have e1:W'.cell? ⟨g,off+t,none⟩=W.cell? ⟨g,off+t,none⟩:=by
   unfold World.cell?
   rw[he g (Or.inl rfl)]
  rw[e1,World.frozen?_of_block (he g (Or.inl rfl))]
  exact⟨h1,h2⟩
 ·obtain⟨h1,b,e1,e2,e3⟩:=h.dat j hj
  refine⟨?_,b,e1,e2,e3⟩
  have:=he b (Or.inr ⟨j,hj,e1⟩)
  rw[e1] at h1 ⊢
  exact h1.other this
theorem ffR.tail (h:ffR W g off n k ks (f :: r) hs T):ffR W g (off+5) (n-1) (k-1) (ks-1) r (fun j=>hs (j+1)) T:=by
 have hl:=h.len
 have hc:=h.cap
 simp only[List.length_cons] at hl
 refine⟨by omega,by omega,fun j hj=>?_,fun t ht=>?_,fun j hj=>?_,h.hi⟩
 ·have:=h.rng (j+1) (by simpa using hj)
  have e:off+(j+1)*5=off+5+j*5:=by omega
  rw[e] at this
  simpa using this
 ·have:=h.sp (5+t) (by omega)
  rw[← Nat.add_assoc] at this
  exact this
 ·have:=h.dat (j+1) (by simpa using hj)
  simpa using this
theorem ffR.tail1 (h:ffR W g off n 1 ks (f :: r) hs T):ffR W g off (n-1) 0 0 r (fun j=>hs (j+1)) T:=by
 have hl:=h.len
 have hc:=h.cap
 simp only[List.length_cons] at hl
 have e:r=[]:=List.length_eq_zero_iff.1 (by omega)
 subst e;exact⟨by omega,by omega,fun j hj=>(by cases hj),fun t ht=>absurd ht (by omega),fun j hj=>(by cases hj),h.hi⟩
theorem wp_append5 {o:Oper} {a:Act} {K:Act→World→Prop} {Q:Exit→Act→World→Prop} {w:World} (s x:Operand)
  (ho:o.op = .call { callee:=.builtin .append,args:=#[s,x],argTypes:=#[36,36] })
  (b off n cap:Nat) (olds:List Value) (hs:a.eval s = sL (some ⟨b,off,none⟩) n cap) (hlo:olds.length=n*5) (holds:∀ j u,olds[j]?=some u→w.cell? ⟨b,off+j,none⟩=some u)
  (ib:Nat) (news:List Value) (hx:a.eval x = sL (some ⟨ib,0,none⟩) 1 1) (hl:news.length=5) (hb:w.heap[ib]?=some (.cells news.toArray 55)) (h1:∀ u ∈ news,u.oneCell'=true) (hn:n≤100000)
  (hspare:n+1≤cap→∀ j,j<news.length→(w.cell? ⟨b,off+n*5+j,none⟩).isSome=true∧w.frozen? ⟨b,off+n*5+j,none⟩=false)
  (hroom:n+1≤cap→K (a.put o.dst (sL (some ⟨b,off,none⟩) (n+1) cap)) (w.setCells b (off+n*5) news))
  (hgrow:cap<n+1→∀ v' w',w'.ownsRow w.heap.size 55 5 v' (n+1) (olds++news)→w.grownBy w' none→K (a.put o.dst v') w') :
  o.wp Tp a w K Q:=by
 obtain⟨i0,hi,hz0,hz1,hz2⟩:=info_parts Tryz.info55
 have hc:∀ j u,news[j]?=some u→w.cell? ((⟨ib,0,none⟩ : Addr).add j)=some u:=by
  intro j u hj;have:=range_block hb j u hj
  rw[Addr.add_lit]
  exact this
 by_cases hr:n+1≤cap
 ·have hrun:=run_append_room_cells (P:=Tp) w 36 o.type 55 i0 Tryz.underlying36 hi b off n cap ⟨ib,0,none⟩ 1 1 news (by rw[hl,hz1]) hc h1 hr (fun j hj=>by rw[hz1];exact (hspare hr j hj).1) (fun j hj=>by rw[hz1];exact (hspare hr j hj).2)
  rw[hz1] at hrun
  unfold Oper.wp execOp
  simp only[ho,resolve,invoke,builtin,Sem.run_bind,Sem.run_pure,Result.andThen_ok,List.map_toArray,List.map_cons,List.map_nil,hs,hx,hrun]
  exact hroom hr
 ·obtain⟨v',w',hrun,r1,r2⟩:=run_append_arg_grows (P:=Tp) w 36 o.type 55 i0 _ 5 48 Tryz.underlying36 hi hz0 hz1 hz2 rfl (by decide) ⟨b,off,none⟩ n cap olds hlo (fun j u hj=>by rw[Addr.add_lit];exact holds j u hj) ⟨ib,0,none⟩ 1 1 news (by rw[hl]) hc (by omega) (by unfold maxLen;omega) (by omega)
  unfold Oper.wp execOp
  simp only[ho,resolve,invoke,builtin,Sem.run_bind,Sem.run_pure,Result.andThen_ok,List.map_toArray,List.map_cons,List.map_nil,hs,hx,hrun]
  exact hgrow (by omega) v' w' r1 r2
theorem ffR.room (h:ffR W g off n k ks L hs T) (hk:ks=k) (hr:n+1≤k) (F:R5) (hd:Hd) (hb:iB W hd.1 hd.2.1 hd.2.2 F.l) (T':Nat) (hT:T≤T') (hbe:∃ b,hd.1=some ⟨b,0,none⟩∧b≠g∧b<T'):ffR (W.setCells g (off+n*5) (x5 (F,hd))) g off (n+1) k 0 (L++[F]) (fun j=>if j<L.length then hs j else hd) T':=by
 have hln:=h.len
 subst hk;rw[setCells_row]
 have oth:∀ x,x≠g→(setRow W g (off+n*5) (x5 (F,hd))).heap[x]?=W.heap[x]?:=fun x hx=>setRow_block g x hx _ _ _
 refine⟨by simp;omega,hr,fun j hj=>?_,fun t ht=>absurd ht (by omega),fun j hj=>?_,by have:=h.hi;omega⟩
 ·have hj':j<L.length+1:=by simpa using hj
  by_cases e:j<L.length
  ·rw[List.getElem_append_left e,if_pos e]
   intro t u hu;have ht:t<5:=by have:=(List.getElem?_eq_some_iff.mp hu).1;simpa[x5,f5] using this
   rw[rO g _ _ _ _ (by simp[x5,f5];omega)]
   exact h.rng j e t u hu
  ·have ej:j=L.length:=by omega
   subst ej;rw[List.getElem_append_right (nR _),if_neg e]
   simp only[Nat.sub_self,aE]
   intro t u hu;have ht:t<(x5 (F,hd)).length:=(List.getElem?_eq_some_iff.mp hu).1
   have ht5:t<5:=by simpa[x5,f5] using ht
   have hc:=(h.sp (n*5+t) (by omega)).1
   rw[← Nat.add_assoc] at hc
   obtain⟨v,hv⟩:=Option.isSome_iff_exists.1 hc
   rw[← hln,setRow_at g _ _ _ t ht ⟨v,hv⟩]
   rw[List.getElem?_eq_getElem ht] at hu
   exact hu
 ·have hj':j<L.length+1:=by simpa using hj
  by_cases e:j<L.length
  ·rw[List.getElem_append_left e,if_pos e]
   obtain⟨h1,b,e1,e2,e3⟩:=h.dat j e
   refine⟨?_,b,e1,e2,by omega⟩
   rw[e1] at h1 ⊢
   exact h1.other (oth b e2)
  ·have ej:j=L.length:=by omega
   subst ej;rw[List.getElem_append_right (nR _),if_neg e]
   simp only[Nat.sub_self,aE]
   obtain⟨b,e1,e2,e3⟩:=hbe
   refine⟨?_,b,e1,e2,e3⟩
   rw[e1] at hb ⊢
   exact hb.other (oth b e2)
def ffC (L:List R5) (hs:Nat→Hd):List Value:=(List.ofFn fun i:Fin L.length=>((L[i],hs i):X5)).flatMap x5
theorem ffC_len (L:List R5) (hs:Nat→Hd):(ffC L hs).length=L.length*5:=by
 unfold ffC
 rw[flat_len x5 5 (fun _=>rfl),List.length_ofFn]
theorem ffC_at (L:List R5) (hs:Nat→Hd) (j:Nat) (hj:j<L.length) (t:Nat) (ht:t<5):(ffC L hs)[j*5+t]?=(x5 (L[j],hs j))[t]?:=by
 unfold ffC
 rw[flat_at x5 5 (fun _=>rfl) _ j (by simpa using hj) t ht]
 simp
theorem ffR.olds (h:ffR W g off n k ks L hs T):∀ j u,(ffC L hs)[j]?=some u→W.cell? ⟨g,off+j,none⟩=some u:=by
 intro j u hu;have hj:=(List.getElem?_eq_some_iff.mp hu).1
 rw[ffC_len] at hj
 have e:j=j / 5*5+j % 5:=by omega
 have h1:j / 5<L.length:=by omega
 have h2:j % 5<5:=Nat.mod_lt _ (by omega)
 rw[e,ffC_at L hs _ h1 _ h2] at hu
 have:=h.rng (j / 5) h1 (j % 5) u hu
 rw[e,← Nat.add_assoc]
 have e2:(j / 5*5+j % 5) / 5=j / 5:=by omega
 exact this
theorem ffR.grow {w':World} (h:ffR W g off n k ks L hs T) (F:R5) (hd:Hd) (hb:iB W hd.1 hd.2.1 hd.2.2 F.l) (hT:T≤W.heap.size) (hbe:∃ b,hd.1=some ⟨b,0,none⟩∧b<W.heap.size) (v':Value) (ho:w'.ownsRow W.heap.size 55 5 v' (n+1) (ffC L hs++x5 (F,hd))) (hg:W.grownBy w' none):∃ g' k',v' = sL (some ⟨g',0,none⟩) (n+1) k'∧W.heap.size≤g'∧ffR w' g' 0 (n+1) k' 0 (L++[F]) (fun j=>if j<L.length then hs j else hd) w'.heap.size:=by
 have hln:=h.len
 rcases ownsRow_split ho with⟨_,e⟩|⟨g',k',rfl,q1,q2,q3,q4,q5⟩
 ·omega
 refine⟨g',k',rfl,q1,⟨by simp;omega,q3,fun j hj=>?_,fun t ht=>absurd ht (by omega),fun j hj=>?_,q2⟩⟩
 ·have hj':j<L.length+1:=by simpa using hj
  by_cases e:j<L.length
  ·rw[List.getElem_append_left e,if_pos e]
   intro t u hu;have ht:t<5:=by have:=(List.getElem?_eq_some_iff.mp hu).1;simpa[x5,f5] using this
   rw[← ffC_at L hs j e t ht] at hu
   have hl:=(List.getElem?_eq_some_iff.mp hu).1
   have:=q5 (j*5+t) u (by rw[List.getElem?_append_left hl];exact hu)
   rw[← Nat.add_assoc] at this
   exact this
  ·have ej:j=L.length:=by omega
   subst ej;rw[List.getElem_append_right (nR _),if_neg e]
   simp only[Nat.sub_self,aE]
   intro t u hu;have:=q5 (L.length*5+t) u (by rw[List.getElem?_append_right (by rw[ffC_len];omega),ffC_len,Nat.add_sub_cancel_left];exact hu)
   rw[← Nat.add_assoc] at this
   exact this
 ·have hj':j<L.length+1:=by simpa using hj
  have hz:=hg.size
  by_cases e:j<L.length
  ·rw[List.getElem_append_left e,if_pos e]
   obtain⟨h1,b,e1,e2,e3⟩:=h.dat j e
   refine⟨?_,b,e1,by omega,by omega⟩
   rw[e1] at h1 ⊢
   exact h1.other (hg.block b (by omega) (by simp))
  ·have ej:j=L.length:=by omega
   subst ej;rw[List.getElem_append_right (nR _),if_neg e]
   simp only[Nat.sub_self,aE]
   obtain⟨b,e1,e3⟩:=hbe
   refine⟨?_,b,e1,by omega,by omega⟩
   rw[e1] at hb ⊢
   exact hb.other (hg.block b e3 (by simp))
end Go.Proofs.YtkfcfigbgmbaiaaGreat
