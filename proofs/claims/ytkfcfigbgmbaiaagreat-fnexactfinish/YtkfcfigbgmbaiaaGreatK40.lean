import Derived.Test.YtkfcfigbgmbaiaaGreatK39
import Derived.ArgAppend
namespace Go.Proofs.YtkfcfigbgmbaiaaGreat
open Go.RowKit
set_option linter.unusedVariables false
structure ffR (W:World) (g off n k ks:Nat) (L:List R5) (hs:Nat→Hd) (T:Nat):Prop where
 len:n=L.length
 cap:n≤k
 rng:∀ j (h:j<L.length),W.rangeAt g (off+j*5) (x5 (L[j],hs j))
 sp:∀ t,t<ks*5→(W.cell? ⟨g,off+t,none⟩).isSome=true∧W.frozen? ⟨g,off+t,none⟩=false
 dat:∀ j (h:j<L.length),isBytes W (hs j).1 (hs j).2.1 (hs j).2.2 L[j].l∧∃ b,(hs j).1=some ⟨b,0,none⟩∧b≠g∧b<T
 hi:g<T
theorem x5_at5 {W:World} {g o:Nat} {b:R5} {h:Hd} (hr:W.rangeAt g o (x5 (b,h))) (hd:isBytes W h.1 h.2.1 h.2.2 b.l):at5 W g o b h.1 h.2.1 h.2.2:=
 ⟨hr 0 _ rfl,hr 1 _ rfl,hr 2 _ rfl,hr 3 _ rfl,hr 4 _ rfl,hd⟩
theorem ffR.is {W:World} {g off n k ks:Nat} {L:List R5} {hs:Nat→Hd} {T:Nat} (h:ffR W g off n k ks L hs T):isR5s W (some ⟨g,off,none⟩) n k L:=
 ⟨h.len,h.cap,fun _=>⟨g,off,rfl,fun j hj=>⟨_,_,_,x5_at5 (h.rng j hj) (h.dat j hj).1⟩⟩⟩
theorem ffR.keep {W W':World} {g off n k ks:Nat} {L:List R5} {hs:Nat→Hd} {T:Nat} (h:ffR W g off n k ks L hs T) (he:∀ x,x=g∨(∃ j,j<L.length∧(hs j).1=some ⟨x,0,none⟩)→W'.heap[x]?=W.heap[x]?):ffR W' g off n k ks L hs T:=by
 refine⟨h.len,h.cap,fun j hj=>rangeAt.up (h.rng j hj) (he g (Or.inl rfl)),fun t ht=>?_,fun j hj=>?_,h.hi⟩
 ·obtain⟨h1,h2⟩:=h.sp t ht
  have e1:W'.cell? ⟨g,off+t,none⟩=W.cell? ⟨g,off+t,none⟩:=by
   unfold World.cell?
   rw[he g (Or.inl rfl)]
  rw[e1,World.frozen?_of_block (he g (Or.inl rfl))]
  exact⟨h1,h2⟩
 ·obtain⟨h1,b,e1,e2,e3⟩:=h.dat j hj
  refine⟨?_,b,e1,e2,e3⟩
  have:=he b (Or.inr ⟨j,hj,e1⟩)
  rw[e1] at h1 ⊢
  exact h1.other this
theorem ffR.tail {W:World} {g off n k ks:Nat} {f:R5} {r:List R5} {hs:Nat→Hd} {T:Nat} (h:ffR W g off n k ks (f :: r) hs T):ffR W g (off+5) (n-1) (k-1) (ks-1) r (fun j=>hs (j+1)) T:=by
 have hl:=h.len
 have hc:=h.cap
 simp only[List.length_cons] at hl
 refine⟨by omega,by omega,fun j hj=>?_,fun t ht=>?_,fun j hj=>?_,h.hi⟩
 ·have:=h.rng (j+1) (by simpa using hj)
  have e:off+(j+1)*5=off+5+j*5:=by omega
  rw[e] at this
  simpa using this
 ·have:=h.sp (5+t) (by omega)
  rw[← Nat.add_assoc] at this
  exact this
 ·have:=h.dat (j+1) (by simpa using hj)
  simpa using this
theorem ffR.tail1 {W:World} {g off n ks:Nat} {f:R5} {r:List R5} {hs:Nat→Hd} {T:Nat} (h:ffR W g off n 1 ks (f :: r) hs T):ffR W g off (n-1) 0 0 r (fun j=>hs (j+1)) T:=by
 have hl:=h.len
 have hc:=h.cap
 simp only[List.length_cons] at hl
 have e:r=[]:=List.length_eq_zero_iff.1 (by omega)
 subst e;exact⟨by omega,by omega,fun j hj=>(by cases hj),fun t ht=>absurd ht (by omega),fun j hj=>(by cases hj),h.hi⟩
theorem wp_append5 {o:Oper} {a:Act} {K:Act→World→Prop} {Q:Exit→Act→World→Prop} {w:World} (s x:Operand)
  (ho:o.op = .call { callee:=.builtin .append,args:=#[s,x],argTypes:=#[36,36] })
  (b off n cap:Nat) (olds:List Value) (hs:a.eval s = .slice (some ⟨b,off,none⟩) n cap) (hlo:olds.length=n*5) (holds:∀ j u,olds[j]?=some u→w.cell? ⟨b,off+j,none⟩=some u)
  (ib:Nat) (news:List Value) (hx:a.eval x = .slice (some ⟨ib,0,none⟩) 1 1) (hl:news.length=5) (hb:w.heap[ib]?=some (.cells news.toArray 55)) (h1:∀ u ∈ news,u.oneCell'=true) (hn:n≤100000)
  (hspare:n+1≤cap→∀ j,j<news.length→(w.cell? ⟨b,off+n*5+j,none⟩).isSome=true∧w.frozen? ⟨b,off+n*5+j,none⟩=false)
  (hroom:n+1≤cap→K (a.put o.dst (.slice (some ⟨b,off,none⟩) (n+1) cap)) (w.setCells b (off+n*5) news))
  (hgrow:cap<n+1→∀ v' w',w'.ownsRow w.heap.size 55 5 v' (n+1) (olds++news)→w.grownBy w' none→K (a.put o.dst v') w') :
  o.wp Tryz.prog a w K Q:=by
 obtain⟨i0,hi,hz0,hz1,hz2⟩:=info_parts Tryz.info55
 have hc:∀ j u,news[j]?=some u→w.cell? ((⟨ib,0,none⟩ : Addr).add j)=some u:=by
  intro j u hj;have:=range_block hb j u hj
  rw[Addr.add_lit]
  exact this
 by_cases hr:n+1≤cap
 ·have hrun:=run_append_room_cells (P:=Tryz.prog) w 36 o.type 55 i0 Tryz.underlying36 hi b off n cap ⟨ib,0,none⟩ 1 1 news (by rw[hl,hz1]) hc h1 hr (fun j hj=>by rw[hz1];exact (hspare hr j hj).1) (fun j hj=>by rw[hz1];exact (hspare hr j hj).2)
  rw[hz1] at hrun
  unfold Oper.wp execOp
  simp only[ho,resolve,invoke,builtin,Sem.run_bind,Sem.run_pure,Result.andThen_ok,List.map_toArray,List.map_cons,List.map_nil,hs,hx,hrun]
  exact hroom hr
 ·obtain⟨v',w',hrun,r1,r2⟩:=run_append_arg_grows (P:=Tryz.prog) w 36 o.type 55 i0 _ 5 48 Tryz.underlying36 hi hz0 hz1 hz2 rfl (by decide) ⟨b,off,none⟩ n cap olds hlo (fun j u hj=>by rw[Addr.add_lit];exact holds j u hj) ⟨ib,0,none⟩ 1 1 news (by rw[hl]) hc (by omega) (by unfold maxLen;omega) (by omega)
  unfold Oper.wp execOp
  simp only[ho,resolve,invoke,builtin,Sem.run_bind,Sem.run_pure,Result.andThen_ok,List.map_toArray,List.map_cons,List.map_nil,hs,hx,hrun]
  exact hgrow (by omega) v' w' r1 r2
theorem ffR.room {W:World} {g off n k ks:Nat} {L:List R5} {hs:Nat→Hd} {T:Nat} (h:ffR W g off n k ks L hs T) (hk:ks=k) (hr:n+1≤k) (F:R5) (hd:Hd) (hb:isBytes W hd.1 hd.2.1 hd.2.2 F.l) (T':Nat) (hT:T≤T') (hbe:∃ b,hd.1=some ⟨b,0,none⟩∧b≠g∧b<T'):ffR (W.setCells g (off+n*5) (x5 (F,hd))) g off (n+1) k 0 (L++[F]) (fun j=>if j<L.length then hs j else hd) T':=by
 have hln:=h.len
 subst hk;rw[setCells_row]
 have oth:∀ x,x≠g→(setRow W g (off+n*5) (x5 (F,hd))).heap[x]?=W.heap[x]?:=fun x hx=>setRow_block g x hx _ _ _
 refine⟨by simp;omega,hr,fun j hj=>?_,fun t ht=>absurd ht (by omega),fun j hj=>?_,by have:=h.hi;omega⟩
 ·have hj':j<L.length+1:=by simpa using hj
  by_cases e:j<L.length
  ·rw[List.getElem_append_left e,if_pos e]
   intro t u hu;have ht:t<5:=by have:=(List.getElem?_eq_some_iff.mp hu).1;simpa[x5,f5] using this
   rw[setRow_other g _ _ _ _ (by simp[x5,f5];omega)]
   exact h.rng j e t u hu
  ·have ej:j=L.length:=by omega
   subst ej;rw[List.getElem_append_right (Nat.le_refl _),if_neg e]
   simp only[Nat.sub_self,aE]
   intro t u hu;have ht:t<(x5 (F,hd)).length:=(List.getElem?_eq_some_iff.mp hu).1
   have ht5:t<5:=by simpa[x5,f5] using ht
   have hc:=(h.sp (n*5+t) (by omega)).1
   rw[← Nat.add_assoc] at hc
   obtain⟨v,hv⟩:=Option.isSome_iff_exists.1 hc
   rw[← hln,setRow_at g _ _ _ t ht ⟨v,hv⟩]
   rw[List.getElem?_eq_getElem ht] at hu
   exact hu
 ·have hj':j<L.length+1:=by simpa using hj
  by_cases e:j<L.length
  ·rw[List.getElem_append_left e,if_pos e]
   obtain⟨h1,b,e1,e2,e3⟩:=h.dat j e
   refine⟨?_,b,e1,e2,by omega⟩
   rw[e1] at h1 ⊢
   exact h1.other (oth b e2)
  ·have ej:j=L.length:=by omega
   subst ej;rw[List.getElem_append_right (Nat.le_refl _),if_neg e]
   simp only[Nat.sub_self,aE]
   obtain⟨b,e1,e2,e3⟩:=hbe
   refine⟨?_,b,e1,e2,e3⟩
   rw[e1] at hb ⊢
   exact hb.other (oth b e2)
def ffC (L:List R5) (hs:Nat→Hd):List Value:=(List.ofFn fun i:Fin L.length=>((L[i],hs i):X5)).flatMap x5
theorem ffC_len (L:List R5) (hs:Nat→Hd):(ffC L hs).length=L.length*5:=by
 unfold ffC
 rw[flat_len x5 5 (fun _=>rfl),List.length_ofFn]
theorem ffC_at (L:List R5) (hs:Nat→Hd) (j:Nat) (hj:j<L.length) (t:Nat) (ht:t<5):(ffC L hs)[j*5+t]?=(x5 (L[j],hs j))[t]?:=by
 unfold ffC
 rw[flat_at x5 5 (fun _=>rfl) _ j (by simpa using hj) t ht]
 simp
theorem ffR.olds {W:World} {g off n k ks:Nat} {L:List R5} {hs:Nat→Hd} {T:Nat} (h:ffR W g off n k ks L hs T):∀ j u,(ffC L hs)[j]?=some u→W.cell? ⟨g,off+j,none⟩=some u:=by
 intro j u hu;have hj:=(List.getElem?_eq_some_iff.mp hu).1
 rw[ffC_len] at hj
 have e:j=j / 5*5+j % 5:=by omega
 have h1:j / 5<L.length:=by omega
 have h2:j % 5<5:=Nat.mod_lt _ (by omega)
 rw[e,ffC_at L hs _ h1 _ h2] at hu
 have:=h.rng (j / 5) h1 (j % 5) u hu
 rw[e,← Nat.add_assoc]
 have e2:(j / 5*5+j % 5) / 5=j / 5:=by omega
 exact this
theorem ffR.grow {W w':World} {g off n k ks:Nat} {L:List R5} {hs:Nat→Hd} {T:Nat} (h:ffR W g off n k ks L hs T) (F:R5) (hd:Hd) (hb:isBytes W hd.1 hd.2.1 hd.2.2 F.l) (hT:T≤W.heap.size) (hbe:∃ b,hd.1=some ⟨b,0,none⟩∧b<W.heap.size) (v':Value) (ho:w'.ownsRow W.heap.size 55 5 v' (n+1) (ffC L hs++x5 (F,hd))) (hg:W.grownBy w' none):∃ g' k',v' = .slice (some ⟨g',0,none⟩) (n+1) k'∧W.heap.size≤g'∧ffR w' g' 0 (n+1) k' 0 (L++[F]) (fun j=>if j<L.length then hs j else hd) w'.heap.size:=by
 have hln:=h.len
 rcases ownsRow_split ho with⟨_,e⟩|⟨g',k',rfl,q1,q2,q3,q4,q5⟩
 ·omega
 refine⟨g',k',rfl,q1,⟨by simp;omega,q3,fun j hj=>?_,fun t ht=>absurd ht (by omega),fun j hj=>?_,q2⟩⟩
 ·have hj':j<L.length+1:=by simpa using hj
  by_cases e:j<L.length
  ·rw[List.getElem_append_left e,if_pos e]
   intro t u hu;have ht:t<5:=by have:=(List.getElem?_eq_some_iff.mp hu).1;simpa[x5,f5] using this
   rw[← ffC_at L hs j e t ht] at hu
   have hl:=(List.getElem?_eq_some_iff.mp hu).1
   have:=q5 (j*5+t) u (by rw[List.getElem?_append_left hl];exact hu)
   rw[← Nat.add_assoc] at this
   exact this
  ·have ej:j=L.length:=by omega
   subst ej;rw[List.getElem_append_right (Nat.le_refl _),if_neg e]
   simp only[Nat.sub_self,aE]
   intro t u hu;have:=q5 (L.length*5+t) u (by rw[List.getElem?_append_right (by rw[ffC_len];omega),ffC_len,Nat.add_sub_cancel_left];exact hu)
   rw[← Nat.add_assoc] at this
   exact this
 ·have hj':j<L.length+1:=by simpa using hj
  have hz:=hg.size
  by_cases e:j<L.length
  ·rw[List.getElem_append_left e,if_pos e]
   obtain⟨h1,b,e1,e2,e3⟩:=h.dat j e
   refine⟨?_,b,e1,by omega,by omega⟩
   rw[e1] at h1 ⊢
   exact h1.other (hg.block b (by omega) (by simp))
  ·have ej:j=L.length:=by omega
   subst ej;rw[List.getElem_append_right (Nat.le_refl _),if_neg e]
   simp only[Nat.sub_self,aE]
   obtain⟨b,e1,e3⟩:=hbe
   refine⟨?_,b,e1,by omega,by omega⟩
   rw[e1] at hb ⊢
   exact hb.other (hg.block b e3 (by simp))
def hd5 (rs:List (R5 × Nat × Nat)) (j:Nat):Hd:=match rs[j]? with
 | some p=>(some ⟨p.2.1,0,none⟩,p.1.l.length,p.2.2)
 | none=>(none,0,0)
theorem rowQ5.ffR {B T g n k:Nat} {bs:List R5} {W:World} (h:rowQ5 B T 55 g n k bs W):∃ hs,ffR W g 0 n k k bs hs T∧B≤g:=by
 obtain⟨rs,ho,hm,hn,hg,hall⟩:=h
 have hown:=ho.own
 subst hm;refine⟨hd5 rs,?_,ho.lt.1⟩
 rcases hown.2 with⟨e,_⟩|⟨g1,cap,cur,hv',hb,hgg,hcp,hmx,hsz,htk⟩
 ·cases e
 cases hv'
 have hl:=hown.1
 have hcur:∀ t,t<rs.length*5→cur[t]?=(rs.flatMap rc5.enc)[t]?:=by
  intro t ht;rw[← htk,List.getElem?_take_of_lt ht,Array.getElem?_toList]
 refine⟨by simp;omega,by omega,fun j hj=>?_,fun t ht=>⟨?_,?_⟩,fun j hj=>?_,hg⟩
 ·have hj':j<rs.length:=by simpa using hj
  intro t u hu;have ht:t<5:=by have:=(List.getElem?_eq_some_iff.mp hu).1;simpa[x5,f5] using this
  have e1:(x5 ((rs.map (·.1))[j],hd5 rs j))=rc5.enc rs[j]:=by
   unfold hd5
   rw[List.getElem?_eq_getElem hj',List.getElem_map]
   rfl
  rw[e1,← flat_at rc5.enc 5 (fun _=>rfl) rs j hj' t ht,← hcur _ (by omega)] at hu
  rw[Nat.zero_add]
  simp[World.cell?,hgg,hu]
 ·have:t<cur.size:=by omega
  simp[World.cell?,hgg,this]
 ·rw[Nat.zero_add]
  exact World.ownsRow.frozenAt hown t
 ·have hj':j<rs.length:=by simpa using hj
  obtain⟨d1,d2,d3,d4⟩:=ho.dat rs[j] (List.getElem_mem hj')
  have e1:hd5 rs j=(some ⟨rs[j].2.1,0,none⟩,rs[j].1.l.length,rs[j].2.2):=by
   unfold hd5
   rw[List.getElem?_eq_getElem hj']
  rw[e1,List.getElem_map]
  exact⟨d1,rs[j].2.1,rfl,d3,hall rs[j] (List.getElem_mem hj')⟩
theorem rowQ8.ne {B T g n k:Nat} {bs:List R8} {W:World} (h:rowQ8 B T 67 g n k bs W) {x:Nat} {L:List Value} {ty:TypeId} (hx:blk W x L ty) (ht:ty≠67):g≠x:=by
 obtain⟨rs,ho,_⟩:=h
 rcases ho.own.2 with⟨e,_⟩|⟨g1,cap,cur,hv',hb,hgg,_⟩
 ·cases e
 cases hv'
 rintro rfl
 unfold blk at hx
 rw[hgg] at hx
 injection hx with hx
 injection hx with _ hx _
 exact ht hx.symm
theorem isBytes.far {W V:World} {a:Option Addr} {n cap:Nat} {l:List Nat} (h:isBytes W a n cap l) {x:Nat} (hx:blk W x Z10 39) (hV:∀ q,q≠x→q<W.heap.size→V.heap[q]?=W.heap[q]?):isBytes V a n cap l:=by
 refine⟨h.len,h.cap,h.small,fun hne=>?_⟩
 obtain⟨g,off,e,hc⟩:=h.cells hne
 refine⟨g,off,e,fun j hj=>?_⟩
 have hcj:=hc j hj
 have hg:g≠x:=by
  rintro rfl
  have hm:(Value.int .u8 (l[j]:Int)) ∈ Z10:=by
   unfold blk at hx
   unfold World.cell? at hcj
   rw[hx] at hcj
   simp at hcj
   exact List.mem_of_getElem? hcj
  simp[Z10] at hm
 have hlt:g<W.heap.size:=by
  unfold World.cell? at hcj
  by_cases hlt:g<W.heap.size
  ·exact hlt
  ·rw[Array.getElem?_eq_none (by show _≤g;omega)] at hcj
   cases hcj
 unfold World.cell? at hcj ⊢
 rw[hV g hg hlt]
 exact hcj
theorem rowQ8.far {B T g n k:Nat} {bs:List R8} {W V:World} (h:rowQ8 B T 67 g n k bs W) {x:Nat} (hx:blk W x Z10 39) (hV:∀ q,q≠x→q<W.heap.size→V.heap[q]?=W.heap[q]?):isR8s V (some ⟨g,0,none⟩) n k bs:=by
 have hg:=h.ne hx (by decide)
 obtain⟨rs,ho,hm,hn,hgT,hall⟩:=h
 subst hm;have hown:=ho.own
 rcases ownsRow_split hown with⟨e,_⟩|⟨g',k',e,q1,q2,q3,q4,q5⟩
 ·cases e
 cases e
 refine⟨by simp;omega,by omega,fun _=>⟨g,0,rfl,fun j hj=>?_⟩⟩
 have hj':j<rs.length:=by simpa using hj
 obtain⟨d1,d2,d3,d4⟩:=ho.dat rs[j] (List.getElem_mem hj')
 refine⟨some ⟨rs[j].2.1,0,none⟩,rs[j].1.l.length,rs[j].2.2,?_⟩
 rw[List.getElem_map]
 have hr:W.rangeAt g (0+j*8) (x8 (rs[j].1,(some ⟨rs[j].2.1,0,none⟩,rs[j].1.l.length,rs[j].2.2))):=by
  intro t u hu;have ht:t<8:=by have:=(List.getElem?_eq_some_iff.mp hu).1;simpa[x8] using this
  have e1:(x8 (rs[j].1,(some ⟨rs[j].2.1,0,none⟩,rs[j].1.l.length,rs[j].2.2)))=rc8.enc rs[j]:=rfl
  rw[e1,← flat_at rc8.enc 8 (fun _=>rfl) rs j hj' t ht] at hu
  have:=q5 (j*8+t) u hu
  rw[← Nat.add_assoc] at this
  exact this
 have hb:isBytes V (some ⟨rs[j].2.1,0,none⟩) rs[j].1.l.length rs[j].2.2 rs[j].1.l:=d1.far hx hV
 exact x8_at8 (rangeAt.up hr (hV g hg q2)) hb
structure dlS (B T0 T1 T2:Nat) (w:World) (H:Ho) (s:Sl) (FL:List Value) (gq off:Nat) (hs:Nat→Hd) (g4 g0:Nat) (W:World):Prop where
 p:blk W w.heap.size (hoL H s) 39
 f:blk W (w.heap.size+1) FL 55
 r:blk W (w.heap.size+1+1) Z10 39
 o:B≤T0∧T0≤T1∧T1≤T2∧T2≤w.heap.size
 e3:s.a3=some ⟨gq,off,none⟩
 ff:ffR W gq off s.n3 s.k3 s.k3 H.ff hs T2
 lo:T1≤gq
 st:∀ V:World,(∀ x,B≤x→x<T1→V.heap[x]?=W.heap[x]?)→isR3s V s.a1 s.n1 s.k1 H.fs∧isR8s V s.a2 s.n2 s.k2 H.bx
 e4:s.a4=some ⟨g4,0,none⟩
 q:∀ V:World,(∀ x,T2≤x→x≠w.heap.size→x<W.heap.size→V.heap[x]?=W.heap[x]?)→W.heap.size≤V.heap.size→rowQ8 T2 V.heap.size 67 g4 s.n4 s.k4 H.qu V
 bl:Below B w W
 kp:∀ q,T2≤q→q<w.heap.size→q≠g0→W.heap[q]?=w.heap[q]?
 gg:g4=g0∨w.heap.size≤g4
structure dlT (B T0 T1 T2:Nat) (w:World) (H:Ho) (s:Sl) (FL:List Value) (g4 g0:Nat) (W:World):Prop where
 p:blk W w.heap.size (hoL H s) 39
 f:blk W (w.heap.size+1) FL 55
 r:blk W (w.heap.size+1+1) Z10 39
 o:B≤T0∧T0≤T1∧T1≤T2∧T2≤w.heap.size
 st:∀ V:World,(∀ x,B≤x→x<T1→V.heap[x]?=W.heap[x]?)→isR3s V s.a1 s.n1 s.k1 H.fs∧isR8s V s.a2 s.n2 s.k2 H.bx
 e4:s.a4=some ⟨g4,0,none⟩
 q:rowQ8 T2 W.heap.size 67 g4 s.n4 s.k4 H.qu W
 ff:∀ V:World,(∀ x,x<T2∨w.heap.size≤x→x≠w.heap.size+1+1→x≠g4→x<W.heap.size→V.heap[x]?=W.heap[x]?)→isR5s V s.a3 s.n3 s.k3 H.ff
 bl:Below B w W
 kp:∀ q,T2≤q→q<w.heap.size→q≠g0→W.heap[q]?=w.heap[q]?
 gg:g4=g0∨w.heap.size≤g4
section
variable {B T0 T1 T2 : Nat} {w : World} {H : Ho} {s : Sl} {FL : List Value} {gq off : Nat} {hs : Nat → Hd} {g4 g0 : Nat} {W : World}
theorem dlS.below (h:dlS B T0 T1 T2 w H s FL gq off hs g4 g0 W) {W':World} (hb:Below W.heap.size W W'):dlS B T0 T1 T2 w H s FL gq off hs g4 g0 W':=by
 have ho:=h.o
 have hpl:=h.p.lt
 have hz:=hb.size
 have hfh:=h.ff.hi
 refine⟨h.p.below hb,h.f.below hb,h.r.below hb,ho,h.e3,h.ff.keep (fun x hx=>hb.block x ?_),h.lo,fun V hV=>h.st V (fun x h1 h2=>(hV x h1 h2).trans (hb.block x (by omega))),h.e4,fun V hV hVz=>h.q V (fun x h1 h2 h3=>(hV x h1 h2 (by omega)).trans (hb.block x h3)) (by omega),h.bl.trans (hb.mono h.bl.size |>.mono (by have:=h.bl.size;omega)),fun q h1 h2 h3=>(hb.block q (by omega)).trans (h.kp q h1 h2 h3),h.gg⟩
 rcases hx with rfl|⟨j,hj,e⟩
 ·omega
 ·obtain⟨_,b,e1,_,e3⟩:=h.ff.dat j hj
  rw[e] at e1
  cases e1
  omega
theorem dlS.qlo (h:dlS B T0 T1 T2 w H s FL gq off hs g4 g0 W):T2≤g4∧g4<W.heap.size:=by
 have:=h.q W (fun _ _ _ _=>rfl) (Nat.le_refl _)
 exact⟨this.glt,this.ghi⟩
theorem ffB {n k ks T:Nat} {L:List R5} (h:ffR W gq off n k ks L hs T) {gd x m c:Nat} {F:R5} (hx:∃ j,j<(L++[F]).length∧(if j<L.length then hs j else (some ⟨gd,0,none⟩,m,c)).1=some ⟨x,0,none⟩):x<T∨x=gd:=by
 obtain⟨j,hj,e⟩:=hx
 by_cases hl:j<L.length
 ·rw[if_pos hl] at e
  obtain⟨_,b,e1,_,e3⟩:=h.dat j hl
  rw[e] at e1
  cases e1
  exact Or.inl e3
 ·rw[if_neg hl] at e
  cases e
  exact Or.inr rfl
theorem dlS.room (h:dlS B T0 T1 T2 w H s FL gq off hs g4 g0 W) (F:R5) (gd fm kd:Nat) (hb:isBytes W (some ⟨gd,0,none⟩) fm kd F.l) (hgd:w.heap.size+1+1<gd∧gd<W.heap.size∧gd≠g4) (hr:s.n3+1≤s.k3) :
  dlT B T0 T1 T2 w (fHo H (H.ff++[F])) (fSl s gq off (s.n3+1) s.k3) FL g4 g0 ((W.setCells gq (off+s.n3*5) (x5 (F,(some ⟨gd,0,none⟩,fm,kd)))).setCell ⟨w.heap.size,6,none⟩ (.slice (some ⟨gq,off,none⟩) (s.n3+1) s.k3)):=by
 have ho:=h.o
 have hlo:=h.lo
 have hhi:=h.ff.hi
 have hg4:=h.qlo
 have hpl:=h.p.lt
 have oth:∀ x,x≠gq→x≠w.heap.size→((W.setCells gq (off+s.n3*5) (x5 (F,(some ⟨gd,0,none⟩,fm,kd)))).setCell ⟨w.heap.size,6,none⟩ (.slice (some ⟨gq,off,none⟩) (s.n3+1) s.k3)).heap[x]?=W.heap[x]?:=fun x h1 h2=>by
  rw[heap_setCell_other _ _ _ _ (by exact h2)]
  exact setCells_other _ x h1 _ _ _
 have hz:((W.setCells gq (off+s.n3*5) (x5 (F,(some ⟨gd,0,none⟩,fm,kd)))).setCell ⟨w.heap.size,6,none⟩ (.slice (some ⟨gq,off,none⟩) (s.n3+1) s.k3)).heap.size=W.heap.size:=by simp[setCells_size]
 have hR:=h.ff.room rfl hr F (some ⟨gd,0,none⟩,fm,kd) hb W.heap.size (by omega) ⟨gd,rfl,by omega,hgd.2.1⟩
 refine⟨?_,(h.f.other (by omega) _ _).setOther (by omega) _ _,(h.r.other (by omega) _ _).setOther (by omega) _ _,ho,fun V hV=>h.st V (fun x h1 h2=>(hV x h1 h2).trans (oth x (by omega) (by omega))),h.e4,?_,fun V hV=>?_,Below.setCell (setCells_below (by omega) _ _ h.bl) (by show B≤w.heap.size;omega) _,fun q h1 h2 h3=>(oth q (by omega) (by omega)).trans (h.kp q h1 h2 h3),h.gg⟩
 ·exact (h.p.other (by omega) _ _).set 6 _
 ·exact h.q _ (fun x h1 h2 h3=>oth x (by omega) h2) (by omega)
 ·refine (hR.keep (W':=V) fun x hx=>?_).is
  have hx':x<T2∨x=gd:=by
   rcases hx with rfl|hx
   ·exact Or.inl hhi
   ·exact ffB h.ff hx
  rw[hV x (by omega) (by omega) (by omega) (by omega)]
  exact heap_setCell_other _ _ _ _ (by show x≠w.heap.size;omega)
theorem dlS.grow (h:dlS B T0 T1 T2 w H s FL gq off hs g4 g0 W) (F:R5) (gd fm kd:Nat) (hb:isBytes W (some ⟨gd,0,none⟩) fm kd F.l) (hgd:w.heap.size+1+1<gd∧gd<W.heap.size∧gd≠g4) (v':Value) (w':World) (hown:w'.ownsRow W.heap.size 55 5 v' (s.n3+1) (ffC H.ff hs++x5 (F,(some ⟨gd,0,none⟩,fm,kd)))) (hg:W.grownBy w' none) :
  ∃ g' k',v' = .slice (some ⟨g',0,none⟩) (s.n3+1) k'∧dlT B T0 T1 T2 w (fHo H (H.ff++[F])) (fSl s g' 0 (s.n3+1) k') FL g4 g0 (w'.setCell ⟨w.heap.size,6,none⟩ (.slice (some ⟨g',0,none⟩) (s.n3+1) k')):=by
 have ho:=h.o
 have hhi:=h.ff.hi
 have hg4:=h.qlo
 have hpl:=h.p.lt
 have hfl:=h.f.lt
 have hrl:=h.r.lt
 have hgz:=hg.size
 obtain⟨g',k',rfl,hg',hR⟩:=h.ff.grow F (some ⟨gd,0,none⟩,fm,kd) hb (by omega) ⟨gd,rfl,hgd.2.1⟩ v' hown hg
 refine⟨g',k',rfl,?_⟩
 have old:∀ x,x<W.heap.size→w'.heap[x]?=W.heap[x]?:=fun x hx=>hg.block x hx (by simp)
 have oth:∀ x,x<W.heap.size→x≠w.heap.size→(w'.setCell ⟨w.heap.size,6,none⟩ (.slice (some ⟨g',0,none⟩) (s.n3+1) k')).heap[x]?=W.heap[x]?:=fun x h1 h2=>by
  rw[heap_setCell_other _ _ _ _ (by exact h2)]
  exact old x h1
 have hz:(w'.setCell ⟨w.heap.size,6,none⟩ (.slice (some ⟨g',0,none⟩) (s.n3+1) k')).heap.size=w'.heap.size:=by simp
 refine⟨?_,(h.f.kept (old _ hfl)).setOther (by omega) _ _,(h.r.kept (old _ hrl)).setOther (by omega) _ _,ho,fun V hV=>h.st V (fun x h1 h2=>(hV x h1 h2).trans (oth x (by omega) (by omega))),h.e4,?_,fun V hV=>?_,Below.setCell (h.bl.grown hg (by omega) (by simp)) (by show B≤w.heap.size;omega) _,fun q h1 h2 h3=>(oth q (by omega) (by omega)).trans (h.kp q h1 h2 h3),h.gg⟩
 ·exact (h.p.kept (old _ hpl)).set 6 _
 ·exact h.q _ (fun x h1 h2 h3=>oth x h3 h2) (by omega)
 ·refine (hR.keep (W':=V) fun x hx=>?_).is
  have hx':x<T2∨x=gd∨x=g':=by
   rcases hx with rfl|hx
   ·exact Or.inr (Or.inr rfl)
   ·rcases ffB h.ff hx with h|h
    ·exact Or.inl h
    ·exact Or.inr (Or.inl h)
  have hgl:=hR.hi
  rw[hV x (by omega) (by omega) (by omega) (by omega)]
  exact heap_setCell_other _ _ _ _ (by show x≠w.heap.size;omega)
theorem dlS.first (hB:sbS w (hoL H s) FL W) (hS:spS B T0 T1 T2 H s w) (hb:Below w.heap.size w W) (e3:s.a3=some ⟨gq,0,none⟩) (hq3:rowQ5 T1 T2 55 gq s.n3 s.k3 H.ff w) (e4:s.a4=some ⟨g4,0,none⟩) (hq4:rowQ8 T2 w.heap.size 67 g4 s.n4 s.k4 H.qu w):∃ hs,dlS B T0 T1 T2 w H s FL gq 0 hs g4 g4 W:=by
 obtain⟨hs,hff,hlo⟩:=hq3.ffR
 obtain⟨o1,o2,o3,o4⟩:=hS.o
 have hhi:=hff.hi
 refine⟨hs,hB.p,hB.f,hB.r,hS.o,e3,hff.keep (fun x hx=>hb.block x ?_),hlo,fun V hV=>?_,e4,fun V hV hz=>?_,hb.mono (by omega),fun q _ h2 _=>hb.block q h2,Or.inl rfl⟩
 ·rcases hx with rfl|⟨j,hj,e⟩
  ·omega
  ·obtain⟨_,b,e1,_,e3⟩:=hff.dat j hj
   rw[e] at e1
   cases e1
   omega
 ·have hV':∀ x,B≤x→x<T1→V.heap[x]?=w.heap[x]?:=fun x h1 h2=>(hV x h1 h2).trans (hb.block x (by omega))
  obtain⟨gf,e1,h1a,h1b,h1⟩:=hS.f
  obtain⟨gb,hs2,e2,h2⟩:=hS.x
  refine⟨?_,?_⟩
  ·rw[e1];exact h1.same (hV' gf h1a (by omega))
  ·rw[e2];exact (h2.st fun x h1 h2=>hV' x (by omega) h2).is
 ·have hbz:=hb.size
  exact (hq4.keep fun x h1 h2=>(hV x h1 (by omega) (by omega)).trans (hb.block x h2)).mono (by omega)
theorem dlS.new {w7 w8:World} {ev:R8} {g' n' k':Nat} {r:List R5} {k3:Nat} (hS:spS B T0 T1 T2 H s w7) (hT2:T2≤w.heap.size) (hg4:T2≤g4) (hz7:w.heap.size<w7.heap.size)
  (hV:∀ V:World,(∀ x,T2≤x→x<w.heap.size∨w7.heap.size≤x→x<w8.heap.size→V.heap[x]?=w8.heap[x]?)→w8.heap.size≤V.heap.size→rowQ8 T2 V.heap.size 67 g' n' k' (quP H.c3 H.qu ev) V)
  (he:∀ q,q≠g4→q<w7.heap.size→w8.heap[q]?=w7.heap[q]?) (hb:w7.heap.size≤w8.heap.size) (oth:∀ x,x≠w.heap.size→W.heap[x]?=w8.heap[x]?) (hsz:W.heap.size=w8.heap.size)
  (hp:blk W w.heap.size (hoL (fHo (postHo H ev) r) (fSl (qSl s g' n' k') gq off r.length k3)) 39) (hf:blk W (w.heap.size+1) FL 55) (hr:blk W (w.heap.size+1+1) Z10 39) (hff:ffR W gq off r.length k3 k3 r hs T2) (hlo:T1≤gq) (hbl:Below B w W) (hw7:Below w.heap.size w w7) (hgg:g'=g4∨w7.heap.size≤g'):dlS B T0 T1 T2 w (fHo (postHo H ev) r) (fSl (qSl s g' n' k') gq off r.length k3) FL gq off hs g' g4 W:=by
 obtain⟨o1,o2,o3,o4⟩:=hS.o
 refine⟨hp,hf,hr,⟨o1,o2,o3,hT2⟩,rfl,hff,hlo,fun V hVV=>?_,rfl,fun V hVV hz=>hV V (fun x h1 h2 h3=>(hVV x h1 (by omega) (by omega)).trans (oth x (by omega))) (by omega),hbl,fun q h1 h2 h3=>((oth q (by omega)).trans (he q h3 (by omega))).trans (hw7.block q h2),by omega⟩
 have hV':∀ x,B≤x→x<T1→V.heap[x]?=w7.heap[x]?:=fun x h1 h2=>((hVV x h1 h2).trans (oth x (by omega))).trans (he x (by omega) (by omega))
 obtain⟨gf,e1,h1a,h1b,h1⟩:=hS.f
 obtain⟨gb,hs2,e2,h2⟩:=hS.x
 refine⟨?_,?_⟩
 ·show isR3s V s.a1 s.n1 s.k1 H.fs
  rw[e1];exact h1.same (hV' gf h1a (by omega))
 ·show isR8s V s.a2 s.n2 s.k2 H.bx
  rw[e2];exact (h2.st fun x h1 h2=>hV' x (by omega) h2).is
structure dv (w:World) (T2:Nat) (H:Ho) (s:Sl) (g':Nat) (W:World):Prop where
 a:s.a4=some ⟨g',0,none⟩
 q:rowQ8 T2 W.heap.size 67 g' s.n4 s.k4 H.qu W
 r:∀ V:World,(∀ x,x<T2∨w.heap.size≤x→x≠g'→x<W.heap.size→V.heap[x]?=W.heap[x]?)→isR3s V s.a1 s.n1 s.k1 H.fs∧isR8s V s.a2 s.n2 s.k2 H.bx∧isR5s V s.a3 s.n3 s.k3 H.ff
theorem isBytes.farX {W V:World} {a:Option Addr} {n cap:Nat} {l:List Nat} (h:isBytes W a n cap l) {x:Nat} {L:List Value} {ty:TypeId} (hx:blk W x L ty) (hL:∀ j,Value.int .u8 j ∉ L) (hV:∀ q,q≠x→V.heap[q]?=W.heap[q]?):isBytes V a n cap l:=by
 refine⟨h.len,h.cap,h.small,fun hne=>?_⟩
 obtain⟨g,off,e,hc⟩:=h.cells hne
 refine⟨g,off,e,fun j hj=>?_⟩
 have hcj:=hc j hj
 have hg:g≠x:=by
  rintro rfl
  refine hL (l[j]:Int) ?_
  unfold blk at hx
  unfold World.cell? at hcj
  rw[hx] at hcj
  simp at hcj
  exact List.mem_of_getElem? hcj
 unfold World.cell? at hcj ⊢
 rw[hV g hg]
 exact hcj
theorem rowQ8.varsT {T g n k:Nat} {bs:List R8} {V:World} (h:rowQ8 B T 67 g n k bs W) {x:Nat} {L:List Value} {ty:TypeId} (hx:blk W x L ty) (ht:ty≠67) (hL:∀ j,Value.int .u8 j ∉ L) (hV:∀ q,q≠x→V.heap[q]?=W.heap[q]?) (hz:V.heap.size=W.heap.size):rowQ8 B T 67 g n k bs V:=by
 have hg:=h.ne hx ht
 obtain⟨rs,ho,hm,hn,hgT,hall⟩:=h
 refine⟨rs,⟨ownsRow_kept ho.own (hV g hg),fun p hp=>?_⟩,hm,hn,hgT,hall⟩
 obtain⟨d1,d2,d3,d4⟩:=ho.dat p hp
 exact⟨d1.farX hx hL hV,d2,d3,by omega⟩
theorem Z10_nb (j:Int):Value.int .u8 j ∉ Z10:=by
 unfold Z10
 simp
theorem dlT.fin (h:dlT B T0 T1 T2 w H s FL g4 g0 W) {w8 V:World} {ev:R8} {g' n' k':Nat} (hq:rowQ8 T2 w8.heap.size 67 g' n' k' (quP H.c3 H.qu ev) w8)
  (he:∀ q,q≠g4→q<W.heap.size→w8.heap[q]?=W.heap[q]?) (hg:g'=g4∨W.heap.size≤g') (hb:W.heap.size≤w8.heap.size) (oth:∀ x,x≠w.heap.size+1+1→V.heap[x]?=w8.heap[x]?) (hz:V.heap.size=w8.heap.size) (hr:blk w8 (w.heap.size+1+1) Z10 39):dv w T2 (postHo H ev) (qSl s g' n' k') g' V∧∀ q,T2≤q→q<w.heap.size→q≠g0→V.heap[q]?=w.heap[q]?:=by
 obtain⟨o1,o2,o3,o4⟩:=h.o
 have hlo:=hq.glt
 have hl4:=h.q.glt
 have hrl:=h.r.lt
 have hgg:=h.gg
 refine⟨⟨rfl,?_,fun V' hV'=>?_⟩,fun q h1 h2 h3=>((oth q (by omega)).trans (he q (by omega) (by omega))).trans (h.kp q h1 h2 h3)⟩
 ·rw[hz]
  exact hq.varsT hr (by decide) Z10_nb oth hz
 ·have hst:=h.st V' (fun x h1 h2=>((hV' x (by omega) (by omega) (by omega)).trans (oth x (by omega))).trans (he x (by omega) (by omega)))
  exact⟨hst.1,hst.2,h.ff V' (fun x h1 h2 h3 h4=>((hV' x h1 (by omega) (by omega)).trans (oth x h2)).trans (he x h3 h4))⟩
theorem dv_of (hS:spS B T0 T1 T2 H s W) (hT:T2≤w.heap.size):∃ g',dv w T2 H s g' W:=by
 obtain⟨gf,e1,h1a,h1b,h1⟩:=hS.f
 obtain⟨gb,hs,e2,h2⟩:=hS.x
 obtain⟨gq,e3,h3⟩:=hS.r
 obtain⟨g4,e4,h4⟩:=hS.q
 obtain⟨o1,o2,o3,o4⟩:=hS.o
 have hl:=h4.glt
 refine⟨g4,e4,h4,fun V hV=>⟨?_,?_,?_⟩⟩
 ·rw[e1];exact h1.same (hV gf (by omega) (by omega) (by omega))
 ·rw[e2];exact (h2.st fun x h1 h2=>hV x (by omega) (by omega) (by omega)).is
 ·rw[e3];exact (h3.keep fun x h1 h2=>hV x (by omega) (by omega) (by omega)).is
end
theorem l3post_g (w:World) (H:Ho) (s:Sl) (B T g4:Nat) (ev:R8) (ao:Option Addr) (m c:Nat) (ha:s.a4=some ⟨g4,0,none⟩) (hQ:rowQ8 B T 67 g4 s.n4 s.k4 H.qu w) (hB:B≤w.heap.size) (hn:s.n4≤1000) (hlo:0≤H.lo∧H.lo≤100000) (hf:isBytes w ao m c ev.l) (hm:m≤1048576) :
  Calls Tryz.prog 151 #[.agg (hoL H s).toArray,.int .i64 ev.x,.int .i64 ev.y,.int .i64 ev.z,frV ev.e ev.i ev.r ev.d ao m c] w fun o w'=>∃ g' n' k',o = .returned (.agg (hoL (postHo H ev) (qSl s g' n' k')).toArray)∧(∀ V:World,(∀ x,B≤x→x<T∨w.heap.size≤x→x<w'.heap.size→V.heap[x]?=w'.heap[x]?)→w'.heap.size≤V.heap.size→rowQ8 B V.heap.size 67 g' n' k' (quP H.c3 H.qu ev) V)∧(∀ q,q≠g4→q<w.heap.size→w'.heap[q]?=w.heap[q]?)∧(g'=g4∨w.heap.size≤g')∧Below B w w':=by
 obtain⟨rs,ho,hmap,hlen,hgT,hall⟩:=hQ
 have hql:H.qu.length=s.n4:=by rw[← hmap,List.length_map,hlen]
 have hml:=hf.len
 subst hml;obtain⟨c0,c1,c2,c3,fs,bx,ff,qu,lo,st⟩:=H
 obtain⟨a1,n1,k1,a2,n2,k2,a3,n3,k3,a4,n4,k4⟩:=s
 obtain⟨x,y,z,e,i,r,d,l⟩:=ev
 simp only[] at ha hlen hql hn hlo hmap ho hf hm
 subst ha;by_cases hq:(n4:Int)<c3
 ·refine (l3post_more w c0 c1 c2 c3 lo st a1 n1 k1 a2 n2 k2 a3 n3 k3 B g4 n4 k4 rs x y z e i r d ao c l hq hn ho hlen hB hf hm).mono ?_
  rintro o w' ⟨g',k',gd,kd,rfl,h1,h2,h3,h4,h5⟩;have hq':(qu.length:Int)<c3:=by rw[hql];exact hq
  refine⟨g',n4+1,k',?_,fun V hV hz=>?_,h2,h3,h5⟩
  ·simp only[hoL,postHo,qSl,loP,if_pos hq']
  have h1:=h1.holes h3 hgT hall h4 hV hz
  refine⟨_,h1,?_,?_,h1.lt.2,fun p hp=>(h1.dat p hp).2.2.2⟩
  ·simp only[quP,if_pos hq',List.map_append,hmap,List.map_cons,List.map_nil]
  ·simp[hlen]
 ·refine (l3post_full w c0 c1 c2 c3 lo st a1 n1 k1 a2 n2 k2 a3 n3 k3 (some ⟨g4,0,none⟩) n4 k4 x y z e i r d ao l.length c (by omega) hlo).mono ?_
  rintro o w' ⟨rfl,hb⟩;have hq':¬ (qu.length:Int)<c3:=by rw[hql];exact hq
  refine⟨g4,n4,k4,?_,fun V hV hz=>?_,fun q _ h=>hb.block q h,Or.inl rfl,hb.mono hB⟩
  ·simp only[hoL,postHo,qSl,loP,if_neg hq']
  have h1:=(ho.below hb).holes0 hgT hall (fun x h1 h2 h3=>hV x h1 (Or.inl h2) h3) hz
  exact⟨rs,h1,by simp only[quP,if_neg hq',hmap],hlen,h1.lt.2,fun p hp=>(h1.dat p hp).2.2.2⟩
theorem dl_new {B T0 T1 T2:Nat} {w v0 w8 W:World} {H:Ho} {s:Sl} {FL:List Value} {gq off g4 k3:Nat} {f:R5} {r:List R5} {ev:R8} {g' n' k':Nat} (hS:spS B T0 T1 T2 H s v0) (hbw:Below w.heap.size w v0) (hB:sbS w (hoL H s) FL v0) (hT2:T2≤w.heap.size) (hq3:rowQ5 T1 T2 55 gq s.n3 s.k3 H.ff w) (hff:H.ff=f :: r) (hg4:g4<w.heap.size∧T2≤g4)
  (hV:∀ V:World,(∀ x,T2≤x→x<w.heap.size∨v0.heap.size≤x→x<w8.heap.size→V.heap[x]?=w8.heap[x]?)→w8.heap.size≤V.heap.size→rowQ8 T2 V.heap.size 67 g' n' k' (quP H.c3 H.qu ev) V)
  (he:∀ q,q≠g4→q<v0.heap.size→w8.heap[q]?=v0.heap[q]?) (hb:Below T2 v0 w8) (oth:∀ x,x≠w.heap.size→W.heap[x]?=w8.heap[x]?) (hsz:W.heap.size=w8.heap.size)
  (hp:blk W w.heap.size (hoL (fHo (postHo H ev) r) (fSl (qSl s g' n' k') gq off r.length k3)) 39) (hok:(off=5∧k3=s.k3-1)∨(off=0∧k3=0∧s.k3=1)) (hbl:Below B w W) (hgg:g'=g4∨v0.heap.size≤g'):∃ hs,dlS B T0 T1 T2 w (fHo (postHo H ev) r) (fSl (qSl s g' n' k') gq off r.length k3) FL gq off hs g' g4 W:=by
 obtain⟨hs,hR,hlo⟩:=hq3.ffR
 have hhi:=hR.hi
 have hpl:=hB.p.lt
 have keep:∀ x,x<T2→W.heap[x]?=w.heap[x]?:=fun x hx=>by
  rw[oth x (by omega),he x (by omega) (by omega)]
  exact hbw.block x (by omega)
 have hR2:ffR W gq 0 s.n3 s.k3 s.k3 H.ff hs T2:=hR.keep fun x hx=>by
  rcases hx with rfl|⟨j,hj,e⟩
  ·exact keep _ hhi
  ·obtain⟨_,b,e1,_,e3⟩:=hR.dat j hj
   rw[e] at e1
   cases e1
   exact keep _ e3
 have hl3:=hR.len
 rw[hff] at hl3 hR2
 have en:s.n3-1=r.length:=by simp only[List.length_cons] at hl3;omega
 have hf':blk W (w.heap.size+1) FL 55:=(hB.f.kept (he _ (by omega) hB.f.lt)).kept (oth _ (by omega))
 have hr':blk W (w.heap.size+1+1) Z10 39:=(hB.r.kept (he _ (by omega) hB.r.lt)).kept (oth _ (by omega))
 rcases hok with⟨rfl,rfl⟩|⟨rfl,rfl,h1⟩
 ·have h5:=hR2.tail
  rw[en,Nat.zero_add] at h5
  exact⟨_,dlS.new hS hT2 hg4.2 hpl hV he hb.size oth hsz hp hf' hr' h5 hlo hbl hbw hgg⟩
 ·rw[h1] at hR2
  have h5:=hR2.tail1
  rw[en] at h5
  exact⟨_,dlS.new hS hT2 hg4.2 hpl hV he hb.size oth hsz hp hf' hr' h5 hlo hbl hbw hgg⟩
theorem loP_in {c3:Int} {qu:List R8} {lo:Int} (h:0≤lo∧lo≤100000):0≤loP c3 qu lo∧loP c3 qu lo≤100000:=by
 unfold loP
 split
 ·exact h
 ·split
  ·omega
  ·exact h
theorem quP_le (c3:Int) (qu:List R8) (ev:R8):(quP c3 qu ev).length≤qu.length+1:=by
 unfold quP
 split <;> simp
end Go.Proofs.YtkfcfigbgmbaiaaGreat
