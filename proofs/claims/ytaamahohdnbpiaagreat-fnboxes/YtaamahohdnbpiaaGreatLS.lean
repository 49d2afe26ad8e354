import Derived.Test.YtaamahohdnbpiaaGreatG11
import Derived.Test.YtaamahohdnbpiaaGreatG12
namespace Go.Proofs.YtaamahohdnbpiaaGreat
open Go.Shelf Go.RowKit
set_option linter.unusedVariables false
theorem ownsRow_split {W:World} {B:Nat} {T:TypeId} {sz:Nat} {v:Value} {n:Nat} {xs:List Value} (ho:W.ownsRow B T sz v n xs):(v = .slice none 0 0∧n=0)∨∃ g cap,v = .slice (some ⟨g,0,none⟩) n cap∧B≤g∧g<W.heap.size∧n≤cap∧rowF W g (n*sz)∧W.rangeAt g 0 xs:=by
 have ho':=ho
 rcases ho.2 with⟨e,e2⟩|⟨g',cap',cur,hv',hb,hg,hcp,hmx,hsz,htk⟩
 ·exact Or.inl ⟨e,by simpa using e2⟩
 ·right
  have hl:=ho.1
  have hcur:∀ t,t<n*sz→cur[t]?=xs[t]?:=by
   intro t ht;rw[← htk,List.getElem?_take_of_lt ht,Array.getElem?_toList]
  have hcell:∀ t,t<n*sz→W.cell? ⟨g',t,none⟩=xs[t]?:=by
   intro t ht;rw[← hcur t ht]
   simp[World.cell?,hg]
  refine⟨g',cap',hv',hb,lt_of_some hg,hcp,fun t ht=>⟨?_,?_⟩,fun j u hu=>?_⟩
  ·rw[hcell t ht]
   exact⟨_,List.getElem?_eq_getElem (by omega)⟩
  ·subst hv';exact World.ownsRow.frozenAt ho' t
  ·have hj:j<xs.length:=(List.getElem?_eq_some_iff.mp hu).1
   rw[Nat.zero_add,hcell j (by omega)]
   exact hu
theorem rangeAt.up {W W':World} {g o:Nat} {l:List Value} (h:W.rangeAt g o l) (he:W'.heap[g]?=W.heap[g]?):W'.rangeAt g o l:=fun j v hv=>cell_up (h j v hv) he
structure dr8 (b0:World) (U g n:Nat) (bx:List R8) (hs:Nat→Hd) (k:Nat) (W:World):Prop where
 len:n=bx.length
 row:rowF W g (n*8)
 rng:∀ j (h:j<bx.length),W.rangeAt g (j*8) (x8 (bx[j],hs j))
 old:∀ j (h:j<bx.length),k≤j→isBytes b0 (hs j).1 (hs j).2.1 (hs j).2.2 bx[j].l
 new:∀ j (h:j<bx.length),j<k→isBytes W (hs j).1 (hs j).2.1 (hs j).2.2 bx[j].l∧(((hs j).1=none∧(hs j).2.1=0)∨∃ b,(hs j).1=some ⟨b,0,none⟩∧U≤b∧b<W.heap.size∧rowF W b (hs j).2.1)
 dst:dst hs k
 lo:b0.heap.size≤g
 hi:g<W.heap.size
 bel:Below b0.heap.size b0 W
 sm:∀ j (h:j<bx.length),bx[j].l.length≤1048576
theorem dr8.same {b0 W W':World} {U g n:Nat} {bx:List R8} {hs:Nat→Hd} {k:Nat} (h:dr8 b0 U g n bx hs k W) (he:∀ x,x=g∨U≤x→x<W.heap.size→W'.heap[x]?=W.heap[x]?) (hz:W.heap.size≤W'.heap.size) (hb:Below b0.heap.size b0 W'):dr8 b0 U g n bx hs k W':=
 ⟨h.len,h.row.up (he g (Or.inl rfl) h.hi),fun j hj=>(rangeAt.up (h.rng j hj) (he g (Or.inl rfl) h.hi)),h.old,fun j hj hk=>by
  obtain⟨h1,h2⟩:=h.new j hj hk
  rcases h2 with⟨e1,e2⟩|⟨b,e1,e2,e3,e4⟩
  ·refine⟨⟨h1.len,h1.cap,h1.small,fun hne=>?_⟩,Or.inl ⟨e1,e2⟩⟩
   exact absurd (List.length_pos_iff.2 hne) (by have:=h1.len;omega)
  ·rw[e1] at h1 ⊢
   exact⟨h1.other (he b (Or.inr e2) e3),Or.inr ⟨b,rfl,e2,Nat.lt_of_lt_of_le e3 hz,e4.up (he b (Or.inr e2) e3)⟩⟩,h.dst,h.lo,Nat.lt_of_lt_of_le h.hi hz,hb,h.sm⟩
theorem dr8.below {b0 W W':World} {U g n:Nat} {bx:List R8} {hs:Nat→Hd} {k:Nat} (h:dr8 b0 U g n bx hs k W) (hb:Below W.heap.size W W'):dr8 b0 U g n bx hs k W':=
 h.same (fun x _ hx=>hb.block x hx) hb.size (h.bel.trans (hb.mono h.bel.size))
theorem dr8.start {b0 W:World} {B U g n:Nat} {L:List R8} (bs:List X8) (hm:bs.map (·.1)=L) (hby:∀ j (hj:j<bs.length),isBytes b0 bs[j].2.1 bs[j].2.2.1 bs[j].2.2.2 bs[j].1.l) (hn:n=L.length) (hr:rowF W g (n*8)) (hg:W.rangeAt g 0 (c8 bs)) (hlo:b0.heap.size≤g) (hhi:g<W.heap.size) (hb:Below b0.heap.size b0 W) (hsm:∀ j (h:j<L.length),L[j].l.length≤1048576):dr8 b0 U g n L (fun j=>(bs.getD j (⟨0,0,0,false,0,false,0,[]⟩,none,0,0)).2) 0 W:=by
 subst hm;have hl:(bs.map (·.1)).length=bs.length:=by simp
 refine⟨hn,hr,fun j hj=>?_,fun j hj _=>?_,fun j hj hk=>absurd hk (Nat.not_lt_zero _),fun i j _ hj=>absurd hj (Nat.not_lt_zero _),hlo,hhi,hb,hsm⟩
 ·have hj':j<bs.length:=by omega
  have e:((bs.map (·.1))[j],(bs.getD j (⟨0,0,0,false,0,false,0,[]⟩,none,0,0)).2)=bs[j]:=by simp[List.getD,hj']
  rw[e]
  intro t u hu;have ht:t<8:=by have:=(List.getElem?_eq_some_iff.mp hu).1;simpa[x8] using this
  rw[← c8_at bs j hj' t ht] at hu
  have:=hg _ _ hu
  rw[Nat.zero_add] at this
  exact this
 ·have hj':j<bs.length:=by omega
  have:=hby j hj'
  simpa[List.getD,hj'] using this
theorem dr8.at_ {b0 W:World} {U g n:Nat} {bx:List R8} {hs:Nat→Hd} {k:Nat} (h:dr8 b0 U g n bx hs k W) (j:Nat) (hj:j<bx.length):at8 W g (j*8) bx[j] (hs j).1 (hs j).2.1 (hs j).2.2:=by
 have hr:=h.rng j hj
 refine⟨hr 0 _ rfl,hr 1 _ rfl,hr 2 _ rfl,hr 3 _ rfl,hr 4 _ rfl,hr 5 _ rfl,hr 6 _ rfl,hr 7 _ rfl,?_⟩
 by_cases hk:j<k
 ·exact (h.new j hj hk).1
 ·exact (h.old j hj (by omega)).below h.bel
theorem dr8.is {b0 W:World} {U g n:Nat} {bx:List R8} {hs:Nat→Hd} {k cap:Nat} (h:dr8 b0 U g n bx hs k W) (hc:n≤cap):isR8s W (some ⟨g,0,none⟩) n cap bx:=
 ⟨h.len,hc,fun _=>⟨g,0,rfl,fun j hj=>⟨_,_,_,by rw[Nat.zero_add];exact h.at_ j hj⟩⟩⟩
theorem clone8_dr (b0 w:World) (g off n cap:Nat) (bx:List R8) (h:isR8s b0 (some ⟨g,off,none⟩) n cap bx) (hb0:Below b0.heap.size b0 w) (hn:n≤1048576) (hsm:∀ j (h:j<bx.length),bx[j].l.length≤1048576) :
  Calls Tryz.prog 160 #[.slice (some ⟨g,off,none⟩) n cap] w fun e w'=>∃ g' cap' hs,e = .returned (.slice (some ⟨g',0,none⟩) n cap')∧w.heap.size≤g'∧n≤cap'∧dr8 b0 0 g' n bx hs 0 w'∧Below w.heap.size w w':=by
 obtain⟨bs,hm,hs⟩:=rows8 h
 have hlen:n=bs.length:=by rw[h.len,← hm];simp
 obtain⟨i0,hi,hz0,hz1,hz2⟩:=info_parts Tryz.info97
 refine (AnyE.slices_Clone Tryz.laysE160 i0 _ 8 72 hi hz0 hz1 hz2 rfl (by omega) Tryz.sizeOf97 g off n cap (c8 bs) w (by rw[c8_len,hlen]) (by unfold maxLen;omega) (by omega) (fun j u hj=>c8_cell (fun j hj=>(hs j hj).below hb0) j u hj) (c8_one bs)).mono ?_
 rintro e w' ⟨v',rfl,ho,hv,hbw⟩;rcases ownsRow_split ho with⟨e,_⟩|⟨g',cap',rfl,hb,hlt,hcp,hrf,hrg⟩
 ·exact absurd e hv
 ·exact⟨g',cap',_,rfl,hb,hcp,dr8.start (B:=0) bs hm (fun j hj=>(hs j hj).dat) h.len hrf hrg (Nat.le_trans hb0.size hb) hlt (hb0.trans (hbw.mono hb0.size)) hsm,hbw⟩
theorem dr8.at0 {b0 W W':World} {U g n:Nat} {bx:List R8} {hs:Nat→Hd} (h:dr8 b0 U g n bx hs 0 W) (he:W'.heap[g]?=W.heap[g]?) (hb:Below b0.heap.size b0 W'):dr8 b0 U g n bx hs 0 W':=by
 refine⟨h.len,h.row.up he,fun j hj=>rangeAt.up (h.rng j hj) he,h.old,fun j hj hk=>absurd hk (Nat.not_lt_zero _),h.dst,h.lo,?_,hb,h.sm⟩
 have h1:=h.hi
 rw[Array.getElem?_eq_getElem h1] at he
 exact lt_of_some he
end Go.Proofs.YtaamahohdnbpiaaGreat
