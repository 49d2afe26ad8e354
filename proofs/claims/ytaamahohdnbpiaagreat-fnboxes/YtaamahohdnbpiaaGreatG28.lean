import Derived.Test.YtaamahohdnbpiaaGreatG27
import Derived.Test.YtaamahohdnbpiaaGreatG18
import Derived.Test.YtaamahohdnbpiaaGreatG08
import Derived.Test.YtaamahohdnbpiaaGreatMI
namespace Go.Proofs.YtaamahohdnbpiaaGreat
open Go.RowKit
set_option linter.unusedVariables false
abbrev z8:R8:=⟨0,0,0,false,0,false,0,[]⟩
structure bxR (B T g n k:Nat) (bx:List R8) (hs:Nat→Hd) (W:World):Prop where
 len:n=bx.length
 cap:n≤k
 lo:B≤g
 hi:g<T
 row:rowF W g (n*8)
 rng:∀ j (h:j<bx.length),W.rangeAt g (j*8) (x8 (bx[j],hs j))
 dat:∀ j (h:j<bx.length),isBytes W (hs j).1 (hs j).2.1 (hs j).2.2 bx[j].l∧(((hs j).1=none∧(hs j).2.1=0)∨∃ b,(hs j).1=some ⟨b,0,none⟩∧B≤b∧b<T∧b≠g)
theorem isBytes.none0 {W W':World} {a:Option Addr} {n c:Nat} {l:List Nat} (h:isBytes W a n c l) (hn:n=0):isBytes W' a n c l:=⟨h.len,h.cap,h.small,fun hne=>absurd (List.length_pos_iff.2 hne) (by have:=h.len;omega)⟩
theorem bxR.st {B T g n k:Nat} {bx:List R8} {hs:Nat→Hd} {W W':World} (h:bxR B T g n k bx hs W) (he:∀ x,B≤x→x<T→W'.heap[x]?=W.heap[x]?):bxR B T g n k bx hs W':=
 ⟨h.len,h.cap,h.lo,h.hi,h.row.up (he g h.lo h.hi),fun j hj=>rangeAt.up (h.rng j hj) (he g h.lo h.hi),fun j hj=>by
  obtain⟨h1,h2⟩:=h.dat j hj
  refine⟨?_,h2⟩
  rcases h2 with⟨e1,e2⟩|⟨b,e1,e2,e3,_⟩
  ·exact h1.none0 e2
  ·rw[e1] at h1 ⊢
   exact h1.other (he b e2 e3)⟩
theorem x8_at8 {W:World} {g o:Nat} {b:R8} {h:Hd} (hr:W.rangeAt g o (x8 (b,h))) (hd:isBytes W h.1 h.2.1 h.2.2 b.l):at8 W g o b h.1 h.2.1 h.2.2:=
 ⟨hr 0 _ rfl,hr 1 _ rfl,hr 2 _ rfl,hr 3 _ rfl,hr 4 _ rfl,hr 5 _ rfl,hr 6 _ rfl,hr 7 _ rfl,hd⟩
theorem bxR.is {B T g n k:Nat} {bx:List R8} {hs:Nat→Hd} {W:World} (h:bxR B T g n k bx hs W):isR8s W (some ⟨g,0,none⟩) n k bx:=
 ⟨h.len,h.cap,fun _=>⟨g,0,rfl,fun j hj=>⟨_,_,_,by rw[Nat.zero_add];exact x8_at8 (h.rng j hj) (h.dat j hj).1⟩⟩⟩
theorem rowQ8.bxR {B T E g n k:Nat} {bx:List R8} {W:World} (h:rowQ8 B T E g n k bx W):∃ hs,bxR B T g n k bx hs W:=by
 have hi:=h.is
 obtain⟨rs,h2,h3,h4,h5,h6⟩:=h
 have hl:=h2.lt
 obtain⟨g1,c1,e1,q1,q2,q3,q4⟩:=own_slice h2.own (by intro e;cases e)
 rcases ownsRow_split h2.own with⟨e,_⟩|⟨g2,c2,e2,_,_,_,hrf,hrg⟩
 ·cases e
 cases e2
 subst h3;refine⟨fun j=>(rs.map fun p=>((some ⟨p.2.1,0,none⟩,p.1.l.length,p.2.2):Hd)).getD j (none,0,0),⟨hi.len,hi.cap,hl.1,h5,by rw[← h4];exact hrf,fun j hj=>?_,fun j hj=>?_⟩⟩
 ·have hj':j<rs.length:=by simpa using hj
  have e:x8 ((rs.map (·.1))[j],(rs.map fun p=>((some ⟨p.2.1,0,none⟩,p.1.l.length,p.2.2):Hd)).getD j (none,0,0))=rc8.enc rs[j]:=by
   simp[x8,rc8,List.getD,hj']
  rw[e]
  intro t u hu;have ht:t<8:=by have:=(List.getElem?_eq_some_iff.mp hu).1;simpa[rc8] using this
  have:=hrg (j*8+t) u (by rw[flat_at rc8.enc 8 (fun _=>rfl) rs j hj' t ht];exact hu)
  rw[Nat.zero_add] at this
  exact this
 ·have hj':j<rs.length:=by simpa using hj
  have hm:=List.getElem_mem hj'
  obtain⟨d1,d2,d3,d4⟩:=h2.dat rs[j] hm
  simp only[List.getElem_map,List.getD,List.getElem?_map,List.getElem?_eq_getElem hj',Option.map_some,Option.getD_some]
  exact⟨d1,Or.inr ⟨_,rfl,d2,h6 _ hm,d3⟩⟩
theorem bxR.put {B T g n k:Nat} {bx:List R8} {hs:Nat→Hd} {W:World} (h:bxR B T g n k bx hs W) (i:Nat) (hi:i<bx.length) (b:R8) (hd:Hd) (hb:isBytes W hd.1 hd.2.1 hd.2.2 b.l) (hw:(hd.1=none∧hd.2.1=0)∨∃ b,hd.1=some ⟨b,0,none⟩∧B≤b∧b<T∧b≠g):bxR B T g n k (bx.set i b) (fun j=>if j=i then hd else hs j) (setRow W g (i*8) (x8 (b,hd))):=by
 have hln:=h.len
 have oth:∀ x,x≠g→(setRow W g (i*8) (x8 (b,hd))).heap[x]?=W.heap[x]?:=fun x hx=>setRow_block g x hx _ _ _
 have dk:∀ (hd':Hd) (l:List Nat),isBytes W hd'.1 hd'.2.1 hd'.2.2 l→((hd'.1=none∧hd'.2.1=0)∨∃ b,hd'.1=some ⟨b,0,none⟩∧B≤b∧b<T∧b≠g)→isBytes (setRow W g (i*8) (x8 (b,hd))) hd'.1 hd'.2.1 hd'.2.2 l:=by
  intro hd' l h1 h2;rcases h2 with⟨e1,e2⟩|⟨c,e1,e2,e3,e4⟩
  ·exact h1.none0 e2
  ·rw[e1] at h1 ⊢
   exact h1.other (oth c e4)
 refine⟨by rw[List.length_set];exact h.len,h.cap,h.lo,h.hi,h.row.setRow _ _ _ _,fun j hj=>?_,fun j hj=>?_⟩
 ·have hj':j<bx.length:=by simpa using hj
  by_cases e:j=i
  ·subst e;rw[List.getElem_set_self,if_pos rfl]
   intro t u hu;have ht:t<(x8 (b,hd)).length:=(List.getElem?_eq_some_iff.mp hu).1
   have ht8:t<8:=by simpa[x8] using ht
   rw[setRow_at g _ _ _ t ht ((h.row (j*8+t) (by omega)).1)]
   rw[List.getElem?_eq_getElem ht] at hu
   exact hu
  ·rw[List.getElem_set_ne (fun x=>e x.symm),if_neg e]
   intro t u hu;have ht:t<8:=by have:=(List.getElem?_eq_some_iff.mp hu).1;simpa[x8] using this
   rw[setRow_other g _ _ _ _ (by simp[x8];omega)]
   exact h.rng j hj' t u hu
 ·have hj':j<bx.length:=by simpa using hj
  by_cases e:j=i
  ·subst e;rw[List.getElem_set_self,if_pos rfl]
   exact⟨dk hd b.l hb hw,hw⟩
  ·rw[List.getElem_set_ne (fun x=>e x.symm),if_neg e]
   exact⟨dk _ _ (h.dat j hj').1 (h.dat j hj').2,(h.dat j hj').2⟩
theorem bxR.there {B T g n k:Nat} {bx:List R8} {hs:Nat→Hd} {W:World} (h:bxR B T g n k bx hs W) (i:Nat) (hi:i<bx.length):W.there g (i*8) 8:=fun j hj=>by
 obtain⟨⟨v,hv⟩,hf⟩:=h.row (i*8+j) (by have:=h.len;omega)
 exact⟨by rw[hv];rfl,hf⟩
theorem bxR.setX {B T g n k:Nat} {bx:List R8} {hs:Nat→Hd} {W:World} (h:bxR B T g n k bx hs W) (i:Nat) (hi:i<bx.length) (v:Int):bxR B T g n k (bx.set i { bx[i] with x:=v }) hs (W.setCell ⟨g,i*8,none⟩ (.int .i64 v)):=by
 have oth:∀ x,x≠g→(W.setCell ⟨g,i*8,none⟩ (.int .i64 v)).heap[x]?=W.heap[x]?:=fun x hx=>heap_setCell_other W ⟨g,i*8,none⟩ x _ hx
 refine⟨by rw[List.length_set];exact h.len,h.cap,h.lo,h.hi,h.row.setCell _ _,fun j hj=>?_,fun j hj=>?_⟩
 ·have hj':j<bx.length:=by simpa using hj
  have ot:∀ t,j*8+t≠i*8→(W.setCell ⟨g,i*8,none⟩ (.int .i64 v)).cell? ⟨g,j*8+t,none⟩=W.cell? ⟨g,j*8+t,none⟩:=fun t ht=>World.cell?_setCell_other _ _ _ _ (by intro e;simp at e <;> omega)
  intro t u hu;have ht:t<8:=by have:=(List.getElem?_eq_some_iff.mp hu).1;simpa[x8] using this
  by_cases e:j=i
  ·subst e;rw[List.getElem_set_self] at hu
   by_cases et:t=0
   ·subst et;have e0:u = .int .i64 v:=by simpa[x8] using hu.symm
    subst e0;obtain⟨⟨w0,hw0⟩,_⟩:=h.row (j*8) (by have:=h.len;omega)
    exact World.cell?_setCell_same _ _ _ hw0
   ·rw[ot t (by omega)]
    refine h.rng j hj' t u ?_
    rw[← hu]
    match t,ht,et with
    | 1,_,_ | 2,_,_ | 3,_,_ | 4,_,_ | 5,_,_ | 6,_,_ | 7,_,_=>rfl
  ·rw[List.getElem_set_ne (fun x=>e x.symm)] at hu
   rw[ot t (by omega)]
   exact h.rng j hj' t u hu
 ·have hj':j<bx.length:=by simpa using hj
  have e:(bx.set i { bx[i] with x:=v })[j].l=bx[j].l:=by
   by_cases e:j=i
   ·subst e;rw[List.getElem_set_self]
   ·rw[List.getElem_set_ne (fun x=>e x.symm)]
  rw[e]
  obtain⟨h1,h2⟩:=h.dat j hj'
  refine⟨?_,h2⟩
  rcases h2 with⟨e1,e2⟩|⟨b,e1,e2,e3,e4⟩
  ·exact h1.none0 e2
  ·rw[e1] at h1 ⊢
   exact h1.other (oth b e4)
structure spS (B T0 T1 T2:Nat) (H:Ho) (s:Sl) (W:World):Prop where
 f:∃ gf,s.a1=some ⟨gf,0,none⟩∧B≤gf∧gf<T0∧isR3s W (some ⟨gf,0,none⟩) s.n1 s.k1 H.fs
 x:∃ gb hs,s.a2=some ⟨gb,0,none⟩∧bxR T0 T1 gb s.n2 s.k2 H.bx hs W
 r:∃ gq,s.a3=some ⟨gq,0,none⟩∧rowQ5 T1 T2 25 gq s.n3 s.k3 H.ff W
 q:∃ g4,s.a4=some ⟨g4,0,none⟩∧rowQ8 T2 W.heap.size 46 g4 s.n4 s.k4 H.qu W
 o:B≤T0∧T0≤T1∧T1≤T2∧T2≤W.heap.size
theorem spS.is {B T0 T1 T2:Nat} {H:Ho} {s:Sl} {W:World} (h:spS B T0 T1 T2 H s W):isHo W H s:=by
 obtain⟨gf,e1,_,_,h1⟩:=h.f
 obtain⟨gb,hs,e2,h2⟩:=h.x
 obtain⟨gq,e3,h3⟩:=h.r
 obtain⟨g4,e4,h4⟩:=h.q
 exact⟨by rw[e1];exact h1,by rw[e2];exact h2.is,by rw[e3];exact h3.is,by rw[e4];exact h4.is⟩
theorem rowQ8.mono {B T T' E g n k:Nat} {bs:List R8} {W:World} (h:rowQ8 B T E g n k bs W) (hT:T≤T'):rowQ8 B T' E g n k bs W:=by
 obtain⟨rs,h1,h2,h3,h4,h5⟩:=h
 exact⟨rs,h1,h2,h3,by omega,fun p hp=>Nat.lt_of_lt_of_le (h5 p hp) hT⟩
theorem rowQ8.keep {B T E g n k:Nat} {bs:List R8} {W W':World} (h:rowQ8 B T E g n k bs W) (he:∀ x,B≤x→x<T→W'.heap[x]?=W.heap[x]?):rowQ8 B T E g n k bs W':=by
 obtain⟨rs,h1,h2,h3,h4,h5⟩:=h
 refine⟨rs,⟨ownsRow_kept h1.own (he g h1.lt.1 h4),fun p hp=>?_⟩,h2,h3,h4,h5⟩
 obtain⟨d1,d2,d3,d4⟩:=h1.dat p hp
 have e:=he _ d2 (h5 p hp)
 refine⟨d1.other e,d2,d3,?_⟩
 rw[Array.getElem?_eq_getElem d4] at e
 exact lt_of_some e
theorem rowQ5.keep {B T E g n k:Nat} {bs:List R5} {W W':World} (h:rowQ5 B T E g n k bs W) (he:∀ x,B≤x→x<T→W'.heap[x]?=W.heap[x]?):rowQ5 B T E g n k bs W':=by
 obtain⟨rs,h1,h2,h3,h4,h5⟩:=h
 refine⟨rs,⟨ownsRow_kept h1.own (he g h1.lt.1 h4),fun p hp=>?_⟩,h2,h3,h4,h5⟩
 obtain⟨d1,d2,d3,d4⟩:=h1.dat p hp
 have e:=he _ d2 (h5 p hp)
 refine⟨d1.other e,d2,d3,?_⟩
 rw[Array.getElem?_eq_getElem d4] at e
 exact lt_of_some e
theorem spS.st {B T0 T1 T2:Nat} {H:Ho} {s:Sl} {W W':World} (h:spS B T0 T1 T2 H s W) (he:∀ x,B≤x→x<W.heap.size→W'.heap[x]?=W.heap[x]?) (hz:W.heap.size≤W'.heap.size):spS B T0 T1 T2 H s W':=by
 obtain⟨o1,o2,o3,o4⟩:=h.o
 obtain⟨gf,e1,h1a,h1b,h1⟩:=h.f
 obtain⟨gb,hs,e2,h2⟩:=h.x
 obtain⟨gq,e3,h3⟩:=h.r
 obtain⟨g4,e4,h4⟩:=h.q
 exact⟨⟨gf,e1,h1a,h1b,h1.same (he gf h1a (by omega))⟩,⟨gb,hs,e2,h2.st fun x h1 h2=>he x (by omega) (by omega)⟩,⟨gq,e3,h3.keep fun x h1 h2=>he x (by omega) (by omega)⟩,⟨g4,e4,(h4.keep fun x h1 h2=>he x (by omega) h2).mono hz⟩,⟨o1,o2,o3,by omega⟩⟩
theorem spS.below {B T0 T1 T2:Nat} {H:Ho} {s:Sl} {W W':World} (h:spS B T0 T1 T2 H s W) (hb:Below W.heap.size W W'):spS B T0 T1 T2 H s W':=h.st (fun x _ hx=>hb.block x hx) hb.size
theorem spS.post {B T0 T1 T2:Nat} {H:Ho} {s:Sl} {W V:World} {e:R8} {g' n' k':Nat} (h:spS B T0 T1 T2 H s W) (hq:rowQ8 T2 V.heap.size 46 g' n' k' (quP H.c3 H.qu e) V) (he:∀ q,B≤q→q<T2→V.heap[q]?=W.heap[q]?) (hz:W.heap.size≤V.heap.size):spS B T0 T1 T2 (postHo H e) (qSl s g' n' k') V:=by
 obtain⟨o1,o2,o3,o4⟩:=h.o
 obtain⟨gf,e1,h1a,h1b,h1⟩:=h.f
 obtain⟨gb,hs,e2,h2⟩:=h.x
 obtain⟨gq,e3,h3⟩:=h.r
 exact⟨⟨gf,e1,h1a,h1b,h1.same (he gf (by omega) (by omega))⟩,⟨gb,hs,e2,h2.st fun x h1 h2=>he x (by omega) (by omega)⟩,⟨gq,e3,h3.keep fun x h1 h2=>he x (by omega) (by omega)⟩,⟨g',rfl,hq⟩,⟨o1,o2,o3,by omega⟩⟩
theorem spS.box {B T0 T1 T2 gb:Nat} {H:Ho} {s:Sl} {W W':World} {bx:List R8} {hs:Nat→Hd} (h:spS B T0 T1 T2 H s W) (e2:s.a2=some ⟨gb,0,none⟩) (hx:bxR T0 T1 gb s.n2 s.k2 bx hs W') (he:∀ q,q≠gb→W'.heap[q]?=W.heap[q]?) (hz:W'.heap.size=W.heap.size):spS B T0 T1 T2 { H with bx:=bx } s W':=by
 obtain⟨o1,o2,o3,o4⟩:=h.o
 obtain⟨gf,e1,h1a,h1b,h1⟩:=h.f
 obtain⟨gq,e3,h3⟩:=h.r
 obtain⟨g4,e4,h4⟩:=h.q
 have:=hx.lo
 have:=hx.hi
 refine⟨⟨gf,e1,h1a,h1b,h1.same (he gf (by omega))⟩,⟨gb,hs,e2,hx⟩,⟨gq,e3,h3.keep fun x h1 h2=>he x (by omega)⟩,⟨g4,e4,?_⟩,⟨o1,o2,o3,by omega⟩⟩
 rw[hz]
 exact h4.keep fun x h1 h2=>he x (by omega)
def onWb (b:R8):Bool:=b.x == 2 || b.x == 3
def wireIx (bx:List R8):Nat:=bx.findIdx onWb
theorem bsy.ix {bx:List R8} {r:Int} (h:bsy bx r):(r = -1∧¬ wireIx bx<bx.length)∨(r=(wireIx bx:Int)∧wireIx bx<bx.length):=by
 have e:∀ b,onWb b=true↔onW b:=fun b=>by simp[onWb,onW]
 rcases h with⟨k,hk,h1,h2,rfl⟩|⟨h1,rfl⟩
 ·right
  have e:wireIx bx=k:=by
   unfold wireIx
   rw[List.findIdx_eq hk]
   refine⟨(e _).2 h1,fun j hj=>?_⟩
   have:=h2 j (by omega) hj
   rw[← e] at this
   simpa using this
  rw[e]
  exact⟨rfl,hk⟩
 ·left
  refine⟨rfl,?_⟩
  have:wireIx bx=bx.length:=List.findIdx_eq_length.2 fun b hb=>by
   obtain⟨j,hj,rfl⟩:=List.getElem_of_mem hb
   have:=h1 j hj
   rw[← e] at this
   simpa using this
  omega
theorem wireIx_on {bx:List R8} (h:wireIx bx<bx.length):bx[wireIx bx].x=2∨bx[wireIx bx].x=3:=by
 have e:onWb (bx[wireIx bx])=true:=List.findIdx_getElem (xs:=bx) (p:=onWb) (w:=h)
 generalize bx[wireIx bx]=b at *;simpa[onWb] using e
def freeHo (H:Ho) (k:Nat):Ho:={ H with bx:=H.bx.set k z8 }
def stHo (H:Ho) (k:Nat) (v:Int):Ho:=if h:k<H.bx.length then { H with bx:=H.bx.set k { H.bx[k] with x:=v } } else H
def relHo (H:Ho) (sent:Bool):Ho:=
 if h:wireIx H.bx<H.bx.length then
  (if sent=true then postHo (freeHo H (wireIx H.bx)) ⟨1,H.bx[wireIx H.bx].y,0,H.bx[wireIx H.bx].e,H.bx[wireIx H.bx].i,H.bx[wireIx H.bx].r,H.bx[wireIx H.bx].d,H.bx[wireIx H.bx].l⟩
   else if H.bx[wireIx H.bx].x=3 then postHo (freeHo H (wireIx H.bx)) (ev3 6 H.bx[wireIx H.bx].y 0)
   else stHo H (wireIx H.bx) 1)
 else H
theorem relHo_none {H:Ho} {sent:Bool} (h:¬ wireIx H.bx<H.bx.length):relHo H sent=H:=by unfold relHo;rw[dif_neg h]
structure reS (w:World) (L:List Value) (W:World):Prop where
 p:blk W w.heap.size L 35
 r:blk W (w.heap.size+1) Z10 35
theorem reS.new (w:World) (L:List Value):reS w L ((w.alloc (.cells L.toArray 35)).alloc (.cells Z10.toArray 35)):=by
 refine⟨(blk.new w _ 35).alloc _,?_⟩
 have:=blk.new (w.alloc (.cells L.toArray 35)) Z10 35
 simpa using this
theorem reS.below {w:World} {L:List Value} {W W':World} (h:reS w L W) (hb:Below W.heap.size W W'):reS w L W':=⟨h.p.below hb,h.r.below hb⟩
theorem reS.kept {w:World} {L:List Value} {W W':World} (h:reS w L W) (hp:W'.heap[w.heap.size]?=W.heap[w.heap.size]?) (hr:W'.heap[w.heap.size+1]?=W.heap[w.heap.size+1]?):reS w L W':=⟨h.p.kept hp,h.r.kept hr⟩
theorem new_box {w:World} (L:List Value) (hL:L.length=8):blk (World.setCells (w.alloc (.cells [.int .i64 0,.int .i64 0,.int .i64 0,.bool false,.int .u32 0,.bool false,.int .i64 0,.slice none 0 0].toArray 97)) w.heap.size 0 L) w.heap.size L 97∧Below w.heap.size w (World.setCells (w.alloc (.cells [.int .i64 0,.int .i64 0,.int .i64 0,.bool false,.int .u32 0,.bool false,.int .i64 0,.slice none 0 0].toArray 97)) w.heap.size 0 L):=by
 refine⟨?_,setCells_below (Nat.le_refl _) _ _ ((Below.refl _ _).alloc (Nat.le_refl _) _)⟩
 have:=blk.put [] [.int .i64 0,.int .i64 0,.int .i64 0,.bool false,.int .u32 0,.bool false,.int .i64 0,.slice none 0 0] [] L (w:=w.alloc (.cells [.int .i64 0,.int .i64 0,.int .i64 0,.bool false,.int .u32 0,.bool false,.int .i64 0,.slice none 0 0].toArray 97)) (b:=w.heap.size) (T:=97) (blk.new w _ 97) hL.symm
 simpa using this
abbrev Z8:List Value:=[.int .i64 0,.int .i64 0,.int .i64 0,.bool false,.int .u32 0,.bool false,.int .i64 0,.slice none 0 0]
theorem sp_end {B T0 T1 T2 g4:Nat} {w w7 w8:World} {H:Ho} {s:Sl} {ev:R8} {g' n' k':Nat} (hS:spS B T0 T1 T2 H s w7) (hT2:T2≤w.heap.size) (hg4:T2≤g4) (hz:w.heap.size+1<w7.heap.size)
  (hV:∀ V:World,(∀ x,T2≤x→x<w.heap.size∨w7.heap.size≤x→x<w8.heap.size→V.heap[x]?=w8.heap[x]?)→w8.heap.size≤V.heap.size→rowQ8 T2 V.heap.size 46 g' n' k' (quP H.c3 H.qu ev) V)
  (he:∀ q,q≠g4→q<w7.heap.size→w8.heap[q]?=w7.heap[q]?) (hb:w7.heap.size≤w8.heap.size) (L:List Value):spS B T0 T1 T2 (postHo H ev) (qSl s g' n' k') (w8.setCells (w.heap.size+1) 0 L):=by
 have oth:∀ x,x≠w.heap.size+1→(w8.setCells (w.heap.size+1) 0 L).heap[x]?=w8.heap[x]?:=fun x hx=>setCells_other _ x hx _ _ _
 have hsz:(w8.setCells (w.heap.size+1) 0 L).heap.size=w8.heap.size:=setCells_size ..
 have ho:=hS.o
 refine hS.post (hV _ (fun x h1 h2 h3=>oth x (by omega)) (by omega)) (fun q h1 h2=>?_) (by omega)
 rw[oth q (by omega)]
 exact he q (by omega) (by omega)
theorem rowQ8.glt {B T E g n k:Nat} {bs:List R8} {W:World} (h:rowQ8 B T E g n k bs W):B≤g:=by
 obtain⟨rs,h1,_⟩:=h
 exact h1.lt.1
theorem none8 (W:World):isBytes W none 0 0 []:=⟨rfl,Nat.le_refl _,fun q hq=>(by cases hq),fun h=>absurd rfl h⟩
theorem sp_free {B T0 T1 T2 gb:Nat} {w w6 w7:World} {H:Ho} {s:Sl} {k:Nat} {hs:Nat→Hd} (hS:spS B T0 T1 T2 H s w6) (e2:s.a2=some ⟨gb,0,none⟩) (hx:bxR T0 T1 gb s.n2 s.k2 H.bx hs w6) (hk:k<H.bx.length) (e7:w6.setCells gb (k*8) Z8=w7) (hb:Below B w w6):spS B T0 T1 T2 (freeHo H k) s w7∧Below B w w7:=by
 have e:w6.setCells gb (k*8) Z8=setRow w6 gb (k*8) (x8 (z8,(none,0,0))):=setCells_row ..
 have hput:=hx.put k hk z8 (none,0,0) (none8 _) (Or.inl ⟨rfl,rfl⟩)
 rw[← e,e7] at hput
 refine⟨hS.box e2 hput (fun q hq=>?_) ?_,?_⟩
 ·rw[← e7];exact setCells_other _ q hq _ _ _
 ·rw[← e7];exact setCells_size ..
 ·rw[← e7];exact setCells_below (by have:=hx.lo;have:=hS.o;omega) _ _ hb
theorem rowQ8.ghi {B T E g n k:Nat} {bs:List R8} {W:World} (h:rowQ8 B T E g n k bs W):g<T:=by
 obtain⟨rs,h1,_,_,h2,_⟩:=h
 exact h2
theorem sp_free2 {B T0 T1 T2 gb g4:Nat} {w w5 w6 w7:World} {H:Ho} {s:Sl} {k:Nat} {hs:Nat→Hd} {ao:Option Addr} {m c:Nat} {l:List Nat} (h0:spS B T0 T1 T2 H s w) (h5:spS B T0 T1 T2 H s w5) (b5:Below w.heap.size w w5) (b6:Below w5.heap.size w5 w6) (e2:s.a2=some ⟨gb,0,none⟩∧s.a4=some ⟨g4,0,none⟩) (hx:bxR T0 T1 gb s.n2 s.k2 H.bx hs w6) (hk:k<H.bx.length) (e7:w6.setCells gb (k*8) Z8=w7) (hq:rowQ8 T2 w.heap.size 46 g4 s.n4 s.k4 H.qu w) (hd:isBytes w5 ao m c l) (hw:(ao=none∧m=0)∨∃ b,ao=some ⟨b,0,none⟩∧T0≤b∧b<T1∧b≠gb) (hz:w.heap.size<w5.heap.size∧w.heap.size+1<w5.heap.size):spS B T0 T1 T2 (freeHo H k) s w7∧isBytes w7 ao m c l∧Below B w w7∧rowQ8 T2 w.heap.size 46 g4 s.n4 s.k4 H.qu w7∧w.heap.size+1<w7.heap.size∧g4<w.heap.size:=by
 have ho:=h0.o
 have hf:=sp_free (h5.below b6) e2.1 hx hk e7 ((b5.mono (by omega)).trans (b6.mono (by omega)))
 have hxl:=hx.lo
 have hxh:=hx.hi
 have oth:∀ x,x≠gb→w7.heap[x]?=w6.heap[x]?:=fun x hx=>by rw[← e7];exact setCells_other _ x hx _ _ _
 have hs7:w7.heap.size=w6.heap.size:=by rw[← e7];exact setCells_size ..
 have:=b6.size
 refine⟨hf.1,?_,hf.2,hq.keep fun x h1 h2=>(oth x (by omega)).trans ((b6.block x (by omega)).trans (b5.block x h2)),by omega,hq.ghi⟩
 rcases hw with⟨d1,d2⟩|⟨d,d1,d2,d3,d4⟩
 ·exact hd.none0 d2
 ·subst d1;exact hd.other ((oth d d4).trans (b6.block d (by omega)))
theorem stHo_L (H:Ho) (k:Nat) (v:Int) (s:Sl):hoL (stHo H k v) s=hoL H s:=by
 unfold stHo
 split <;> rfl
theorem stHo_yes {H:Ho} {k:Nat} (hk:k<H.bx.length) (v:Int):stHo H k v = { H with bx:=H.bx.set k { H.bx[k] with x:=v } }:=by
 unfold stHo
 rw[dif_pos hk]
theorem sp_state {B T0 T1 T2 gb:Nat} {w w5 w6 w9:World} {H:Ho} {s:Sl} {k:Nat} {hs:Nat→Hd} (h0:spS B T0 T1 T2 H s w) (h5:spS B T0 T1 T2 H s w5) (b5:Below w.heap.size w w5) (b6:Below w5.heap.size w5 w6) (e2:s.a2=some ⟨gb,0,none⟩) (hx:bxR T0 T1 gb s.n2 s.k2 H.bx hs w6) (hk:k<H.bx.length) (v:Int) (hz:w.heap.size<w5.heap.size∧w.heap.size+1<w5.heap.size) {L:List Value} (e9:(w6.setCell ⟨gb,k*8,none⟩ (.int .i64 v)).setCells (w.heap.size+1) 0 L=w9):spS B T0 T1 T2 (stHo H k v) s w9:=by
 have ho:=h0.o
 have hxl:=hx.lo
 have hxh:=hx.hi
 have hz9:w9.heap.size=w6.heap.size:=by rw[← e9,setCells_size];simp
 have hz6:=b6.size
 have o9:∀ x,x≠w.heap.size+1→w9.heap[x]?=(w6.setCell ⟨gb,k*8,none⟩ (.int .i64 v)).heap[x]?:=fun x hx=>by rw[← e9];exact setCells_other _ x hx _ _ _
 have o7:∀ x,x≠gb→(w6.setCell ⟨gb,k*8,none⟩ (.int .i64 v)).heap[x]?=w6.heap[x]?:=fun x hx=>heap_setCell_other w6 ⟨gb,k*8,none⟩ x _ hx
 have k9:∀ x,x≠gb→x<w.heap.size→w9.heap[x]?=w.heap[x]?:=fun x h1 h2=>(o9 x (by omega)).trans ((o7 x h1).trans ((b6.block x (by omega)).trans (b5.block x h2)))
 rw[stHo_yes hk]
 obtain⟨gf,e1,h1a,h1b,h1⟩:=h0.f
 obtain⟨gq,e3,h3⟩:=h0.r
 obtain⟨g4,e4,h4⟩:=h0.q
 refine⟨⟨gf,e1,h1a,h1b,h1.same (k9 gf (by omega) (by omega))⟩,⟨gb,hs,e2,(hx.setX k hk v).st fun x h1 h2=>o9 x (by omega)⟩,⟨gq,e3,h3.keep fun x h1 h2=>k9 x (by omega) (by omega)⟩,⟨g4,e4,?_⟩,⟨ho.1,ho.2.1,ho.2.2.1,by omega⟩⟩
 exact (h4.keep fun x h1 h2=>k9 x (by omega) h2).mono (by omega)
set_option maxHeartbeats 8000000 in
set_option maxRecDepth 20000 in
theorem l3doRelease_any (B T0 T1 T2:Nat) (w:World) (H:Ho) (s:Sl) (sent:Bool) (h:spS B T0 T1 T2 H s w) (hn2:s.n2≤1000) (hn4:s.n4≤1000) (hlo:0≤H.lo∧H.lo≤100000) (hsm:∀ j (h:j<H.bx.length),H.bx[j].l.length≤1048576) :
  Calls Tryz.prog 79 #[.agg (hoL H s).toArray,.bool sent] w fun o w'=>∃ s',o = .returned (.agg (hoL (relHo H sent) s').toArray)∧spS B T0 T1 T2 (relHo H sent) s' w'∧Below B w w':=by
 have H0:Hid (reS w (hoL H s) ((w.alloc (.cells (hoL H s).toArray 35)).alloc (.cells [.int .i64 0,.int .i64 0,.int .i64 0,.int .i64 0,.slice none 0 0,.slice none 0 0,.slice none 0 0,.slice none 0 0,.int .i64 0,.int .i64 0].toArray 35))):=reS.new w _
 have HB0:Hid (Below w.heap.size w ((w.alloc (.cells (hoL H s).toArray 35)).alloc (.cells [.int .i64 0,.int .i64 0,.int .i64 0,.int .i64 0,.slice none 0 0,.slice none 0 0,.slice none 0 0,.slice none 0 0,.int .i64 0,.int .i64 0].toArray 35))):=((Below.refl _ _).alloc (Nat.le_refl _) _).alloc (by simp) _
 have HBS:Hid (∀ W,Below w.heap.size w W→Calls Tryz.prog 142 #[.agg (hoL H s).toArray] W fun o w'=>∃ r:Int,o = .returned (.int .i64 r)∧bsy H.bx r∧Below W.heap.size W w'):=fun W hW=>l3busy_any W H s (h.below hW).is.bx hn2
 have HS0:Hid (spS B T0 T1 T2 H s w):=h
 have HSM:Hid (∀ j (h:j<H.bx.length),H.bx[j].l.length≤1048576):=hsm
 clear h hsm;go_enter Tryz.func79,Tryz.ntmps79
 go_wp2_with (first
  | (refine wpList_load_mid (P:=Tryz.prog) rfl 35 (.tmp 2) rfl w.heap.size 0 rfl (hoL H s) _ H0.out.p.load Tryz.underlying35 rfl (sz41L H s) ?_))
 refine (HBS.out _ HB0.out).mono ?_
 rintro o w5 ⟨r,rfl,hr,hb5⟩;have H5:Hid (reS w (hoL H s) w5):=H0.out.below hb5
 have HB5:Hid (Below w.heap.size w w5):=HB0.out.trans (hb5.mono HB0.out.size)
 have HS5:Hid (spS B T0 T1 T2 H s w5):=HS0.out.below HB5.out
 have hR:=hr.ix
 clear hr hb5 H0 HB0;have HZ0:Hid (B≤w.heap.size):=by have:=HS0.out.o;show _≤_;omega
 rcases hR with⟨rfl,hno⟩|⟨rfl,hk⟩
 ·have HT:Hid (relHo H sent=H):=relHo_none hno
  go_wp2_with (first
  | (refine wpList_load_mid (P:=Tryz.prog) rfl 35 (.tmp 2) rfl w.heap.size 0 rfl (hoL H s) _ H5.out.p.load Tryz.underlying35 rfl (sz41L H s) ?_)
  | (refine wpList_store_mid (P:=Tryz.prog) rfl 35 (.tmp 4) _ rfl (w.heap.size+1) 0 (hoL H s).toArray rfl rfl (H5.out.r.there 0 _ (by rw[List.size_toArray,hoL_len];decide)) (sz41A H s) (hoL_one H s) ?_;generalize hW8:World.setCells _ (w.heap.size+1) 0 _=w8;have HW8:Hid (_=w8):=hW8;clear hW8))
  have e8:=HW8.out
  have hF:blk w8 (w.heap.size+1) (hoL H s) 35:=by
   rw[← e8]
   have:=blk.put [] Z10 [] (hoL H s) (w:=w5) (b:=w.heap.size+1) (T:=35) (by simpa using H5.out.r) (by rw[hoL_len];rfl)
   simpa using this
  have hL:=run_loadVar_mid (P:=Tryz.prog) w8 (w.heap.size+1) 0 35 _ _ hF.load Tryz.underlying35 rfl (sz41L H s)
  refine bodyPost_ret (v:=.agg (hoL H s).toArray) (results_cell Tryz.results79 _ w8 (w.heap.size+1) _ rfl hL) rfl ?_
  rw[HT.out]
  have b8:Below w.heap.size w w8:=by
   rw[← e8]
   exact setCells_below (by omega) 0 _ HB5.out
  exact⟨s,rfl,HS0.out.below b8,b8.mono HZ0.out⟩
 ·obtain⟨gb,hs0,e2,hx⟩:=HS5.out.x
  obtain⟨g4,e4,hq4⟩:=HS5.out.q
  have hw5:(H.bx[wireIx H.bx]'hk).x=2∨(H.bx[wireIx H.bx]'hk).x=3:=wireIx_on hk
  have HRL:Hid (relHo H sent=if sent=true then postHo (freeHo H (wireIx H.bx)) ⟨1,H.bx[wireIx H.bx].y,0,H.bx[wireIx H.bx].e,H.bx[wireIx H.bx].i,H.bx[wireIx H.bx].r,H.bx[wireIx H.bx].d,H.bx[wireIx H.bx].l⟩ else if H.bx[wireIx H.bx].x=3 then postHo (freeHo H (wireIx H.bx)) (ev3 6 H.bx[wireIx H.bx].y 0) else stHo H (wireIx H.bx) 1):=by
   show relHo H sent=_
   unfold relHo
   rw[dif_pos hk]
  generalize wireIx H.bx=k at *;have x5:w5.cell? ⟨w.heap.size,5,none⟩=some (.slice (some ⟨gb,0,none⟩) s.n2 s.k2):=by
   rw[← e2]
   exact H5.out.p.cell 5 _ (by unfold hoL;rfl)
  have hcp:=hx.cap
  have hkn:k<s.n2:=by have:=hx.len;omega
  have HX:Hid (bxR T0 T1 gb s.n2 s.k2 H.bx hs0 w5):=hx
  have HE:Hid (s.a2=some ⟨gb,0,none⟩∧s.a4=some ⟨g4,0,none⟩):=⟨e2,e4⟩
  have HRG:Hid (w5.rangeAt gb (k*8) (x8 (H.bx[k],hs0 k))):=hx.rng k hk
  have HDT:Hid (isBytes w5 (hs0 k).1 (hs0 k).2.1 (hs0 k).2.2 H.bx[k].l):=(hx.dat k hk).1
  have HDW:Hid (((hs0 k).1=none∧(hs0 k).2.1=0)∨∃ b,(hs0 k).1=some ⟨b,0,none⟩∧T0≤b∧b<T1∧b≠gb):=(hx.dat k hk).2
  have HMM:Hid ((hs0 k).2.1≤1048576):=by
   have:=(hx.dat k hk).1.len
   have:=HSM.out k hk
   show _≤_
   omega
  have HGL:Hid (gb<w.heap.size):=by
   obtain⟨gb',hs',e2',hx'⟩:=HS0.out.x
   have:gb'=gb:=by rw[e2] at e2';cases e2';rfl
   subst this;have:=hx'.hi
   have:=HS0.out.o
   show _<_
   omega
  have HQ0:Hid (rowQ8 T2 w.heap.size 46 g4 s.n4 s.k4 H.qu w):=by
   obtain⟨g4',e4',hq'⟩:=HS0.out.q
   have:g4'=g4:=by rw[e4] at e4';cases e4';rfl
   subst this;exact hq'
  clear hx hq4 e2 e4;have HKK:Hid (k<H.bx.length):=hk
  generalize H.bx[k]=bk at *;generalize hs0 k=hk' at *;obtain⟨bX,bY,bZ,bE,bI,bR,bD,bL⟩:=bk
  obtain⟨ao,m,c⟩:=hk'
  simp only[] at HRG HDT HMM HDW HRL hw5
  have HAL:Hid (blk (w5.alloc (.cells [.int .i64 0,.int .i64 0,.int .i64 0,.bool false,.int .u32 0,.bool false,.int .i64 0,.slice none 0 0].toArray 97)) w5.heap.size ([]++[.int .i64 0,.int .i64 0,.int .i64 0,.bool false,.int .u32 0,.bool false,.int .i64 0,.slice none 0 0]++[]) 97):=blk.new w5 _ 97
  have HN6:Hid (blk (World.setCells (w5.alloc (.cells [.int .i64 0,.int .i64 0,.int .i64 0,.bool false,.int .u32 0,.bool false,.int .i64 0,.slice none 0 0].toArray 97)) w5.heap.size 0 [.int .i64 bX,.int .i64 bY,.int .i64 bZ,.bool bE,.int .u32 (bI:Int),.bool bR,.int .i64 bD,.slice ao m c]) w5.heap.size [.int .i64 bX,.int .i64 bY,.int .i64 bZ,.bool bE,.int .u32 (bI:Int),.bool bR,.int .i64 bD,.slice ao m c] 97∧Below w5.heap.size w5 (World.setCells (w5.alloc (.cells [.int .i64 0,.int .i64 0,.int .i64 0,.bool false,.int .u32 0,.bool false,.int .i64 0,.slice none 0 0].toArray 97)) w5.heap.size 0 [.int .i64 bX,.int .i64 bY,.int .i64 bZ,.bool bE,.int .u32 (bI:Int),.bool bR,.int .i64 bD,.slice ao m c])):=new_box _ rfl
  have HPL:Hid (w.heap.size<w5.heap.size∧w.heap.size+1<w5.heap.size):=⟨H5.out.p.lt,H5.out.r.lt⟩
  by_cases hs:sent=true
  ·subst hs;go_wp2_with (first
   | (refine wpList_load_mid (P:=Tryz.prog) rfl 97 _ rfl gb (k*8) rfl [.int .i64 bX,.int .i64 bY,.int .i64 bZ,.bool bE,.int .u32 (bI:Int),.bool bR,.int .i64 bD,.slice ao m c] _ HRG.out Tryz.underlying97 rfl sz95 ?_)
   | (refine wpList_store_mid (P:=Tryz.prog) rfl 97 _ _ rfl w5.heap.size 0 _ rfl rfl (HAL.out.there 0 8 (by simp)) sz95 (one8 _ _ _ _ _ _ _ _ _ _) ?_;generalize hW6:World.setCells (w5.alloc _) w5.heap.size 0 _=w6;have HP6:Hid (blk w6 w5.heap.size [.int .i64 bX,.int .i64 bY,.int .i64 bZ,.bool bE,.int .u32 (bI:Int),.bool bR,.int .i64 bD,.slice ao m c] 97∧Below w5.heap.size w5 w6):=(by rw[← hW6];exact HN6.out);clear hW6 HN6 HAL;have x6:w6.cell? ⟨w.heap.size,5,none⟩=some (.slice (some ⟨gb,0,none⟩) s.n2 s.k2):=(HP6.out.2.cell (by exact HPL.out.1)).trans x5;have HX6:Hid (bxR T0 T1 gb s.n2 s.k2 H.bx hs0 w6):=HX.out.st (fun x _ hx=>HP6.out.2.block x (by have:=HS5.out.o;omega)))
   | (refine wpList_store_mid (P:=Tryz.prog) rfl 97 _ _ rfl gb (k*8) [.int .i64 0,.int .i64 0,.int .i64 0,.bool false,.int .u32 0,.bool false,.int .i64 0,.slice none 0 0].toArray rfl rfl (HX6.out.there k HKK.out) sz95 (one8 _ _ _ _ _ _ _ _ _ _) ?_;generalize hW7:World.setCells w6 gb (k*8) _=w7;have HW7:Hid (_=w7):=hW7;clear hW7;have oth:∀ x,x≠gb→w7.heap[x]?=w6.heap[x]?:=(fun x hx=>by rw[← HW7.out];exact setCells_other _ x hx _ _ _);have HL7:Hid (reS w (hoL H s) w7∧blk w7 w5.heap.size [.int .i64 bX,.int .i64 bY,.int .i64 bZ,.bool bE,.int .u32 (bI:Int),.bool bR,.int .i64 bD,.slice ao m c] 97):=⟨(H5.out.below HP6.out.2).kept (oth _ (by have:=HGL.out;omega)) (oth _ (by have:=HGL.out;omega)),HP6.out.1.kept (oth _ (by have:=HGL.out;have:=HPL.out;omega))⟩;have HS7:Hid (spS B T0 T1 T2 (freeHo H k) s w7∧isBytes w7 ao m c bL∧Below B w w7∧rowQ8 T2 w.heap.size 46 g4 s.n4 s.k4 H.qu w7∧w.heap.size+1<w7.heap.size∧g4<w.heap.size):=sp_free2 HS0.out HS5.out HB5.out HP6.out.2 HE.out HX6.out HKK.out HW7.out HQ0.out HDT.out HDW.out HPL.out;clear oth;have y1:w7.cell? ⟨w5.heap.size,1,none⟩=some (.int .i64 bY):=HL7.out.2.cell 1 _ rfl)
   | (refine wpList_load_mid (P:=Tryz.prog) rfl 35 _ rfl w.heap.size 0 rfl (hoL H s) _ HL7.out.1.p.load Tryz.underlying35 rfl (sz41L H s) ?_)
   | (refine wpList_load_mid (P:=Tryz.prog) rfl 25 _ rfl w5.heap.size 3 rfl [.bool bE,.int .u32 (bI:Int),.bool bR,.int .i64 bD,.slice ao m c] _ (blk.loadAt [.int .i64 bX,.int .i64 bY,.int .i64 bZ] [.bool bE,.int .u32 (bI:Int),.bool bR,.int .i64 bD,.slice ao m c] [] HL7.out.2) Tryz.underlying25 rfl sz93 ?_))
   refine (l3post_q w7 (freeHo H k) s T2 w.heap.size g4 ⟨1,bY,0,bE,bI,bR,bD,bL⟩ ao m c HE.out.2 HS7.out.2.2.2.1 HS7.out.1.o.2.2.2 hn4 hlo HS7.out.2.1 HMM.out).mono ?_
   rintro o w8 ⟨g',n',k',rfl,hV,ho8,hb8⟩;have HR8:Hid (blk w8 (w.heap.size+1) Z10 35):=HL7.out.1.r.kept (ho8 _ (by have:=HS7.out.2.2.2.2.2;omega) HS7.out.2.2.2.2.1)
   have HE8:Hid (∀ L:List Value,spS B T0 T1 T2 (postHo (freeHo H k) ⟨1,bY,0,bE,bI,bR,bD,bL⟩) (qSl s g' n' k') (w8.setCells (w.heap.size+1) 0 L)):=fun L=>sp_end HS7.out.1 HS0.out.o.2.2.2 HS7.out.2.2.2.1.glt HS7.out.2.2.2.2.1 hV ho8 hb8.size L
   have HB8:Hid (Below B w w8):=HS7.out.2.2.1.trans (hb8.mono (by have:=HS0.out.o;omega))
   clear hV ho8 hb8;go_wp2_with (first
    | (refine wpList_store_mid (P:=Tryz.prog) rfl 35 (.tmp 4) _ rfl (w.heap.size+1) 0 (hoL (postHo (freeHo H k) ⟨1,bY,0,bE,bI,bR,bD,bL⟩) (qSl s g' n' k')).toArray rfl rfl (HR8.out.there 0 _ (by rw[List.size_toArray,hoL_len];decide)) (sz41A _ _) (hoL_one _ _) ?_;generalize hW9:World.setCells _ (w.heap.size+1) 0 _=w9;have HW9:Hid (_=w9):=hW9;clear hW9))
   have e9:=HW9.out
   have hF:blk w9 (w.heap.size+1) (hoL (postHo (freeHo H k) ⟨1,bY,0,bE,bI,bR,bD,bL⟩) (qSl s g' n' k')) 35:=by
    rw[← e9]
    have:=blk.put [] Z10 [] (hoL (postHo (freeHo H k) ⟨1,bY,0,bE,bI,bR,bD,bL⟩) (qSl s g' n' k')) (w:=w8) (b:=w.heap.size+1) (T:=35) (by simpa using HR8.out) (by rw[hoL_len];rfl)
    simpa using this
   have hL:=run_loadVar_mid (P:=Tryz.prog) w9 (w.heap.size+1) 0 35 _ _ hF.load Tryz.underlying35 rfl (sz41L _ _)
   refine bodyPost_ret (v:=.agg (hoL (postHo (freeHo H k) ⟨1,bY,0,bE,bI,bR,bD,bL⟩) (qSl s g' n' k')).toArray) (results_cell Tryz.results79 _ w9 (w.heap.size+1) _ rfl hL) rfl ?_
   have hrl:relHo H true=postHo (freeHo H k) ⟨1,bY,0,bE,bI,bR,bD,bL⟩:=by simpa using HRL.out
   rw[hrl]
   refine⟨_,rfl,?_,?_⟩
   ·rw[← e9];exact HE8.out _
   ·rw[← e9];exact setCells_below (by have:=HZ0.out;omega) 0 _ HB8.out
  ·have hs':sent=false:=by simpa using hs
   subst hs';rcases hw5 with e0|e0
   ·subst e0;have H7:Hid (∀ {w6:World},Below w5.heap.size w5 w6→reS w (hoL H s) (w6.setCell ⟨gb,k*8,none⟩ (.int .i64 1))):=fun {w6} hb=>⟨(H5.out.below hb).p.setOther (by have:=HGL.out;omega) _ _,(H5.out.below hb).r.setOther (by have:=HGL.out;omega) _ _⟩
    go_wp2_with (first
    | (refine wpList_load_mid (P:=Tryz.prog) rfl 97 _ rfl gb (k*8) rfl [.int .i64 2,.int .i64 bY,.int .i64 bZ,.bool bE,.int .u32 (bI:Int),.bool bR,.int .i64 bD,.slice ao m c] _ HRG.out Tryz.underlying97 rfl sz95 ?_)
    | (refine wpList_store_mid (P:=Tryz.prog) rfl 97 _ _ rfl w5.heap.size 0 _ rfl rfl (HAL.out.there 0 8 (by simp)) sz95 (one8 _ _ _ _ _ _ _ _ _ _) ?_;generalize hW6:World.setCells (w5.alloc _) w5.heap.size 0 _=w6;have HP6:Hid (blk w6 w5.heap.size [.int .i64 2,.int .i64 bY,.int .i64 bZ,.bool bE,.int .u32 (bI:Int),.bool bR,.int .i64 bD,.slice ao m c] 97∧Below w5.heap.size w5 w6):=(by rw[← hW6];exact HN6.out);clear hW6 HN6 HAL;have y60:w6.cell? ⟨w5.heap.size,0,none⟩=some (.int .i64 2):=HP6.out.1.cell 0 _ rfl;have z60:w6.cell? ⟨gb,k*8,none⟩=some (.int .i64 2):=(HP6.out.2.cell (by exact Nat.lt_trans HGL.out HPL.out.1)).trans (HRG.out 0 _ rfl);have f60:w6.frozen? ⟨gb,k*8,none⟩=false:=(by rw[World.frozen?_of_block (HP6.out.2.block gb (Nat.lt_trans HGL.out HPL.out.1))];exact (HX.out.row (k*8) (by omega)).2);have x6:w6.cell? ⟨w.heap.size,5,none⟩=some (.slice (some ⟨gb,0,none⟩) s.n2 s.k2):=(HP6.out.2.cell (by exact HPL.out.1)).trans x5;have HX6:Hid (bxR T0 T1 gb s.n2 s.k2 H.bx hs0 w6):=HX.out.st (fun x _ hx=>HP6.out.2.block x (by have:=HS5.out.o;omega)))
    | (refine wpList_load_mid (P:=Tryz.prog) rfl 35 _ rfl w.heap.size 0 rfl (hoL H s) _ (H7.out HP6.out.2).p.load Tryz.underlying35 rfl (sz41L H s) ?_)
    | (refine wpList_store_mid (P:=Tryz.prog) rfl 35 (.tmp 4) _ rfl (w.heap.size+1) 0 (hoL H s).toArray rfl rfl ((H7.out HP6.out.2).r.there 0 _ (by rw[List.size_toArray,hoL_len];decide)) (sz41A H s) (hoL_one H s) ?_;generalize hW9:World.setCells _ (w.heap.size+1) 0 _=w9;have HW9:Hid (_=w9):=hW9;clear hW9))
    have e9:=HW9.out
    have hF:blk w9 (w.heap.size+1) (hoL H s) 35:=by
     rw[← e9]
     have:=blk.put [] Z10 [] (hoL H s) (w:=w6.setCell ⟨gb,k*8,none⟩ (.int .i64 1)) (b:=w.heap.size+1) (T:=35) (by simpa using (H7.out HP6.out.2).r) (by rw[hoL_len];rfl)
     simpa using this
    have hL:=run_loadVar_mid (P:=Tryz.prog) w9 (w.heap.size+1) 0 35 _ _ hF.load Tryz.underlying35 rfl (sz41L _ _)
    refine bodyPost_ret (v:=.agg (hoL H s).toArray) (results_cell Tryz.results79 _ w9 (w.heap.size+1) _ rfl hL) rfl ?_
    have hrl:relHo H false=stHo H k 1:=by simpa using HRL.out
    rw[hrl]
    refine⟨s,by rw[stHo_L],?_,?_⟩
    ·exact sp_state HS0.out HS5.out HB5.out HP6.out.2 HE.out.1 HX6.out HKK.out 1 HPL.out e9
    ·rw[← e9];exact setCells_below (by have:=HZ0.out;omega) 0 _ (((HB5.out.mono HZ0.out).trans (HP6.out.2.mono (Nat.le_trans HZ0.out HB5.out.size))).setCell (by have h1:=HX6.out.lo;have h2:=HS0.out.o;show B≤gb;omega) _)
   ·subst e0;go_wp2_with (first
    | (refine wpList_load_mid (P:=Tryz.prog) rfl 97 _ rfl gb (k*8) rfl [.int .i64 3,.int .i64 bY,.int .i64 bZ,.bool bE,.int .u32 (bI:Int),.bool bR,.int .i64 bD,.slice ao m c] _ HRG.out Tryz.underlying97 rfl sz95 ?_)
    | (refine wpList_store_mid (P:=Tryz.prog) rfl 97 _ _ rfl w5.heap.size 0 _ rfl rfl (HAL.out.there 0 8 (by simp)) sz95 (one8 _ _ _ _ _ _ _ _ _ _) ?_;generalize hW6:World.setCells (w5.alloc _) w5.heap.size 0 _=w6;have HP6:Hid (blk w6 w5.heap.size [.int .i64 3,.int .i64 bY,.int .i64 bZ,.bool bE,.int .u32 (bI:Int),.bool bR,.int .i64 bD,.slice ao m c] 97∧Below w5.heap.size w5 w6):=(by rw[← hW6];exact HN6.out);clear hW6 HN6 HAL;have y60:w6.cell? ⟨w5.heap.size,0,none⟩=some (.int .i64 3):=HP6.out.1.cell 0 _ rfl;have x6:w6.cell? ⟨w.heap.size,5,none⟩=some (.slice (some ⟨gb,0,none⟩) s.n2 s.k2):=(HP6.out.2.cell (by exact HPL.out.1)).trans x5;have HX6:Hid (bxR T0 T1 gb s.n2 s.k2 H.bx hs0 w6):=HX.out.st (fun x _ hx=>HP6.out.2.block x (by have:=HS5.out.o;omega)))
    | (refine wpList_store_mid (P:=Tryz.prog) rfl 97 _ _ rfl gb (k*8) [.int .i64 0,.int .i64 0,.int .i64 0,.bool false,.int .u32 0,.bool false,.int .i64 0,.slice none 0 0].toArray rfl rfl (HX6.out.there k HKK.out) sz95 (one8 _ _ _ _ _ _ _ _ _ _) ?_;generalize hW7:World.setCells w6 gb (k*8) _=w7;have HW7:Hid (_=w7):=hW7;clear hW7;have oth:∀ x,x≠gb→w7.heap[x]?=w6.heap[x]?:=(fun x hx=>by rw[← HW7.out];exact setCells_other _ x hx _ _ _);have HL7:Hid (reS w (hoL H s) w7∧blk w7 w5.heap.size [.int .i64 3,.int .i64 bY,.int .i64 bZ,.bool bE,.int .u32 (bI:Int),.bool bR,.int .i64 bD,.slice ao m c] 97):=⟨(H5.out.below HP6.out.2).kept (oth _ (by have:=HGL.out;omega)) (oth _ (by have:=HGL.out;omega)),HP6.out.1.kept (oth _ (by have:=HGL.out;have:=HPL.out;omega))⟩;have HS7:Hid (spS B T0 T1 T2 (freeHo H k) s w7∧isBytes w7 ao m c bL∧Below B w w7∧rowQ8 T2 w.heap.size 46 g4 s.n4 s.k4 H.qu w7∧w.heap.size+1<w7.heap.size∧g4<w.heap.size):=sp_free2 HS0.out HS5.out HB5.out HP6.out.2 HE.out HX6.out HKK.out HW7.out HQ0.out HDT.out HDW.out HPL.out;clear oth;have y1:w7.cell? ⟨w5.heap.size,1,none⟩=some (.int .i64 bY):=HL7.out.2.cell 1 _ rfl)
    | (refine wpList_load_mid (P:=Tryz.prog) rfl 35 _ rfl w.heap.size 0 rfl (hoL H s) _ HL7.out.1.p.load Tryz.underlying35 rfl (sz41L H s) ?_)
    | (refine wpList_load_mid (P:=Tryz.prog) rfl 25 _ rfl w5.heap.size 3 rfl [.bool bE,.int .u32 (bI:Int),.bool bR,.int .i64 bD,.slice ao m c] _ (blk.loadAt [.int .i64 3,.int .i64 bY,.int .i64 bZ] [.bool bE,.int .u32 (bI:Int),.bool bR,.int .i64 bD,.slice ao m c] [] HL7.out.2) Tryz.underlying25 rfl sz93 ?_))
    refine (l3say_q w7 (freeHo H k) s T2 w.heap.size g4 6 bY 0 HE.out.2 HS7.out.2.2.2.1 HS7.out.1.o.2.2.2 hn4 hlo).mono ?_
    rintro o w8 ⟨g',n',k',rfl,hV,ho8,hb8⟩;have HR8:Hid (blk w8 (w.heap.size+1) Z10 35):=HL7.out.1.r.kept (ho8 _ (by have:=HS7.out.2.2.2.2.2;omega) HS7.out.2.2.2.2.1)
    have HE8:Hid (∀ L:List Value,spS B T0 T1 T2 (postHo (freeHo H k) (ev3 6 bY 0)) (qSl s g' n' k') (w8.setCells (w.heap.size+1) 0 L)):=fun L=>sp_end HS7.out.1 HS0.out.o.2.2.2 HS7.out.2.2.2.1.glt HS7.out.2.2.2.2.1 hV ho8 hb8.size L
    have HB8:Hid (Below B w w8):=HS7.out.2.2.1.trans (hb8.mono (by have:=HS0.out.o;omega))
    clear hV ho8 hb8;go_wp2_with (first
     | (refine wpList_store_mid (P:=Tryz.prog) rfl 35 (.tmp 4) _ rfl (w.heap.size+1) 0 (hoL (postHo (freeHo H k) (ev3 6 bY 0)) (qSl s g' n' k')).toArray rfl rfl (HR8.out.there 0 _ (by rw[List.size_toArray,hoL_len];decide)) (sz41A _ _) (hoL_one _ _) ?_;generalize hW9:World.setCells _ (w.heap.size+1) 0 _=w9;have HW9:Hid (_=w9):=hW9;clear hW9))
    have e9:=HW9.out
    have hF:blk w9 (w.heap.size+1) (hoL (postHo (freeHo H k) (ev3 6 bY 0)) (qSl s g' n' k')) 35:=by
     rw[← e9]
     have:=blk.put [] Z10 [] (hoL (postHo (freeHo H k) (ev3 6 bY 0)) (qSl s g' n' k')) (w:=w8) (b:=w.heap.size+1) (T:=35) (by simpa using HR8.out) (by rw[hoL_len];rfl)
     simpa using this
    have hL:=run_loadVar_mid (P:=Tryz.prog) w9 (w.heap.size+1) 0 35 _ _ hF.load Tryz.underlying35 rfl (sz41L _ _)
    refine bodyPost_ret (v:=.agg (hoL (postHo (freeHo H k) (ev3 6 bY 0)) (qSl s g' n' k')).toArray) (results_cell Tryz.results79 _ w9 (w.heap.size+1) _ rfl hL) rfl ?_
    have hrl:relHo H false=postHo (freeHo H k) (ev3 6 bY 0):=by simpa using HRL.out
    rw[hrl]
    refine⟨_,rfl,?_,?_⟩
    ·rw[← e9];exact HE8.out _
    ·rw[← e9];exact setCells_below (by have:=HZ0.out;omega) 0 _ HB8.out
set_option maxHeartbeats 4000000 in
set_option maxRecDepth 20000 in
theorem indexBox_any (w:World) (a:Option Addr) (n cap:Nat) (bs:List R8) (h:isR8s w a n cap bs) (hn:n≤1048576) :
  Calls Tryz.prog 164 #[.slice a n cap,.func (.func 167) #[] #[]] w fun o w'=>∃ z:Int,o = .returned (.int .i64 z)∧bsy bs z∧Below w.heap.size w w':=by
 have hlen:=h.len
 have hcp:=h.cap
 by_cases hl:bs=[]
 ·subst hl;have hn0:n=0:=hlen
  subst hn0;clear hlen h;go_enter Tryz.func164,Tryz.ntmps164
  go_wp2
  go_loopw [8] (fun i wr=>i = .int .i64 0∧wr=w) (fun _ _=>0)
  case atStart=>exact⟨rfl,rfl⟩
  case round=>
   obtain⟨rfl,rfl⟩:=hrel
   go_wp2
   go_ret;exact⟨-1,rfl,Or.inr ⟨fun k hk=>(by cases hk),rfl⟩,Below.refl _ _⟩
 ·obtain⟨g,off,rfl,hc⟩:=h.cells hl
  have HL:Hid (n=bs.length):=hlen
  have HC:Hid (∀ j (h:j<bs.length),∃ ao m c,at8 w g (off+j*8) bs[j] ao m c):=hc
  clear h hlen hc;go_enter Tryz.func164,Tryz.ntmps164
  go_wp2
  go_loopw [8] (fun i wr=>∃ k:Nat,k≤n∧i = .int .i64 (k:Int)∧(∀ j (hj:j<bs.length),j<k→¬ onW bs[j])∧Below w.heap.size w wr) (fun i _=>n-(intOf i).toNat)
  case atStart=>exact⟨0,Nat.zero_le _,rfl,fun j hj h=>absurd h (Nat.not_lt_zero _),Below.refl _ _⟩
  case round=>
   obtain⟨k,hk,rfl,hdone,hb⟩:=hrel
   by_cases hlt:k<n
   ·have hkl:k<bs.length:=by have:=HL.out;omega
    obtain⟨ao,m,c,hx⟩:=HC.out k hkl
    have hx':=hx.below hb
    have HRG:=hx'.range
    have HW:Hid (Calls Tryz.prog 167 #[bxV bs[k].x bs[k].y bs[k].z bs[k].e bs[k].i bs[k].r bs[k].d ao m c] wr fun o w'=>o = .returned (.bool (bs[k].x == 2 || bs[k].x == 3))∧Below wr.heap.size wr w'):=isOnWire_any wr bs[k] ao m c
    have HB:Hid (Below w.heap.size w wr):=hb
    have HD:Hid (∀ j (hj:j<bs.length),j<k→¬ onW bs[j]):=hdone
    clear hx hx' hb hdone;have HON:Hid ((bs[k].x == 2 || bs[k].x == 3)=true↔onW bs[k]):=by show _↔_;unfold onW;simp
    generalize (bs[k].x == 2 || bs[k].x == 3)=q at *;have HRG:Hid (wr.rangeAt g (off+k*8) [.int .i64 bs[k].x,.int .i64 bs[k].y,.int .i64 bs[k].z,.bool bs[k].e,.int .u32 (bs[k].i:Int),.bool bs[k].r,.int .i64 bs[k].d,.slice ao m c]):=HRG
    cases q
    ·have HN:Hid (∀ j (hj:j<bs.length),j<k+1→¬ onW bs[j]):=fun j hj hjk=>by
      by_cases e:j=k
      ·subst e;exact fun h=>absurd (HON.out.2 h) (by simp)
      ·exact HD.out j hj (by omega)
     clear HON;generalize bs[k].x=x0 at *;generalize bs[k].y=y0 at *;generalize bs[k].z=z0 at *;generalize bs[k].e=e0 at *;generalize bs[k].i=i0 at *;generalize bs[k].r=r0 at *;generalize bs[k].d=d0 at *;go_wp2_with (first
      | (refine wpList_load_mid (P:=Tryz.prog) rfl 97 _ rfl g (off+k*8) rfl _ _ HRG.out Tryz.underlying97 rfl sz95 ?_)
      | (go_at_call 167;refine HW.out.mono ?_;rintro o w5 ⟨rfl,hb5⟩))
     go_roundw
     case rel=>exact⟨k+1,by omega,by go_num,HN.out,HB.out.trans (hb5.mono HB.out.size)⟩
     case measure=>simp[intOf];omega
    ·have HN:Hid (bsy bs (k:Int)):=Or.inl ⟨k,hkl,HON.out.1 rfl,HD.out,rfl⟩
     clear HON;generalize bs[k].x=x0 at *;generalize bs[k].y=y0 at *;generalize bs[k].z=z0 at *;generalize bs[k].e=e0 at *;generalize bs[k].i=i0 at *;generalize bs[k].r=r0 at *;generalize bs[k].d=d0 at *;go_wp2_with (first
      | (refine wpList_load_mid (P:=Tryz.prog) rfl 97 _ rfl g (off+k*8) rfl _ _ HRG.out Tryz.underlying97 rfl sz95 ?_)
      | (go_at_call 167;refine HW.out.mono ?_;rintro o w5 ⟨rfl,hb5⟩))
     go_ret;exact⟨k,rfl,HN.out,HB.out.trans (hb5.mono HB.out.size)⟩
   ·have hkn:n=k:=by omega
    subst hkn;go_wp2
    go_ret;exact⟨-1,rfl,Or.inr ⟨fun j hj=>hdone j hj (by have:=HL.out;omega),rfl⟩,hb⟩
set_option maxHeartbeats 2000000 in
theorem onWire_any (w:World) (P:Nat) (a:Option Addr) (n cap:Nat) (bx:List R8) (y5:w.cell? ⟨P,5,none⟩=some (.slice a n cap)) (h:isR8s w a n cap bx) (hn:n≤1048576) :
  Calls Tryz.prog 131 #[.pointer (some ⟨P,0,none⟩)] w fun o w'=>∃ z:Int,o = .returned (.int .i64 z)∧bsy bx z∧Below w.heap.size w w':=by
 have HI:Hid (Calls Tryz.prog 164 #[.slice a n cap,.func (.func 167) #[] #[]] w fun o w'=>∃ z:Int,o = .returned (.int .i64 z)∧bsy bx z∧Below w.heap.size w w'):=indexBox_any w a n cap bx h hn
 clear h;go_enter Tryz.func131,Tryz.ntmps131
 go_wp2_with (first | (go_at_call 164;refine HI.out.mono ?_;rintro o w5 ⟨z,rfl,hz,hb5⟩;have HZ:Hid (bsy bx z∧Below w.heap.size w w5):=⟨hz,hb5⟩;clear hz hb5))
 go_ret;exact⟨z,rfl,HZ.out.1,HZ.out.2⟩
def sendQ (W:World) (gb:Nat) (bx:List R8) (i:Int) (w':World):Prop:=∃ W1,Below W.heap.size W W1∧((w'=W1∧takeB bx i=bx)∨∃ (k:Nat) (hk:k<bx.length),w'=W1.setCell ⟨gb,k*8,none⟩ (.int .i64 2)∧takeB bx i=bx.set k { bx[k] with x:=2 }∧bx[k].x=1)
set_option maxHeartbeats 8000000 in
set_option maxRecDepth 20000 in
theorem send_any (W:World) (P gb n kb:Nat) (bx:List R8) (i:Int) (y5:W.cell? ⟨P,5,none⟩=some (.slice (some ⟨gb,0,none⟩) n kb)) (h:isR8s W (some ⟨gb,0,none⟩) n kb bx) (hrf:rowF W gb (n*8)) (hn:n≤8) :
  Calls Tryz.prog 66 #[.pointer (some ⟨P,0,none⟩),.int .i64 i] W fun o w'=>o = .returned (.tuple #[])∧sendQ W gb bx i w':=by
 have hln:=h.len
 have hcp:=h.cap
 by_cases hi:0≤i∧i≤(n:Int)-1
 ·obtain⟨k,rfl⟩ : ∃ k:Nat,i=(k:Int):=⟨i.toNat,by omega⟩
  have hk:k<bx.length:=by omega
  have hkn:k<n:=by omega
  have HIR:Hid (∀ X,Calls Tryz.prog 115 #[.int .i64 (k:Int),.int .i64 0,.int .i64 ((n:Int)-1)] X fun o w'=>o = .returned (.bool true)∧w'=X):=fun X=>(inRange_any X _ _ _).mono (by rintro o w' ⟨rfl,rfl⟩;exact⟨by simp;omega,rfl⟩)
  obtain⟨ao,m,c,q⟩ : ∃ ao m c,at8 W gb (k*8) bx[k] ao m c:=by
   obtain⟨g',off,e,hc⟩:=h.cells (by intro e;rw[e] at hk;cases hk)
   cases e
   have:=hc k hk
   rw[Nat.zero_add] at this
   exact this
  have y0:=q.c0
  have HOW:Hid (Calls Tryz.prog 131 #[.pointer (some ⟨P,0,none⟩)] W fun o w'=>∃ z:Int,o = .returned (.int .i64 z)∧bsy bx z∧Below W.heap.size W w'):=onWire_any W P _ n kb bx y5 h (by omega)
  have HRF:Hid (rowF W gb (n*8)):=hrf
  have HP:Hid (P<W.heap.size∧gb<W.heap.size):=⟨World.block_lt_of_cell? W _ y5,World.block_lt_of_cell? W _ y0⟩
  clear h hrf q hi hln;by_cases hx:bx[k].x=1
  ·rw[hx] at y0
   have HX:Hid (bx[k].x=1):=hx
   clear hx;go_enter Tryz.func66,Tryz.ntmps66
   go_wp2_with (first | (go_at_call 115;refine (HIR.out _).mono ?_;rintro o w1 ⟨rfl,rfl⟩))
   refine HOW.out.mono ?_
   rintro o w5 ⟨z,rfl,hz,hb5⟩;have y5':=(hb5.cell (p:=⟨P,5,none⟩) (by exact HP.out.1)).trans y5
   have y0':=(hb5.cell (p:=⟨gb,k*8,none⟩) (by exact HP.out.2)).trans y0
   have f0:w5.frozen? ⟨gb,k*8,none⟩=false:=by
    rw[World.frozen?_of_block (hb5.block gb HP.out.2)]
    exact (HRF.out (k*8) (by omega)).2
   have HB5:Hid (Below w1.heap.size w1 w5):=hb5
   have HZ:Hid (bsy bx z):=hz
   clear hz hb5 y5 y0;by_cases hz0:z<0
   ·have HT:Hid (takeB bx (k:Int)=bx.set k { bx[k] with x:=2 }):=takeB_yes hk HX.out HZ.out hz0
    go_wp2_with fail;first | go_end0 | (simp only[Exit.inBlock,Exit.then];refine bodyPost_ret (results_none rfl _ _ _) rfl ?_) | refine bodyPost_ret (results_none rfl _ _ _) rfl ?_
    exact⟨rfl,w5,HB5.out,Or.inr ⟨k,hk,rfl,HT.out,HX.out⟩⟩
   ·have HT:Hid (takeB bx (k:Int)=bx):=takeB_busy HZ.out (by omega)
    go_wp2_with fail;first | go_end0 | (simp only[Exit.inBlock,Exit.then];refine bodyPost_ret (results_none rfl _ _ _) rfl ?_) | refine bodyPost_ret (results_none rfl _ _ _) rfl ?_
    exact⟨rfl,w5,HB5.out,Or.inl ⟨rfl,HT.out⟩⟩
  ·have hx':(bx[k].x == 1)=false:=by simpa using hx
   have HT:Hid (takeB bx (k:Int)=bx):=takeB_no hk hx
   generalize bx[k].x=x at *;go_enter Tryz.func66,Tryz.ntmps66
   go_wp2_with (first | (go_at_call 115;refine (HIR.out _).mono ?_;rintro o w1 ⟨rfl,rfl⟩))
   first | go_end0 | (simp only[Exit.inBlock,Exit.then];refine bodyPost_ret (results_none rfl _ _ _) rfl ?_) | refine bodyPost_ret (results_none rfl _ _ _) rfl ?_
   exact⟨rfl,w1,Below.refl _ _,Or.inl ⟨rfl,HT.out⟩⟩
 ·have HIR:Hid (∀ X,Calls Tryz.prog 115 #[.int .i64 i,.int .i64 0,.int .i64 ((n:Int)-1)] X fun o w'=>o = .returned (.bool false)∧w'=X):=fun X=>(inRange_any X _ _ _).mono (by rintro o w' ⟨rfl,rfl⟩;exact⟨by simp;omega,rfl⟩)
  have HT:Hid (takeB bx i=bx):=takeB_out (by omega)
  clear h hrf hi hcp hln;go_enter Tryz.func66,Tryz.ntmps66
  go_wp2_with (first | (go_at_call 115;refine (HIR.out _).mono ?_;rintro o w1 ⟨rfl,rfl⟩))
  first | go_end0 | (simp only[Exit.inBlock,Exit.then];refine bodyPost_ret (results_none rfl _ _ _) rfl ?_) | refine bodyPost_ret (results_none rfl _ _ _) rfl ?_
  exact⟨rfl,w1,Below.refl _ _,Or.inl ⟨rfl,HT.out⟩⟩
theorem ring5.base {w0 w W:World} {g room first:Nat} {L:List R5} (h:ring5 w0 W g room first L) (hb:Below w0.heap.size w0 w):ring5 w W g room first L:=fun i hi=>by
 obtain⟨ao,m,c,h1,h2⟩:=h i hi
 exact⟨ao,m,c,h1,h2.below hb⟩
theorem ring8.base {w0 w W:World} {g room first:Nat} {L:List R8} (h:ring8 w0 W g room first L) (hb:Below w0.heap.size w0 w):ring8 w W g room first L:=fun i hi=>by
 obtain⟨ao,m,c,h1,h2⟩:=h i hi
 exact⟨ao,m,c,h1,h2.below hb⟩
def toldQ (w:World) (H:Ho) (e:Ending) (w':World):Prop:=∃ s:Wh,e = .returned (.agg (hoL H s.sl).toArray)∧St w.heap.size w' (fun W=>isHo W H s.sl)∧whS w.heap.size w'.heap.size w' s∧whD s∧whE s∧Below w.heap.size w w'
set_option maxHeartbeats 1000000 in
theorem sent_told {w:World} {P mb:Nat} {c0 c2:Int} {r1 r3:Nat} {fs:List R3} {bx:List R8} {ff:List R5} {qu:List R8} {lo st:Int} {gf n1 kf gb n2 kb gr n3 gq n4:Nat} {hs:Nat→Hd} {W w2:World} {i:Int}
  (h:lvS Unit w P mb [.int .i64 c0,.int .i64 (r1:Int),.int .i64 c2,.int .i64 (r3:Int),.slice (some ⟨gf,0,none⟩) n1 kf,.slice (some ⟨gb,0,none⟩) n2 kb,.map (some mb),.slice (some ⟨gr,0,none⟩) r1 r1,.int .i64 0,.int .i64 (n3:Int),.slice (some ⟨gq,0,none⟩) r3 r3,.int .i64 0,.int .i64 (n4:Int),.int .i64 lo,.int .i64 st] gf n1 kf fs gb n2 kb bx hs gr r1 ff gq r3 qu n2 W)
  (hsq:sendQ W gb bx i w2) (m1:n1≤1000) (m2:n2≤8) (e3:n3=ff.length) (e4:n4=qu.length) (b1:1≤r1∧r1≤1000∧n3≤r1) (b3:1≤r3∧r3≤1000∧n4≤r3)
  (s2:∀ j (h:j<bx.length),bx[j].l.length≤1048576) (s3:∀ j (h:j<ff.length),ff[j].l.length≤1048576) (s4:∀ j (h:j<qu.length),qu[j].l.length≤1048576) :
  Below w.heap.size w w2∧Calls Tryz.prog 118 #[.pointer (some ⟨P,0,none⟩)] w2 (toldQ w2 ⟨c0,(r1:Int),c2,(r3:Int),fs,takeB bx i,ff,qu,lo,st⟩):=by
 obtain⟨W1,hb1,hc⟩:=hsq
 have h1:=h.below hb1
 have hgw:w.heap.size≤gb:=by have:=h.lo;have:=h.d.1;omega
 have key:Below w.heap.size w w2∧(∀ x,x≠gb→w2.heap[x]?=W1.heap[x]?)∧isR8s w2 (some ⟨gb,0,none⟩) n2 kb (takeB bx i):=by
  have hx:=(h1.x.k W1 rfl h1.b).1.is (h1.x.k W1 rfl h1.b).2
  rcases hc with⟨rfl,e⟩|⟨k,hk,rfl,e,ex⟩
  ·rw[e]
   exact⟨h1.b,fun _ _=>rfl,hx⟩
  ·rw[e]
   exact⟨h1.b.setCell (by exact hgw) _,fun x hx=>heap_setCell_other W1 ⟨gb,k*8,none⟩ x _ hx,hx.setX k hk 2⟩
 obtain⟨kb2,koth,kbx⟩:=key
 refine⟨kb2,told_any w2 P mb c0 c2 r1 r3 fs (takeB bx i) ff qu lo st gf n1 kf gb n2 kb gr 0 n3 gq 0 n4 ?_ ?_ kbx ?_ ?_ e3 e4 m1 (by omega) ⟨by omega,b1.2.1,b1.2.2⟩ ⟨by omega,b3.2.1,b3.2.2⟩ (fun j hj=>?_) s3 s4⟩
 ·exact h1.p.kept (koth P (fun e=>h1.x.n1 e.symm))
 ·exact h1.f.k w2 (koth gf (by have:=h.d.1;omega)) kb2
 ·exact (h1.r.k w2 (koth gr (by have:=h.d.2.1;omega)) kb2).1.base kb2
 ·exact (h1.q.k w2 (koth gq (by have:=h.d;omega)) kb2).1.base kb2
 ·have hj':j<bx.length:=by rw[takeB_len] at hj;exact hj
  rw[takeB_l bx i j hj hj']
  exact s2 j hj'
set_option maxHeartbeats 1000000 in
theorem lit65 (W:World) (P Bx gb n kb:Nat) (bx:List R8) (i:Int) (yb:W.cell? ⟨Bx,0,none⟩=some (.int .i64 i)) (y5:W.cell? ⟨P,5,none⟩=some (.slice (some ⟨gb,0,none⟩) n kb)) (h:isR8s W (some ⟨gb,0,none⟩) n kb bx) (hrf:rowF W gb (n*8)) (hn:n≤8) :
  Calls Tryz.prog 65 #[.pointer (some ⟨P,0,none⟩),.pointer (some ⟨Bx,0,none⟩)] W fun o w'=>o = .returned (.tuple #[])∧sendQ W gb bx i w':=by
 have HS:Hid (Calls Tryz.prog 66 #[.pointer (some ⟨P,0,none⟩),.int .i64 i] W fun o w'=>o = .returned (.tuple #[])∧sendQ W gb bx i w'):=send_any W P gb n kb bx i y5 h hrf hn
 clear h hrf y5;go_enter Tryz.func65,Tryz.ntmps65
 go_wp2_with (first | (go_at_call 66;refine HS.out.mono ?_;rintro o w5 ⟨rfl,hq⟩;have HQ:Hid (sendQ W gb bx i w5):=hq;clear hq))
 first | go_end0 | (simp only[Exit.inBlock,Exit.then];refine bodyPost_ret (results_none rfl _ _ _) rfl ?_) | refine bodyPost_ret (results_none rfl _ _ _) rfl ?_
 exact⟨rfl,HQ.out⟩
set_option maxHeartbeats 1000000 in
theorem open_take (w:World) (H:Ho) (s:Sl) (Bx:Nat) (i:Int) (h:isHo w H s) (hs:slSome s) (hok:okHo H) (hm:H.le 1048576) (yb:w.cell? ⟨Bx,0,none⟩=some (.int .i64 i)) :
  Calls Tryz.prog 61 #[.agg (hoL H s).toArray] w fun o w'=>∃ P,o = .returned (.pointer (some ⟨P,0,none⟩))∧Below w.heap.size w w'∧Calls Tryz.prog 65 #[.pointer (some ⟨P,0,none⟩),.pointer (some ⟨Bx,0,none⟩)] w' fun o w2=>o = .returned (.tuple #[])∧Below w.heap.size w w2∧Calls Tryz.prog 118 #[.pointer (some ⟨P,0,none⟩)] w2 (toldQ w2 (takeHo H i)):=by
 obtain⟨c0,c1,c2,c3,fs,bx,ff,qu,lo,st⟩:=H
 obtain⟨a1,n1,k1,a2,n2,k2,a3,n3,k3,a4,n4,k4⟩:=s
 obtain⟨⟨g1,e1⟩,⟨g2,e2⟩⟩:=hs
 simp only[] at e1 e2
 subst e1 e2;have hcf:=of_decide_eq_true hok.cf
 have hnf:=hok.nf
 have hnq:=hok.nq
 have l1:=h.fs.len
 have l2:=h.bx.len
 have l3:=h.ff.len
 have l4:=h.qu.len
 have hf16:fs.length≤16:=by
  have:=hok.fs
  unfold okFs at this
  simp at this
  exact this.1
 have hm2:=hm.bd
 have hm3:=hm.fd
 have hm4:=hm.qd
 have hm1:=hm.fs
 simp only[] at hcf hnf hnq l1 l2 l3 l4 hm1 hm2 hm3 hm4
 have hn2:=hok.n2
 simp only[] at hn2
 obtain⟨r1,hr1⟩ : ∃ r1:Nat,c1=(r1:Int):=⟨c1.toNat,by omega⟩
 obtain⟨r3,hr3⟩ : ∃ r3:Nat,c3=(r3:Int):=⟨c3.toNat,by omega⟩
 subst hr1 hr3;refine (openHost_any Unit w c0 c2 r1 r3 fs bx ff qu lo st g1 n1 k1 g2 0 n2 k2 a3 n3 k3 a4 n4 k4 h.fs h.bx h.ff h.qu (by omega) (by omega) (by omega) (by omega) hok.bx hm2).mono ?_
 rintro o w' ⟨P,mb,gf,kf,gb,kb,hs',gr,gq,rfl,hl⟩;refine⟨P,rfl,hl.b,(lit65 w' P Bx gb n2 kb bx i ((hl.b.cell (by exact World.block_lt_of_cell? w _ yb)).trans yb) (hl.p.cell 5 _ rfl) ((hl.x.k w' rfl hl.b).1.is (hl.x.k w' rfl hl.b).2) (hl.x.k w' rfl hl.b).1.row (by omega)).mono ?_⟩
 rintro o w2 ⟨rfl,hq⟩;have:=sent_told hl hq (by omega) (by omega) l3 l4 (by omega) (by omega) hm2 hm3 hm4
 exact⟨rfl,this.1,this.2⟩
end Go.Proofs.YtaamahohdnbpiaaGreat
