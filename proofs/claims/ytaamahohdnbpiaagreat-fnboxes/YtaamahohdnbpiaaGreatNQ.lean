import Derived.Test.YtaamahohdnbpiaaGreatG20
import Derived.Test.YtaamahohdnbpiaaGreatG28
import Derived.Maps.OwnSet
namespace Go.Proofs.YtaamahohdnbpiaaGreat
open Go.RowKit
set_option linter.unusedVariables false
structure Lg where
 P:Nat
 mb:Nat
 r1:Nat
 r3:Nat
 gf:Nat
 n1:Nat
 kf:Nat
 gb:Nat
 n2:Nat
 kb:Nat
 gr:Nat
 gq:Nat
abbrev lhL (G:Lg) (H:Ho) (f1 f3:Nat):List Value:=liL H.c0 G.r1 H.c2 G.r3 G.gf G.n1 G.kf G.gb G.n2 G.kb G.mb G.gr f1 H.ff.length G.gq f3 H.qu.length H.lo H.st
structure lhB (G:Lg) (H:Ho) (f1 f3:Nat):Prop where
 e1:H.c1=(G.r1:Int)
 e3:H.c3=(G.r3:Int)
 m1:G.n1≤1000
 m2:G.n2≤8
 nk:G.n2≤G.kb
 b1:f1<G.r1∧G.r1≤1000∧H.ff.length≤G.r1
 b3:f3<G.r3∧G.r3≤1000∧H.qu.length≤G.r3
 lo:0≤H.lo∧H.lo≤100000
 s3:∀ j (h:j<H.ff.length),H.ff[j].l.length≤1048576
 s4:∀ j (h:j<H.qu.length),H.qu[j].l.length≤1048576
structure lhD (w0:World) (G:Lg):Prop where
 p:G.gf≠G.P∧G.gb≠G.P∧G.gr≠G.P∧G.gq≠G.P∧G.mb≠G.P
 m:G.gf≠G.mb∧G.gb≠G.mb∧G.gr≠G.mb∧G.gq≠G.mb
 g:G.gf<G.gb∧G.gb<G.gr∧G.gr<G.gq
 lo:w0.heap.size≤G.gf∧w0.heap.size≤G.P∧w0.heap.size≤G.mb
structure lh (w0:World) (G:Lg) (H:Ho) (f1 f3:Nat) (hs:Nat→Hd) (nm:Nat) (D:DataW Unit) (W:World):Prop where
 p:blk W G.P (lhL G H f1 f3) 134
 f:isR3s W (some ⟨G.gf,0,none⟩) G.n1 G.kf H.fs
 x:dr8 w0 0 G.gb G.n2 H.bx hs 0 W
 r:ring5 w0 W G.gr G.r1 f1 H.ff
 rz:rowZ W G.gr (G.r1*5)
 q:ring8 w0 W G.gq G.r3 f3 H.qu
 qz:rowZ W G.gq (G.r3*8)
 m:W.ownsMap (H:=Unit) Tryz.prog 3 (plainElem Tryz.prog 3) G.mb nm D
 b:Below w0.heap.size w0 W
 hi:G.gf<W.heap.size∧G.gr<W.heap.size∧G.gq<W.heap.size
 d:lhD w0 G
 bd:lhB G H f1 f3
theorem lh.below {w0:World} {G:Lg} {H:Ho} {f1 f3:Nat} {hs:Nat→Hd} {nm:Nat} {D:DataW Unit} {W W':World} (h:lh w0 G H f1 f3 hs nm D W) (hb:Below W.heap.size W W'):lh w0 G H f1 f3 hs nm D W':=
 ⟨h.p.below hb,h.f.below hb,h.x.below hb,h.r.keep (hb.block _ h.hi.2.1),h.rz.below hb h.hi.2.1,h.q.keep (hb.block _ h.hi.2.2),h.qz.below hb h.hi.2.2,h.m.kept (row:=none) ⟨hb.os,hb.tape,hb.output,hb.size,fun k hk _=>hb.block k hk⟩ (by simp),h.b.trans (hb.mono h.b.size),⟨Nat.lt_of_lt_of_le h.hi.1 hb.size,Nat.lt_of_lt_of_le h.hi.2.1 hb.size,Nat.lt_of_lt_of_le h.hi.2.2 hb.size⟩,h.d,h.bd⟩
theorem lh.told {w0:World} {G:Lg} {H:Ho} {f1 f3:Nat} {hs:Nat→Hd} {nm:Nat} {D:DataW Unit} {W:World} (h:lh w0 G H f1 f3 hs nm D W):Calls Tryz.prog 118 #[.pointer (some ⟨G.P,0,none⟩)] W (toldQ W H):=by
 obtain⟨c0,c1,c2,c3,fs,bx,ff,qu,lo,st⟩:=H
 have e1:=h.bd.e1
 have e3:=h.bd.e3
 simp only[] at e1 e3
 subst e1 e3;have h2:=h.bd.m2
 exact told_any W G.P G.mb c0 c2 G.r1 G.r3 fs bx ff qu lo st G.gf G.n1 G.kf G.gb G.n2 G.kb G.gr f1 ff.length G.gq f3 qu.length h.p h.f (h.x.is h.bd.nk) (h.r.base h.b) (h.q.base h.b) rfl rfl h.bd.m1 (by omega) h.bd.b1 h.bd.b3 h.x.sm h.bd.s3 h.bd.s4
theorem lh.box {w0:World} {G:Lg} {H:Ho} {f1 f3:Nat} {hs hs':Nat→Hd} {nm:Nat} {D:DataW Unit} {W W':World} {bx:List R8} (h:lh w0 G H f1 f3 hs nm D W) (hx:dr8 w0 0 G.gb G.n2 bx hs' 0 W') (he:∀ q,q≠G.gb→W'.heap[q]?=W.heap[q]?) (hz:W'.heap.size=W.heap.size):lh w0 G { H with bx:=bx } f1 f3 hs' nm D W':=by
 have dp:=h.d.p
 have dm:=h.d.m
 have dg:=h.d.g
 refine⟨h.p.kept (he _ (by omega)),h.f.same (he _ (by omega)),hx,h.r.keep (he _ (by omega)),h.rz.up (he _ (by omega)),h.q.keep (he _ (by omega)),h.qz.up (he _ (by omega)),?_,hx.bel,by rw[hz];exact h.hi,h.d,⟨h.bd.e1,h.bd.e3,h.bd.m1,h.bd.m2,h.bd.nk,h.bd.b1,h.bd.b3,h.bd.lo,h.bd.s3,h.bd.s4⟩⟩
 obtain⟨es,clock,q1,q2⟩:=h.m
 exact⟨es,clock,(he _ (by omega)).trans q1,q2⟩
theorem dr8.put {b0 W:World} {g n:Nat} {bx:List R8} {hs:Nat→Hd} (h:dr8 b0 0 g n bx hs 0 W) (i:Nat) (hi:i<bx.length) (b:R8) (hd:Hd) (hb:isBytes b0 hd.1 hd.2.1 hd.2.2 b.l) (hl:b.l.length≤1048576):dr8 b0 0 g n (bx.set i b) (fun j=>if j=i then hd else hs j) 0 (setRow W g (i*8) (x8 (b,hd))):=by
 have hln:=h.len
 have hlo:=h.lo
 refine⟨by rw[List.length_set];exact h.len,h.row.setRow _ _ _ _,fun j hj=>?_,fun j hj _=>?_,fun j hj hk=>absurd hk (Nat.not_lt_zero _),fun i j _ hj=>absurd hj (Nat.not_lt_zero _),h.lo,?_,?_,fun j hj=>?_⟩
 ·have hj':j<bx.length:=by simpa using hj
  by_cases e:j=i
  ·subst e;rw[List.getElem_set_self,if_pos rfl]
   intro t u hu;have ht:t<(x8 (b,hd)).length:=(List.getElem?_eq_some_iff.mp hu).1
   have ht8:t<8:=by simpa[x8] using ht
   rw[setRow_at g _ _ _ t ht ((h.row (j*8+t) (by omega)).1)]
   rw[List.getElem?_eq_getElem ht] at hu
   exact hu
  ·rw[List.getElem_set_ne (fun x=>e x.symm),if_neg e]
   intro t u hu;have ht:t<8:=by have:=(List.getElem?_eq_some_iff.mp hu).1;simpa[x8] using this
   rw[setRow_other g _ _ _ _ (by simp[x8];omega)]
   exact h.rng j hj' t u hu
 ·have hj':j<bx.length:=by simpa using hj
  by_cases e:j=i
  ·subst e;rw[List.getElem_set_self,if_pos rfl]
   exact hb
  ·rw[List.getElem_set_ne (fun x=>e x.symm),if_neg e]
   exact h.old j hj' (Nat.zero_le _)
 ·rw[← setCells_row,setCells_size]
  exact h.hi
 ·rw[← setCells_row]
  exact setCells_below h.lo _ _ h.bel
 ·have hj':j<bx.length:=by simpa using hj
  by_cases e:j=i
  ·subst e;rw[List.getElem_set_self]
   exact hl
  ·rw[List.getElem_set_ne (fun x=>e x.symm)]
   exact h.sm j hj'
theorem dr8.setX {b0 W:World} {g n:Nat} {bx:List R8} {hs:Nat→Hd} (h:dr8 b0 0 g n bx hs 0 W) (i:Nat) (hi:i<bx.length) (v:Int):dr8 b0 0 g n (bx.set i { bx[i] with x:=v }) hs 0 (W.setCell ⟨g,i*8,none⟩ (.int .i64 v)):=by
 have hln:=h.len
 have el:∀ j (hj:j<(bx.set i { bx[i] with x:=v }).length) (hj':j<bx.length),(bx.set i { bx[i] with x:=v })[j].l=bx[j].l:=by
  intro j hj hj';by_cases e:j=i
  ·subst e;rw[List.getElem_set_self]
  ·rw[List.getElem_set_ne (fun x=>e x.symm)]
 refine⟨by rw[List.length_set];exact h.len,h.row.setCell _ _,fun j hj=>?_,fun j hj _=>?_,fun j hj hk=>absurd hk (Nat.not_lt_zero _),fun i j _ hj=>absurd hj (Nat.not_lt_zero _),h.lo,?_,h.bel.setCell (by exact h.lo) _,fun j hj=>?_⟩
 ·have hj':j<bx.length:=by simpa using hj
  have ot:∀ t,j*8+t≠i*8→(W.setCell ⟨g,i*8,none⟩ (.int .i64 v)).cell? ⟨g,j*8+t,none⟩=W.cell? ⟨g,j*8+t,none⟩:=fun t ht=>World.cell?_setCell_other _ _ _ _ (by intro e;simp at e <;> omega)
  intro t u hu;have ht:t<8:=by have:=(List.getElem?_eq_some_iff.mp hu).1;simpa[x8] using this
  by_cases e:j=i
  ·subst e;rw[List.getElem_set_self] at hu
   by_cases et:t=0
   ·subst et;have e0:u = .int .i64 v:=by simpa[x8] using hu.symm
    subst e0;obtain⟨⟨w0,hw0⟩,_⟩:=h.row (j*8) (by omega)
    exact World.cell?_setCell_same _ _ _ hw0
   ·rw[ot t (by omega)]
    refine h.rng j hj' t u ?_
    rw[← hu]
    match t,ht,et with
    | 1,_,_ | 2,_,_ | 3,_,_ | 4,_,_ | 5,_,_ | 6,_,_ | 7,_,_=>rfl
  ·rw[List.getElem_set_ne (fun x=>e x.symm)] at hu
   rw[ot t (by omega)]
   exact h.rng j hj' t u hu
 ·have hj':j<bx.length:=by simpa using hj
  rw[el j hj hj']
  exact h.old j hj' (Nat.zero_le _)
 ·exact Nat.lt_of_lt_of_le h.hi ((Below.refl 0 W).setCell (Nat.zero_le _) _).size
 ·have hj':j<bx.length:=by simpa using hj
  rw[el j hj hj']
  exact h.sm j hj'
theorem lh.state {w0:World} {G:Lg} {H:Ho} {f1 f3:Nat} {hs:Nat→Hd} {nm:Nat} {D:DataW Unit} {W:World} (h:lh w0 G H f1 f3 hs nm D W) (i:Nat) (hi:i<H.bx.length) (v:Int):lh w0 G (stHo H i v) f1 f3 hs nm D (W.setCell ⟨G.gb,i*8,none⟩ (.int .i64 v)):=by
 unfold stHo
 rw[dif_pos hi]
 exact h.box (h.x.setX i hi v) (fun q hq=>heap_setCell_other W ⟨G.gb,i*8,none⟩ q _ hq) (by simp)
theorem lh.free {w0:World} {G:Lg} {H:Ho} {f1 f3:Nat} {hs:Nat→Hd} {nm:Nat} {D:DataW Unit} {W:World} (h:lh w0 G H f1 f3 hs nm D W) (i:Nat) (hi:i<H.bx.length):lh w0 G (freeHo H i) f1 f3 (fun j=>if j=i then (none,0,0) else hs j) nm D (W.setCells G.gb (i*8) Z8):=by
 have e:W.setCells G.gb (i*8) Z8=setRow W G.gb (i*8) (x8 (z8,(none,0,0))):=setCells_row ..
 have hx:=h.x.put i hi z8 (none,0,0) (none8 _) (Nat.zero_le _)
 rw[← e] at hx
 exact h.box hx (fun q hq=>setCells_other _ q hq _ _ _) (setCells_size ..)
theorem lh.tags {w0:World} {G:Lg} {H:Ho} {f1 f3:Nat} {hs:Nat→Hd} {nm nm':Nat} {D D':DataW Unit} {W W':World} (h:lh w0 G H f1 f3 hs nm D W) (hg:W.grownBy W' (some G.mb)) (hm:W'.ownsMap (H:=Unit) Tryz.prog 3 (plainElem Tryz.prog 3) G.mb nm' D'):lh w0 G H f1 f3 hs nm' D' W':=by
 have dp:=h.d.p
 have dm:=h.d.m
 have dg:=h.d.g
 have he:∀ q,q≠G.mb→q<W.heap.size→W'.heap[q]?=W.heap[q]?:=fun q hq hl=>hg.block q hl (by simpa using hq)
 have hb':Below w0.heap.size w0 W':=h.b.grown hg h.b.size (fun k hk=>by cases hk;exact h.d.lo.2.2)
 have hz:=hg.size
 exact⟨h.p.kept (he _ (by omega) h.p.lt),h.f.same (he _ (by omega) h.hi.1),h.x.at0 (he _ (by omega) h.x.hi) hb',h.r.keep (he _ (by omega) h.hi.2.1),h.rz.up (he _ (by omega) h.hi.2.1),h.q.keep (he _ (by omega) h.hi.2.2),h.qz.up (he _ (by omega) h.hi.2.2),hm,hb',⟨by have:=h.hi;omega,by have:=h.hi;omega,by have:=h.hi;omega⟩,h.d,h.bd⟩
theorem quP_take {r3:Nat} {qu:List R8} {e:R8} {t:Nat} (ht:t=min (r3-qu.length) 1) (hl:qu.length≤r3):qu++[e].take t=quP (r3:Int) qu e:=by
 unfold quP
 by_cases h:(qu.length:Int)<(r3:Int)
 ·have e1:t=1:=by omega
  rw[if_pos h,e1]
  rfl
 ·have e1:t=0:=by omega
  rw[if_neg h,e1]
  simp
theorem loP_take {r3:Nat} {qu:List R8} {lo:Int} {t:Nat} (ht:t=min (r3-qu.length) 1) (hl:qu.length≤r3) (h0:0≤lo∧lo≤100000):min (lo+(1-(t:Int))) 100000=loP (r3:Int) qu lo:=by
 unfold loP
 by_cases h:(qu.length:Int)<(r3:Int)
 ·have e1:t=1:=by omega
  rw[if_pos h,e1]
  omega
 ·have e1:t=0:=by omega
  rw[if_neg h,e1]
  split <;> omega
theorem quP_len {r3:Nat} {qu:List R8} {e:R8} {t:Nat} (ht:t=min (r3-qu.length) 1) (hl:qu.length≤r3):(quP (r3:Int) qu e).length=qu.length+t:=by
 rw[← quP_take ht hl]
 by_cases h:t=0
 ·subst h;simp
 ·have e1:t=1:=by omega
  subst e1;simp
theorem quP_small {c:Int} {qu:List R8} {e:R8} (h:∀ j (h:j<qu.length),qu[j].l.length≤1048576) (he:e.l.length≤1048576):∀ j (h:j<(quP c qu e).length),(quP c qu e)[j].l.length≤1048576:=by
 unfold quP
 split
 ·intro j hj;by_cases hj':j<qu.length
  ·rw[List.getElem_append_left hj']
   exact h j hj'
  ·rw[List.getElem_append_right (by omega)]
   simpa using he
 ·exact h
theorem lh.post {w0:World} {G:Lg} {H:Ho} {f1 f3:Nat} {hs:Nat→Hd} {nm:Nat} {D:DataW Unit} {W:World} (h:lh w0 G H f1 f3 hs nm D W) (ev:R8) (ao:Option Addr) (m c:Nat) (hby:isBytes w0 ao m c ev.l) (hl:ev.l.length≤1048576) :
  Calls Tryz.prog 120 #[.pointer (some ⟨G.P,0,none⟩),.agg #[.int .i64 ev.x,.int .i64 ev.y,.int .i64 ev.z,.bool ev.e,.int .u32 (ev.i:Int),.bool ev.r,.int .i64 ev.d,.slice ao m c]] W fun o w'=>o = .returned (.tuple #[])∧lh w0 G (postHo H ev) f1 f3 hs nm D w'∧(∀ b,b≠G.P→b≠G.gq→b<W.heap.size→w'.heap[b]?=W.heap[b]?)∧W.heap.size≤w'.heap.size:=by
 have dp:=h.d.p
 have dm:=h.d.m
 have dg:=h.d.g
 have dl:=h.d.lo
 have hb3:=h.bd.b3
 refine (post_any H.c0 H.c2 G.r1 G.gf G.n1 G.kf G.gb G.n2 G.kb G.mb G.gr f1 H.ff.length H.lo H.st w0 W G.P G.gq G.r3 f3 H.qu ev.x ev.y ev.z ev.e ev.i ev.r ev.d ao m c ev.l h.p (by omega) h.qz h.hi.2.2 h.q hb3.1 hb3.2.2 hb3.2.1 hby h.bd.lo.1 h.bd.lo.2 _ rfl).mono ?_
 rintro o w' ⟨rfl,hq⟩;have hb':Below w0.heap.size w0 w':=by
  refine⟨hq.o.1.trans h.b.os,hq.o.2.1.trans h.b.tape,hq.o.2.2.trans h.b.output,Nat.le_trans h.b.size hq.s,fun b hb=>?_⟩
  rw[hq.k b (by omega) (by omega) (Nat.lt_of_lt_of_le hb h.b.size)]
  exact h.b.block b hb
 have he:∀ q,q≠G.P→q≠G.gq→q<W.heap.size→w'.heap[q]?=W.heap[q]?:=hq.k
 have hz:=hq.s
 have hi:=h.hi
 refine⟨rfl,⟨?_,h.f.same (he _ (by omega) (by omega) hi.1),h.x.at0 (he _ (by omega) (by omega) h.x.hi) hb',h.r.keep (he _ (by omega) (by omega) hi.2.1),h.rz.up (he _ (by omega) (by omega) hi.2.1),?_,hq.z,?_,hb',⟨by omega,by omega,by omega⟩,h.d,⟨h.bd.e1,h.bd.e3,h.bd.m1,h.bd.m2,h.bd.nk,h.bd.b1,⟨hb3.1,hb3.2.1,?_⟩,?_,h.bd.s3,?_⟩⟩,he,hz⟩
 ·have:=hq.p
  rw[loP_take rfl hb3.2.2 h.bd.lo,← h.bd.e3] at this
  have e2:H.qu.length+min (G.r3-H.qu.length) 1=(postHo H ev).qu.length:=by
   show _=(quP H.c3 H.qu ev).length
   rw[h.bd.e3,quP_len rfl hb3.2.2]
  rw[e2] at this
  exact this
 ·show ring8 w0 w' G.gq G.r3 f3 (quP H.c3 H.qu ev)
  rw[h.bd.e3,← quP_take rfl hb3.2.2]
  exact hq.r
 ·obtain⟨es,clock,q1,q2⟩:=h.m
  exact⟨es,clock,(he _ (by omega) (by omega) h.m.lt).trans q1,q2⟩
 ·show (quP H.c3 H.qu ev).length≤_
  rw[h.bd.e3,quP_len rfl hb3.2.2]
  omega
 ·show 0≤loP H.c3 H.qu H.lo∧loP H.c3 H.qu H.lo≤100000
  have:=h.bd.lo
  unfold loP
  split
  ·exact this
  ·split <;> omega
 ·exact quP_small h.bd.s4 hl
end Go.Proofs.YtaamahohdnbpiaaGreat
