import Derived.Test.YtkfcfigbgmbaiaaGreatK21
import Derived.Maps.OwnSet
import Derived.Test.YtkfcfigbgmbaiaaGreatK25
import Derived.Deep.RegionHeld3
namespace Go.Proofs.YtkfcfigbgmbaiaaGreat
open Go.RowKit
set_option linter.unusedVariables false
open Go.Value renaming int→I,slice→sL,bool→bO,pointer→pT,agg→aG
open Go.IntKind renaming i64→J
open Go.Ending renaming returned→rT
open Go.Proofs.Tryz renaming prog→Tp
variable {hs:Nat→Hd} {W w0 W' b0:World} {H:Ho} {f1 f3 nm r3 t g n:Nat} {D:DataW Unit} {qu bx:List R8} {e:R8}
structure Lg where
 P:Nat
 mb:Nat
 r1:Nat
 r3:Nat
 gf:Nat
 n1:Nat
 kf:Nat
 gb:Nat
 n2:Nat
 kb:Nat
 gr:Nat
 gq:Nat
abbrev lhL (G:Lg) (H:Ho) (f1 f3:Nat):List Value:=liL H.c0 G.r1 H.c2 G.r3 G.gf G.n1 G.kf G.gb G.n2 G.kb G.mb G.gr f1 H.ff.length G.gq f3 H.qu.length H.lo H.st
structure lhB (G:Lg) (H:Ho) (f1 f3:Nat):Prop where
 e1:H.c1=(G.r1:Int)
 e3:H.c3=(G.r3:Int)
 m1:G.n1≤1000
 m2:G.n2≤8
 nk:G.n2≤G.kb
 b1:f1<G.r1∧G.r1≤1000∧H.ff.length≤G.r1
 b3:f3<G.r3∧G.r3≤1000∧H.qu.length≤G.r3
 lo:0≤H.lo∧H.lo≤100000
 s3:∀ j (h:j<H.ff.length),H.ff[j].l.length≤1048576
 s4:∀ j (h:j<H.qu.length),H.qu[j].l.length≤1048576
structure lhD (w0:World) (G:Lg):Prop where
 p:G.gf≠G.P∧G.gb≠G.P∧G.gr≠G.P∧G.gq≠G.P∧G.mb≠G.P
 m:G.gf≠G.mb∧G.gb≠G.mb∧G.gr≠G.mb∧G.gq≠G.mb
 g:G.gf<G.gb∧G.gb<G.gr∧G.gr<G.gq
 lo:w0.heap.size≤G.gf∧w0.heap.size≤G.P∧w0.heap.size≤G.mb
structure lh (w0:World) (G:Lg) (H:Ho) (f1 f3:Nat) (hs:Nat→Hd) (nm:Nat) (D:DataW Unit) (W:World):Prop where
 p:blk W G.P (lhL G H f1 f3) 157
 f:isR3s W (some ⟨G.gf,0,none⟩) G.n1 G.kf H.fs
 x:dr8 w0 0 G.gb G.n2 H.bx hs 0 W
 r:ring5 w0 W G.gr G.r1 f1 H.ff
 rz:rowZ W G.gr (G.r1*5)
 q:ring8 w0 W G.gq G.r3 f3 H.qu
 qz:rowZ W G.gq (G.r3*8)
 m:W.ownsMap (H:=Unit) Tp 3 (plainElem Tp 3) G.mb nm D
 b:Below w0.heap.size w0 W
 hi:G.gf<W.heap.size∧G.gr<W.heap.size∧G.gq<W.heap.size
 d:lhD w0 G
 bd:lhB G H f1 f3
theorem lh.below {G:Lg} (h:lh w0 G H f1 f3 hs nm D W) (hb:Below W.heap.size W W'):lh w0 G H f1 f3 hs nm D W':=
 ⟨h.p.below hb,h.f.below hb,h.x.below hb,h.r.keep (hb.block _ h.hi.2.1),h.rz.below hb h.hi.2.1,h.q.keep (hb.block _ h.hi.2.2),h.qz.below hb h.hi.2.2,h.m.kept (row:=none) ⟨hb.os,hb.tape,hb.output,hb.size,fun k hk _=>hb.block k hk⟩ (by simp),h.b.trans (hb.mono h.b.size),⟨nL h.hi.1 hb.size,nL h.hi.2.1 hb.size,nL h.hi.2.2 hb.size⟩,h.d,h.bd⟩
theorem lh.told {G:Lg} (h:lh w0 G H f1 f3 hs nm D W):Calls Tp 124 #[pT (some ⟨G.P,0,none⟩)] W (toldQ W H):=by
 obtain⟨c0,c1,c2,c3,fs,bx,ff,qu,lo,st⟩:=H
 have e1:=h.bd.e1
 have e3:=h.bd.e3
 simp only[] at e1 e3
 subst e1 e3;have h2:=h.bd.m2
 exact told_any W G.P G.mb c0 c2 G.r1 G.r3 fs bx ff qu lo st G.gf G.n1 G.kf G.gb G.n2 G.kb G.gr f1 ff.length G.gq f3 qu.length h.p h.f (h.x.is h.bd.nk) (h.r.base h.b) (h.q.base h.b) rfl rfl h.bd.m1 (by omega) h.bd.b1 h.bd.b3 h.x.sm h.bd.s3 h.bd.s4
theorem lh.box {G:Lg} {hs':Nat→Hd} (h:lh w0 G H f1 f3 hs nm D W) (hx:dr8 w0 0 G.gb G.n2 bx hs' 0 W') (he:∀ q,q≠G.gb→W'.heap[q]?=W.heap[q]?) (hz:W'.heap.size=W.heap.size):lh w0 G { H with bx:=bx } f1 f3 hs' nm D W':=by
 have dp:=h.d.p
 have dm:=h.d.m
 have dg:=h.d.g
 refine⟨h.p.kept (he _ (by omega)),h.f.same (he _ (by omega)),hx,h.r.keep (he _ (by omega)),h.rz.up (he _ (by omega)),h.q.keep (he _ (by omega)),h.qz.up (he _ (by omega)),?_,hx.bel,by rw[hz];exact h.hi,h.d,⟨h.bd.e1,h.bd.e3,h.bd.m1,h.bd.m2,h.bd.nk,h.bd.b1,h.bd.b3,h.bd.lo,h.bd.s3,h.bd.s4⟩⟩
 obtain⟨es,clock,q1,q2⟩:=h.m
 exact⟨es,clock,(he _ (by omega)).trans q1,q2⟩
theorem dr8.put (h:dr8 b0 0 g n bx hs 0 W) (i:Nat) (hi:i<bx.length) (b:R8) (hd:Hd) (hb:iB b0 hd.1 hd.2.1 hd.2.2 b.l) (hl:b.l.length≤1048576):dr8 b0 0 g n (bx.set i b) (fun j=>if j=i then hd else hs j) 0 (setRow W g (i*8) (x8 (b,hd))):=by
 have hln:=h.len
 have hlo:=h.lo
 refine⟨by rw[List.length_set];exact h.len,h.row.setRow _ _ _ _,fun j hj=>?_,fun j hj _=>?_,fun j hj hk=>absurd hk (nN _),fun i j _ hj=>absurd hj (nN _),h.lo,?_,?_,fun j hj=>?_⟩
 ·have hj':j<bx.length:=by simpa using hj
  by_cases e:j=i
  ·subst e;rw[List.getElem_set_self,if_pos rfl]
   intro t u hu;have ht:t<(x8 (b,hd)).length:=(List.getElem?_eq_some_iff.mp hu).1
   have ht8:t<8:=by simpa[x8] using ht
   rw[setRow_at g _ _ _ t ht ((h.row (j*8+t) (by omega)).1)]
   rw[List.getElem?_eq_getElem ht] at hu
   exact hu
  ·rw[List.getElem_set_ne (fun x=>e x.symm),if_neg e]
   intro t u hu;have ht:t<8:=by have:=(List.getElem?_eq_some_iff.mp hu).1;simpa[x8] using this
   rw[rO g _ _ _ _ (by simp[x8];omega)]
   exact h.rng j hj' t u hu
 ·have hj':j<bx.length:=by simpa using hj
  by_cases e:j=i
  ·subst e;rw[List.getElem_set_self,if_pos rfl]
   exact hb
  ·rw[List.getElem_set_ne (fun x=>e x.symm),if_neg e]
   exact h.old j hj' (nZ _)
 ·rw[← setCells_row,sZ]
  exact h.hi
 ·rw[← setCells_row]
  exact sW h.lo _ _ h.bel
 ·have hj':j<bx.length:=by simpa using hj
  by_cases e:j=i
  ·subst e;rw[List.getElem_set_self]
   exact hl
  ·rw[List.getElem_set_ne (fun x=>e x.symm)]
   exact h.sm j hj'
theorem dr8.setX (h:dr8 b0 0 g n bx hs 0 W) (i:Nat) (hi:i<bx.length) (v:Int):dr8 b0 0 g n (bx.set i { bx[i] with x:=v }) hs 0 (W.setCell ⟨g,i*8,none⟩ (I J v)):=by
 have hln:=h.len
 have el:∀ j (hj:j<(bx.set i { bx[i] with x:=v }).length) (hj':j<bx.length),(bx.set i { bx[i] with x:=v })[j].l=bx[j].l:=by
  intro j hj hj';by_cases e:j=i
  ·subst e;rw[List.getElem_set_self]
  ·rw[List.getElem_set_ne (fun x=>e x.symm)]
 refine⟨by rw[List.length_set];exact h.len,h.row.setCell _ _,fun j hj=>?_,fun j hj _=>?_,fun j hj hk=>absurd hk (nN _),fun i j _ hj=>absurd hj (nN _),h.lo,?_,h.bel.setCell (by exact h.lo) _,fun j hj=>?_⟩
 ·have hj':j<bx.length:=by simpa using hj
  have ot:∀ t,j*8+t≠i*8→(W.setCell ⟨g,i*8,none⟩ (I J v)).cell? ⟨g,j*8+t,none⟩=W.cell? ⟨g,j*8+t,none⟩:=fun t ht=>World.cell?_setCell_other _ _ _ _ (by intro e;simp at e <;> omega)
  intro t u hu;have ht:t<8:=by have:=(List.getElem?_eq_some_iff.mp hu).1;simpa[x8] using this
  by_cases e:j=i
  ·subst e;rw[List.getElem_set_self] at hu
   by_cases et:t=0
   ·subst et;have e0:u = I J v:=by simpa[x8] using hu.symm
    subst e0;obtain⟨⟨w0,hw0⟩,_⟩:=h.row (j*8) (by omega)
    exact World.cell?_setCell_same _ _ _ hw0
   ·rw[ot t (by omega)]
    refine h.rng j hj' t u ?_
    rw[← hu]
    match t,ht,et with
    | 1,_,_ | 2,_,_ | 3,_,_ | 4,_,_ | 5,_,_ | 6,_,_ | 7,_,_=>rfl
  ·rw[List.getElem_set_ne (fun x=>e x.symm)] at hu
   rw[ot t (by omega)]
   exact h.rng j hj' t u hu
 ·have hj':j<bx.length:=by simpa using hj
  rw[el j hj hj']
  exact h.old j hj' (nZ _)
 ·exact nL h.hi ((bW 0 W).setCell (nZ _) _).size
 ·have hj':j<bx.length:=by simpa using hj
  rw[el j hj hj']
  exact h.sm j hj'
theorem lh.state {G:Lg} (h:lh w0 G H f1 f3 hs nm D W) (i:Nat) (hi:i<H.bx.length) (v:Int):lh w0 G (stHo H i v) f1 f3 hs nm D (W.setCell ⟨G.gb,i*8,none⟩ (I J v)):=by
 unfold stHo
 rw[dif_pos hi]
 exact h.box (h.x.setX i hi v) (fun q hq=>heap_setCell_other W ⟨G.gb,i*8,none⟩ q _ hq) (by simp)
theorem lh.free {G:Lg} (h:lh w0 G H f1 f3 hs nm D W) (i:Nat) (hi:i<H.bx.length):lh w0 G (freeHo H i) f1 f3 (fun j=>if j=i then (none,0,0) else hs j) nm D (W.setCells G.gb (i*8) Z8):=by
 have e:W.setCells G.gb (i*8) Z8=setRow W G.gb (i*8) (x8 (z8,(none,0,0))):=setCells_row ..
 have hx:=h.x.put i hi z8 (none,0,0) (none8 _) (nZ _)
 rw[← e] at hx
 exact h.box hx (fun q hq=>sO _ q hq _ _ _) (sZ ..)
theorem lh.tags {G:Lg} {nm':Nat} {D':DataW Unit} (h:lh w0 G H f1 f3 hs nm D W) (hg:W.grownBy W' (some G.mb)) (hm:W'.ownsMap (H:=Unit) Tp 3 (plainElem Tp 3) G.mb nm' D'):lh w0 G H f1 f3 hs nm' D' W':=by
 have dp:=h.d.p
 have dm:=h.d.m
 have dg:=h.d.g
 have he:∀ q,q≠G.mb→q<W.heap.size→W'.heap[q]?=W.heap[q]?:=fun q hq hl=>hg.block q hl (by simpa using hq)
 have hb':Below w0.heap.size w0 W':=h.b.grown hg h.b.size (fun k hk=>by cases hk;exact h.d.lo.2.2)
 have hz:=hg.size
 exact⟨h.p.kept (he _ (by omega) h.p.lt),h.f.same (he _ (by omega) h.hi.1),h.x.at0 (he _ (by omega) h.x.hi) hb',h.r.keep (he _ (by omega) h.hi.2.1),h.rz.up (he _ (by omega) h.hi.2.1),h.q.keep (he _ (by omega) h.hi.2.2),h.qz.up (he _ (by omega) h.hi.2.2),hm,hb',⟨by have:=h.hi;omega,by have:=h.hi;omega,by have:=h.hi;omega⟩,h.d,h.bd⟩
theorem quP_take (ht:t=min (r3-qu.length) 1) (hl:qu.length≤r3):qu++[e].take t=quP (r3:Int) qu e:=by
 unfold quP
 by_cases h:(qu.length:Int)<(r3:Int)
 ·have e1:t=1:=by omega
  rw[if_pos h,e1]
  rfl
 ·have e1:t=0:=by omega
  rw[if_neg h,e1]
  simp
theorem loP_take {lo:Int} (ht:t=min (r3-qu.length) 1) (hl:qu.length≤r3) (h0:0≤lo∧lo≤100000):min (lo+(1-(t:Int))) 100000=loP (r3:Int) qu lo:=by
 unfold loP
 by_cases h:(qu.length:Int)<(r3:Int)
 ·have e1:t=1:=by omega
  rw[if_pos h,e1]
  omega
 ·have e1:t=0:=by omega
  rw[if_neg h,e1]
  split <;> omega
theorem quP_len (ht:t=min (r3-qu.length) 1) (hl:qu.length≤r3):(quP (r3:Int) qu e).length=qu.length+t:=by
 rw[← quP_take ht hl]
 by_cases h:t=0
 ·subst h;simp
 ·have e1:t=1:=by omega
  subst e1;simp
theorem quP_small {c:Int} (h:∀ j (h:j<qu.length),qu[j].l.length≤1048576) (he:e.l.length≤1048576):∀ j (h:j<(quP c qu e).length),(quP c qu e)[j].l.length≤1048576:=by
 unfold quP
 split
 ·intro j hj;by_cases hj':j<qu.length
  ·rw[List.getElem_append_left hj']
   exact h j hj'
  ·rw[List.getElem_append_right (by omega)]
   simpa using he
 ·exact h
theorem lh.post {G:Lg} (h:lh w0 G H f1 f3 hs nm D W) (ev:R8) (ao:Option Addr) (m c:Nat) (hby:iB w0 ao m c ev.l) (hl:ev.l.length≤1048576) :
  Calls Tp 87 #[pT (some ⟨G.P,0,none⟩),aG #[I J ev.x,I J ev.y,I J ev.z,bO ev.e,I .u32 (ev.i:Int),bO ev.r,I J ev.d,sL ao m c]] W fun o w'=>o = rT (.tuple #[])∧lh w0 G (pH H ev) f1 f3 hs nm D w'∧(∀ b,b≠G.P→b≠G.gq→b<W.heap.size→w'.heap[b]?=W.heap[b]?)∧W.heap.size≤w'.heap.size:=by
 have dp:=h.d.p
 have dm:=h.d.m
 have dg:=h.d.g
 have dl:=h.d.lo
 have hb3:=h.bd.b3
 refine (post_any H.c0 H.c2 G.r1 G.gf G.n1 G.kf G.gb G.n2 G.kb G.mb G.gr f1 H.ff.length H.lo H.st w0 W G.P G.gq G.r3 f3 H.qu ev.x ev.y ev.z ev.e ev.i ev.r ev.d ao m c ev.l h.p (by omega) h.qz h.hi.2.2 h.q hb3.1 hb3.2.2 hb3.2.1 hby h.bd.lo.1 h.bd.lo.2 _ rfl).mono ?_
 rintro o w' ⟨rfl,hq⟩;have hb':Below w0.heap.size w0 w':=by
  refine⟨hq.o.1.trans h.b.os,hq.o.2.1.trans h.b.tape,hq.o.2.2.trans h.b.output,nT h.b.size hq.s,fun b hb=>?_⟩
  rw[hq.k b (by omega) (by omega) (nL hb h.b.size)]
  exact h.b.block b hb
 have he:∀ q,q≠G.P→q≠G.gq→q<W.heap.size→w'.heap[q]?=W.heap[q]?:=hq.k
 have hz:=hq.s
 have hi:=h.hi
 refine⟨rfl,⟨?_,h.f.same (he _ (by omega) (by omega) hi.1),h.x.at0 (he _ (by omega) (by omega) h.x.hi) hb',h.r.keep (he _ (by omega) (by omega) hi.2.1),h.rz.up (he _ (by omega) (by omega) hi.2.1),?_,hq.z,?_,hb',⟨by omega,by omega,by omega⟩,h.d,⟨h.bd.e1,h.bd.e3,h.bd.m1,h.bd.m2,h.bd.nk,h.bd.b1,⟨hb3.1,hb3.2.1,?_⟩,?_,h.bd.s3,?_⟩⟩,he,hz⟩
 ·have:=hq.p
  rw[loP_take rfl hb3.2.2 h.bd.lo,← h.bd.e3] at this
  have e2:H.qu.length+min (G.r3-H.qu.length) 1=(pH H ev).qu.length:=by
   show _=(quP H.c3 H.qu ev).length
   rw[h.bd.e3,quP_len rfl hb3.2.2]
  rw[e2] at this
  exact this
 ·show ring8 w0 w' G.gq G.r3 f3 (quP H.c3 H.qu ev)
  rw[h.bd.e3,← quP_take rfl hb3.2.2]
  exact hq.r
 ·obtain⟨es,clock,q1,q2⟩:=h.m
  exact⟨es,clock,(he _ (by omega) (by omega) h.m.lt).trans q1,q2⟩
 ·show (quP H.c3 H.qu ev).length≤_
  rw[h.bd.e3,quP_len rfl hb3.2.2]
  omega
 ·show 0≤loP H.c3 H.qu H.lo∧loP H.c3 H.qu H.lo≤100000
  have:=h.bd.lo
  unfold loP
  split
  ·exact this
  ·split <;> omega
 ·exact quP_small h.bd.s4 hl
set_option maxHeartbeats 16000000
theorem open_lh (w:World) (H:Ho) (s:Sl) (h:isHo w H s) (hs:slSome s) (hok:okHo H) (hm:H.le 1048576) :
  Calls Tp 123 #[aG (hoL H s).toArray] w fun o w'=>∃ (G:Lg) (hd:Nat→Hd),o = rT (pT (some ⟨G.P,0,none⟩))∧lh w G H 0 0 hd G.n2 (tagsD Unit H.bx G.n2) w'∧G.n2=H.bx.length:=by
 obtain⟨c0,c1,c2,c3,fs,bx,ff,qu,lo,st⟩:=H
 obtain⟨a1,n1,k1,a2,n2,k2,a3,n3,k3,a4,n4,k4⟩:=s
 obtain⟨⟨g1,e1⟩,⟨g2,e2⟩⟩:=hs
 simp only[] at e1 e2
 subst e1 e2;have hcf:=of_decide_eq_true hok.cf
 have hnf:=hok.nf
 have hnq:=hok.nq
 have l1:=h.fs.len
 have l2:=h.bx.len
 have l3:=h.ff.len
 have l4:=h.qu.len
 have hf16:fs.length≤16:=by
  have:=hok.fs
  unfold okFs at this
  simp at this
  exact this.1
 have hm2:=hm.bd
 have hm3:=hm.fd
 have hm4:=hm.qd
 have hm1:=hm.fs
 simp only[] at hcf hnf hnq l1 l2 l3 l4 hm1 hm2 hm3 hm4
 have hn2:=hok.n2
 simp only[] at hn2
 obtain⟨r1,hr1⟩ : ∃ r1:Nat,c1=(r1:Int):=⟨c1.toNat,by omega⟩
 obtain⟨r3,hr3⟩ : ∃ r3:Nat,c3=(r3:Int):=⟨c3.toNat,by omega⟩
 subst hr1 hr3;subst l3 l4;refine (openHost_any Unit w c0 c2 r1 r3 fs bx ff qu lo st g1 n1 k1 g2 0 n2 k2 a3 ff.length k3 a4 qu.length k4 h.fs h.bx h.ff h.qu (by omega) (by omega) (by omega) (by omega) hok.bx hm2).mono ?_
 rintro o w' ⟨P,mb,gf,kf,gb,kb,hs',gr,gq,rfl,hl⟩;have hx:=hl.x.k w' rfl hl.b
 have hr:=hl.r.k w' rfl hl.b
 have hq:=hl.q.k w' rfl hl.b
 exact⟨⟨P,mb,r1,r3,gf,n1,kf,gb,n2,kb,gr,gq⟩,hs',rfl,⟨hl.p,hl.f.k w' rfl hl.b,hx.1,hr.1,hr.2,hq.1,hq.2,hl.m,hl.b,⟨hl.f.lt,hl.r.lt,hl.q.lt⟩,⟨⟨hl.f.n1,hl.x.n1,hl.r.n1,hl.q.n1,hl.n1⟩,⟨hl.f.n2,hl.x.n2,hl.r.n2,hl.q.n2⟩,hl.d,⟨hl.lo.1,hl.lo.2,hl.n2⟩⟩,⟨rfl,rfl,by show n1≤1000;omega,by show n2≤8;omega,hx.2,⟨by show 0<r1;omega,by show r1≤1000;omega,by show ff.length≤r1;omega⟩,⟨by show 0<r3;omega,by show r3≤1000;omega,by show qu.length≤r3;omega⟩,⟨hok.l0,hok.l1⟩,hm3,hm4⟩⟩,l2⟩
variable {H:Ho}
theorem Ho.le.post {ev:R8} (h:H.le 1048576) (hq:H.qu.length≤1000) (hl:ev.l.length≤1048576):(pH H ev).le 1048576:=by
 refine⟨h.fs,h.bx,h.ff,?_,h.bd,h.fd,quP_small h.qd hl⟩
 show (quP H.c3 H.qu ev).length≤_
 unfold quP
 split
 ·rw[List.length_append,List.length_singleton]
  omega
 ·exact h.qu
theorem Ho.le.set (h:H.le 1048576) (k:Nat) (b:R8) (hb:b.l.length≤1048576):Ho.le { H with bx:=H.bx.set k b } 1048576:=by
 refine⟨h.fs,by show (H.bx.set k b).length≤_;rw[List.length_set];exact h.bx,h.ff,h.qu,fun j hj=>?_,h.fd,h.qd⟩
 have hj':j<H.bx.length:=by simpa using hj
 show (H.bx.set k b)[j].l.length≤_
 by_cases e:j=k
 ·subst e;rw[List.getElem_set_self]
  exact hb
 ·rw[List.getElem_set_ne (fun x=>e x.symm)]
  exact h.bd j hj'
theorem Ho.le.free (h:H.le 1048576) (k:Nat):(freeHo H k).le 1048576:=h.set k z8 (nZ _)
theorem Ho.le.state (h:H.le 1048576) (k:Nat) (v:Int):(stHo H k v).le 1048576:=by
 unfold stHo
 split
 ·rename_i hk
  exact h.set k _ (h.bd k hk)
 ·exact h
set_option maxRecDepth 20000
variable {w0 W W':World} {G:Lg} {f1 f3 nm M:Nat} {hs:Nat→Hd} {D:DataW Unit} {C:Co}
def stZ (te re:Int):Int:=if te=256 then 2 else if 128≤te∨128≤re then 1 else 0
theorem stateOf_Z (w:World) (te re:Int):Calls Tp 70 #[bO (te == 256),I J te,I J re] w fun o w'=>o = rT (I J (stZ te re))∧w=w':=by
 have h:=stateOf_any w (if te=256 then 7 else 0) te re (te == 256) (by by_cases e:te=256 <;> simp[e])
 have e:esZ (if te=256 then 7 else 0) te re=stZ te re:=by
  unfold esZ stZ
  by_cases e:te=256 <;> simp[e]
 rw[e] at h
 exact h
theorem lh.other {H:Ho} (h:lh w0 G H f1 f3 hs nm D W) (M:Nat) (hM:M≠G.P∧M≠G.mb∧M≠G.gf∧M≠G.gb∧M≠G.gr∧M≠G.gq∧w0.heap.size≤M) (he:∀ q,q≠M→W'.heap[q]?=W.heap[q]?) (hz:W'.heap.size=W.heap.size) (hb':Below w0.heap.size w0 W'):lh w0 G H f1 f3 hs nm D W':=by
 obtain⟨a1,a2,a3,a4,a5,a6,a7⟩:=hM
 refine⟨h.p.kept (he _ (Ne.symm a1)),h.f.same (he _ (Ne.symm a3)),h.x.at0 (he _ (Ne.symm a4)) hb',h.r.keep (he _ (Ne.symm a5)),h.rz.up (he _ (Ne.symm a5)),h.q.keep (he _ (Ne.symm a6)),h.qz.up (he _ (Ne.symm a6)),?_,hb',by rw[hz];exact h.hi,h.d,h.bd⟩
 obtain⟨es,clock,q1,q2⟩:=h.m
 exact⟨es,clock,(he _ (Ne.symm a2)).trans q1,q2⟩
structure mc (w0:World) (M:Nat) (G:Lg) (C:Co) (f1 f3:Nat) (hs:Nat→Hd) (nm:Nat) (D:DataW Unit) (W:World):Prop where
 m:blk W M (mcL G.P C) 125
 h:lh w0 G C.ho f1 f3 hs nm D W
 o:M≠G.P∧M≠G.mb∧M≠G.gf∧M≠G.gb∧M≠G.gr∧M≠G.gq∧w0.heap.size≤M
theorem mc.below (h:mc w0 M G C f1 f3 hs nm D W) (hb:Below W.heap.size W W'):mc w0 M G C f1 f3 hs nm D W':=⟨h.m.below hb,h.h.below hb,h.o⟩
theorem mc.set {C':Co} (h:mc w0 M G C f1 f3 hs nm D W) (k:Nat) (v:Value) (e:(mcL G.P C).set k v=mcL G.P C') (eh:C'.ho=C.ho):mc w0 M G C' f1 f3 hs nm D (W.setCell ⟨M,k,none⟩ v):=by
 refine⟨by rw[← e];exact h.m.set k v,?_,h.o⟩
 rw[eh]
 exact h.h.other M h.o (fun q hq=>heap_setCell_other W ⟨M,k,none⟩ q _ hq) (by simp) (h.h.b.setCell (by exact h.o.2.2.2.2.2.2) _)
theorem mc.post (h:mc w0 M G C f1 f3 hs nm D W) (k a:Int) :
  Calls Tp 87 #[pT (some ⟨G.P,0,none⟩),aG #[I J k,I J a,I J 0,bO false,I .u32 0,bO false,I J 0,sL none 0 0]] W fun o w'=>o = rT (.tuple #[])∧mc w0 M G { C with ho:=pH C.ho ⟨k,a,0,false,0,false,0,[]⟩ } f1 f3 hs nm D w':=by
 refine (h.h.post ⟨k,a,0,false,0,false,0,[]⟩ none 0 0 (none8 _) (nZ _)).mono ?_
 rintro o w' ⟨rfl,h1,h2,h3⟩;exact⟨rfl,h.m.kept (h2 M h.o.1 h.o.2.2.2.2.2.1 h.m.lt),h1,h.o⟩
theorem state_any (h:mc w0 M G C f1 f3 hs nm D W):Calls Tp 106 #[pT (some ⟨M,0,none⟩)] W fun o w'=>o = rT (I J (stZ C.te C.re))∧mc w0 M G C f1 f3 hs nm D w'∧Below W.heap.size W w':=by
 have HS:Hid (∀ X,Calls Tp 70 #[bO (C.te == 256),I J C.te,I J C.re] X fun o w'=>o = rT (I J (stZ C.te C.re))∧X=w'):=fun X=>stateOf_Z X C.te C.re
 have H0:Hid (mc w0 M G C f1 f3 hs nm D W):=h
 clear h;go_enter Tryz.func106,Tryz.ntmps106
 go_wp2_with fail;refine wp_region_held (S:=fun X=>mc w0 M G C f1 f3 hs nm D X) (by kernel_rfl) ?_
 have hS:mc w0 M G C f1 f3 hs nm D (World.drew W):=H0.out.below (bW _ _).drew
 have HBD:Hid (Below W.heap.size W (World.drew W)):=(bW _ _).drew
 clear H0;change wpAnyH Tp _ _ _ _ _ _ _ (World.drew W)
 generalize World.drew W=v0 at *;refine tk 0 ?_
 refine tk 1 ?_
 refine tk 2 ?_
 refine tk 3 ?_ (hy:=fun W hSw=>by (have y:=hSw.m.cell 1 (I J C.te) rfl;go_simp;try rfl))
 refine tk 4 ?_
 refine tk 5 ?_
 refine tk 6 ?_
 refine tk 7 ?_
 refine tk 8 ?_ (hy:=fun W hSw=>by (have y:=hSw.m.cell 1 (I J C.te) rfl;go_simp;try rfl))
 refine tk 9 ?_
 refine tk 10 ?_
 refine tk 11 ?_
 refine tk 12 ?_ (hy:=fun W hSw=>by (have y:=hSw.m.cell 2 (I J C.re) rfl;go_simp;try rfl))
 refine al 13 fun K2 hK2=>?_
 go_simp;refine (HS.out _).mono ?_
 rintro o v1 ⟨rfl,rfl⟩;go_wp2_with fail;refine hK2.out _ _ hS (fun hS2=>?_)
 clear hK2 K2 hS;have hS:=hS2
 clear hS2;refine tk 14 ?_
 refine wpAnyH_done (by kernel_rfl) ?_ _
 go_wp2_with fail;go_ret;exact⟨rfl,hS,HBD.out⟩
end Go.Proofs.YtkfcfigbgmbaiaaGreat
