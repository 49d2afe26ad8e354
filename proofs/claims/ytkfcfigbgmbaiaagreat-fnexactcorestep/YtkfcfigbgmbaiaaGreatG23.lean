import Derived.Test.YtkfcfigbgmbaiaaGreatG20
import Derived.Test.YtkfcfigbgmbaiaaGreatG22
import Derived.Test.YtkfcfigbgmbaiaaGreatG19
namespace Go.Proofs.YtkfcfigbgmbaiaaGreat
open Go.RowKit
set_option linter.unusedVariables false
structure dr3 (b0:World) (g n:Nat) (fs:List R3) (W:World):Prop where
 len:n=fs.length
 row:rowF W g (n*3)
 at_:∀ j (h:j<fs.length),at3 W g (j*3) fs[j]
 lo:b0.heap.size≤g
 hi:g<W.heap.size
 m:n≤1048576
theorem dr3.same {b0 W W':World} {g n:Nat} {fs:List R3} (h:dr3 b0 g n fs W) (he:W'.heap[g]?=W.heap[g]?) (hz:W.heap.size≤W'.heap.size):dr3 b0 g n fs W':=
 ⟨h.len,h.row.up he,fun j hj=>(h.at_ j hj).up he,h.lo,Nat.lt_of_lt_of_le h.hi hz,h.m⟩
theorem dr3.below {b0 W W':World} {g n:Nat} {fs:List R3} (h:dr3 b0 g n fs W) (hb:Below W.heap.size W W'):dr3 b0 g n fs W':=h.same (hb.block _ h.hi) hb.size
theorem clone3_dr (w:World) (b0:World) (g n cap:Nat) (bs:List R3) (h:isR3s w (some ⟨g,0,none⟩) n cap bs) (hn:n≤1048576) (hb0:b0.heap.size≤w.heap.size) :
  Calls Tryz.prog 177 #[.slice (some ⟨g,0,none⟩) n cap] w fun e w'=>∃ g' cap',e = .returned (.slice (some ⟨g',0,none⟩) n cap')∧w.heap.size≤g'∧n≤cap'∧dr3 b0 g' n bs w'∧Below w.heap.size w w':=by
 refine (clone_any w g n cap bs h hn).mono ?_
 rintro e w' ⟨v',rfl,ho,hv,hbw⟩;rcases ownsRow_split ho with⟨e,_⟩|⟨g',cap',rfl,hb,hlt,hcp,hrf,hrg⟩
 ·exact absurd e hv
 ·refine⟨g',cap',rfl,hb,hcp,⟨h.len,hrf,fun j hj=>?_,by omega,hlt,hn⟩,hbw⟩
  obtain⟨y0,y1,y2⟩:=c3_at bs j hj
  have q:=fun t u hu=>hrg t u hu
  simp only[Nat.zero_add] at q
  exact⟨q _ _ y0,q _ _ y1,q _ _ y2⟩
theorem c5_at (bs:List X5):∀ j (h:j<bs.length) t,t<5→(c5 bs)[j*5+t]?=(x5 bs[j])[t]?:=by
 induction bs with
 | nil=>intro j h;exact absurd h (Nat.not_lt_zero _)
 | cons b bs ih=>
  intro j h t ht;cases j with
  | zero=>
   simp only[c5,List.flatMap_cons,Nat.zero_mul,Nat.zero_add]
   rw[List.getElem?_append_left (by simpa[x5,f5] using ht)]
   rfl
  | succ j=>
   have e:(j+1)*5+t=5+(j*5+t):=by omega
   rw[e]
   simp only[c5,List.flatMap_cons]
   rw[List.getElem?_append_right (by simp[x5,f5])]
   have:=ih j (by simpa using h) t ht
   simp only[c5] at this
   simpa[x5,f5] using this
theorem dr8.step {b0 W w1:World} {U g n:Nat} {bx:List R8} {hs:Nat→Hd} {k:Nat} (h:dr8 b0 U g n bx hs k W) (hk:k<bx.length) (hU:U≤W.heap.size) (hgU:g<U) (a':Option Addr) (c':Nat) (ho:ownA W.heap.size a' (hs k).2.1 w1) (hi:∀ W',(∀ b,a'=some ⟨b,0,none⟩→W'.heap[b]?=w1.heap[b]?)→isBytes W' a' (hs k).2.1 c' bx[k].l) (hb:Below W.heap.size W w1):∃ hs',dr8 b0 U g n bx hs' (k+1) (w1.setCell ⟨g,k*8+7,none⟩ (.slice a' (hs k).2.1 c')):=by
 have h1:=h.below hb
 have hln:=h.len
 have oth:∀ x,x≠g→(w1.setCell ⟨g,k*8+7,none⟩ (.slice a' (hs k).2.1 c')).heap[x]?=w1.heap[x]?:=fun x hx=>heap_setCell_other w1 ⟨g,k*8+7,none⟩ x _ hx
 have hsz:(w1.setCell ⟨g,k*8+7,none⟩ (.slice a' (hs k).2.1 c')).heap.size=w1.heap.size:=by simp
 have hbelow:Below b0.heap.size b0 (w1.setCell ⟨g,k*8+7,none⟩ (.slice a' (hs k).2.1 c')):=h1.bel.setCell (by exact h1.lo) _
 refine⟨fun j=>if j=k then (a',(hs k).2.1,c') else hs j,h.len,h1.row.setCell _ _,fun j hj=>?_,fun j hj hkj=>?_,fun j hj hkj=>?_,?_,h.lo,by rw[hsz];exact h1.hi,hbelow,h.sm⟩
 ·intro t u hu;have ht:t<8:=by have:=(List.getElem?_eq_some_iff.mp hu).1;simpa[x8] using this
  by_cases e:j=k
  ·subst e;rw[if_pos rfl] at hu
   by_cases e7:t=7
   ·subst e7;have e8:u = .slice a' (hs j).2.1 c':=by simpa[x8] using hu.symm
    rw[e8]
    exact World.cell?_setCell_same _ _ _ (h1.rng j hj 7 _ rfl)
   ·rw[World.cell?_setCell_other _ _ _ _ (by intro hh;simp at hh <;> omega)]
    refine h1.rng j hj t u ?_
    rw[← hu]
    have:t=0∨t=1∨t=2∨t=3∨t=4∨t=5∨t=6:=by omega
    rcases this with rfl | rfl | rfl | rfl | rfl | rfl | rfl <;> rfl
  ·rw[if_neg e] at hu
   rw[World.cell?_setCell_other _ _ _ _ (by intro hh;simp at hh <;> omega)]
   exact h1.rng j hj t u hu
 ·rw[if_neg (by omega)]
  exact h.old j hj (by omega)
 ·by_cases e:j=k
  ·subst e;rw[if_pos rfl]
   have hag:∀ b,a'=some ⟨b,0,none⟩→b≠g:=by
    intro b hb';rcases ho with⟨e,_⟩|⟨b2,e,h2,_⟩
    ·rw[hb'] at e;cases e
    ·rw[hb'] at e;cases e;omega
   refine⟨hi _ (fun b hb'=>oth b (hag b hb')),?_⟩
   rcases ho with⟨e1,e2⟩|⟨b,e1,e2,e3,e4⟩
   ·exact Or.inl ⟨e1,e2⟩
   ·exact Or.inr ⟨b,e1,by omega,by rw[hsz];exact e3,e4.up (oth b (hag b e1))⟩
  ·rw[if_neg e]
   have hjk:j<k:=by omega
   obtain⟨q1,q2⟩:=h1.new j hj hjk
   rcases q2 with⟨e1,e2⟩|⟨b,e1,e2,e3,e4⟩
   ·refine⟨⟨q1.len,q1.cap,q1.small,fun hne=>?_⟩,Or.inl ⟨e1,e2⟩⟩
    exact absurd (List.length_pos_iff.2 hne) (by have:=q1.len;omega)
   ·have hbg:b≠g:=by omega
    rw[e1] at q1 ⊢
    exact⟨q1.other (oth b hbg),Or.inr ⟨b,rfl,e2,by rw[hsz];exact e3,e4.up (oth b hbg)⟩⟩
 ·intro i j hij hjk b hb';have hik:i<k:=by omega
  simp only[if_neg (show i≠k by omega)] at hb'
  by_cases e:j=k
  ·subst e;simp only[if_true]
   intro hb2;rcases ho with⟨e1,_⟩|⟨b2,e1,e2,_⟩
   ·rw[hb2] at e1;cases e1
   ·rw[hb2] at e1
    cases e1
    rcases (h.new i (by omega) hik).2 with⟨e3,_⟩|⟨b3,e3,_,e5,_⟩
    ·rw[hb'] at e3;cases e3
    ·rw[hb'] at e3;cases e3;omega
  ·simp only[if_neg e]
   exact h.dst i j hij (by omega) b hb'
theorem dr8.sh {b0 W:World} {U g n:Nat} {bx:List R8} {hs:Nat→Hd} (h:dr8 b0 U g n bx hs n W) (hgU:g<U):sh8 W g n hs∧(∀ j,j<n→∀ b,(hs j).1=some ⟨b,0,none⟩→U≤b∧b<W.heap.size):=by
 have hln:=h.len
 refine⟨⟨h.row,fun j hj=>⟨(h.at_ j (by omega)).cs,?_⟩⟩,?_⟩
 ·have q:=h.new j (by omega) hj
  have q1:=q.1.len
  have q2:=h.sm j (by omega)
  refine⟨by omega,q.1.cap,?_⟩
  rcases q.2 with e|⟨b,e1,e2,e3,e4⟩
  ·exact Or.inl e
  ·exact Or.inr ⟨b,e1,by omega,e4⟩
 ·intro j hj b hb;rcases (h.new j (by omega) hj).2 with⟨e,_⟩|⟨b2,e1,e2,e3,e4⟩
  ·rw[hb] at e;cases e
  ·rw[hb] at e1;cases e1;exact⟨e2,e3⟩
structure dr5 (b0:World) (U g n:Nat) (bx:List R5) (hs:Nat→Hd) (k:Nat) (W:World):Prop where
 len:n=bx.length
 row:rowF W g (n*5)
 rng:∀ j (h:j<bx.length),W.rangeAt g (j*5) (x5 (bx[j],hs j))
 old:∀ j (h:j<bx.length),k≤j→isBytes b0 (hs j).1 (hs j).2.1 (hs j).2.2 bx[j].l
 new:∀ j (h:j<bx.length),j<k→isBytes W (hs j).1 (hs j).2.1 (hs j).2.2 bx[j].l∧(((hs j).1=none∧(hs j).2.1=0)∨∃ b,(hs j).1=some ⟨b,0,none⟩∧U≤b∧b<W.heap.size∧rowF W b (hs j).2.1)
 dst:dst hs k
 lo:b0.heap.size≤g
 hi:g<W.heap.size
 bel:Below b0.heap.size b0 W
 sm:∀ j (h:j<bx.length),bx[j].l.length≤1048576
theorem dr5.same {b0 W W':World} {U g n:Nat} {bx:List R5} {hs:Nat→Hd} {k:Nat} (h:dr5 b0 U g n bx hs k W) (he:∀ x,x=g∨U≤x→x<W.heap.size→W'.heap[x]?=W.heap[x]?) (hz:W.heap.size≤W'.heap.size) (hb:Below b0.heap.size b0 W'):dr5 b0 U g n bx hs k W':=
 ⟨h.len,h.row.up (he g (Or.inl rfl) h.hi),fun j hj=>(rangeAt.up (h.rng j hj) (he g (Or.inl rfl) h.hi)),h.old,fun j hj hk=>by
  obtain⟨h1,h2⟩:=h.new j hj hk
  rcases h2 with⟨e1,e2⟩|⟨b,e1,e2,e3,e4⟩
  ·refine⟨⟨h1.len,h1.cap,h1.small,fun hne=>?_⟩,Or.inl ⟨e1,e2⟩⟩
   exact absurd (List.length_pos_iff.2 hne) (by have:=h1.len;omega)
  ·rw[e1] at h1 ⊢
   exact⟨h1.other (he b (Or.inr e2) e3),Or.inr ⟨b,rfl,e2,Nat.lt_of_lt_of_le e3 hz,e4.up (he b (Or.inr e2) e3)⟩⟩,h.dst,h.lo,Nat.lt_of_lt_of_le h.hi hz,hb,h.sm⟩
theorem dr5.below {b0 W W':World} {U g n:Nat} {bx:List R5} {hs:Nat→Hd} {k:Nat} (h:dr5 b0 U g n bx hs k W) (hb:Below W.heap.size W W'):dr5 b0 U g n bx hs k W':=
 h.same (fun x _ hx=>hb.block x hx) hb.size (h.bel.trans (hb.mono h.bel.size))
theorem dr5.start {b0 W:World} {B U g n:Nat} {L:List R5} (bs:List X5) (hm:bs.map (·.1)=L) (hby:∀ j (hj:j<bs.length),isBytes b0 bs[j].2.1 bs[j].2.2.1 bs[j].2.2.2 bs[j].1.l) (hn:n=L.length) (hr:rowF W g (n*5)) (hg:W.rangeAt g 0 (c5 bs)) (hlo:b0.heap.size≤g) (hhi:g<W.heap.size) (hb:Below b0.heap.size b0 W) (hsm:∀ j (h:j<L.length),L[j].l.length≤1048576):dr5 b0 U g n L (fun j=>(bs.getD j (⟨false,0,false,0,[]⟩,none,0,0)).2) 0 W:=by
 subst hm;have hl:(bs.map (·.1)).length=bs.length:=by simp
 refine⟨hn,hr,fun j hj=>?_,fun j hj _=>?_,fun j hj hk=>absurd hk (Nat.not_lt_zero _),fun i j _ hj=>absurd hj (Nat.not_lt_zero _),hlo,hhi,hb,hsm⟩
 ·have hj':j<bs.length:=by omega
  have e:((bs.map (·.1))[j],(bs.getD j (⟨false,0,false,0,[]⟩,none,0,0)).2)=bs[j]:=by simp[List.getD,hj']
  rw[e]
  intro t u hu;have ht:t<5:=by have:=(List.getElem?_eq_some_iff.mp hu).1;simpa[x5,f5] using this
  rw[← c5_at bs j hj' t ht] at hu
  have:=hg _ _ hu
  rw[Nat.zero_add] at this
  exact this
 ·have hj':j<bs.length:=by omega
  have:=hby j hj'
  simpa[List.getD,hj'] using this
theorem dr5.at_ {b0 W:World} {U g n:Nat} {bx:List R5} {hs:Nat→Hd} {k:Nat} (h:dr5 b0 U g n bx hs k W) (j:Nat) (hj:j<bx.length):at5 W g (j*5) bx[j] (hs j).1 (hs j).2.1 (hs j).2.2:=by
 have hr:=h.rng j hj
 refine⟨hr 0 _ rfl,hr 1 _ rfl,hr 2 _ rfl,hr 3 _ rfl,hr 4 _ rfl,?_⟩
 by_cases hk:j<k
 ·exact (h.new j hj hk).1
 ·exact (h.old j hj (by omega)).below h.bel
theorem dr5.is {b0 W:World} {U g n:Nat} {bx:List R5} {hs:Nat→Hd} {k cap:Nat} (h:dr5 b0 U g n bx hs k W) (hc:n≤cap):isR5s W (some ⟨g,0,none⟩) n cap bx:=
 ⟨h.len,hc,fun _=>⟨g,0,rfl,fun j hj=>⟨_,_,_,by rw[Nat.zero_add];exact h.at_ j hj⟩⟩⟩
theorem dr5.step {b0 W w1:World} {U g n:Nat} {bx:List R5} {hs:Nat→Hd} {k:Nat} (h:dr5 b0 U g n bx hs k W) (hk:k<bx.length) (hU:U≤W.heap.size) (hgU:g<U) (a':Option Addr) (c':Nat) (ho:ownA W.heap.size a' (hs k).2.1 w1) (hi:∀ W',(∀ b,a'=some ⟨b,0,none⟩→W'.heap[b]?=w1.heap[b]?)→isBytes W' a' (hs k).2.1 c' bx[k].l) (hb:Below W.heap.size W w1):∃ hs',dr5 b0 U g n bx hs' (k+1) (w1.setCell ⟨g,k*5+4,none⟩ (.slice a' (hs k).2.1 c')):=by
 have h1:=h.below hb
 have hln:=h.len
 have oth:∀ x,x≠g→(w1.setCell ⟨g,k*5+4,none⟩ (.slice a' (hs k).2.1 c')).heap[x]?=w1.heap[x]?:=fun x hx=>heap_setCell_other w1 ⟨g,k*5+4,none⟩ x _ hx
 have hsz:(w1.setCell ⟨g,k*5+4,none⟩ (.slice a' (hs k).2.1 c')).heap.size=w1.heap.size:=by simp
 have hbelow:Below b0.heap.size b0 (w1.setCell ⟨g,k*5+4,none⟩ (.slice a' (hs k).2.1 c')):=h1.bel.setCell (by exact h1.lo) _
 refine⟨fun j=>if j=k then (a',(hs k).2.1,c') else hs j,h.len,h1.row.setCell _ _,fun j hj=>?_,fun j hj hkj=>?_,fun j hj hkj=>?_,?_,h.lo,by rw[hsz];exact h1.hi,hbelow,h.sm⟩
 ·intro t u hu;have ht:t<5:=by have:=(List.getElem?_eq_some_iff.mp hu).1;simpa[x5,f5] using this
  by_cases e:j=k
  ·subst e;rw[if_pos rfl] at hu
   by_cases e7:t=4
   ·subst e7;have e8:u = .slice a' (hs j).2.1 c':=by simpa[x5,f5] using hu.symm
    rw[e8]
    exact World.cell?_setCell_same _ _ _ (h1.rng j hj 4 _ rfl)
   ·rw[World.cell?_setCell_other _ _ _ _ (by intro hh;simp at hh <;> omega)]
    refine h1.rng j hj t u ?_
    rw[← hu]
    have:t=0∨t=1∨t=2∨t=3:=by omega
    rcases this with rfl | rfl | rfl | rfl <;> rfl
  ·rw[if_neg e] at hu
   rw[World.cell?_setCell_other _ _ _ _ (by intro hh;simp at hh <;> omega)]
   exact h1.rng j hj t u hu
 ·rw[if_neg (by omega)]
  exact h.old j hj (by omega)
 ·by_cases e:j=k
  ·subst e;rw[if_pos rfl]
   have hag:∀ b,a'=some ⟨b,0,none⟩→b≠g:=by
    intro b hb';rcases ho with⟨e,_⟩|⟨b2,e,h2,_⟩
    ·rw[hb'] at e;cases e
    ·rw[hb'] at e;cases e;omega
   refine⟨hi _ (fun b hb'=>oth b (hag b hb')),?_⟩
   rcases ho with⟨e1,e2⟩|⟨b,e1,e2,e3,e4⟩
   ·exact Or.inl ⟨e1,e2⟩
   ·exact Or.inr ⟨b,e1,by omega,by rw[hsz];exact e3,e4.up (oth b (hag b e1))⟩
  ·rw[if_neg e]
   have hjk:j<k:=by omega
   obtain⟨q1,q2⟩:=h1.new j hj hjk
   rcases q2 with⟨e1,e2⟩|⟨b,e1,e2,e3,e4⟩
   ·refine⟨⟨q1.len,q1.cap,q1.small,fun hne=>?_⟩,Or.inl ⟨e1,e2⟩⟩
    exact absurd (List.length_pos_iff.2 hne) (by have:=q1.len;omega)
   ·have hbg:b≠g:=by omega
    rw[e1] at q1 ⊢
    exact⟨q1.other (oth b hbg),Or.inr ⟨b,rfl,e2,by rw[hsz];exact e3,e4.up (oth b hbg)⟩⟩
 ·intro i j hij hjk b hb';have hik:i<k:=by omega
  simp only[if_neg (show i≠k by omega)] at hb'
  by_cases e:j=k
  ·subst e;simp only[if_true]
   intro hb2;rcases ho with⟨e1,_⟩|⟨b2,e1,e2,_⟩
   ·rw[hb2] at e1;cases e1
   ·rw[hb2] at e1
    cases e1
    rcases (h.new i (by omega) hik).2 with⟨e3,_⟩|⟨b3,e3,_,e5,_⟩
    ·rw[hb'] at e3;cases e3
    ·rw[hb'] at e3;cases e3;omega
  ·simp only[if_neg e]
   exact h.dst i j hij (by omega) b hb'
theorem dr5.sh {b0 W:World} {U g n:Nat} {bx:List R5} {hs:Nat→Hd} (h:dr5 b0 U g n bx hs n W) (hgU:g<U):sh5 W g n hs∧(∀ j,j<n→∀ b,(hs j).1=some ⟨b,0,none⟩→U≤b∧b<W.heap.size):=by
 have hln:=h.len
 refine⟨⟨h.row,fun j hj=>⟨(h.at_ j (by omega)).cs,?_⟩⟩,?_⟩
 ·have q:=h.new j (by omega) hj
  have q1:=q.1.len
  have q2:=h.sm j (by omega)
  refine⟨by omega,q.1.cap,?_⟩
  rcases q.2 with e|⟨b,e1,e2,e3,e4⟩
  ·exact Or.inl e
  ·exact Or.inr ⟨b,e1,by omega,e4⟩
 ·intro j hj b hb;rcases (h.new j (by omega) hj).2 with⟨e,_⟩|⟨b2,e1,e2,e3,e4⟩
  ·rw[hb] at e;cases e
  ·rw[hb] at e1;cases e1;exact⟨e2,e3⟩
set_option maxHeartbeats 16000000
theorem run_makeMapN (n:Nat) (W:World):(Instr.makeMap 151 (some (.int .i64 (n:Int)))).run Tryz.prog W = .ok (.map (some W.heap.size)) (W.alloc (.map #[] 0)):=by
 simp[Instr.makeMap,go_sem]
set_option maxRecDepth 20000 in
theorem openHost_any (H:Type) (w:World) (c0 c2:Int) (r1 r3:Nat) (fs:List R3) (bx:List R8) (ff:List R5) (qu:List R8) (lo st:Int) (g1 n1 k1 g2 o2 n2 k2:Nat) (a3:Option Addr) (n3 k3:Nat) (a4:Option Addr) (n4 k4:Nat) (h1:isR3s w (some ⟨g1,0,none⟩) n1 k1 fs) (h2:isR8s w (some ⟨g2,o2,none⟩) n2 k2 bx) (h3:isR5s w a3 n3 k3 ff) (h4:isR8s w a4 n4 k4 qu) (m1:n1≤1048576) (m2:n2≤8) (hc1:1≤r1∧r1≤1000∧n3≤r1) (hc3:1≤r3∧r3≤1000∧n4≤r3) (hok:okBxs st bx) (hsm:∀ j (h:j<bx.length),bx[j].l.length≤1048576) :
  Calls Tryz.prog 123 #[.agg #[.int .i64 c0,.int .i64 (r1:Int),.int .i64 c2,.int .i64 (r3:Int),.slice (some ⟨g1,0,none⟩) n1 k1,.slice (some ⟨g2,o2,none⟩) n2 k2,.slice a3 n3 k3,.slice a4 n4 k4,.int .i64 lo,.int .i64 st]] w fun o w'=>∃ P mb gf kf gb kb hs gr gq,o = .returned (.pointer (some ⟨P,0,none⟩))∧lvS H w P mb [.int .i64 c0,.int .i64 (r1:Int),.int .i64 c2,.int .i64 (r3:Int),.slice (some ⟨gf,0,none⟩) n1 kf,.slice (some ⟨gb,0,none⟩) n2 kb,.map (some mb),.slice (some ⟨gr,0,none⟩) r1 r1,.int .i64 0,.int .i64 (n3:Int),.slice (some ⟨gq,0,none⟩) r3 r3,.int .i64 0,.int .i64 (n4:Int),.int .i64 lo,.int .i64 st] gf n1 kf fs gb n2 kb bx hs gr r1 ff gq r3 qu n2 w':=by
 have HSU:Hid (∀ (w1:World) (P mb:Nat) (hb0:Below w.heap.size w w1) (hP:blk w1 P [.int .i64 0,.int .i64 0,.int .i64 0,.int .i64 0,.slice none 0 0,.slice none 0 0,.map (some mb),.slice none 0 0,.int .i64 0,.int .i64 0,.slice none 0 0,.int .i64 0,.int .i64 0,.int .i64 0,.int .i64 0] 157) (hm:w1.heap[mb]?=some (.map #[] 0)) (hP0:w.heap.size≤P) (hmb0:w.heap.size≤mb) (hne:mb≠P),Calls Tryz.prog 176 #[.pointer (some ⟨P,0,none⟩),.agg #[.int .i64 c0,.int .i64 (r1:Int),.int .i64 c2,.int .i64 (r3:Int),.slice (some ⟨g1,0,none⟩) n1 k1,.slice (some ⟨g2,o2,none⟩) n2 k2,.slice a3 n3 k3,.slice a4 n4 k4,.int .i64 lo,.int .i64 st]] w1 fun o w'=>∃ gf kf gb kb hs gr gq,o = .returned (.tuple #[])∧lvS H w P mb [.int .i64 c0,.int .i64 (r1:Int),.int .i64 c2,.int .i64 (r3:Int),.slice (some ⟨gf,0,none⟩) n1 kf,.slice (some ⟨gb,0,none⟩) n2 kb,.map (some mb),.slice (some ⟨gr,0,none⟩) r1 r1,.int .i64 0,.int .i64 (n3:Int),.slice (some ⟨gq,0,none⟩) r3 r3,.int .i64 0,.int .i64 (n4:Int),.int .i64 lo,.int .i64 st] gf n1 kf fs gb n2 kb bx hs gr r1 ff gq r3 qu n2 w'):=fun w1 P mb hb0 hP hm hP0 hmb0 hne=>setUp_any H w w1 P mb c0 c2 r1 r3 fs bx ff qu lo st g1 n1 k1 g2 o2 n2 k2 a3 n3 k3 a4 n4 k4 h1 h2 h3 h4 m1 m2 hc1 hc3 hok hsm hmb0 hb0 hP hm hP0 hne
 have HPH:Hid (blk (w.alloc (.cells #[.int .i64 c0,.int .i64 (r1:Int),.int .i64 c2,.int .i64 (r3:Int),.slice (some ⟨g1,0,none⟩) n1 k1,.slice (some ⟨g2,o2,none⟩) n2 k2,.slice a3 n3 k3,.slice a4 n4 k4,.int .i64 lo,.int .i64 st] 39)) w.heap.size [.int .i64 c0,.int .i64 (r1:Int),.int .i64 c2,.int .i64 (r3:Int),.slice (some ⟨g1,0,none⟩) n1 k1,.slice (some ⟨g2,o2,none⟩) n2 k2,.slice a3 n3 k3,.slice a4 n4 k4,.int .i64 lo,.int .i64 st] 39∧Below w.heap.size w (w.alloc (.cells #[.int .i64 c0,.int .i64 (r1:Int),.int .i64 c2,.int .i64 (r3:Int),.slice (some ⟨g1,0,none⟩) n1 k1,.slice (some ⟨g2,o2,none⟩) n2 k2,.slice a3 n3 k3,.slice a4 n4 k4,.int .i64 lo,.int .i64 st] 39))):=⟨blk.new w _ 39,(Below.refl _ _).alloc (Nat.le_refl _) _⟩
 have y5:=HPH.out.1.cell 5 _ rfl
 clear h1 h2 h3 h4 m1 hc1 hc3 hok hsm;have HM2:Hid (((w.alloc (.cells #[.int .i64 c0,.int .i64 (r1:Int),.int .i64 c2,.int .i64 (r3:Int),.slice (some ⟨g1,0,none⟩) n1 k1,.slice (some ⟨g2,o2,none⟩) n2 k2,.slice a3 n3 k3,.slice a4 n4 k4,.int .i64 lo,.int .i64 st] 39)).alloc (.map #[] 0)).heap[w.heap.size+1]?=some (.map #[] 0)):=by
  have:=heap_alloc_new (w.alloc (.cells #[.int .i64 c0,.int .i64 (r1:Int),.int .i64 c2,.int .i64 (r3:Int),.slice (some ⟨g1,0,none⟩) n1 k1,.slice (some ⟨g2,o2,none⟩) n2 k2,.slice a3 n3 k3,.slice a4 n4 k4,.int .i64 lo,.int .i64 st] 39)) (.map #[] 0)
  have e:(w.alloc (.cells #[.int .i64 c0,.int .i64 (r1:Int),.int .i64 c2,.int .i64 (r3:Int),.slice (some ⟨g1,0,none⟩) n1 k1,.slice (some ⟨g2,o2,none⟩) n2 k2,.slice a3 n3 k3,.slice a4 n4 k4,.int .i64 lo,.int .i64 st] 39)).heap.size=w.heap.size+1:=by simp
  rw[e] at this
  exact this
 have HM3:Hid ((((w.alloc (.cells #[.int .i64 c0,.int .i64 (r1:Int),.int .i64 c2,.int .i64 (r3:Int),.slice (some ⟨g1,0,none⟩) n1 k1,.slice (some ⟨g2,o2,none⟩) n2 k2,.slice a3 n3 k3,.slice a4 n4 k4,.int .i64 lo,.int .i64 st] 39)).alloc (.map #[] 0)).alloc (.cells #[.int .i64 0,.int .i64 0,.int .i64 0,.int .i64 0,.slice none 0 0,.slice none 0 0,.map (some (w.heap.size+1)),.slice none 0 0,.int .i64 0,.int .i64 0,.slice none 0 0,.int .i64 0,.int .i64 0,.int .i64 0,.int .i64 0] 157)).heap[w.heap.size+1]?=some (.map #[] 0)):=(Below.heap_alloc _ _ _ (lt_of_some HM2.out)).trans HM2.out
 have HP3:Hid (blk (((w.alloc (.cells #[.int .i64 c0,.int .i64 (r1:Int),.int .i64 c2,.int .i64 (r3:Int),.slice (some ⟨g1,0,none⟩) n1 k1,.slice (some ⟨g2,o2,none⟩) n2 k2,.slice a3 n3 k3,.slice a4 n4 k4,.int .i64 lo,.int .i64 st] 39)).alloc (.map #[] 0)).alloc (.cells #[.int .i64 0,.int .i64 0,.int .i64 0,.int .i64 0,.slice none 0 0,.slice none 0 0,.map (some (w.heap.size+1)),.slice none 0 0,.int .i64 0,.int .i64 0,.slice none 0 0,.int .i64 0,.int .i64 0,.int .i64 0,.int .i64 0] 157)) (w.heap.size+1+1) [.int .i64 0,.int .i64 0,.int .i64 0,.int .i64 0,.slice none 0 0,.slice none 0 0,.map (some (w.heap.size+1)),.slice none 0 0,.int .i64 0,.int .i64 0,.slice none 0 0,.int .i64 0,.int .i64 0,.int .i64 0,.int .i64 0] 157):=by
  have:=blk.new ((w.alloc (.cells #[.int .i64 c0,.int .i64 (r1:Int),.int .i64 c2,.int .i64 (r3:Int),.slice (some ⟨g1,0,none⟩) n1 k1,.slice (some ⟨g2,o2,none⟩) n2 k2,.slice a3 n3 k3,.slice a4 n4 k4,.int .i64 lo,.int .i64 st] 39)).alloc (.map #[] 0)) [.int .i64 0,.int .i64 0,.int .i64 0,.int .i64 0,.slice none 0 0,.slice none 0 0,.map (some (w.heap.size+1)),.slice none 0 0,.int .i64 0,.int .i64 0,.slice none 0 0,.int .i64 0,.int .i64 0,.int .i64 0,.int .i64 0] 157
  have e:((w.alloc (.cells #[.int .i64 c0,.int .i64 (r1:Int),.int .i64 c2,.int .i64 (r3:Int),.slice (some ⟨g1,0,none⟩) n1 k1,.slice (some ⟨g2,o2,none⟩) n2 k2,.slice a3 n3 k3,.slice a4 n4 k4,.int .i64 lo,.int .i64 st] 39)).alloc (.map #[] 0)).heap.size=w.heap.size+1+1:=by simp
  rw[e] at this
  exact this
 have HB3:Hid (Below w.heap.size w (((w.alloc (.cells #[.int .i64 c0,.int .i64 (r1:Int),.int .i64 c2,.int .i64 (r3:Int),.slice (some ⟨g1,0,none⟩) n1 k1,.slice (some ⟨g2,o2,none⟩) n2 k2,.slice a3 n3 k3,.slice a4 n4 k4,.int .i64 lo,.int .i64 st] 39)).alloc (.map #[] 0)).alloc (.cells #[.int .i64 0,.int .i64 0,.int .i64 0,.int .i64 0,.slice none 0 0,.slice none 0 0,.map (some (w.heap.size+1)),.slice none 0 0,.int .i64 0,.int .i64 0,.slice none 0 0,.int .i64 0,.int .i64 0,.int .i64 0,.int .i64 0] 157))):=((HPH.out.2.alloc (by simp) _).alloc (by simp;omega) _)
 have hmm:∀ W:World,(Instr.makeMap 151 (some (.int .i64 (n2:Int)))).run Tryz.prog W = .ok (.map (some W.heap.size)) (W.alloc (.map #[] 0)):=fun W=>run_makeMapN n2 W
 go_enter Tryz.func123,Tryz.ntmps123
 go_wp2_with fail;refine (HSU.out _ (w.heap.size+1+1) (w.heap.size+1) HB3.out HP3.out HM3.out (by omega) (by omega) (by omega)).mono ?_
 rintro o w9 ⟨gf,kf,gb,kb,hs,gr,gq,rfl,hlv⟩;have HLV:Hid _:=hlv
 clear hlv hmm y5 HSU HPH HM2 HM3 HP3 HB3;go_wp2
 go_ret;exact⟨_,_,gf,kf,gb,kb,hs,gr,gq,rfl,HLV.out⟩
end Go.Proofs.YtkfcfigbgmbaiaaGreat
