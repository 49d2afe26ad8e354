import Derived.Test.YtgkkcpgocbcbaaaGreatK20
import Derived.Test.YtgkkcpgocbcbaaaGreatK02
import Derived.Test.YtgkkcpgocbcbaaaGreatK19
import Derived.Test.YtgkkcpgocbcbaaaGreatK18
import Derived.Test.YtgkkcpgocbcbaaaGreatK08
namespace Go.Proofs.YtgkkcpgocbcbaaaGreat
open Go.RowKit
set_option linter.unusedVariables false
structure dr3 (b0:World) (g n:Nat) (fs:List R3) (W:World):Prop where
 len:n=fs.length
 row:rowF W g (n*3)
 at_:∀ j (h:j<fs.length),at3 W g (j*3) fs[j]
 lo:b0.heap.size≤g
 hi:g<W.heap.size
 m:n≤1048576
theorem dr3.same {b0 W W':World} {g n:Nat} {fs:List R3} (h:dr3 b0 g n fs W) (he:W'.heap[g]?=W.heap[g]?) (hz:W.heap.size≤W'.heap.size):dr3 b0 g n fs W':=
 ⟨h.len,h.row.up he,fun j hj=>(h.at_ j hj).up he,h.lo,Nat.lt_of_lt_of_le h.hi hz,h.m⟩
theorem dr3.below {b0 W W':World} {g n:Nat} {fs:List R3} (h:dr3 b0 g n fs W) (hb:Below W.heap.size W W'):dr3 b0 g n fs W':=h.same (hb.block _ h.hi) hb.size
theorem clone3_dr (w:World) (b0:World) (g n cap:Nat) (bs:List R3) (h:isR3s w (some ⟨g,0,none⟩) n cap bs) (hn:n≤1048576) (hb0:b0.heap.size≤w.heap.size) :
  Calls Tryz.prog 74 #[.slice (some ⟨g,0,none⟩) n cap] w fun e w'=>∃ g' cap',e = .returned (.slice (some ⟨g',0,none⟩) n cap')∧w.heap.size≤g'∧n≤cap'∧dr3 b0 g' n bs w'∧Below w.heap.size w w':=by
 refine (clone_any w g n cap bs h hn).mono ?_
 rintro e w' ⟨v',rfl,ho,hv,hbw⟩
 rcases ownsRow_split ho with⟨e,_⟩|⟨g',cap',rfl,hb,hlt,hcp,hrf,hrg⟩
 ·exact absurd e hv
 ·refine⟨g',cap',rfl,hb,hcp,⟨h.len,hrf,fun j hj=>?_,by omega,hlt,hn⟩,hbw⟩
  obtain⟨y0,y1,y2⟩:=c3_at bs j hj
  have q:=fun t u hu=>hrg t u hu
  simp only[Nat.zero_add] at q
  exact⟨q _ _ y0,q _ _ y1,q _ _ y2⟩
theorem c5_at (bs:List X5):∀ j (h:j<bs.length) t,t<5→(c5 bs)[j*5+t]?=(x5 bs[j])[t]?:=by
 induction bs with
 | nil=>intro j h;exact absurd h (Nat.not_lt_zero _)
 | cons b bs ih=>
  intro j h t ht
  cases j with
  | zero=>
   simp only[c5,List.flatMap_cons,Nat.zero_mul,Nat.zero_add]
   rw[List.getElem?_append_left (by simpa[x5,f5] using ht)]
   rfl
  | succ j=>
   have e:(j+1)*5+t=5+(j*5+t):=by omega
   rw[e]
   simp only[c5,List.flatMap_cons]
   rw[List.getElem?_append_right (by simp[x5,f5])]
   have:=ih j (by simpa using h) t ht
   simp only[c5] at this
   simpa[x5,f5] using this
theorem dr8.step {b0 W w1:World} {U g n:Nat} {bx:List R8} {hs:Nat→Hd} {k:Nat} (h:dr8 b0 U g n bx hs k W) (hk:k<bx.length) (hU:U≤W.heap.size) (hgU:g<U) (a':Option Addr) (c':Nat) (ho:ownA W.heap.size a' (hs k).2.1 w1) (hi:∀ W',(∀ b,a'=some ⟨b,0,none⟩→W'.heap[b]?=w1.heap[b]?)→isBytes W' a' (hs k).2.1 c' bx[k].l) (hb:Below W.heap.size W w1):∃ hs',dr8 b0 U g n bx hs' (k+1) (w1.setCell ⟨g,k*8+7,none⟩ (.slice a' (hs k).2.1 c')):=by
 have h1:=h.below hb
 have hln:=h.len
 have oth:∀ x,x≠g→(w1.setCell ⟨g,k*8+7,none⟩ (.slice a' (hs k).2.1 c')).heap[x]?=w1.heap[x]?:=fun x hx=>heap_setCell_other w1 ⟨g,k*8+7,none⟩ x _ hx
 have hsz:(w1.setCell ⟨g,k*8+7,none⟩ (.slice a' (hs k).2.1 c')).heap.size=w1.heap.size:=by simp
 have hbelow:Below b0.heap.size b0 (w1.setCell ⟨g,k*8+7,none⟩ (.slice a' (hs k).2.1 c')):=h1.bel.setCell (by exact h1.lo) _
 refine⟨fun j=>if j=k then (a',(hs k).2.1,c') else hs j,h.len,h1.row.setCell _ _,fun j hj=>?_,fun j hj hkj=>?_,fun j hj hkj=>?_,?_,h.lo,by rw[hsz];exact h1.hi,hbelow,h.sm⟩
 ·intro t u hu
  have ht:t<8:=by have:=(List.getElem?_eq_some_iff.mp hu).1;simpa[x8] using this
  by_cases e:j=k
  ·subst e
   rw[if_pos rfl] at hu
   by_cases e7:t=7
   ·subst e7
    have e8:u = .slice a' (hs j).2.1 c':=by simpa[x8] using hu.symm
    rw[e8]
    exact World.cell?_setCell_same _ _ _ (h1.rng j hj 7 _ rfl)
   ·rw[World.cell?_setCell_other _ _ _ _ (by intro hh;simp at hh <;> omega)]
    refine h1.rng j hj t u ?_
    rw[← hu]
    have:t=0∨t=1∨t=2∨t=3∨t=4∨t=5∨t=6:=by omega
    rcases this with rfl | rfl | rfl | rfl | rfl | rfl | rfl <;> rfl
  ·rw[if_neg e] at hu
   rw[World.cell?_setCell_other _ _ _ _ (by intro hh;simp at hh <;> omega)]
   exact h1.rng j hj t u hu
 ·rw[if_neg (by omega)]
  exact h.old j hj (by omega)
 ·by_cases e:j=k
  ·subst e
   rw[if_pos rfl]
   have hag:∀ b,a'=some ⟨b,0,none⟩→b≠g:=by
    intro b hb'
    rcases ho with⟨e,_⟩|⟨b2,e,h2,_⟩
    ·rw[hb'] at e;cases e
    ·rw[hb'] at e;cases e;omega
   refine⟨hi _ (fun b hb'=>oth b (hag b hb')),?_⟩
   rcases ho with⟨e1,e2⟩|⟨b,e1,e2,e3,e4⟩
   ·exact Or.inl ⟨e1,e2⟩
   ·exact Or.inr ⟨b,e1,by omega,by rw[hsz];exact e3,e4.up (oth b (hag b e1))⟩
  ·rw[if_neg e]
   have hjk:j<k:=by omega
   obtain⟨q1,q2⟩:=h1.new j hj hjk
   rcases q2 with⟨e1,e2⟩|⟨b,e1,e2,e3,e4⟩
   ·refine⟨⟨q1.len,q1.cap,q1.small,fun hne=>?_⟩,Or.inl ⟨e1,e2⟩⟩
    exact absurd (List.length_pos_iff.2 hne) (by have:=q1.len;omega)
   ·have hbg:b≠g:=by omega
    rw[e1] at q1 ⊢
    exact⟨q1.other (oth b hbg),Or.inr ⟨b,rfl,e2,by rw[hsz];exact e3,e4.up (oth b hbg)⟩⟩
 ·intro i j hij hjk b hb'
  have hik:i<k:=by omega
  simp only[if_neg (show i≠k by omega)] at hb'
  by_cases e:j=k
  ·subst e
   simp only[if_true]
   intro hb2
   rcases ho with⟨e1,_⟩|⟨b2,e1,e2,_⟩
   ·rw[hb2] at e1;cases e1
   ·rw[hb2] at e1
    cases e1
    rcases (h.new i (by omega) hik).2 with⟨e3,_⟩|⟨b3,e3,_,e5,_⟩
    ·rw[hb'] at e3;cases e3
    ·rw[hb'] at e3;cases e3;omega
  ·simp only[if_neg e]
   exact h.dst i j hij (by omega) b hb'
theorem dr8.sh {b0 W:World} {U g n:Nat} {bx:List R8} {hs:Nat→Hd} (h:dr8 b0 U g n bx hs n W) (hgU:g<U):sh8 W g n hs∧(∀ j,j<n→∀ b,(hs j).1=some ⟨b,0,none⟩→U≤b∧b<W.heap.size):=by
 have hln:=h.len
 refine⟨⟨h.row,fun j hj=>⟨(h.at_ j (by omega)).cs,?_⟩⟩,?_⟩
 ·have q:=h.new j (by omega) hj
  have q1:=q.1.len
  have q2:=h.sm j (by omega)
  refine⟨by omega,q.1.cap,?_⟩
  rcases q.2 with e|⟨b,e1,e2,e3,e4⟩
  ·exact Or.inl e
  ·exact Or.inr ⟨b,e1,by omega,e4⟩
 ·intro j hj b hb
  rcases (h.new j (by omega) hj).2 with⟨e,_⟩|⟨b2,e1,e2,e3,e4⟩
  ·rw[hb] at e;cases e
  ·rw[hb] at e1;cases e1;exact⟨e2,e3⟩
structure dr5 (b0:World) (U g n:Nat) (bx:List R5) (hs:Nat→Hd) (k:Nat) (W:World):Prop where
 len:n=bx.length
 row:rowF W g (n*5)
 rng:∀ j (h:j<bx.length),W.rangeAt g (j*5) (x5 (bx[j],hs j))
 old:∀ j (h:j<bx.length),k≤j→isBytes b0 (hs j).1 (hs j).2.1 (hs j).2.2 bx[j].l
 new:∀ j (h:j<bx.length),j<k→isBytes W (hs j).1 (hs j).2.1 (hs j).2.2 bx[j].l∧(((hs j).1=none∧(hs j).2.1=0)∨∃ b,(hs j).1=some ⟨b,0,none⟩∧U≤b∧b<W.heap.size∧rowF W b (hs j).2.1)
 dst:dst hs k
 lo:b0.heap.size≤g
 hi:g<W.heap.size
 bel:Below b0.heap.size b0 W
 sm:∀ j (h:j<bx.length),bx[j].l.length≤1048576
theorem dr5.same {b0 W W':World} {U g n:Nat} {bx:List R5} {hs:Nat→Hd} {k:Nat} (h:dr5 b0 U g n bx hs k W) (he:∀ x,x=g∨U≤x→x<W.heap.size→W'.heap[x]?=W.heap[x]?) (hz:W.heap.size≤W'.heap.size) (hb:Below b0.heap.size b0 W'):dr5 b0 U g n bx hs k W':=
 ⟨h.len,h.row.up (he g (Or.inl rfl) h.hi),fun j hj=>(rangeAt.up (h.rng j hj) (he g (Or.inl rfl) h.hi)),h.old,fun j hj hk=>by
  obtain⟨h1,h2⟩:=h.new j hj hk
  rcases h2 with⟨e1,e2⟩|⟨b,e1,e2,e3,e4⟩
  ·refine⟨⟨h1.len,h1.cap,h1.small,fun hne=>?_⟩,Or.inl ⟨e1,e2⟩⟩
   exact absurd (List.length_pos_iff.2 hne) (by have:=h1.len;omega)
  ·rw[e1] at h1 ⊢
   exact⟨h1.other (he b (Or.inr e2) e3),Or.inr ⟨b,rfl,e2,Nat.lt_of_lt_of_le e3 hz,e4.up (he b (Or.inr e2) e3)⟩⟩,h.dst,h.lo,Nat.lt_of_lt_of_le h.hi hz,hb,h.sm⟩
theorem dr5.below {b0 W W':World} {U g n:Nat} {bx:List R5} {hs:Nat→Hd} {k:Nat} (h:dr5 b0 U g n bx hs k W) (hb:Below W.heap.size W W'):dr5 b0 U g n bx hs k W':=
 h.same (fun x _ hx=>hb.block x hx) hb.size (h.bel.trans (hb.mono h.bel.size))
theorem dr5.start {b0 W:World} {B U g n:Nat} {L:List R5} (bs:List X5) (hm:bs.map (·.1)=L) (hby:∀ j (hj:j<bs.length),isBytes b0 bs[j].2.1 bs[j].2.2.1 bs[j].2.2.2 bs[j].1.l) (hn:n=L.length) (hr:rowF W g (n*5)) (hg:W.rangeAt g 0 (c5 bs)) (hlo:b0.heap.size≤g) (hhi:g<W.heap.size) (hb:Below b0.heap.size b0 W) (hsm:∀ j (h:j<L.length),L[j].l.length≤1048576):dr5 b0 U g n L (fun j=>(bs.getD j (⟨false,0,false,0,[]⟩,none,0,0)).2) 0 W:=by
 subst hm
 have hl:(bs.map (·.1)).length=bs.length:=by simp
 refine⟨hn,hr,fun j hj=>?_,fun j hj _=>?_,fun j hj hk=>absurd hk (Nat.not_lt_zero _),fun i j _ hj=>absurd hj (Nat.not_lt_zero _),hlo,hhi,hb,hsm⟩
 ·have hj':j<bs.length:=by omega
  have e:((bs.map (·.1))[j],(bs.getD j (⟨false,0,false,0,[]⟩,none,0,0)).2)=bs[j]:=by simp[List.getD,hj']
  rw[e]
  intro t u hu
  have ht:t<5:=by have:=(List.getElem?_eq_some_iff.mp hu).1;simpa[x5,f5] using this
  rw[← c5_at bs j hj' t ht] at hu
  have:=hg _ _ hu
  rw[Nat.zero_add] at this
  exact this
 ·have hj':j<bs.length:=by omega
  have:=hby j hj'
  simpa[List.getD,hj'] using this
theorem dr5.at_ {b0 W:World} {U g n:Nat} {bx:List R5} {hs:Nat→Hd} {k:Nat} (h:dr5 b0 U g n bx hs k W) (j:Nat) (hj:j<bx.length):at5 W g (j*5) bx[j] (hs j).1 (hs j).2.1 (hs j).2.2:=by
 have hr:=h.rng j hj
 refine⟨hr 0 _ rfl,hr 1 _ rfl,hr 2 _ rfl,hr 3 _ rfl,hr 4 _ rfl,?_⟩
 by_cases hk:j<k
 ·exact (h.new j hj hk).1
 ·exact (h.old j hj (by omega)).below h.bel
theorem dr5.is {b0 W:World} {U g n:Nat} {bx:List R5} {hs:Nat→Hd} {k cap:Nat} (h:dr5 b0 U g n bx hs k W) (hc:n≤cap):isR5s W (some ⟨g,0,none⟩) n cap bx:=
 ⟨h.len,hc,fun _=>⟨g,0,rfl,fun j hj=>⟨_,_,_,by rw[Nat.zero_add];exact h.at_ j hj⟩⟩⟩
theorem dr5.step {b0 W w1:World} {U g n:Nat} {bx:List R5} {hs:Nat→Hd} {k:Nat} (h:dr5 b0 U g n bx hs k W) (hk:k<bx.length) (hU:U≤W.heap.size) (hgU:g<U) (a':Option Addr) (c':Nat) (ho:ownA W.heap.size a' (hs k).2.1 w1) (hi:∀ W',(∀ b,a'=some ⟨b,0,none⟩→W'.heap[b]?=w1.heap[b]?)→isBytes W' a' (hs k).2.1 c' bx[k].l) (hb:Below W.heap.size W w1):∃ hs',dr5 b0 U g n bx hs' (k+1) (w1.setCell ⟨g,k*5+4,none⟩ (.slice a' (hs k).2.1 c')):=by
 have h1:=h.below hb
 have hln:=h.len
 have oth:∀ x,x≠g→(w1.setCell ⟨g,k*5+4,none⟩ (.slice a' (hs k).2.1 c')).heap[x]?=w1.heap[x]?:=fun x hx=>heap_setCell_other w1 ⟨g,k*5+4,none⟩ x _ hx
 have hsz:(w1.setCell ⟨g,k*5+4,none⟩ (.slice a' (hs k).2.1 c')).heap.size=w1.heap.size:=by simp
 have hbelow:Below b0.heap.size b0 (w1.setCell ⟨g,k*5+4,none⟩ (.slice a' (hs k).2.1 c')):=h1.bel.setCell (by exact h1.lo) _
 refine⟨fun j=>if j=k then (a',(hs k).2.1,c') else hs j,h.len,h1.row.setCell _ _,fun j hj=>?_,fun j hj hkj=>?_,fun j hj hkj=>?_,?_,h.lo,by rw[hsz];exact h1.hi,hbelow,h.sm⟩
 ·intro t u hu
  have ht:t<5:=by have:=(List.getElem?_eq_some_iff.mp hu).1;simpa[x5,f5] using this
  by_cases e:j=k
  ·subst e
   rw[if_pos rfl] at hu
   by_cases e7:t=4
   ·subst e7
    have e8:u = .slice a' (hs j).2.1 c':=by simpa[x5,f5] using hu.symm
    rw[e8]
    exact World.cell?_setCell_same _ _ _ (h1.rng j hj 4 _ rfl)
   ·rw[World.cell?_setCell_other _ _ _ _ (by intro hh;simp at hh <;> omega)]
    refine h1.rng j hj t u ?_
    rw[← hu]
    have:t=0∨t=1∨t=2∨t=3:=by omega
    rcases this with rfl | rfl | rfl | rfl <;> rfl
  ·rw[if_neg e] at hu
   rw[World.cell?_setCell_other _ _ _ _ (by intro hh;simp at hh <;> omega)]
   exact h1.rng j hj t u hu
 ·rw[if_neg (by omega)]
  exact h.old j hj (by omega)
 ·by_cases e:j=k
  ·subst e
   rw[if_pos rfl]
   have hag:∀ b,a'=some ⟨b,0,none⟩→b≠g:=by
    intro b hb'
    rcases ho with⟨e,_⟩|⟨b2,e,h2,_⟩
    ·rw[hb'] at e;cases e
    ·rw[hb'] at e;cases e;omega
   refine⟨hi _ (fun b hb'=>oth b (hag b hb')),?_⟩
   rcases ho with⟨e1,e2⟩|⟨b,e1,e2,e3,e4⟩
   ·exact Or.inl ⟨e1,e2⟩
   ·exact Or.inr ⟨b,e1,by omega,by rw[hsz];exact e3,e4.up (oth b (hag b e1))⟩
  ·rw[if_neg e]
   have hjk:j<k:=by omega
   obtain⟨q1,q2⟩:=h1.new j hj hjk
   rcases q2 with⟨e1,e2⟩|⟨b,e1,e2,e3,e4⟩
   ·refine⟨⟨q1.len,q1.cap,q1.small,fun hne=>?_⟩,Or.inl ⟨e1,e2⟩⟩
    exact absurd (List.length_pos_iff.2 hne) (by have:=q1.len;omega)
   ·have hbg:b≠g:=by omega
    rw[e1] at q1 ⊢
    exact⟨q1.other (oth b hbg),Or.inr ⟨b,rfl,e2,by rw[hsz];exact e3,e4.up (oth b hbg)⟩⟩
 ·intro i j hij hjk b hb'
  have hik:i<k:=by omega
  simp only[if_neg (show i≠k by omega)] at hb'
  by_cases e:j=k
  ·subst e
   simp only[if_true]
   intro hb2
   rcases ho with⟨e1,_⟩|⟨b2,e1,e2,_⟩
   ·rw[hb2] at e1;cases e1
   ·rw[hb2] at e1
    cases e1
    rcases (h.new i (by omega) hik).2 with⟨e3,_⟩|⟨b3,e3,_,e5,_⟩
    ·rw[hb'] at e3;cases e3
    ·rw[hb'] at e3;cases e3;omega
  ·simp only[if_neg e]
   exact h.dst i j hij (by omega) b hb'
theorem dr5.sh {b0 W:World} {U g n:Nat} {bx:List R5} {hs:Nat→Hd} (h:dr5 b0 U g n bx hs n W) (hgU:g<U):sh5 W g n hs∧(∀ j,j<n→∀ b,(hs j).1=some ⟨b,0,none⟩→U≤b∧b<W.heap.size):=by
 have hln:=h.len
 refine⟨⟨h.row,fun j hj=>⟨(h.at_ j (by omega)).cs,?_⟩⟩,?_⟩
 ·have q:=h.new j (by omega) hj
  have q1:=q.1.len
  have q2:=h.sm j (by omega)
  refine⟨by omega,q.1.cap,?_⟩
  rcases q.2 with e|⟨b,e1,e2,e3,e4⟩
  ·exact Or.inl e
  ·exact Or.inr ⟨b,e1,by omega,e4⟩
 ·intro j hj b hb
  rcases (h.new j (by omega) hj).2 with⟨e,_⟩|⟨b2,e1,e2,e3,e4⟩
  ·rw[hb] at e;cases e
  ·rw[hb] at e1;cases e1;exact⟨e2,e3⟩
theorem run_makeMapN (n:Nat) (W:World):(Instr.makeMap 119 (some (.int .i64 (n:Int)))).run Tryz.prog W = .ok (.map (some W.heap.size)) (W.alloc (.map #[] 0)):=by
 simp[Instr.makeMap,go_sem]
set_option maxHeartbeats 8000000 in
set_option maxRecDepth 20000 in
theorem openHost_any (H:Type) (w:World) (c0 c2:Int) (r1 r3:Nat) (fs:List R3) (bx:List R8) (ff:List R5) (qu:List R8) (lo st:Int) (g1 n1 k1 g2 o2 n2 k2:Nat) (a3:Option Addr) (n3 k3:Nat) (a4:Option Addr) (n4 k4:Nat) (h1:isR3s w (some ⟨g1,0,none⟩) n1 k1 fs) (h2:isR8s w (some ⟨g2,o2,none⟩) n2 k2 bx) (h3:isR5s w a3 n3 k3 ff) (h4:isR8s w a4 n4 k4 qu) (m1:n1≤1048576) (m2:n2≤8) (hc1:1≤r1∧r1≤1000∧n3≤r1) (hc3:1≤r3∧r3≤1000∧n4≤r3) (hok:okBxs st bx) (hsm:∀ j (h:j<bx.length),bx[j].l.length≤1048576) :
  Calls Tryz.prog 45 #[.agg #[.int .i64 c0,.int .i64 (r1:Int),.int .i64 c2,.int .i64 (r3:Int),.slice (some ⟨g1,0,none⟩) n1 k1,.slice (some ⟨g2,o2,none⟩) n2 k2,.slice a3 n3 k3,.slice a4 n4 k4,.int .i64 lo,.int .i64 st]] w fun o w'=>∃ P mb gf kf gb kb hs gr gq,o = .returned (.pointer (some ⟨P,0,none⟩))∧lvS H w P mb [.int .i64 c0,.int .i64 (r1:Int),.int .i64 c2,.int .i64 (r3:Int),.slice (some ⟨gf,0,none⟩) n1 kf,.slice (some ⟨gb,0,none⟩) n2 kb,.map (some mb),.slice (some ⟨gr,0,none⟩) r1 r1,.int .i64 0,.int .i64 (n3:Int),.slice (some ⟨gq,0,none⟩) r3 r3,.int .i64 0,.int .i64 (n4:Int),.int .i64 lo,.int .i64 st] gf n1 kf fs gb n2 kb bx hs gr r1 ff gq r3 qu n2 w':=by
 have HSU:Hid (∀ (w1:World) (P mb:Nat) (hb0:Below w.heap.size w w1) (hP:blk w1 P [.int .i64 0,.int .i64 0,.int .i64 0,.int .i64 0,.slice none 0 0,.slice none 0 0,.map (some mb),.slice none 0 0,.int .i64 0,.int .i64 0,.slice none 0 0,.int .i64 0,.int .i64 0,.int .i64 0,.int .i64 0] 125) (hm:w1.heap[mb]?=some (.map #[] 0)) (hP0:w.heap.size≤P) (hmb0:w.heap.size≤mb) (hne:mb≠P),Calls Tryz.prog 73 #[.pointer (some ⟨P,0,none⟩),.agg #[.int .i64 c0,.int .i64 (r1:Int),.int .i64 c2,.int .i64 (r3:Int),.slice (some ⟨g1,0,none⟩) n1 k1,.slice (some ⟨g2,o2,none⟩) n2 k2,.slice a3 n3 k3,.slice a4 n4 k4,.int .i64 lo,.int .i64 st]] w1 fun o w'=>∃ gf kf gb kb hs gr gq,o = .returned (.tuple #[])∧lvS H w P mb [.int .i64 c0,.int .i64 (r1:Int),.int .i64 c2,.int .i64 (r3:Int),.slice (some ⟨gf,0,none⟩) n1 kf,.slice (some ⟨gb,0,none⟩) n2 kb,.map (some mb),.slice (some ⟨gr,0,none⟩) r1 r1,.int .i64 0,.int .i64 (n3:Int),.slice (some ⟨gq,0,none⟩) r3 r3,.int .i64 0,.int .i64 (n4:Int),.int .i64 lo,.int .i64 st] gf n1 kf fs gb n2 kb bx hs gr r1 ff gq r3 qu n2 w'):=fun w1 P mb hb0 hP hm hP0 hmb0 hne=>setUp_any H w w1 P mb c0 c2 r1 r3 fs bx ff qu lo st g1 n1 k1 g2 o2 n2 k2 a3 n3 k3 a4 n4 k4 h1 h2 h3 h4 m1 m2 hc1 hc3 hok hsm hmb0 hb0 hP hm hP0 hne
 have HPH:Hid (blk (w.alloc (.cells #[.int .i64 c0,.int .i64 (r1:Int),.int .i64 c2,.int .i64 (r3:Int),.slice (some ⟨g1,0,none⟩) n1 k1,.slice (some ⟨g2,o2,none⟩) n2 k2,.slice a3 n3 k3,.slice a4 n4 k4,.int .i64 lo,.int .i64 st] 30)) w.heap.size [.int .i64 c0,.int .i64 (r1:Int),.int .i64 c2,.int .i64 (r3:Int),.slice (some ⟨g1,0,none⟩) n1 k1,.slice (some ⟨g2,o2,none⟩) n2 k2,.slice a3 n3 k3,.slice a4 n4 k4,.int .i64 lo,.int .i64 st] 30∧Below w.heap.size w (w.alloc (.cells #[.int .i64 c0,.int .i64 (r1:Int),.int .i64 c2,.int .i64 (r3:Int),.slice (some ⟨g1,0,none⟩) n1 k1,.slice (some ⟨g2,o2,none⟩) n2 k2,.slice a3 n3 k3,.slice a4 n4 k4,.int .i64 lo,.int .i64 st] 30))):=⟨blk.new w _ 30,(Below.refl _ _).alloc (Nat.le_refl _) _⟩
 have y5:=HPH.out.1.cell 5 _ rfl
 clear h1 h2 h3 h4 m1 hc1 hc3 hok hsm
 have HM2:Hid (((w.alloc (.cells #[.int .i64 c0,.int .i64 (r1:Int),.int .i64 c2,.int .i64 (r3:Int),.slice (some ⟨g1,0,none⟩) n1 k1,.slice (some ⟨g2,o2,none⟩) n2 k2,.slice a3 n3 k3,.slice a4 n4 k4,.int .i64 lo,.int .i64 st] 30)).alloc (.map #[] 0)).heap[w.heap.size+1]?=some (.map #[] 0)):=by
  have:=heap_alloc_new (w.alloc (.cells #[.int .i64 c0,.int .i64 (r1:Int),.int .i64 c2,.int .i64 (r3:Int),.slice (some ⟨g1,0,none⟩) n1 k1,.slice (some ⟨g2,o2,none⟩) n2 k2,.slice a3 n3 k3,.slice a4 n4 k4,.int .i64 lo,.int .i64 st] 30)) (.map #[] 0)
  have e:(w.alloc (.cells #[.int .i64 c0,.int .i64 (r1:Int),.int .i64 c2,.int .i64 (r3:Int),.slice (some ⟨g1,0,none⟩) n1 k1,.slice (some ⟨g2,o2,none⟩) n2 k2,.slice a3 n3 k3,.slice a4 n4 k4,.int .i64 lo,.int .i64 st] 30)).heap.size=w.heap.size+1:=by simp
  rw[e] at this
  exact this
 have HM3:Hid ((((w.alloc (.cells #[.int .i64 c0,.int .i64 (r1:Int),.int .i64 c2,.int .i64 (r3:Int),.slice (some ⟨g1,0,none⟩) n1 k1,.slice (some ⟨g2,o2,none⟩) n2 k2,.slice a3 n3 k3,.slice a4 n4 k4,.int .i64 lo,.int .i64 st] 30)).alloc (.map #[] 0)).alloc (.cells #[.int .i64 0,.int .i64 0,.int .i64 0,.int .i64 0,.slice none 0 0,.slice none 0 0,.map (some (w.heap.size+1)),.slice none 0 0,.int .i64 0,.int .i64 0,.slice none 0 0,.int .i64 0,.int .i64 0,.int .i64 0,.int .i64 0] 125)).heap[w.heap.size+1]?=some (.map #[] 0)):=(Below.heap_alloc _ _ _ (lt_of_some HM2.out)).trans HM2.out
 have HP3:Hid (blk (((w.alloc (.cells #[.int .i64 c0,.int .i64 (r1:Int),.int .i64 c2,.int .i64 (r3:Int),.slice (some ⟨g1,0,none⟩) n1 k1,.slice (some ⟨g2,o2,none⟩) n2 k2,.slice a3 n3 k3,.slice a4 n4 k4,.int .i64 lo,.int .i64 st] 30)).alloc (.map #[] 0)).alloc (.cells #[.int .i64 0,.int .i64 0,.int .i64 0,.int .i64 0,.slice none 0 0,.slice none 0 0,.map (some (w.heap.size+1)),.slice none 0 0,.int .i64 0,.int .i64 0,.slice none 0 0,.int .i64 0,.int .i64 0,.int .i64 0,.int .i64 0] 125)) (w.heap.size+1+1) [.int .i64 0,.int .i64 0,.int .i64 0,.int .i64 0,.slice none 0 0,.slice none 0 0,.map (some (w.heap.size+1)),.slice none 0 0,.int .i64 0,.int .i64 0,.slice none 0 0,.int .i64 0,.int .i64 0,.int .i64 0,.int .i64 0] 125):=by
  have:=blk.new ((w.alloc (.cells #[.int .i64 c0,.int .i64 (r1:Int),.int .i64 c2,.int .i64 (r3:Int),.slice (some ⟨g1,0,none⟩) n1 k1,.slice (some ⟨g2,o2,none⟩) n2 k2,.slice a3 n3 k3,.slice a4 n4 k4,.int .i64 lo,.int .i64 st] 30)).alloc (.map #[] 0)) [.int .i64 0,.int .i64 0,.int .i64 0,.int .i64 0,.slice none 0 0,.slice none 0 0,.map (some (w.heap.size+1)),.slice none 0 0,.int .i64 0,.int .i64 0,.slice none 0 0,.int .i64 0,.int .i64 0,.int .i64 0,.int .i64 0] 125
  have e:((w.alloc (.cells #[.int .i64 c0,.int .i64 (r1:Int),.int .i64 c2,.int .i64 (r3:Int),.slice (some ⟨g1,0,none⟩) n1 k1,.slice (some ⟨g2,o2,none⟩) n2 k2,.slice a3 n3 k3,.slice a4 n4 k4,.int .i64 lo,.int .i64 st] 30)).alloc (.map #[] 0)).heap.size=w.heap.size+1+1:=by simp
  rw[e] at this
  exact this
 have HB3:Hid (Below w.heap.size w (((w.alloc (.cells #[.int .i64 c0,.int .i64 (r1:Int),.int .i64 c2,.int .i64 (r3:Int),.slice (some ⟨g1,0,none⟩) n1 k1,.slice (some ⟨g2,o2,none⟩) n2 k2,.slice a3 n3 k3,.slice a4 n4 k4,.int .i64 lo,.int .i64 st] 30)).alloc (.map #[] 0)).alloc (.cells #[.int .i64 0,.int .i64 0,.int .i64 0,.int .i64 0,.slice none 0 0,.slice none 0 0,.map (some (w.heap.size+1)),.slice none 0 0,.int .i64 0,.int .i64 0,.slice none 0 0,.int .i64 0,.int .i64 0,.int .i64 0,.int .i64 0] 125))):=((HPH.out.2.alloc (by simp) _).alloc (by simp;omega) _)
 have hmm:∀ W:World,(Instr.makeMap 119 (some (.int .i64 (n2:Int)))).run Tryz.prog W = .ok (.map (some W.heap.size)) (W.alloc (.map #[] 0)):=fun W=>run_makeMapN n2 W
 go_enter Tryz.func45,Tryz.ntmps45
 go_wp2_with fail
 refine (HSU.out _ (w.heap.size+1+1) (w.heap.size+1) HB3.out HP3.out HM3.out (by omega) (by omega) (by omega)).mono ?_
 rintro o w9 ⟨gf,kf,gb,kb,hs,gr,gq,rfl,hlv⟩
 have HLV:Hid _:=hlv
 clear hlv hmm y5 HSU HPH HM2 HM3 HP3 HB3
 go_wp2
 go_ret
 exact⟨_,_,gf,kf,gb,kb,hs,gr,gq,rfl,HLV.out⟩
def slSome (s:Sl):Prop:=(∃ g,s.a1=some ⟨g,0,none⟩)∧(∃ g,s.a2=some ⟨g,0,none⟩)
theorem wrHo.some {B T:Nat} {W:World} {s:Sl} (h:wrHo B T W s):slSome s:=by
 obtain⟨g1,g2,g3,g4,e,_⟩:=h.e
 rw[e]
 exact⟨⟨g1,rfl⟩,⟨g2,rfl⟩⟩
theorem okHo.n2 {H:Ho} (h:okHo H):H.bx.length≤8:=by
 have h1:=of_decide_eq_true h.cf
 have h2:=h.nb
 omega
theorem lvS.best {w0:World} {P mb:Nat} {L:List Value} {gf n1 kf:Nat} {fs:List R3} {gb n2 kb:Nat} {bx:List R8} {hs:Nat→Hd} {gr r1:Nat} {ff:List R5} {gq r3:Nat} {qu:List R8} {k:Nat} {W:World} {st:Int} (h:lvS Unit w0 P mb L gf n1 kf fs gb n2 kb bx hs gr r1 ff gq r3 qu k W) (h5:L[5]?=some (.slice (some ⟨gb,0,none⟩) n2 kb)) (hn:n2≤8) (hok:okBxs st bx) :
  Calls Tryz.prog 136 #[.pointer (some ⟨P,0,none⟩)] W fun o w'=>∃ r:Int,o = .returned (.int .i64 r)∧bestR bx r∧Below w0.heap.size w0 w':=
 (best_any W P (some ⟨gb,0,none⟩) n2 kb bx st (h.p.cell 5 _ h5) ((h.x.k W rfl h.b).1.is (h.x.k W rfl h.b).2) hn hok).mono (by rintro o w' ⟨r,rfl,hr,hb⟩;exact⟨r,rfl,hr,h.b.trans (hb.mono h.b.size)⟩)
theorem isBytes.typed {W:World} {a:Option Addr} {n cap:Nat} {l:List Nat} (h:isBytes W a n cap l) (p:Addr) (v v':Value) (hp:W.cell? p=some v) (hv:∀ x,v≠.int .u8 x):isBytes (W.setCell p v') a n cap l:=by
 refine⟨h.len,h.cap,h.small,fun hne=>?_⟩
 obtain⟨g,off,e,hc⟩:=h.cells hne
 refine⟨g,off,e,fun j hj=>?_⟩
 rw[World.cell?_setCell_other _ _ _ _ (by
  intro e2
  have:=hc j hj
  rw[← e2,hp] at this
  injection this with this
  exact hv _ this)]
 exact hc j hj
def onW (b:R8):Prop:=b.x=2∨b.x=3
def bsy (bx:List R8) (r:Int):Prop:=(∃ (k:Nat) (h:k<bx.length),onW bx[k]∧(∀ j (hj:j<bx.length),j<k→¬ onW bx[j])∧r=(k:Int))∨((∀ k (h:k<bx.length),¬ onW bx[k])∧r = -1)
theorem bsy_neg {bx:List R8} {r:Int} (h:bsy bx r):r<0↔∀ k (h:k<bx.length),¬ onW bx[k]:=by
 rcases h with⟨k,hk,h1,_,rfl⟩|⟨h1,rfl⟩
 ·exact⟨fun e=>by omega,fun e=>absurd h1 (e k hk)⟩
 ·exact⟨fun _=>h1,fun _=>by omega⟩
def takeB (bx:List R8) (i:Int):List R8:=if h:0≤i∧i<(bx.length:Int) then (if (bx[i.toNat]'(by omega)).x=1∧(∀ b ∈ bx,¬ (b.x=2∨b.x=3)) then bx.set i.toNat { (bx[i.toNat]'(by omega)) with x:=2 } else bx) else bx
def takeHo (H:Ho) (i:Int):Ho:={ H with bx:=takeB H.bx i }
theorem takeB_out {bx:List R8} {i:Int} (h:i<0∨(bx.length:Int)≤i):takeB bx i=bx:=by unfold takeB;rw[dif_neg (by omega)]
theorem takeB_no {bx:List R8} {k:Nat} (hk:k<bx.length) (h:bx[k].x≠1):takeB bx (k:Int)=bx:=by
 unfold takeB
 rw[dif_pos (by omega),if_neg]
 rintro⟨h1,_⟩
 simp only[Int.toNat_natCast] at h1
 exact h h1
theorem takeB_busy {bx:List R8} {i:Int} {r:Int} (h:bsy bx r) (hr:0≤r):takeB bx i=bx:=by
 unfold takeB
 by_cases hi:0≤i∧i<(bx.length:Int)
 ·rw[dif_pos hi,if_neg]
  rintro⟨_,h2⟩
  have:=(bsy_neg h).2 (fun k hk=>h2 _ (List.getElem_mem hk))
  omega
 ·rw[dif_neg hi]
theorem takeB_yes {bx:List R8} {k:Nat} (hk:k<bx.length) (h:bx[k].x=1) {r:Int} (hb:bsy bx r) (hr:r<0):takeB bx (k:Int)=bx.set k { bx[k] with x:=2 }:=by
 unfold takeB
 rw[dif_pos (by omega),if_pos]
 ·simp
 ·refine⟨by simpa using h,fun b hbm=>?_⟩
  obtain⟨j,hj,rfl⟩:=List.getElem_of_mem hbm
  exact (bsy_neg hb).1 hr j hj
theorem isR8s.setX {W:World} {g n cap:Nat} {bx:List R8} (h:isR8s W (some ⟨g,0,none⟩) n cap bx) (k:Nat) (hk:k<bx.length) (v:Int):isR8s (W.setCell ⟨g,k*8,none⟩ (.int .i64 v)) (some ⟨g,0,none⟩) n cap (bx.set k { bx[k] with x:=v }):=by
 have hc:∀ j (h:j<bx.length),∃ ao m c,at8 W g (j*8) bx[j] ao m c:=by
  obtain⟨g',off,e,hc⟩:=h.cells (by intro e;subst e;cases hk)
  cases e
  intro j hj
  have:=hc j hj
  rw[Nat.zero_add] at this
  exact this
 obtain⟨_,_,_,hk0⟩:=hc k hk
 refine⟨by simpa using h.len,h.cap,fun _=>⟨g,0,rfl,fun j hj=>?_⟩⟩
 have hj':j<bx.length:=by simpa using hj
 obtain⟨ao,m,c,q⟩:=hc j hj'
 refine⟨ao,m,c,?_⟩
 rw[Nat.zero_add]
 have ot:∀ t,j*8+t≠k*8→(W.setCell ⟨g,k*8,none⟩ (.int .i64 v)).cell? ⟨g,j*8+t,none⟩=W.cell? ⟨g,j*8+t,none⟩:=fun t ht=>World.cell?_setCell_other _ _ _ _ (by intro e;simp at e <;> omega)
 have od:=q.dat.typed ⟨g,k*8,none⟩ _ (.int .i64 v) hk0.c0 (by intro x e;cases e)
 by_cases e:j=k
 ·subst e
  simp only[List.getElem_set_self]
  exact⟨World.cell?_setCell_same _ _ _ hk0.c0,(ot 1 (by omega)).trans q.c1,(ot 2 (by omega)).trans q.c2,(ot 3 (by omega)).trans q.c3,(ot 4 (by omega)).trans q.c4,(ot 5 (by omega)).trans q.c5,(ot 6 (by omega)).trans q.c6,(ot 7 (by omega)).trans q.cs,od⟩
 ·rw[List.getElem_set_ne (by omega)]
  exact⟨(ot 0 (by omega)).trans q.c0,(ot 1 (by omega)).trans q.c1,(ot 2 (by omega)).trans q.c2,(ot 3 (by omega)).trans q.c3,(ot 4 (by omega)).trans q.c4,(ot 5 (by omega)).trans q.c5,(ot 6 (by omega)).trans q.c6,(ot 7 (by omega)).trans q.cs,od⟩
theorem isR8s.setAt {W:World} {a:Option Addr} {n cap:Nat} {bx:List R8} (h:isR8s W a n cap bx) (p:Addr) (x v:Int) (hp:W.cell? p=some (.int .i64 x)) (hb:∀ g off,a=some ⟨g,off,none⟩→g≠p.block):isR8s (W.setCell p (.int .i64 v)) a n cap bx:=by
 refine⟨h.len,h.cap,fun hne=>?_⟩
 obtain⟨g,off,e,hc⟩:=h.cells hne
 refine⟨g,off,e,fun j hj=>?_⟩
 obtain⟨ao,m,c,q⟩:=hc j hj
 have hg:=heap_setCell_other W p g (.int .i64 v) (hb g off e)
 exact⟨ao,m,c,cell_up q.c0 hg,cell_up q.c1 hg,cell_up q.c2 hg,cell_up q.c3 hg,cell_up q.c4 hg,cell_up q.c5 hg,cell_up q.c6 hg,cell_up q.cs hg,q.dat.typed p _ _ hp (by intro y e;cases e)⟩
theorem isR5s.setAt {W:World} {a:Option Addr} {n cap:Nat} {bx:List R5} (h:isR5s W a n cap bx) (p:Addr) (x v:Int) (hp:W.cell? p=some (.int .i64 x)) (hb:∀ g off,a=some ⟨g,off,none⟩→g≠p.block):isR5s (W.setCell p (.int .i64 v)) a n cap bx:=by
 refine⟨h.len,h.cap,fun hne=>?_⟩
 obtain⟨g,off,e,hc⟩:=h.cells hne
 refine⟨g,off,e,fun j hj=>?_⟩
 obtain⟨ao,m,c,q⟩:=hc j hj
 have hg:=heap_setCell_other W p g (.int .i64 v) (hb g off e)
 exact⟨ao,m,c,cell_up q.c0 hg,cell_up q.c1 hg,cell_up q.c2 hg,cell_up q.c3 hg,cell_up q.cs hg,q.dat.typed p _ _ hp (by intro y e;cases e)⟩
theorem isR3s.setAt {W:World} {a:Option Addr} {n cap:Nat} {bx:List R3} (h:isR3s W a n cap bx) (p:Addr) (x v:Int) (hp:W.cell? p=some (.int .i64 x)):isR3s (W.setCell p (.int .i64 v)) a n cap bx:=by
 refine⟨h.len,h.cap,fun hne=>?_⟩
 obtain⟨g,off,e,hc⟩:=h.cells hne
 refine⟨g,off,e,fun j hj=>?_⟩
 have q:=hc j hj
 have ot:∀ (t:Nat) (u:Value),W.cell? ⟨g,t,none⟩=some u→(∀ y,u≠.int .i64 y)→(W.setCell p (.int .i64 v)).cell? ⟨g,t,none⟩=some u:=fun t u hu hn=>by
  rw[World.cell?_setCell_other _ _ _ _ (by intro e2;rw[← e2,hp] at hu;injection hu with hu;exact hn _ hu.symm)]
  exact hu
 exact⟨ot _ _ q.c0 (by intro y e;cases e),ot _ _ q.c1 (by intro y e;cases e),ot _ _ q.c2 (by intro y e;cases e)⟩
theorem isHo.setX {W:World} {H:Ho} {s:Sl} (h:isHo W H s) {g:Nat} (ha:s.a2=some ⟨g,0,none⟩) (hne:∀ x,s.a3=some ⟨x,0,none⟩∨s.a4=some ⟨x,0,none⟩→g≠x) (ha3:∃ x,s.a3=some ⟨x,0,none⟩) (ha4:∃ x,s.a4=some ⟨x,0,none⟩) (k:Nat) (hk:k<H.bx.length) (v:Int):isHo (W.setCell ⟨g,k*8,none⟩ (.int .i64 v)) { H with bx:=H.bx.set k { H.bx[k] with x:=v } } s:=by
 have hb:=h.bx
 rw[ha] at hb
 obtain⟨g',off,e,hc⟩:=hb.cells (by intro e;rw[e] at hk;cases hk)
 cases e
 obtain⟨_,_,_,q⟩:=hc k hk
 have q0:=q.c0
 rw[Nat.zero_add] at q0
 obtain⟨x3,e3⟩:=ha3
 obtain⟨x4,e4⟩:=ha4
 refine⟨h.fs.setAt _ _ _ q0,?_,h.ff.setAt _ _ _ q0 (fun g2 off e=>?_),h.qu.setAt _ _ _ q0 (fun g2 off e=>?_)⟩
 ·rw[ha]
  exact hb.setX k hk v
 ·rw[e3] at e;cases e
  exact fun e5=>hne x3 (Or.inl e3) e5.symm
 ·rw[e4] at e;cases e
  exact fun e5=>hne x4 (Or.inr e4) e5.symm
set_option maxHeartbeats 4000000 in
set_option maxRecDepth 20000 in
theorem indexBox_any (w:World) (a:Option Addr) (n cap:Nat) (bs:List R8) (h:isR8s w a n cap bs) (hn:n≤1048576) :
  Calls Tryz.prog 125 #[.slice a n cap,.func (.func 79) #[] #[]] w fun o w'=>∃ z:Int,o = .returned (.int .i64 z)∧bsy bs z∧Below w.heap.size w w':=by
 have hlen:=h.len
 have hcp:=h.cap
 by_cases hl:bs=[]
 ·subst hl
  have hn0:n=0:=hlen
  subst hn0
  clear hlen h
  go_enter Tryz.func125,Tryz.ntmps125
  go_wp2
  go_loopw [8] (fun i wr=>i = .int .i64 0∧wr=w) (fun _ _=>0)
  case atStart=>exact⟨rfl,rfl⟩
  case round=>
   obtain⟨rfl,rfl⟩:=hrel
   go_wp2
   go_ret
   exact⟨-1,rfl,Or.inr ⟨fun k hk=>(by cases hk),rfl⟩,Below.refl _ _⟩
 ·obtain⟨g,off,rfl,hc⟩:=h.cells hl
  have HL:Hid (n=bs.length):=hlen
  have HC:Hid (∀ j (h:j<bs.length),∃ ao m c,at8 w g (off+j*8) bs[j] ao m c):=hc
  clear h hlen hc
  go_enter Tryz.func125,Tryz.ntmps125
  go_wp2
  go_loopw [8] (fun i wr=>∃ k:Nat,k≤n∧i = .int .i64 (k:Int)∧(∀ j (hj:j<bs.length),j<k→¬ onW bs[j])∧Below w.heap.size w wr) (fun i _=>n-(intOf i).toNat)
  case atStart=>exact⟨0,Nat.zero_le _,rfl,fun j hj h=>absurd h (Nat.not_lt_zero _),Below.refl _ _⟩
  case round=>
   obtain⟨k,hk,rfl,hdone,hb⟩:=hrel
   by_cases hlt:k<n
   ·have hkl:k<bs.length:=by have:=HL.out;omega
    obtain⟨ao,m,c,hx⟩:=HC.out k hkl
    have hx':=hx.below hb
    have HRG:=hx'.range
    have HW:Hid (Calls Tryz.prog 79 #[bxV bs[k].x bs[k].y bs[k].z bs[k].e bs[k].i bs[k].r bs[k].d ao m c] wr fun o w'=>o = .returned (.bool (bs[k].x == 2 || bs[k].x == 3))∧Below wr.heap.size wr w'):=isOnWire_any wr bs[k] ao m c
    have HB:Hid (Below w.heap.size w wr):=hb
    have HD:Hid (∀ j (hj:j<bs.length),j<k→¬ onW bs[j]):=hdone
    clear hx hx' hb hdone
    have HON:Hid ((bs[k].x == 2 || bs[k].x == 3)=true↔onW bs[k]):=by show _↔_;unfold onW;simp
    generalize (bs[k].x == 2 || bs[k].x == 3)=q at *
    have HRG:Hid (wr.rangeAt g (off+k*8) [.int .i64 bs[k].x,.int .i64 bs[k].y,.int .i64 bs[k].z,.bool bs[k].e,.int .u32 (bs[k].i:Int),.bool bs[k].r,.int .i64 bs[k].d,.slice ao m c]):=HRG
    cases q
    ·have HN:Hid (∀ j (hj:j<bs.length),j<k+1→¬ onW bs[j]):=fun j hj hjk=>by
      by_cases e:j=k
      ·subst e;exact fun h=>absurd (HON.out.2 h) (by simp)
      ·exact HD.out j hj (by omega)
     clear HON
     generalize bs[k].x=x0 at *
     generalize bs[k].y=y0 at *
     generalize bs[k].z=z0 at *
     generalize bs[k].e=e0 at *
     generalize bs[k].i=i0 at *
     generalize bs[k].r=r0 at *
     generalize bs[k].d=d0 at *
     go_wp2_with (first
      | (refine wpList_load_mid (P:=Tryz.prog) rfl 55 _ rfl g (off+k*8) rfl _ _ HRG.out Tryz.underlying55 rfl sz95 ?_)
      | (go_at_call 79;refine HW.out.mono ?_;rintro o w5 ⟨rfl,hb5⟩))
     go_roundw
     case rel=>exact⟨k+1,by omega,by go_num,HN.out,HB.out.trans (hb5.mono HB.out.size)⟩
     case measure=>simp[intOf];omega
    ·have HN:Hid (bsy bs (k:Int)):=Or.inl ⟨k,hkl,HON.out.1 rfl,HD.out,rfl⟩
     clear HON
     generalize bs[k].x=x0 at *
     generalize bs[k].y=y0 at *
     generalize bs[k].z=z0 at *
     generalize bs[k].e=e0 at *
     generalize bs[k].i=i0 at *
     generalize bs[k].r=r0 at *
     generalize bs[k].d=d0 at *
     go_wp2_with (first
      | (refine wpList_load_mid (P:=Tryz.prog) rfl 55 _ rfl g (off+k*8) rfl _ _ HRG.out Tryz.underlying55 rfl sz95 ?_)
      | (go_at_call 79;refine HW.out.mono ?_;rintro o w5 ⟨rfl,hb5⟩))
     go_ret
     exact⟨k,rfl,HN.out,HB.out.trans (hb5.mono HB.out.size)⟩
   ·have hkn:n=k:=by omega
    subst hkn
    go_wp2
    go_ret
    exact⟨-1,rfl,Or.inr ⟨fun j hj=>hdone j hj (by have:=HL.out;omega),rfl⟩,hb⟩
set_option maxHeartbeats 2000000 in
theorem onWire_any (w:World) (P:Nat) (a:Option Addr) (n cap:Nat) (bx:List R8) (y5:w.cell? ⟨P,5,none⟩=some (.slice a n cap)) (h:isR8s w a n cap bx) (hn:n≤1048576) :
  Calls Tryz.prog 94 #[.pointer (some ⟨P,0,none⟩)] w fun o w'=>∃ z:Int,o = .returned (.int .i64 z)∧bsy bx z∧Below w.heap.size w w':=by
 have HI:Hid (Calls Tryz.prog 125 #[.slice a n cap,.func (.func 79) #[] #[]] w fun o w'=>∃ z:Int,o = .returned (.int .i64 z)∧bsy bx z∧Below w.heap.size w w'):=indexBox_any w a n cap bx h hn
 clear h
 go_enter Tryz.func94,Tryz.ntmps94
 go_wp2_with (first | (go_at_call 125;refine HI.out.mono ?_;rintro o w5 ⟨z,rfl,hz,hb5⟩;have HZ:Hid (bsy bx z∧Below w.heap.size w w5):=⟨hz,hb5⟩;clear hz hb5))
 go_ret
 exact⟨z,rfl,HZ.out.1,HZ.out.2⟩
def sendQ (W:World) (gb:Nat) (bx:List R8) (i:Int) (w':World):Prop:=∃ W1,Below W.heap.size W W1∧((w'=W1∧takeB bx i=bx)∨∃ (k:Nat) (hk:k<bx.length),w'=W1.setCell ⟨gb,k*8,none⟩ (.int .i64 2)∧takeB bx i=bx.set k { bx[k] with x:=2 }∧bx[k].x=1)
set_option maxHeartbeats 8000000 in
set_option maxRecDepth 20000 in
theorem send_any (W:World) (P gb n kb:Nat) (bx:List R8) (i:Int) (y5:W.cell? ⟨P,5,none⟩=some (.slice (some ⟨gb,0,none⟩) n kb)) (h:isR8s W (some ⟨gb,0,none⟩) n kb bx) (hrf:rowF W gb (n*8)) (hn:n≤8) :
  Calls Tryz.prog 138 #[.pointer (some ⟨P,0,none⟩),.int .i64 i] W fun o w'=>o = .returned (.tuple #[])∧sendQ W gb bx i w':=by
 have hln:=h.len
 have hcp:=h.cap
 by_cases hi:0≤i∧i≤(n:Int)-1
 ·obtain⟨k,rfl⟩ : ∃ k:Nat,i=(k:Int):=⟨i.toNat,by omega⟩
  have hk:k<bx.length:=by omega
  have hkn:k<n:=by omega
  have HIR:Hid (∀ X,Calls Tryz.prog 51 #[.int .i64 (k:Int),.int .i64 0,.int .i64 ((n:Int)-1)] X fun o w'=>o = .returned (.bool true)∧w'=X):=fun X=>(inRange_any X _ _ _).mono (by rintro o w' ⟨rfl,rfl⟩;exact⟨by simp;omega,rfl⟩)
  obtain⟨ao,m,c,q⟩ : ∃ ao m c,at8 W gb (k*8) bx[k] ao m c:=by
   obtain⟨g',off,e,hc⟩:=h.cells (by intro e;rw[e] at hk;cases hk)
   cases e
   have:=hc k hk
   rw[Nat.zero_add] at this
   exact this
  have y0:=q.c0
  have HOW:Hid (Calls Tryz.prog 94 #[.pointer (some ⟨P,0,none⟩)] W fun o w'=>∃ z:Int,o = .returned (.int .i64 z)∧bsy bx z∧Below W.heap.size W w'):=onWire_any W P _ n kb bx y5 h (by omega)
  have HRF:Hid (rowF W gb (n*8)):=hrf
  have HP:Hid (P<W.heap.size∧gb<W.heap.size):=⟨World.block_lt_of_cell? W _ y5,World.block_lt_of_cell? W _ y0⟩
  clear h hrf q hi hln
  by_cases hx:bx[k].x=1
  ·rw[hx] at y0
   have HX:Hid (bx[k].x=1):=hx
   clear hx
   go_enter Tryz.func138,Tryz.ntmps138
   go_wp2_with (first | (go_at_call 51;refine (HIR.out _).mono ?_;rintro o w1 ⟨rfl,rfl⟩))
   refine HOW.out.mono ?_
   rintro o w5 ⟨z,rfl,hz,hb5⟩
   have y5':=(hb5.cell (p:=⟨P,5,none⟩) (by exact HP.out.1)).trans y5
   have y0':=(hb5.cell (p:=⟨gb,k*8,none⟩) (by exact HP.out.2)).trans y0
   have f0:w5.frozen? ⟨gb,k*8,none⟩=false:=by
    rw[World.frozen?_of_block (hb5.block gb HP.out.2)]
    exact (HRF.out (k*8) (by omega)).2
   have HB5:Hid (Below w1.heap.size w1 w5):=hb5
   have HZ:Hid (bsy bx z):=hz
   clear hz hb5 y5 y0
   by_cases hz0:z<0
   ·have HT:Hid (takeB bx (k:Int)=bx.set k { bx[k] with x:=2 }):=takeB_yes hk HX.out HZ.out hz0
    go_wp2_with fail
    first | go_end0 | (simp only[Exit.inBlock,Exit.then];refine bodyPost_ret (results_none rfl _ _ _) rfl ?_) | refine bodyPost_ret (results_none rfl _ _ _) rfl ?_
    exact⟨rfl,w5,HB5.out,Or.inr ⟨k,hk,rfl,HT.out,HX.out⟩⟩
   ·have HT:Hid (takeB bx (k:Int)=bx):=takeB_busy HZ.out (by omega)
    go_wp2_with fail
    first | go_end0 | (simp only[Exit.inBlock,Exit.then];refine bodyPost_ret (results_none rfl _ _ _) rfl ?_) | refine bodyPost_ret (results_none rfl _ _ _) rfl ?_
    exact⟨rfl,w5,HB5.out,Or.inl ⟨rfl,HT.out⟩⟩
  ·have hx':(bx[k].x == 1)=false:=by simpa using hx
   have HT:Hid (takeB bx (k:Int)=bx):=takeB_no hk hx
   generalize bx[k].x=x at *
   go_enter Tryz.func138,Tryz.ntmps138
   go_wp2_with (first | (go_at_call 51;refine (HIR.out _).mono ?_;rintro o w1 ⟨rfl,rfl⟩))
   first | go_end0 | (simp only[Exit.inBlock,Exit.then];refine bodyPost_ret (results_none rfl _ _ _) rfl ?_) | refine bodyPost_ret (results_none rfl _ _ _) rfl ?_
   exact⟨rfl,w1,Below.refl _ _,Or.inl ⟨rfl,HT.out⟩⟩
 ·have HIR:Hid (∀ X,Calls Tryz.prog 51 #[.int .i64 i,.int .i64 0,.int .i64 ((n:Int)-1)] X fun o w'=>o = .returned (.bool false)∧w'=X):=fun X=>(inRange_any X _ _ _).mono (by rintro o w' ⟨rfl,rfl⟩;exact⟨by simp;omega,rfl⟩)
  have HT:Hid (takeB bx i=bx):=takeB_out (by omega)
  clear h hrf hi hcp hln
  go_enter Tryz.func138,Tryz.ntmps138
  go_wp2_with (first | (go_at_call 51;refine (HIR.out _).mono ?_;rintro o w1 ⟨rfl,rfl⟩))
  first | go_end0 | (simp only[Exit.inBlock,Exit.then];refine bodyPost_ret (results_none rfl _ _ _) rfl ?_) | refine bodyPost_ret (results_none rfl _ _ _) rfl ?_
  exact⟨rfl,w1,Below.refl _ _,Or.inl ⟨rfl,HT.out⟩⟩
end Go.Proofs.YtgkkcpgocbcbaaaGreat
