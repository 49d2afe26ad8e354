import Derived.Test.YtkfcfigbgmbaiaaGreatK18
namespace Go.Proofs.YtkfcfigbgmbaiaaGreat
open Go.RowKit
set_option linter.unusedVariables false
open Go.Value renaming int→I,slice→sL,bool→bO,pointer→pT,agg→aG
open Go.IntKind renaming i64→J
open Go.Ending renaming returned→rT
open Go.Proofs.Tryz renaming prog→Tp
variable {b0 W W' w1:World} {g n U k:Nat} {hs:Nat→Hd} {bx:List R5} {fs:List R3}
structure dr3 (b0:World) (g n:Nat) (fs:List R3) (W:World):Prop where
 len:n=fs.length
 row:rowF W g (n*3)
 at_:∀ j (h:j<fs.length),at3 W g (j*3) fs[j]
 lo:b0.heap.size≤g
 hi:g<W.heap.size
 m:n≤1048576
theorem dr3.same (h:dr3 b0 g n fs W) (he:W'.heap[g]?=W.heap[g]?) (hz:W.heap.size≤W'.heap.size):dr3 b0 g n fs W':=
 ⟨h.len,h.row.up he,fun j hj=>(h.at_ j hj).up he,h.lo,nL h.hi hz,h.m⟩
theorem dr3.below (h:dr3 b0 g n fs W) (hb:Below W.heap.size W W'):dr3 b0 g n fs W':=h.same (hb.block _ h.hi) hb.size
theorem clone3_dr (w:World) (b0:World) (g n cap:Nat) (bs:List R3) (h:isR3s w (some ⟨g,0,none⟩) n cap bs) (hn:n≤1048576) (hb0:b0.heap.size≤w.heap.size) :
  Calls Tp 177 #[sL (some ⟨g,0,none⟩) n cap] w fun e w'=>∃ g' cap',e = rT (sL (some ⟨g',0,none⟩) n cap')∧w.heap.size≤g'∧n≤cap'∧dr3 b0 g' n bs w'∧Below w.heap.size w w':=by
 refine (clone_any w g n cap bs h hn).mono ?_
 rintro e w' ⟨v',rfl,ho,hv,hbw⟩;rcases ownsRow_split ho with⟨e,_⟩|⟨g',cap',rfl,hb,hlt,hcp,hrf,hrg⟩
 ·exact absurd e hv
 ·refine⟨g',cap',rfl,hb,hcp,⟨h.len,hrf,fun j hj=>?_,by omega,hlt,hn⟩,hbw⟩
  obtain⟨y0,y1,y2⟩:=c3_at bs j hj
  have q:=fun t u hu=>hrg t u hu
  simp only[Nat.zero_add] at q
  exact⟨q _ _ y0,q _ _ y1,q _ _ y2⟩
theorem c5_at (bs:List X5):∀ j (h:j<bs.length) t,t<5→(c5 bs)[j*5+t]?=(x5 bs[j])[t]?:=by
 induction bs with
 | nil=>intro j h;exact absurd h (nN _)
 | cons b bs ih=>
  intro j h t ht;cases j with
  | zero=>
   simp only[c5,List.flatMap_cons,Nat.zero_mul,Nat.zero_add]
   rw[List.getElem?_append_left (by simpa[x5,f5] using ht)]
   rfl
  | succ j=>
   have e:(j+1)*5+t=5+(j*5+t):=by omega
   rw[e]
   simp only[c5,List.flatMap_cons]
   rw[List.getElem?_append_right (by simp[x5,f5])]
   have:=ih j (by simpa using h) t ht
   simp only[c5] at this
   simpa[x5,f5] using this
theorem dr8.step {bx:List R8} (h:dr8 b0 U g n bx hs k W) (hk:k<bx.length) (hU:U≤W.heap.size) (hgU:g<U) (a':Option Addr) (c':Nat) (ho:ownA W.heap.size a' (hs k).2.1 w1) (hi:∀ W',(∀ b,a'=some ⟨b,0,none⟩→W'.heap[b]?=w1.heap[b]?)→iB W' a' (hs k).2.1 c' bx[k].l) (hb:Below W.heap.size W w1):∃ hs',dr8 b0 U g n bx hs' (k+1) (w1.setCell ⟨g,k*8+7,none⟩ (sL a' (hs k).2.1 c')):=by
 have h1:=h.below hb
 have hln:=h.len
 have oth:∀ x,x≠g→(w1.setCell ⟨g,k*8+7,none⟩ (sL a' (hs k).2.1 c')).heap[x]?=w1.heap[x]?:=fun x hx=>heap_setCell_other w1 ⟨g,k*8+7,none⟩ x _ hx
 have hsz:(w1.setCell ⟨g,k*8+7,none⟩ (sL a' (hs k).2.1 c')).heap.size=w1.heap.size:=by simp
 have hbelow:Below b0.heap.size b0 (w1.setCell ⟨g,k*8+7,none⟩ (sL a' (hs k).2.1 c')):=h1.bel.setCell (by exact h1.lo) _
 refine⟨fun j=>if j=k then (a',(hs k).2.1,c') else hs j,h.len,h1.row.setCell _ _,fun j hj=>?_,fun j hj hkj=>?_,fun j hj hkj=>?_,?_,h.lo,by rw[hsz];exact h1.hi,hbelow,h.sm⟩
 ·intro t u hu;have ht:t<8:=by have:=(List.getElem?_eq_some_iff.mp hu).1;simpa[x8] using this
  by_cases e:j=k
  ·subst e;rw[if_pos rfl] at hu
   by_cases e7:t=7
   ·subst e7;have e8:u = sL a' (hs j).2.1 c':=by simpa[x8] using hu.symm
    rw[e8]
    exact World.cell?_setCell_same _ _ _ (h1.rng j hj 7 _ rfl)
   ·rw[World.cell?_setCell_other _ _ _ _ (by intro hh;simp at hh <;> omega)]
    refine h1.rng j hj t u ?_
    rw[← hu]
    have:t=0∨t=1∨t=2∨t=3∨t=4∨t=5∨t=6:=by omega
    rcases this with rfl | rfl | rfl | rfl | rfl | rfl | rfl <;> rfl
  ·rw[if_neg e] at hu
   rw[World.cell?_setCell_other _ _ _ _ (by intro hh;simp at hh <;> omega)]
   exact h1.rng j hj t u hu
 ·rw[if_neg (by omega)]
  exact h.old j hj (by omega)
 ·by_cases e:j=k
  ·subst e;rw[if_pos rfl]
   have hag:∀ b,a'=some ⟨b,0,none⟩→b≠g:=by
    intro b hb';rcases ho with⟨e,_⟩|⟨b2,e,h2,_⟩
    ·rw[hb'] at e;cases e
    ·rw[hb'] at e;cases e;omega
   refine⟨hi _ (fun b hb'=>oth b (hag b hb')),?_⟩
   rcases ho with⟨e1,e2⟩|⟨b,e1,e2,e3,e4⟩
   ·exact Or.inl ⟨e1,e2⟩
   ·exact Or.inr ⟨b,e1,by omega,by rw[hsz];exact e3,e4.up (oth b (hag b e1))⟩
  ·rw[if_neg e]
   have hjk:j<k:=by omega
   obtain⟨q1,q2⟩:=h1.new j hj hjk
   rcases q2 with⟨e1,e2⟩|⟨b,e1,e2,e3,e4⟩
   ·refine⟨⟨q1.len,q1.cap,q1.small,fun hne=>?_⟩,Or.inl ⟨e1,e2⟩⟩
    exact absurd (List.length_pos_iff.2 hne) (by have:=q1.len;omega)
   ·have hbg:b≠g:=by omega
    rw[e1] at q1 ⊢
    exact⟨q1.other (oth b hbg),Or.inr ⟨b,rfl,e2,by rw[hsz];exact e3,e4.up (oth b hbg)⟩⟩
 ·intro i j hij hjk b hb';have hik:i<k:=by omega
  simp only[if_neg (show i≠k by omega)] at hb'
  by_cases e:j=k
  ·subst e;simp only[if_true]
   intro hb2;rcases ho with⟨e1,_⟩|⟨b2,e1,e2,_⟩
   ·rw[hb2] at e1;cases e1
   ·rw[hb2] at e1
    cases e1
    rcases (h.new i (by omega) hik).2 with⟨e3,_⟩|⟨b3,e3,_,e5,_⟩
    ·rw[hb'] at e3;cases e3
    ·rw[hb'] at e3;cases e3;omega
  ·simp only[if_neg e]
   exact h.dst i j hij (by omega) b hb'
theorem dr8.sh {bx:List R8} (h:dr8 b0 U g n bx hs n W) (hgU:g<U):sh8 W g n hs∧(∀ j,j<n→∀ b,(hs j).1=some ⟨b,0,none⟩→U≤b∧b<W.heap.size):=by
 have hln:=h.len
 refine⟨⟨h.row,fun j hj=>⟨(h.at_ j (by omega)).cs,?_⟩⟩,?_⟩
 ·have q:=h.new j (by omega) hj
  have q1:=q.1.len
  have q2:=h.sm j (by omega)
  refine⟨by omega,q.1.cap,?_⟩
  rcases q.2 with e|⟨b,e1,e2,e3,e4⟩
  ·exact Or.inl e
  ·exact Or.inr ⟨b,e1,by omega,e4⟩
 ·intro j hj b hb;rcases (h.new j (by omega) hj).2 with⟨e,_⟩|⟨b2,e1,e2,e3,e4⟩
  ·rw[hb] at e;cases e
  ·rw[hb] at e1;cases e1;exact⟨e2,e3⟩
structure dr5 (b0:World) (U g n:Nat) (bx:List R5) (hs:Nat→Hd) (k:Nat) (W:World):Prop where
 len:n=bx.length
 row:rowF W g (n*5)
 rng:∀ j (h:j<bx.length),W.rangeAt g (j*5) (x5 (bx[j],hs j))
 old:∀ j (h:j<bx.length),k≤j→iB b0 (hs j).1 (hs j).2.1 (hs j).2.2 bx[j].l
 new:∀ j (h:j<bx.length),j<k→iB W (hs j).1 (hs j).2.1 (hs j).2.2 bx[j].l∧(((hs j).1=none∧(hs j).2.1=0)∨∃ b,(hs j).1=some ⟨b,0,none⟩∧U≤b∧b<W.heap.size∧rowF W b (hs j).2.1)
 dst:dst hs k
 lo:b0.heap.size≤g
 hi:g<W.heap.size
 bel:Below b0.heap.size b0 W
 sm:∀ j (h:j<bx.length),bx[j].l.length≤1048576
theorem dr5.same (h:dr5 b0 U g n bx hs k W) (he:∀ x,x=g∨U≤x→x<W.heap.size→W'.heap[x]?=W.heap[x]?) (hz:W.heap.size≤W'.heap.size) (hb:Below b0.heap.size b0 W'):dr5 b0 U g n bx hs k W':=
 ⟨h.len,h.row.up (he g (Or.inl rfl) h.hi),fun j hj=>(rangeAt.up (h.rng j hj) (he g (Or.inl rfl) h.hi)),h.old,fun j hj hk=>by
  obtain⟨h1,h2⟩:=h.new j hj hk
  rcases h2 with⟨e1,e2⟩|⟨b,e1,e2,e3,e4⟩
  ·refine⟨⟨h1.len,h1.cap,h1.small,fun hne=>?_⟩,Or.inl ⟨e1,e2⟩⟩
   exact absurd (List.length_pos_iff.2 hne) (by have:=h1.len;omega)
  ·rw[e1] at h1 ⊢
   exact⟨h1.other (he b (Or.inr e2) e3),Or.inr ⟨b,rfl,e2,nL e3 hz,e4.up (he b (Or.inr e2) e3)⟩⟩,h.dst,h.lo,nL h.hi hz,hb,h.sm⟩
theorem dr5.below (h:dr5 b0 U g n bx hs k W) (hb:Below W.heap.size W W'):dr5 b0 U g n bx hs k W':=
 h.same (fun x _ hx=>hb.block x hx) hb.size (h.bel.trans (hb.mono h.bel.size))
theorem dr5.start {L:List R5} (bs:List X5) (hm:bs.map (·.1)=L) (hby:∀ j (hj:j<bs.length),iB b0 bs[j].2.1 bs[j].2.2.1 bs[j].2.2.2 bs[j].1.l) (hn:n=L.length) (hr:rowF W g (n*5)) (hg:W.rangeAt g 0 (c5 bs)) (hlo:b0.heap.size≤g) (hhi:g<W.heap.size) (hb:Below b0.heap.size b0 W) (hsm:∀ j (h:j<L.length),L[j].l.length≤1048576):dr5 b0 U g n L (fun j=>(bs.getD j (⟨false,0,false,0,[]⟩,none,0,0)).2) 0 W:=by
 subst hm;have hl:(bs.map (·.1)).length=bs.length:=by simp
 refine⟨hn,hr,fun j hj=>?_,fun j hj _=>?_,fun j hj hk=>absurd hk (nN _),fun i j _ hj=>absurd hj (nN _),hlo,hhi,hb,hsm⟩
 ·have hj':j<bs.length:=by omega
  have e:((bs.map (·.1))[j],(bs.getD j (⟨false,0,false,0,[]⟩,none,0,0)).2)=bs[j]:=by simp[List.getD,hj']
  rw[e]
  intro t u hu;have ht:t<5:=by have:=(List.getElem?_eq_some_iff.mp hu).1;simpa[x5,f5] using this
  rw[← c5_at bs j hj' t ht] at hu
  have:=hg _ _ hu
  rw[Nat.zero_add] at this
  exact this
 ·have hj':j<bs.length:=by omega
  have:=hby j hj'
  simpa[List.getD,hj'] using this
theorem dr5.at_ (h:dr5 b0 U g n bx hs k W) (j:Nat) (hj:j<bx.length):at5 W g (j*5) bx[j] (hs j).1 (hs j).2.1 (hs j).2.2:=by
 have hr:=h.rng j hj
 refine⟨hr 0 _ rfl,hr 1 _ rfl,hr 2 _ rfl,hr 3 _ rfl,hr 4 _ rfl,?_⟩
 by_cases hk:j<k
 ·exact (h.new j hj hk).1
 ·exact (h.old j hj (by omega)).below h.bel
theorem dr5.is {cap:Nat} (h:dr5 b0 U g n bx hs k W) (hc:n≤cap):isR5s W (some ⟨g,0,none⟩) n cap bx:=
 ⟨h.len,hc,fun _=>⟨g,0,rfl,fun j hj=>⟨_,_,_,by rw[Nat.zero_add];exact h.at_ j hj⟩⟩⟩
theorem dr5.step (h:dr5 b0 U g n bx hs k W) (hk:k<bx.length) (hU:U≤W.heap.size) (hgU:g<U) (a':Option Addr) (c':Nat) (ho:ownA W.heap.size a' (hs k).2.1 w1) (hi:∀ W',(∀ b,a'=some ⟨b,0,none⟩→W'.heap[b]?=w1.heap[b]?)→iB W' a' (hs k).2.1 c' bx[k].l) (hb:Below W.heap.size W w1):∃ hs',dr5 b0 U g n bx hs' (k+1) (w1.setCell ⟨g,k*5+4,none⟩ (sL a' (hs k).2.1 c')):=by
 have h1:=h.below hb
 have hln:=h.len
 have oth:∀ x,x≠g→(w1.setCell ⟨g,k*5+4,none⟩ (sL a' (hs k).2.1 c')).heap[x]?=w1.heap[x]?:=fun x hx=>heap_setCell_other w1 ⟨g,k*5+4,none⟩ x _ hx
 have hsz:(w1.setCell ⟨g,k*5+4,none⟩ (sL a' (hs k).2.1 c')).heap.size=w1.heap.size:=by simp
 have hbelow:Below b0.heap.size b0 (w1.setCell ⟨g,k*5+4,none⟩ (sL a' (hs k).2.1 c')):=h1.bel.setCell (by exact h1.lo) _
 refine⟨fun j=>if j=k then (a',(hs k).2.1,c') else hs j,h.len,h1.row.setCell _ _,fun j hj=>?_,fun j hj hkj=>?_,fun j hj hkj=>?_,?_,h.lo,by rw[hsz];exact h1.hi,hbelow,h.sm⟩
 ·intro t u hu;have ht:t<5:=by have:=(List.getElem?_eq_some_iff.mp hu).1;simpa[x5,f5] using this
  by_cases e:j=k
  ·subst e;rw[if_pos rfl] at hu
   by_cases e7:t=4
   ·subst e7;have e8:u = sL a' (hs j).2.1 c':=by simpa[x5,f5] using hu.symm
    rw[e8]
    exact World.cell?_setCell_same _ _ _ (h1.rng j hj 4 _ rfl)
   ·rw[World.cell?_setCell_other _ _ _ _ (by intro hh;simp at hh <;> omega)]
    refine h1.rng j hj t u ?_
    rw[← hu]
    have:t=0∨t=1∨t=2∨t=3:=by omega
    rcases this with rfl | rfl | rfl | rfl <;> rfl
  ·rw[if_neg e] at hu
   rw[World.cell?_setCell_other _ _ _ _ (by intro hh;simp at hh <;> omega)]
   exact h1.rng j hj t u hu
 ·rw[if_neg (by omega)]
  exact h.old j hj (by omega)
 ·by_cases e:j=k
  ·subst e;rw[if_pos rfl]
   have hag:∀ b,a'=some ⟨b,0,none⟩→b≠g:=by
    intro b hb';rcases ho with⟨e,_⟩|⟨b2,e,h2,_⟩
    ·rw[hb'] at e;cases e
    ·rw[hb'] at e;cases e;omega
   refine⟨hi _ (fun b hb'=>oth b (hag b hb')),?_⟩
   rcases ho with⟨e1,e2⟩|⟨b,e1,e2,e3,e4⟩
   ·exact Or.inl ⟨e1,e2⟩
   ·exact Or.inr ⟨b,e1,by omega,by rw[hsz];exact e3,e4.up (oth b (hag b e1))⟩
  ·rw[if_neg e]
   have hjk:j<k:=by omega
   obtain⟨q1,q2⟩:=h1.new j hj hjk
   rcases q2 with⟨e1,e2⟩|⟨b,e1,e2,e3,e4⟩
   ·refine⟨⟨q1.len,q1.cap,q1.small,fun hne=>?_⟩,Or.inl ⟨e1,e2⟩⟩
    exact absurd (List.length_pos_iff.2 hne) (by have:=q1.len;omega)
   ·have hbg:b≠g:=by omega
    rw[e1] at q1 ⊢
    exact⟨q1.other (oth b hbg),Or.inr ⟨b,rfl,e2,by rw[hsz];exact e3,e4.up (oth b hbg)⟩⟩
 ·intro i j hij hjk b hb';have hik:i<k:=by omega
  simp only[if_neg (show i≠k by omega)] at hb'
  by_cases e:j=k
  ·subst e;simp only[if_true]
   intro hb2;rcases ho with⟨e1,_⟩|⟨b2,e1,e2,_⟩
   ·rw[hb2] at e1;cases e1
   ·rw[hb2] at e1
    cases e1
    rcases (h.new i (by omega) hik).2 with⟨e3,_⟩|⟨b3,e3,_,e5,_⟩
    ·rw[hb'] at e3;cases e3
    ·rw[hb'] at e3;cases e3;omega
  ·simp only[if_neg e]
   exact h.dst i j hij (by omega) b hb'
theorem dr5.sh (h:dr5 b0 U g n bx hs n W) (hgU:g<U):sh5 W g n hs∧(∀ j,j<n→∀ b,(hs j).1=some ⟨b,0,none⟩→U≤b∧b<W.heap.size):=by
 have hln:=h.len
 refine⟨⟨h.row,fun j hj=>⟨(h.at_ j (by omega)).cs,?_⟩⟩,?_⟩
 ·have q:=h.new j (by omega) hj
  have q1:=q.1.len
  have q2:=h.sm j (by omega)
  refine⟨by omega,q.1.cap,?_⟩
  rcases q.2 with e|⟨b,e1,e2,e3,e4⟩
  ·exact Or.inl e
  ·exact Or.inr ⟨b,e1,by omega,e4⟩
 ·intro j hj b hb;rcases (h.new j (by omega) hj).2 with⟨e,_⟩|⟨b2,e1,e2,e3,e4⟩
  ·rw[hb] at e;cases e
  ·rw[hb] at e1;cases e1;exact⟨e2,e3⟩
end Go.Proofs.YtkfcfigbgmbaiaaGreat
namespace Go.Proofs.YtkfcfigbgmbaiaaGreat
open Go.Shelf Go.RowKit
set_option linter.unusedVariables false
open Go.Value renaming int→I,slice→sL,bool→bO,pointer→pT,agg→aG
open Go.IntKind renaming i64→J
open Go.Ending renaming returned→rT
open Go.Proofs.Tryz renaming prog→Tp
variable {b0 W W':World} {U n c k:Nat} {a:Option Addr} {hs:Nat→Hd} {ff:List R5}
def dx5 (b0:World) (U:Nat) (a:Option Addr) (n c:Nat) (ff:List R5) (hs:Nat→Hd) (k:Nat) (W:World):Prop:=(a=none∧n=0∧c=0∧ff=[])∨∃ g,a=some ⟨g,0,none⟩∧n≤c∧dr5 b0 U g n ff hs k W
def dx8 (b0:World) (U:Nat) (a:Option Addr) (n c:Nat) (ff:List R8) (hs:Nat→Hd) (k:Nat) (W:World):Prop:=(a=none∧n=0∧c=0∧ff=[])∨∃ g,a=some ⟨g,0,none⟩∧n≤c∧dr8 b0 U g n ff hs k W
theorem dx5.below (h:dx5 b0 U a n c ff hs k W) (hb:Below W.heap.size W W'):dx5 b0 U a n c ff hs k W':=by
 rcases h with h|⟨g,e,h1,h2⟩
 ·exact Or.inl h
 ·exact Or.inr ⟨g,e,h1,h2.below hb⟩
theorem dx8.below {ff:List R8} (h:dx8 b0 U a n c ff hs k W) (hb:Below W.heap.size W W'):dx8 b0 U a n c ff hs k W':=by
 rcases h with h|⟨g,e,h1,h2⟩
 ·exact Or.inl h
 ·exact Or.inr ⟨g,e,h1,h2.below hb⟩
theorem dx5.hi (h:dx5 b0 U a n c ff hs k W):∀ g,a=some ⟨g,0,none⟩→g<W.heap.size:=by
 rcases h with h|⟨g,e,h1,h2⟩
 ·intro g hg;rw[h.1] at hg;cases hg
 ·intro g' hg;rw[e] at hg;cases hg;exact h2.hi
theorem dx8.hi {ff:List R8} (h:dx8 b0 U a n c ff hs k W):∀ g,a=some ⟨g,0,none⟩→g<W.heap.size:=by
 rcases h with h|⟨g,e,h1,h2⟩
 ·intro g hg;rw[h.1] at hg;cases hg
 ·intro g' hg;rw[e] at hg;cases hg;exact h2.hi
theorem look5_dr (b0 w:World) (P o gs room first n:Nat) (L:List R5) (hn:n=L.length) (y0:w.cell? ⟨P,o,none⟩=some (sL (some ⟨gs,0,none⟩) room room)) (y1:w.cell? ⟨P,o+1,none⟩=some (I J (first:Int))) (y2:w.cell? ⟨P,o+2,none⟩=some (I J (n:Int))) (hr:ring5 b0 w gs room first L) (hfi:first<room) (h1:1≤room∧room≤1000) (hL:n≤room) (hb0:Below b0.heap.size b0 w) (hsm:∀ j (h:j<L.length),L[j].l.length≤1048576) :
  Calls Tp 179 #[pT (some ⟨P,o,none⟩),I J (n:Int)] w fun e w'=>∃ a c hs,e = rT (sL a n c)∧(∀ g,a=some ⟨g,0,none⟩→w.heap.size≤g)∧dx5 b0 0 a n c L hs 0 w'∧Below w.heap.size w w':=by
 subst hn;refine (look5_any b0 w P o gs room first L y0 y1 y2 hr hfi h1 hL).mono ?_
 rintro e w' ⟨v,bs,rfl,hm,hby,ho,hbw⟩;rcases ownsRow_split ho with⟨e1,e2⟩|⟨g',cap',rfl,hb,hlt,hcp,hrf,hrg⟩
 ·refine⟨none,0,fun _=>(none,0,0),by rw[e1,e2],fun g hg=>(by cases hg),Or.inl ⟨rfl,e2,rfl,List.length_eq_zero_iff.1 e2⟩,hbw⟩
 ·exact⟨some ⟨g',0,none⟩,cap',_,rfl,fun g hg=>by cases hg;exact hb,Or.inr ⟨g',rfl,hcp,dr5.start bs hm hby rfl hrf hrg (nT hb0.size hb) hlt (hb0.trans (hbw.mono hb0.size)) hsm⟩,hbw⟩
theorem look8_dr (b0 w:World) (P o gs room first n:Nat) (L:List R8) (hn:n=L.length) (y0:w.cell? ⟨P,o,none⟩=some (sL (some ⟨gs,0,none⟩) room room)) (y1:w.cell? ⟨P,o+1,none⟩=some (I J (first:Int))) (y2:w.cell? ⟨P,o+2,none⟩=some (I J (n:Int))) (hr:ring8 b0 w gs room first L) (hfi:first<room) (h1:1≤room∧room≤1000) (hL:n≤room) (hb0:Below b0.heap.size b0 w) (hsm:∀ j (h:j<L.length),L[j].l.length≤1048576) :
  Calls Tp 180 #[pT (some ⟨P,o,none⟩),I J (n:Int)] w fun e w'=>∃ a c hs,e = rT (sL a n c)∧(∀ g,a=some ⟨g,0,none⟩→w.heap.size≤g)∧dx8 b0 0 a n c L hs 0 w'∧Below w.heap.size w w':=by
 subst hn;refine (look8_any b0 w P o gs room first L y0 y1 y2 hr hfi h1 hL).mono ?_
 rintro e w' ⟨v,bs,rfl,hm,hby,ho,hbw⟩;rcases ownsRow_split ho with⟨e1,e2⟩|⟨g',cap',rfl,hb,hlt,hcp,hrf,hrg⟩
 ·refine⟨none,0,fun _=>(none,0,0),by rw[e1,e2],fun g hg=>(by cases hg),Or.inl ⟨rfl,e2,rfl,List.length_eq_zero_iff.1 e2⟩,hbw⟩
 ·exact⟨some ⟨g',0,none⟩,cap',_,rfl,fun g hg=>by cases hg;exact hb,Or.inr ⟨g',rfl,hcp,dr8.start bs hm hby rfl hrf hrg (nT hb0.size hb) hlt (hb0.trans (hbw.mono hb0.size)) hsm⟩,hbw⟩
def Z10:List Value:=[I J 0,I J 0,I J 0,I J 0,sL none 0 0,sL none 0 0,sL none 0 0,sL none 0 0,I J 0,I J 0]
structure tdE (w:World) (n1:Nat) (fs:List R3) (n2:Nat) (bx:List R8) (n3:Nat) (ff:List R5) (n4:Nat) (qu:List R8) (g1 k1 g2 k2:Nat) (h2:Nat→Hd) (a3:Option Addr) (k3:Nat) (h3:Nat→Hd) (a4:Option Addr) (k4:Nat) (h4:Nat→Hd) (PH:Nat) (W:World):Prop where
 f1:dr3 w g1 n1 fs W
 c1:n1≤k1
 f2:dr8 w 0 g2 n2 bx h2 0 W
 c2:n2≤k2
 f3:dx5 w 0 a3 n3 k3 ff h3 0 W
 f4:dx8 w 0 a4 n4 k4 qu h4 0 W
 fh:blk W PH Z10 39
 fr:blk W w.heap.size Z10 39
 o1:g1<g2
 o2:∀ g,a3=some ⟨g,0,none⟩→g2<g
 o3:∀ g,a4=some ⟨g,0,none⟩→g2<g∧∀ g',a3=some ⟨g',0,none⟩→g'<g
 p1:PH≠g1∧PH≠g2∧(∀ g,a3=some ⟨g,0,none⟩→PH≠g)∧(∀ g,a4=some ⟨g,0,none⟩→PH≠g)
 r1:w.heap.size<g1∧w.heap.size<PH
open Go.RowKit
variable {W W' b0:World} {n c U U' g k:Nat} {hs:Nat→Hd} {a:Option Addr} {ff:List R5} {bx:List R8}
theorem dr8.same0 (h:dr8 b0 U g n bx hs 0 W) (he:W'.heap[g]?=W.heap[g]?) (hz:W.heap.size≤W'.heap.size) (hb:Below b0.heap.size b0 W'):dr8 b0 U' g n bx hs 0 W':=
 ⟨h.len,h.row.up he,fun j hj=>rangeAt.up (h.rng j hj) he,h.old,fun j hj hk=>absurd hk (nN _),h.dst,h.lo,nL h.hi hz,hb,h.sm⟩
theorem dx8.same0 {ff:List R8} (h:dx8 b0 U a n c ff hs 0 W) (he:∀ g,a=some ⟨g,0,none⟩→W'.heap[g]?=W.heap[g]?) (hz:W.heap.size≤W'.heap.size) (hb:Below b0.heap.size b0 W'):dx8 b0 U' a n c ff hs 0 W':=by
 rcases h with h|⟨g,e,h1,h2⟩
 ·exact Or.inl h
 ·exact Or.inr ⟨g,e,h1,h2.same0 (he g e) hz hb⟩
theorem dx8.same {ff:List R8} (h:dx8 b0 U a n c ff hs k W) (he:∀ x,a=some ⟨x,0,none⟩∨U≤x→x<W.heap.size→W'.heap[x]?=W.heap[x]?) (hz:W.heap.size≤W'.heap.size) (hb:Below b0.heap.size b0 W'):dx8 b0 U a n c ff hs k W':=by
 rcases h with h|⟨g,e,h1,h2⟩
 ·exact Or.inl h
 ·exact Or.inr ⟨g,e,h1,h2.same (fun x hx=>he x (by rcases hx with e2 | e2;(left;rw[e2];exact e);(right;exact e2))) hz hb⟩
theorem dx8.sx {ff:List R8} (h:dx8 b0 U a n c ff hs n W) (hU:∀ g,a=some ⟨g,0,none⟩→g<U):sx8 W a n c hs∧isR8s W a n c ff∧dst hs n∧(∀ j,j<n→∀ b,(hs j).1=some ⟨b,0,none⟩→U≤b∧b<W.heap.size):=by
 rcases h with⟨e1,e2,e3,e4⟩|⟨g,e,h1,h2⟩
 ·subst e2;exact⟨Or.inl ⟨e1,rfl,e3⟩,⟨by rw[e4];rfl,by omega,fun hne=>absurd e4 hne⟩,fun i j _ hj=>absurd hj (nN _),fun j hj=>absurd hj (nN _)⟩
 ·obtain⟨q1,q2⟩:=h2.sh (hU g e)
  subst e;exact⟨Or.inr ⟨g,rfl,q1,h1⟩,h2.is h1,h2.dst,q2⟩
theorem isR8s.same {ff:List R8} (h:isR8s W a n c ff) {hs:Nat→Hd} (hx:sx8 W a n c hs) (he:∀ x,ft a n hs x→W'.heap[x]?=W.heap[x]?):isR8s W' a n c ff:=by
 rcases hx with⟨e1,e2,e3⟩|⟨g,e,h1,h2⟩
 ·have:ff=[]:=List.length_eq_zero_iff.1 (by have:=h.len;omega)
  exact⟨h.len,h.cap,fun hne=>absurd this hne⟩
 ·subst e;refine⟨h.len,h.cap,fun hne=>?_⟩
  obtain⟨g',off,e,hc⟩:=h.cells hne
  cases e
  refine⟨g,0,rfl,fun j hj=>?_⟩
  obtain⟨ao,m,c',hat⟩:=hc j hj
  have hj':j<n:=by have:=h.len;omega
  have hcs:=hat.cs
  rw[Nat.zero_add,(h1.dat j hj').1] at hcs
  have e1:(hs j).1=ao:=by injection hcs with q;injection q
  have e2:(hs j).2.1=m:=by injection hcs with q;injection q
  have hg:=he g (Or.inl rfl)
  refine⟨ao,m,c',cU hat.c0 hg,cU hat.c1 hg,cU hat.c2 hg,cU hat.c3 hg,cU hat.c4 hg,cU hat.c5 hg,cU hat.c6 hg,cU hat.cs hg,?_⟩
  have hd2:=(h1.dat j hj').2
  rcases hd2.2.2 with⟨z1,z2⟩|⟨b,z1,z2,z3⟩
  ·refine⟨hat.dat.len,hat.dat.cap,hat.dat.small,fun hne2=>?_⟩
   exact absurd (List.length_pos_iff.2 hne2) (by have:=hat.dat.len;omega)
  ·have hb:=he b (Or.inr ⟨j,hj',z1⟩)
   have hdt:=hat.dat
   rw[← e1,z1] at hdt ⊢
   exact hdt.other hb
theorem dr5.same0 {bx:List R5} (h:dr5 b0 U g n bx hs 0 W) (he:W'.heap[g]?=W.heap[g]?) (hz:W.heap.size≤W'.heap.size) (hb:Below b0.heap.size b0 W'):dr5 b0 U' g n bx hs 0 W':=
 ⟨h.len,h.row.up he,fun j hj=>rangeAt.up (h.rng j hj) he,h.old,fun j hj hk=>absurd hk (nN _),h.dst,h.lo,nL h.hi hz,hb,h.sm⟩
theorem dx5.same0 (h:dx5 b0 U a n c ff hs 0 W) (he:∀ g,a=some ⟨g,0,none⟩→W'.heap[g]?=W.heap[g]?) (hz:W.heap.size≤W'.heap.size) (hb:Below b0.heap.size b0 W'):dx5 b0 U' a n c ff hs 0 W':=by
 rcases h with h|⟨g,e,h1,h2⟩
 ·exact Or.inl h
 ·exact Or.inr ⟨g,e,h1,h2.same0 (he g e) hz hb⟩
theorem dx5.same (h:dx5 b0 U a n c ff hs k W) (he:∀ x,a=some ⟨x,0,none⟩∨U≤x→x<W.heap.size→W'.heap[x]?=W.heap[x]?) (hz:W.heap.size≤W'.heap.size) (hb:Below b0.heap.size b0 W'):dx5 b0 U a n c ff hs k W':=by
 rcases h with h|⟨g,e,h1,h2⟩
 ·exact Or.inl h
 ·exact Or.inr ⟨g,e,h1,h2.same (fun x hx=>he x (by rcases hx with e2 | e2;(left;rw[e2];exact e);(right;exact e2))) hz hb⟩
theorem dx5.sx (h:dx5 b0 U a n c ff hs n W) (hU:∀ g,a=some ⟨g,0,none⟩→g<U):sx5 W a n c hs∧isR5s W a n c ff∧dst hs n∧(∀ j,j<n→∀ b,(hs j).1=some ⟨b,0,none⟩→U≤b∧b<W.heap.size):=by
 rcases h with⟨e1,e2,e3,e4⟩|⟨g,e,h1,h2⟩
 ·subst e2;exact⟨Or.inl ⟨e1,rfl,e3⟩,⟨by rw[e4];rfl,by omega,fun hne=>absurd e4 hne⟩,fun i j _ hj=>absurd hj (nN _),fun j hj=>absurd hj (nN _)⟩
 ·obtain⟨q1,q2⟩:=h2.sh (hU g e)
  subst e;exact⟨Or.inr ⟨g,rfl,q1,h1⟩,h2.is h1,h2.dst,q2⟩
theorem isR5s.same (h:isR5s W a n c ff) {hs:Nat→Hd} (hx:sx5 W a n c hs) (he:∀ x,ft a n hs x→W'.heap[x]?=W.heap[x]?):isR5s W' a n c ff:=by
 rcases hx with⟨e1,e2,e3⟩|⟨g,e,h1,h2⟩
 ·have:ff=[]:=List.length_eq_zero_iff.1 (by have:=h.len;omega)
  exact⟨h.len,h.cap,fun hne=>absurd this hne⟩
 ·subst e;refine⟨h.len,h.cap,fun hne=>?_⟩
  obtain⟨g',off,e,hc⟩:=h.cells hne
  cases e
  refine⟨g,0,rfl,fun j hj=>?_⟩
  obtain⟨ao,m,c',hat⟩:=hc j hj
  have hj':j<n:=by have:=h.len;omega
  have hcs:=hat.cs
  rw[Nat.zero_add,(h1.dat j hj').1] at hcs
  have e1:(hs j).1=ao:=by injection hcs with q;injection q
  have e2:(hs j).2.1=m:=by injection hcs with q;injection q
  have hg:=he g (Or.inl rfl)
  refine⟨ao,m,c',cU hat.c0 hg,cU hat.c1 hg,cU hat.c2 hg,cU hat.c3 hg,cU hat.cs hg,?_⟩
  have hd2:=(h1.dat j hj').2
  rcases hd2.2.2 with⟨z1,z2⟩|⟨b,z1,z2,z3⟩
  ·refine⟨hat.dat.len,hat.dat.cap,hat.dat.small,fun hne2=>?_⟩
   exact absurd (List.length_pos_iff.2 hne2) (by have:=hat.dat.len;omega)
  ·have hb:=he b (Or.inr ⟨j,hj',z1⟩)
   have hdt:=hat.dat
   rw[← e1,z1] at hdt ⊢
   exact hdt.other hb
theorem isR3s.same {ff:List R3} (h:isR3s W (some ⟨g,0,none⟩) n c ff) (he:W'.heap[g]?=W.heap[g]?):isR3s W' (some ⟨g,0,none⟩) n c ff:=by
 refine⟨h.len,h.cap,fun hne=>?_⟩
 obtain⟨g',off,e,hc⟩:=h.cells hne
 cases e
 exact⟨g,0,rfl,fun j hj=>(hc j hj).up he⟩
structure tdF (w:World) (n1:Nat) (fs:List R3) (n2:Nat) (bx:List R8) (n3:Nat) (ff:List R5) (n4:Nat) (qu:List R8) (g1 g2:Nat) (h2:Nat→Hd) (a3:Option Addr) (k3:Nat) (h3:Nat→Hd) (a4:Option Addr) (k4:Nat) (h4:Nat→Hd) (PH:Nat) (HL:List Value) (U2 i2 U3 i3 U4 i4:Nat) (W:World):Prop where
 f1:dr3 w g1 n1 fs W
 f2:dr8 w U2 g2 n2 bx h2 i2 W
 f3:dx5 w U3 a3 n3 k3 ff h3 i3 W
 f4:dx8 w U4 a4 n4 k4 qu h4 i4 W
 fh:blk W PH HL 39
 fr:blk W w.heap.size Z10 39
 b:Below w.heap.size w W
structure tdO (w:World) (n1 k1 n2 k2 g1 g2:Nat) (a3 a4:Option Addr) (PH:Nat):Prop where
 c1:n1≤k1
 c2:n2≤k2
 o1:g1<g2
 o2:∀ g,a3=some ⟨g,0,none⟩→g2<g
 o3:∀ g,a4=some ⟨g,0,none⟩→g2<g∧∀ g',a3=some ⟨g',0,none⟩→g'<g
 p1:PH≠g1∧PH≠g2∧(∀ g,a3=some ⟨g,0,none⟩→PH≠g)∧(∀ g,a4=some ⟨g,0,none⟩→PH≠g)
 r1:w.heap.size<g1∧w.heap.size<PH
theorem tdE.put {w:World} {n1:Nat} {fs:List R3} {n2 n3 n4:Nat} {qu:List R8} {g1 k1 g2 k2:Nat} {h2:Nat→Hd} {a3:Option Addr} {k3:Nat} {h3:Nat→Hd} {a4:Option Addr} {k4:Nat} {h4:Nat→Hd} {PH:Nat} (E:tdE w n1 fs n2 bx n3 ff n4 qu g1 k1 g2 k2 h2 a3 k3 h3 a4 k4 h4 PH W) (hb:Below w.heap.size w W) (HL:List Value) (hl:HL.length=10) (U2 U3 U4:Nat):tdF w n1 fs n2 bx n3 ff n4 qu g1 g2 h2 a3 k3 h3 a4 k4 h4 PH HL U2 0 U3 0 U4 0 (World.setCells W PH 0 HL)∧tdO w n1 k1 n2 k2 g1 g2 a3 a4 PH:=by
 have oth:∀ x,x≠PH→(World.setCells W PH 0 HL).heap[x]?=W.heap[x]?:=fun x hx=>sO PH x hx HL W 0
 have hz:W.heap.size≤(World.setCells W PH 0 HL).heap.size:=by rw[sZ];exact nR _
 have hbb:Below w.heap.size w (World.setCells W PH 0 HL):=sW (by have:=E.r1.2;omega) 0 HL hb
 refine⟨⟨E.f1.same (oth _ (fun e=>E.p1.1 e.symm)) hz,E.f2.same0 (oth _ (fun e=>E.p1.2.1 e.symm)) hz hbb,E.f3.same0 (fun g hg=>oth _ (fun e=>E.p1.2.2.1 g hg e.symm)) hz hbb,E.f4.same0 (fun g hg=>oth _ (fun e=>E.p1.2.2.2 g hg e.symm)) hz hbb,?_,E.fr.kept (oth _ (by have:=E.r1.2;omega)),hbb⟩,⟨E.c1,E.c2,E.o1,E.o2,E.o3,E.p1,E.r1⟩⟩
 have:=blk.put [] Z10 [] HL (w:=W) (b:=PH) (T:=39) (by simpa using E.fh) (by rw[hl];rfl)
 simpa using this
variable {w W:World} {n1 n2 n3 n4 g1 g2 k3 k4 PH k1 k2 U U3 k U2 i2 U4:Nat} {fs:List R3} {bx qu:List R8} {ff:List R5} {h2 h3 h4:Nat→Hd} {a3 a4:Option Addr} {HL:List Value}
theorem tdF.own2 (h:tdF w n1 fs n2 bx n3 ff n4 qu g1 g2 h2 a3 k3 h3 a4 k4 h4 PH HL U k 0 0 0 0 W) (O:tdO w n1 k1 n2 k2 g1 g2 a3 a4 PH) (hU:g2<U) (hUz:U≤W.heap.size) (hk:k<n2) :
  Calls Tp 126 #[pT (some ⟨g2,k*8+3,none⟩)] W fun e w'=>∃ h2',e = rT (.tuple #[])∧tdF w n1 fs n2 bx n3 ff n4 qu g1 g2 h2' a3 k3 h3 a4 k4 h4 PH HL U (k+1) 0 0 0 0 w'∧U≤w'.heap.size:=by
 have hkl:k<bx.length:=by have:=h.f2.len;omega
 refine (ownData_any W g2 (k*8+3) _ _ _ bx[k].l (h.f2.at_ k hkl).cs (h.f2.row (k*8+7) (by omega)).2 (h.f2.at_ k hkl).dat (by have:=(h.f2.at_ k hkl).dat.len;have:=h.f2.sm k hkl;omega)).mono ?_
 rintro e w' ⟨a',c',w1,rfl,rfl,q1,q2,q3⟩;obtain⟨hs',d2⟩:=h.f2.step hkl hUz hU a' c' q1 q2 q3
 have oth:∀ x,x≠g2→x<W.heap.size→(w1.setCell ⟨g2,k*8+3+4,none⟩ (sL a' (h2 k).2.1 c')).heap[x]?=W.heap[x]?:=fun x hx hl=>(heap_setCell_other w1 ⟨g2,k*8+3+4,none⟩ x _ hx).trans (q3.block x hl)
 have hz:W.heap.size≤(w1.setCell ⟨g2,k*8+3+4,none⟩ (sL a' (h2 k).2.1 c')).heap.size:=by have:=q3.size;simpa using this
 refine⟨hs',rfl,⟨h.f1.same (oth _ (by have:=O.o1;omega) h.f1.hi) hz,d2,h.f3.same0 (fun g hg=>oth _ (by have:=O.o2 g hg;omega) (h.f3.hi g hg)) hz d2.bel,h.f4.same0 (fun g hg=>oth _ (by have:=(O.o3 g hg).1;omega) (h.f4.hi g hg)) hz d2.bel,h.fh.kept (oth _ O.p1.2.1 h.fh.lt),h.fr.kept (oth _ (by have:=O.o1;have:=O.r1.1;omega) h.fr.lt),d2.bel⟩,by omega⟩
theorem tdF.u3 {U3':Nat} (h:tdF w n1 fs n2 bx n3 ff n4 qu g1 g2 h2 a3 k3 h3 a4 k4 h4 PH HL U2 i2 0 0 0 0 W):tdF w n1 fs n2 bx n3 ff n4 qu g1 g2 h2 a3 k3 h3 a4 k4 h4 PH HL U2 i2 U3' 0 0 0 W:=⟨h.f1,h.f2,h.f3.same0 (fun _ _=>rfl) (nR _) h.b,h.f4,h.fh,h.fr,h.b⟩
theorem tdF.u4 {i3 U4':Nat} (h:tdF w n1 fs n2 bx n3 ff n4 qu g1 g2 h2 a3 k3 h3 a4 k4 h4 PH HL U2 i2 U3 i3 0 0 W):tdF w n1 fs n2 bx n3 ff n4 qu g1 g2 h2 a3 k3 h3 a4 k4 h4 PH HL U2 i2 U3 i3 U4' 0 W:=⟨h.f1,h.f2,h.f3,h.f4.same0 (fun _ _=>rfl) (nR _) h.b,h.fh,h.fr,h.b⟩
theorem tdF.own3 {g3:Nat} (h:tdF w n1 fs n2 bx n3 ff n4 qu g1 g2 h2 a3 k3 h3 a4 k4 h4 PH HL U n2 U3 k 0 0 W) (O:tdO w n1 k1 n2 k2 g1 g2 a3 a4 PH) (ha:a3=some ⟨g3,0,none⟩) (hU:g3<U) (hU3:U≤U3) (hUz:U3≤W.heap.size) (hk:k<n3) :
  Calls Tp 126 #[pT (some ⟨g3,k*5,none⟩)] W fun e w'=>∃ h3',e = rT (.tuple #[])∧tdF w n1 fs n2 bx n3 ff n4 qu g1 g2 h2 a3 k3 h3' a4 k4 h4 PH HL U n2 U3 (k+1) 0 0 w'∧U3≤w'.heap.size:=by
 have hf3:dr5 w U3 g3 n3 ff h3 k W∧n3≤k3:=by
  rcases h.f3 with⟨e,_⟩|⟨g,e,e1,e2⟩
  ·rw[ha] at e;cases e
  ·rw[ha] at e;cases e;exact⟨e2,e1⟩
 obtain⟨f3,hc3⟩:=hf3
 have hkl:k<ff.length:=by have:=f3.len;omega
 have hg2:=O.o2 g3 ha
 refine (ownData_any W g3 (k*5) _ _ _ ff[k].l (f3.at_ k hkl).cs (f3.row (k*5+4) (by omega)).2 (f3.at_ k hkl).dat (by have:=(f3.at_ k hkl).dat.len;have:=f3.sm k hkl;omega)).mono ?_
 rintro e w' ⟨a',c',w1,rfl,rfl,q1,q2,q3⟩;obtain⟨hs',d3⟩:=f3.step hkl hUz (by omega) a' c' q1 q2 q3
 have oth:∀ x,x≠g3→x<W.heap.size→(w1.setCell ⟨g3,k*5+4,none⟩ (sL a' (h3 k).2.1 c')).heap[x]?=W.heap[x]?:=fun x hx hl=>(heap_setCell_other w1 ⟨g3,k*5+4,none⟩ x _ hx).trans (q3.block x hl)
 have hz:W.heap.size≤(w1.setCell ⟨g3,k*5+4,none⟩ (sL a' (h3 k).2.1 c')).heap.size:=by have:=q3.size;simpa using this
 refine⟨hs',rfl,⟨h.f1.same (oth _ (by have:=O.o1;omega) h.f1.hi) hz,h.f2.same (fun x hx hl=>oth x (by rcases hx with e | e <;> omega) hl) hz d3.bel,Or.inr ⟨g3,ha,hc3,d3⟩,h.f4.same0 (fun g hg=>oth _ (by have:=(O.o3 g hg).2 g3 ha;omega) (h.f4.hi g hg)) hz d3.bel,h.fh.kept (oth _ (O.p1.2.2.1 g3 ha) h.fh.lt),h.fr.kept (oth _ (by have:=O.o1;have:=O.r1.1;omega) h.fr.lt),d3.bel⟩,by omega⟩
theorem tdF.own4 {g4:Nat} (h:tdF w n1 fs n2 bx n3 ff n4 qu g1 g2 h2 a3 k3 h3 a4 k4 h4 PH HL U n2 U3 n3 U4 k W) (O:tdO w n1 k1 n2 k2 g1 g2 a3 a4 PH) (ha:a4=some ⟨g4,0,none⟩) (hU:g4<U) (hU3:U≤U3∧U3≤U4) (hUz:U4≤W.heap.size) (hk:k<n4) :
  Calls Tp 126 #[pT (some ⟨g4,k*8+3,none⟩)] W fun e w'=>∃ h4',e = rT (.tuple #[])∧tdF w n1 fs n2 bx n3 ff n4 qu g1 g2 h2 a3 k3 h3 a4 k4 h4' PH HL U n2 U3 n3 U4 (k+1) w'∧U4≤w'.heap.size:=by
 have hf4:dr8 w U4 g4 n4 qu h4 k W∧n4≤k4:=by
  rcases h.f4 with⟨e,_⟩|⟨g,e,e1,e2⟩
  ·rw[ha] at e;cases e
  ·rw[ha] at e;cases e;exact⟨e2,e1⟩
 obtain⟨f4,hc4⟩:=hf4
 have hkl:k<qu.length:=by have:=f4.len;omega
 have hg2:=O.o3 g4 ha
 refine (ownData_any W g4 (k*8+3) _ _ _ qu[k].l (f4.at_ k hkl).cs (f4.row (k*8+7) (by omega)).2 (f4.at_ k hkl).dat (by have:=(f4.at_ k hkl).dat.len;have:=f4.sm k hkl;omega)).mono ?_
 rintro e w' ⟨a',c',w1,rfl,rfl,q1,q2,q3⟩;obtain⟨hs',d4⟩:=f4.step hkl hUz (by omega) a' c' q1 q2 q3
 have oth:∀ x,x≠g4→x<W.heap.size→(w1.setCell ⟨g4,k*8+3+4,none⟩ (sL a' (h4 k).2.1 c')).heap[x]?=W.heap[x]?:=fun x hx hl=>(heap_setCell_other w1 ⟨g4,k*8+3+4,none⟩ x _ hx).trans (q3.block x hl)
 have hz:W.heap.size≤(w1.setCell ⟨g4,k*8+3+4,none⟩ (sL a' (h4 k).2.1 c')).heap.size:=by have:=q3.size;simpa using this
 refine⟨hs',rfl,⟨h.f1.same (oth _ (by have:=O.o1;omega) h.f1.hi) hz,h.f2.same (fun x hx hl=>oth x (by rcases hx with e | e <;> omega) hl) hz d4.bel,h.f3.same (fun x hx hl=>oth x (by rcases hx with e | e;(have:=hg2.2 x e;omega);omega) hl) hz d4.bel,Or.inr ⟨g4,ha,hc4,d4⟩,h.fh.kept (oth _ (O.p1.2.2.2 g4 ha) h.fh.lt),h.fr.kept (oth _ (by have:=O.o1;have:=O.r1.1;omega) h.fr.lt),d4.bel⟩,by omega⟩
theorem tdF.fin {W':World} (c0 c1 c2 c3 lo st:Int) (h:tdF w n1 fs n2 bx n3 ff n4 qu g1 g2 h2 a3 k3 h3 a4 k4 h4 PH HL U n2 U3 n3 U4 n4 W) (O:tdO w n1 k1 n2 k2 g1 g2 a3 a4 PH) (hU:g1<U∧g2<U∧(∀ g,a3=some ⟨g,0,none⟩→g<U)∧(∀ g,a4=some ⟨g,0,none⟩→g<U)∧w.heap.size<U) (hU3:U≤U3∧U3≤U4) (D2:∀ j,j<n2→∀ b,(h2 j).1=some ⟨b,0,none⟩→b<U3) (D3:∀ j,j<n3→∀ b,(h3 j).1=some ⟨b,0,none⟩→b<U4) (m:n2≤1000∧n3≤1000∧n4≤1000) (oth:∀ x,x≠w.heap.size→x<W.heap.size→W'.heap[x]?=W.heap[x]?) (hz:W'.heap.size=W.heap.size) :
  ∃ s:Wh,s.sl=⟨some ⟨g1,0,none⟩,n1,k1,some ⟨g2,0,none⟩,n2,k2,a3,n3,k3,a4,n4,k4⟩∧St w.heap.size W' (fun W=>isHo W ⟨c0,c1,c2,c3,fs,bx,ff,qu,lo,st⟩ s.sl)∧whS w.heap.size W'.heap.size W' s∧whD s∧whE s:=by
 obtain⟨q1,q2⟩:=h.f2.sh hU.2.1
 obtain⟨r1,r2,r3,r4⟩:=h.f3.sx (fun g hg=>by have:=hU.2.2.1 g hg;omega)
 obtain⟨p1,p2,p3,p4⟩:=h.f4.sx (fun g hg=>by have:=hU.2.2.2.1 g hg;omega)
 have x2:sx8 W (some ⟨g2,0,none⟩) n2 k2 h2:=Or.inr ⟨g2,rfl,q1,O.c2⟩
 have hr1:=O.r1.1
 have ho1:=O.o1
 have I2:inn w.heap.size W.heap.size (some ⟨g2,0,none⟩) n2 h2:=fun x hx=>by
  rcases hx with e|⟨j,hj,e⟩
  ·cases e;exact⟨by omega,h.f2.hi⟩
  ·have:=q2 j hj x e;omega
 have I3:inn w.heap.size W.heap.size a3 n3 h3:=fun x hx=>by
  rcases hx with e|⟨j,hj,e⟩
  ·have:=O.o2 x e;exact⟨by omega,h.f3.hi x e⟩
  ·have:=r4 j hj x e;omega
 have I4:inn w.heap.size W.heap.size a4 n4 h4:=fun x hx=>by
  rcases hx with e|⟨j,hj,e⟩
  ·have:=(O.o3 x e).1;exact⟨by omega,h.f4.hi x e⟩
  ·have:=p4 j hj x e;omega
 have n2':∀ x,ft (some ⟨g2,0,none⟩) n2 h2 x→x≠w.heap.size:=fun x hx e=>by
  rcases hx with e2|⟨j,hj,e2⟩
  ·cases e2;omega
  ·have:=q2 j hj x e2;omega
 have n3':∀ x,ft a3 n3 h3 x→x≠w.heap.size:=fun x hx e=>by
  rcases hx with e2|⟨j,hj,e2⟩
  ·have:=O.o2 x e2;omega
  ·have:=r4 j hj x e2;omega
 have n4':∀ x,ft a4 n4 h4 x→x≠w.heap.size:=fun x hx e=>by
  rcases hx with e2|⟨j,hj,e2⟩
  ·have:=(O.o3 x e2).1;omega
  ·have:=p4 j hj x e2;omega
 have E2:∀ x,ft (some ⟨g2,0,none⟩) n2 h2 x→W'.heap[x]?=W.heap[x]?:=fun x hx=>oth x (n2' x hx) (I2 x hx).2
 have E3:∀ x,ft a3 n3 h3 x→W'.heap[x]?=W.heap[x]?:=fun x hx=>oth x (n3' x hx) (I3 x hx).2
 have E4:∀ x,ft a4 n4 h4 x→W'.heap[x]?=W.heap[x]?:=fun x hx=>oth x (n4' x hx) (I4 x hx).2
 have Eg:W'.heap[g1]?=W.heap[g1]?:=oth g1 (by omega) h.f1.hi
 have b2:isR8s W (some ⟨g2,0,none⟩) n2 k2 bx:=h.f2.is O.c2
 have b1:isR3s W (some ⟨g1,0,none⟩) n1 k1 fs:=⟨h.f1.len,O.c1,fun _=>⟨g1,0,rfl,fun j hj=>by rw[Nat.zero_add];exact h.f1.at_ j hj⟩⟩
 rw[← hz] at I2 I3 I4
 have hg1z:g1<W'.heap.size:=by rw[hz];exact h.f1.hi
 refine⟨(⟨g1,n1,k1,some ⟨g2,0,none⟩,n2,k2,h2,a3,n3,k3,h3,a4,n4,k4,h4⟩ : Wh),rfl,fun V hV=>⟨?_,?_,?_,?_⟩,⟨h.f1.row.up Eg,O.c1,⟨by simp only;omega,hg1z⟩,x2.same E2,I2,r1.same E3,I3,p1.same E4,I4,h.f1.m,by simp only;omega,by simp only;omega,by simp only;omega⟩,⟨?_,?_,?_,?_,?_,?_⟩,⟨h.f2.dst,r3,p3⟩⟩
 ·exact (b1.same Eg).same (hV g1 (by omega) hg1z)
 ·exact (b2.same x2 E2).same (x2.same E2) (fun x hx=>hV x (I2 x hx).1 (I2 x hx).2)
 ·exact (r2.same r1 E3).same (r1.same E3) (fun x hx=>hV x (I3 x hx).1 (I3 x hx).2)
 ·exact (p2.same p1 E4).same (p1.same E4) (fun x hx=>hV x (I4 x hx).1 (I4 x hx).2)
 ·rintro (e|⟨j,hj,e⟩)
  ·have e2:(some (⟨g2,0,none⟩ : Addr))=some ⟨g1,0,none⟩:=e
   injection e2 with e2
   injection e2 with e2
   omega
  ·have:=q2 j hj g1 e;omega
 ·rintro (e|⟨j,hj,e⟩)
  ·have:=O.o2 g1 e;omega
  ·have:=r4 j hj g1 e;omega
 ·rintro (e|⟨j,hj,e⟩)
  ·have:=(O.o3 g1 e).1;omega
  ·have:=p4 j hj g1 e;omega
 ·rintro x (e|⟨j,hj,e⟩) (e'|⟨j',hj',e'⟩)
  ·cases e;have:=O.o2 g2 e';omega
  ·cases e;have:=r4 j' hj' g2 e';omega
  ·have:=q2 j hj x e;have:=hU.2.2.1 x e';omega
  ·have:=D2 j hj x e;have:=r4 j' hj' x e';omega
 ·rintro x (e|⟨j,hj,e⟩) (e'|⟨j',hj',e'⟩)
  ·cases e;have:=(O.o3 g2 e').1;omega
  ·cases e;have:=p4 j' hj' g2 e';omega
  ·have:=q2 j hj x e;have:=hU.2.2.2.1 x e';omega
  ·have:=D2 j hj x e;have:=p4 j' hj' x e';omega
 ·rintro x (e|⟨j,hj,e⟩) (e'|⟨j',hj',e'⟩)
  ·have:=(O.o3 x e').2 x e;omega
  ·have:=hU.2.2.1 x e;have:=p4 j' hj' x e';omega
  ·have:=r4 j hj x e;have:=hU.2.2.2.1 x e';omega
  ·have:=D3 j hj x e;have:=p4 j' hj' x e';omega
end Go.Proofs.YtkfcfigbgmbaiaaGreat
