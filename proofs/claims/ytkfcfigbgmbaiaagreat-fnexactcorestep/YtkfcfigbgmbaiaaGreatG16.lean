import Derived.Test.YtkfcfigbgmbaiaaGreatG01
namespace Go.Proofs.YtkfcfigbgmbaiaaGreat
open Go.RowKit
set_option linter.unusedVariables false
set_option maxHeartbeats 16000000
theorem rowF.setCell {w:World} {x N:Nat} (h:rowF w x N) (p:Addr) (v:Value):rowF (w.setCell p v) x N:=fun t ht=>by
 obtain⟨⟨u,hu⟩,hf⟩:=h t ht
 refine⟨?_,by rw[World.frozen?_setCell];exact hf⟩
 by_cases e:(⟨x,t,none⟩ : Addr)=p
 ·subst e;exact⟨v,World.cell?_setCell_same _ _ _ hu⟩
 ·exact⟨u,by rw[World.cell?_setCell_other _ _ _ _ (fun hh=>e hh.symm)];exact hu⟩
theorem rowF.setRow {x N:Nat} (g:Nat):∀ (vs:List Value) (w:World) (p:Nat),rowF w x N→rowF (setRow w g p vs) x N:=by
 intro vs;induction vs with
 | nil=>intro w p h;exact h
 | cons v vs ih=>intro w p h;exact ih _ (p+1) (h.setCell _ v)
theorem rowF.le {w:World} {x N M:Nat} (h:rowF w x N) (hM:M≤N):rowF w x M:=fun t ht=>h t (by omega)
def mkB (W:World) (b m C:Nat):Prop:=∀ t,t<m→W.cell? ⟨b,t,none⟩=some (.int .u8 (((C+t) % 256:Nat):Int))
theorem markByteS_any (w:World) (b m cap C:Nat) (hr:rowF w b m) (hcp:m≤cap) (hm:m≤1048576) (hC:C≤10000000000000000) :
  Calls Tryz.prog 54 #[.slice (some ⟨b,0,none⟩) m cap,.int .i64 (C:Int)] w fun o w'=>o = .returned (.int .i64 ((C+m:Nat):Int))∧mkB w' b m C∧(∀ x N,rowF w x N→rowF w' x N)∧(∀ x,x≠b→w'.heap[x]?=w.heap[x]?)∧w'.heap.size=w.heap.size∧Below b w w':=by
 have HR:Hid (rowF w b m):=hr
 clear hr;go_enter Tryz.func54,Tryz.ntmps54
 go_wp2
 go_loopw [1,5] (fun kk i wr=>∃ k:Nat,k≤m∧i = .int .i64 (k:Int)∧kk = .int .i64 ((C+k:Nat):Int)∧mkB wr b k C∧(∀ x N,rowF w x N→rowF wr x N)∧(∀ x,x≠b→wr.heap[x]?=w.heap[x]?)∧wr.heap.size=w.heap.size∧Below b w wr) (fun _ i _=>m-(intOf i).toNat)
 case atStart=>exact⟨0,Nat.zero_le _,rfl,by go_num,fun j hj=>absurd hj (Nat.not_lt_zero _),fun _ _ h=>h,fun _ _=>rfl,rfl,Below.refl _ _⟩
 case round=>
  obtain⟨k,hk,rfl,rfl,hdone,hrow,hoth,hsz,hb⟩:=hrel
  by_cases hlt:k<m
  ·obtain⟨⟨v0,z0⟩,f0⟩:=(hrow b m HR.out) k hlt
   have HD:Hid (mkB wr b k C∧(∀ x N,rowF w x N→rowF wr x N)∧(∀ x,x≠b→wr.heap[x]?=w.heap[x]?)∧wr.heap.size=w.heap.size∧Below b w wr):=⟨hdone,hrow,hoth,hsz,hb⟩
   clear hdone hrow hoth hsz hb;generalize hD:C+k=D at *;have HD2:Hid (C+k=D):=hD
   have hD1:D≤20000000000000000:=by omega
   clear hD;go_wp2
   obtain⟨r1,r2,r3,r4,r5⟩:=HD.out
   have hD:=HD2.out
   refine⟨⟨k+1,by omega,by go_num,by rw[show C+(k+1)=D+1 by omega];go_num,fun t ht=>?_,fun x N h=>(r2 x N h).setCell _ _,fun x hx=>(heap_setCell_other _ _ x _ hx).trans (r3 x hx),by simpa using r4,r5.setCell (Nat.le_refl _) _⟩,by simp[intOf];omega⟩
   by_cases e:t=k
   ·subst e;rw[World.cell?_setCell_same _ _ _ z0,hD]
    congr 2
   ·rw[World.cell?_setCell_other _ _ _ _ (by intro hh;exact e (by simpa using hh.symm))]
    exact r1 t (by omega)
  ·have hkn:k=m:=by omega
   subst hkn;go_wp2
   go_ret;exact⟨rfl,hdone,hrow,hoth,hsz,hb⟩
theorem markByte_none (w:World) (cap C:Nat):Calls Tryz.prog 54 #[.slice none 0 cap,.int .i64 (C:Int)] w fun o w'=>o = .returned (.int .i64 (C:Int))∧w'=w:=by
 go_enter Tryz.func54,Tryz.ntmps54
 go_wp2
 go_loopw [1,5] (fun kk i wr=>i = .int .i64 0∧kk = .int .i64 (C:Int)∧wr=w) (fun _ _ _=>0)
 case atStart=>exact⟨rfl,rfl,rfl⟩
 case round=>
  obtain⟨rfl,rfl,rfl⟩:=hrel
  go_wp2
  go_ret;exact⟨rfl,rfl⟩
theorem heldByte_none (w:World) (cap C:Nat):Calls Tryz.prog 150 #[.slice none 0 cap,.int .i64 (C:Int)] w fun o w'=>o = .returned (.int .i64 (C:Int))∧w'=w:=by
 go_enter Tryz.func150,Tryz.ntmps150
 go_wp2
 go_loopw [1,5] (fun kk i wr=>i = .int .i64 0∧kk = .int .i64 (C:Int)∧wr=w) (fun _ _ _=>0)
 case atStart=>exact⟨rfl,rfl,rfl⟩
 case round=>
  obtain⟨rfl,rfl,rfl⟩:=hrel
  go_wp2
  go_ret;exact⟨rfl,rfl⟩
theorem heldByteS_any (w:World) (b m cap C:Nat) (hr:mkB w b m C) (hcp:m≤cap) (hm:m≤1048576) (hC:C≤10000000000000000) :
  Calls Tryz.prog 150 #[.slice (some ⟨b,0,none⟩) m cap,.int .i64 (C:Int)] w fun o w'=>o = .returned (.int .i64 ((C+m:Nat):Int))∧w'=w:=by
 have HR:Hid (mkB w b m C):=hr
 clear hr;go_enter Tryz.func150,Tryz.ntmps150
 go_wp2
 go_loopw [1,5] (fun kk i wr=>∃ k:Nat,k≤m∧i = .int .i64 (k:Int)∧kk = .int .i64 ((C+k:Nat):Int)∧wr=w) (fun _ i _=>m-(intOf i).toNat)
 case atStart=>exact⟨0,Nat.zero_le _,rfl,by go_num,rfl⟩
 case round=>
  obtain⟨k,hk,rfl,rfl,rfl⟩:=hrel
  by_cases hlt:k<m
  ·have z0:=HR.out k hlt
   generalize hD:C+k=D at *;have HD2:Hid (C+k=D):=hD
   have hD1:D≤20000000000000000:=by omega
   clear hD;go_wp2
   refine⟨⟨k+1,by omega,by go_num,by rw[show C+(k+1)=D+1 by have:=HD2.out;omega];go_num,trivial⟩,by simp[intOf];omega⟩
  ·have hkn:k=m:=by omega
   subst hkn;go_wp2
   go_ret;exact⟨rfl,rfl⟩
abbrev Hd:=Option Addr × Nat × Nat
def hd (W:World) (g:Nat) (h:Hd):Prop:=h.2.1≤1048576∧h.2.1≤h.2.2∧((h.1=none∧h.2.1=0)∨∃ b,h.1=some ⟨b,0,none⟩∧b≠g∧rowF W b h.2.1)
theorem hd.up {W W':World} {g:Nat} {h:Hd} (H:hd W g h) (hr:∀ x N,rowF W x N→rowF W' x N):hd W' g h:=by
 obtain⟨h1,h2,h3⟩:=H
 refine⟨h1,h2,?_⟩
 rcases h3 with h3|⟨b,e,hn,hf⟩
 ·exact Or.inl h3
 ·exact Or.inr ⟨b,e,hn,hr _ _ hf⟩
def dst (hs:Nat→Hd) (n:Nat):Prop:=∀ i j,i<j→j<n→∀ b,(hs i).1=some ⟨b,0,none⟩→(hs j).1≠some ⟨b,0,none⟩
def abv (B:Nat) (hs:Nat→Hd) (n:Nat):Prop:=∀ j,j<n→∀ b,(hs j).1=some ⟨b,0,none⟩→B≤b
theorem markHd (B:Nat) (W:World) (g:Nat) (a:Option Addr) (m cc C:Nat) (H:hd W g (a,m,cc)) (hB:∀ b,a=some ⟨b,0,none⟩→B≤b) (hC:C≤10000000000000000) :
  Calls Tryz.prog 54 #[.slice a m cc,.int .i64 (C:Int)] W fun o w'=>o = .returned (.int .i64 ((C+m:Nat):Int))∧(∀ b,a=some ⟨b,0,none⟩→mkB w' b m C)∧(∀ x N,rowF W x N→rowF w' x N)∧(∀ x,a≠some ⟨x,0,none⟩→w'.heap[x]?=W.heap[x]?)∧w'.heap.size=W.heap.size∧Below B W w':=by
 obtain⟨h1,h2,⟨e,hm⟩|⟨b,e,hn,hf⟩⟩:=H
 ·simp only at e hm
  subst e;subst hm;refine (markByte_none W cc C).mono ?_
  rintro o w' ⟨rfl,rfl⟩;exact⟨rfl,fun b hb=>absurd hb (by simp),fun _ _ h=>h,fun _ _=>rfl,rfl,Below.refl _ _⟩
 ·simp only at e hf h1 h2
  subst e;refine (markByteS_any W b m cc C hf h2 h1 hC).mono ?_
  rintro o w' ⟨rfl,q1,q2,q3,q4,q5⟩;exact⟨rfl,fun b' hb=>by cases hb;exact q1,q2,fun x hx=>q3 x (fun e=>hx (by rw[e])),q4,q5.mono (hB b rfl)⟩
theorem heldHd (W:World) (g:Nat) (a:Option Addr) (m cc C:Nat) (H:hd W g (a,m,cc)) (hk:∀ b,a=some ⟨b,0,none⟩→mkB W b m C) (hC:C≤10000000000000000) :
  Calls Tryz.prog 150 #[.slice a m cc,.int .i64 (C:Int)] W fun o w'=>o = .returned (.int .i64 ((C+m:Nat):Int))∧w'=W:=by
 obtain⟨h1,h2,⟨e,hm⟩|⟨b,e,hn,hf⟩⟩:=H
 ·simp only at e hm
  subst e;subst hm;exact (heldByte_none W cc C)
 ·simp only at e hf h1 h2
  subst e;exact heldByteS_any W b m cc C (hk b rfl) h2 h1 hC
structure sh8 (W:World) (g n:Nat) (hs:Nat→Hd):Prop where
 row:rowF W g (n*8)
 dat:∀ j,j<n→W.cell? ⟨g,j*8+7,none⟩=some (.slice (hs j).1 (hs j).2.1 (hs j).2.2)∧hd W g (hs j)
def cn8 (c:Nat) (hs:Nat→Hd):Nat→Nat
 | 0=>c
 | j+1=>cn8 c hs j+7+(hs j).2.1
theorem cn8_le (c n:Nat) (hs:Nat→Hd) (h:∀ j,j<n→(hs j).2.1≤1048576):∀ j,j≤n→cn8 c hs j≤c+j*1048583:=by
 intro j;induction j with
 | zero=>intro _;exact Nat.le_refl _
 | succ j ih=>
  intro hj;have h1:=ih (by omega)
  have h2:=h j (by omega)
  simp only[cn8]
  omega
def m8w (C:Nat):List Value:=[Value.int .i64 (C:Int),Value.int .i64 ((C:Int)+1),Value.int .i64 ((C:Int)+1+1),Value.bool ((C:Int) % 3 == 0),Value.int .u32 (((C:Int)+1+1+1+1) % 4294967296),Value.bool (((C:Int)+5) % 3 == 0),Value.int .i64 ((C:Int)+1+1+1+1+1+1)]
structure mk8 (W:World) (g o C:Nat) (h:Hd):Prop where
 row:∀ t (ht:t<7),W.cell? ⟨g,o+t,none⟩=some ((m8w C)[t]'(by simpa[m8w] using ht))
 dat:∀ b,h.1=some ⟨b,0,none⟩→mkB W b h.2.1 (C+7)
theorem mk8.up {W W':World} {g o C:Nat} {h:Hd} (H:mk8 W g o C h) (hg:W'.heap[g]?=W.heap[g]?) (hb:∀ b,h.1=some ⟨b,0,none⟩→W'.heap[b]?=W.heap[b]?):mk8 W' g o C h:=
 ⟨fun t ht=>cell_up (H.row t ht) hg,fun b e t ht=>cell_up (H.dat b e t ht) (hb b e)⟩
theorem sh8.up {W W':World} {g n:Nat} {hs:Nat→Hd} (H:sh8 W g n hs) (hg:W'.heap[g]?=W.heap[g]?) (hr:∀ x N,rowF W x N→rowF W' x N):sh8 W' g n hs:=
 ⟨H.row.up hg,fun j hj=>⟨cell_up (H.dat j hj).1 hg,(H.dat j hj).2.up hr⟩⟩
structure sh5 (W:World) (g n:Nat) (hs:Nat→Hd):Prop where
 row:rowF W g (n*5)
 dat:∀ j,j<n→W.cell? ⟨g,j*5+4,none⟩=some (.slice (hs j).1 (hs j).2.1 (hs j).2.2)∧hd W g (hs j)
def cn5 (c:Nat) (hs:Nat→Hd):Nat→Nat
 | 0=>c
 | j+1=>cn5 c hs j+4+(hs j).2.1
theorem cn5_le (c n:Nat) (hs:Nat→Hd) (h:∀ j,j<n→(hs j).2.1≤1048576):∀ j,j≤n→cn5 c hs j≤c+j*1048583:=by
 intro j;induction j with
 | zero=>intro _;exact Nat.le_refl _
 | succ j ih=>
  intro hj;have h1:=ih (by omega)
  have h2:=h j (by omega)
  simp only[cn5]
  omega
def m5w (C:Nat):List Value:=[Value.bool ((C:Int) % 3 == 0),Value.int .u32 (((C:Int)+1) % 4294967296),Value.bool (((C:Int)+2) % 3 == 0),Value.int .i64 ((C:Int)+1+1+1)]
structure mk5 (W:World) (g o C:Nat) (h:Hd):Prop where
 row:∀ t (ht:t<4),W.cell? ⟨g,o+t,none⟩=some ((m5w C)[t]'(by simpa[m5w] using ht))
 dat:∀ b,h.1=some ⟨b,0,none⟩→mkB W b h.2.1 (C+4)
theorem mk5.up {W W':World} {g o C:Nat} {h:Hd} (H:mk5 W g o C h) (hg:W'.heap[g]?=W.heap[g]?) (hb:∀ b,h.1=some ⟨b,0,none⟩→W'.heap[b]?=W.heap[b]?):mk5 W' g o C h:=
 ⟨fun t ht=>cell_up (H.row t ht) hg,fun b e t ht=>cell_up (H.dat b e t ht) (hb b e)⟩
theorem sh5.up {W W':World} {g n:Nat} {hs:Nat→Hd} (H:sh5 W g n hs) (hg:W'.heap[g]?=W.heap[g]?) (hr:∀ x N,rowF W x N→rowF W' x N):sh5 W' g n hs:=
 ⟨H.row.up hg,fun j hj=>⟨cell_up (H.dat j hj).1 hg,(H.dat j hj).2.up hr⟩⟩
set_option maxRecDepth 20000 in
theorem markBoxS_gen (B:Nat) (w:World) (g n cap c:Nat) (hs:Nat→Hd) (h:sh8 w g n hs) (hcp:n≤cap) (hn:n≤1048576) (hc:c≤20000000000000) (hB:B≤g) (hB2:abv B hs n) :
  Calls Tryz.prog 95 #[.slice (some ⟨g,0,none⟩) n cap,.int .i64 (c:Int)] w fun o w'=>o = .returned (.int .i64 (cn8 c hs n:Int))∧(dst hs n→∀ j,j<n→mk8 w' g (j*8) (cn8 c hs j) (hs j))∧sh8 w' g n hs∧(∀ x N,rowF w x N→rowF w' x N)∧(∀ x,x≠g→(∀ j,j<n→(hs j).1≠some ⟨x,0,none⟩)→w'.heap[x]?=w.heap[x]?)∧w'.heap.size=w.heap.size∧Below B w w':=by
 have HSH:Hid (sh8 w g n hs):=h
 have HB2:Hid (abv B hs n):=hB2
 have HLE:Hid (∀ j,j≤n→cn8 c hs j≤c+j*1048583):=cn8_le c n hs (fun j hj=>(h.dat j hj).2.1)
 clear h hB2;go_enter Tryz.func95,Tryz.ntmps95
 go_wp2
 go_loopw [1,5] (fun kk i wr=>∃ k:Nat,k≤n∧i = .int .i64 (k:Int)∧kk = .int .i64 (cn8 c hs k:Int)∧(dst hs n→∀ j,j<k→mk8 wr g (j*8) (cn8 c hs j) (hs j))∧sh8 wr g n hs∧(∀ x N,rowF w x N→rowF wr x N)∧(∀ x,x≠g→(∀ j,j<n→(hs j).1≠some ⟨x,0,none⟩)→wr.heap[x]?=w.heap[x]?)∧wr.heap.size=w.heap.size∧Below B w wr) (fun _ i _=>n-(intOf i).toNat)
 case atStart=>exact⟨0,Nat.zero_le _,rfl,rfl,fun _ j hj=>absurd hj (Nat.not_lt_zero _),HSH.out,fun _ _ h=>h,fun _ _ _=>rfl,rfl,Below.refl _ _⟩
 case round=>
  obtain⟨k,hk,rfl,rfl,hdone,hsh,hrow,hoth,hsz,hb⟩:=hrel
  by_cases hlt:k<n
  ·have hkn:k*8+8≤n*8:=by omega
   obtain⟨⟨v0,z0⟩,f0⟩:=hsh.row (k*8) (by omega)
   obtain⟨⟨v1,z1⟩,f1⟩:=hsh.row (k*8+1) (by omega)
   obtain⟨⟨v2,z2⟩,f2⟩:=hsh.row (k*8+2) (by omega)
   obtain⟨⟨v3,z3⟩,f3⟩:=hsh.row (k*8+3) (by omega)
   obtain⟨⟨v4,z4⟩,f4⟩:=hsh.row (k*8+4) (by omega)
   obtain⟨⟨v5,z5⟩,f5⟩:=hsh.row (k*8+5) (by omega)
   obtain⟨⟨v6,z6⟩,f6⟩:=hsh.row (k*8+6) (by omega)
   obtain⟨zd,hh⟩:=hsh.dat k hlt
   have HD:Hid ((dst hs n→∀ j,j<k→mk8 wr g (j*8) (cn8 c hs j) (hs j))∧sh8 wr g n hs∧(∀ x N,rowF w x N→rowF wr x N)∧(∀ x,x≠g→(∀ j,j<n→(hs j).1≠some ⟨x,0,none⟩)→wr.heap[x]?=w.heap[x]?)∧wr.heap.size=w.heap.size∧Below B w wr):=⟨hdone,hsh,hrow,hoth,hsz,hb⟩
   clear hdone hsh hrow hoth hsz hb;have HCN:Hid (cn8 c hs (k+1)=cn8 c hs k+7+(hs k).2.1):=rfl
   have hC1:cn8 c hs k≤30000000000000:=by have:=HLE.out k hk;omega
   generalize hC:cn8 c hs k=C at *;have HC:Hid (cn8 c hs k=C):=hC
   clear hC;have HAB:Hid (∀ b,(hs k).1=some ⟨b,0,none⟩→B≤b):=HB2.out k hlt
   obtain⟨t,ht⟩ : ∃ t,hs k=t:=⟨_,rfl⟩
   have HT:Hid (hs k=t):=ht
   rw[ht] at zd hh HCN HAB
   clear ht;obtain⟨a,m,cc⟩:=t
   simp only at zd
   have hm:m≤1048576:=hh.1
   have e3:((C:Int)+1+1+1).tmod 3=(((C+3) % 3:Nat):Int):=by rw[Int.tmod_eq_emod_of_nonneg (by omega)];omega
   have e5:((C:Int)+1+1+1+1+1).tmod 3=(((C+5) % 3:Nat):Int):=by rw[Int.tmod_eq_emod_of_nonneg (by omega)];omega
   have HBY:Hid (∀ W,(∀ x N,rowF wr x N→rowF W x N)→Calls Tryz.prog 54 #[.slice a m cc,.int .i64 ((C:Int)+1+1+1+1+1+1+1)] W fun o w'=>o = .returned (.int .i64 ((C+7+m:Nat):Int))∧(∀ b,a=some ⟨b,0,none⟩→mkB w' b m (C+7))∧(∀ x N,rowF W x N→rowF w' x N)∧(∀ x,a≠some ⟨x,0,none⟩→w'.heap[x]?=W.heap[x]?)∧w'.heap.size=W.heap.size∧Below B W w'):=fun W hW=>by
    have:=markHd B W g a m cc (C+7) (hh.up hW) HAB.out (by omega)
    have e:(((C+7:Nat)):Int)=(C:Int)+1+1+1+1+1+1+1:=by omega
    rw[e] at this
    exact this
   have HH:Hid (hd wr g (a,m,cc)):=hh
   clear hh;go_wp2_with (first | (go_at_call 54;refine (HBY.out _ (fun x N h=>h.setRow g (m8w C) wr (k*8))).mono ?_;rintro o w5 ⟨rfl,q1,q2,q3,q4,q5⟩;have HQ:Hid ((∀ b,a=some ⟨b,0,none⟩→mkB w5 b m (C+7))∧(∀ x N,rowF (setRow wr g (k*8) (m8w C)) x N→rowF w5 x N)∧(∀ x,a≠some ⟨x,0,none⟩→w5.heap[x]?=(setRow wr g (k*8) (m8w C)).heap[x]?)∧w5.heap.size=(setRow wr g (k*8) (m8w C)).heap.size∧Below B (setRow wr g (k*8) (m8w C)) w5):=⟨q1,q2,q3,q4,q5⟩;clear q1 q2 q3 q4 q5))
   obtain⟨q1,q2,q3,q4,q5⟩:=HQ.out
   obtain⟨r1,r0,r2,r3,r4,r5⟩:=HD.out
   have hT:=HT.out
   have hC:=HC.out
   have hl:(m8w C).length=7:=rfl
   have hag:a≠some ⟨g,0,none⟩:=by
    rcases HH.out.2.2 with⟨e,_⟩|⟨b,e,hne,_⟩
    ·intro h;rw[h] at e;cases e
    ·intro h;rw[h] at e;cases e;exact hne rfl
   have hgb:=q3 g hag
   have hrf:∀ x N,rowF wr x N→rowF w5 x N:=fun x N h=>q2 x N (h.setRow g (m8w C) wr (k*8))
   refine⟨⟨k+1,by omega,by go_num,by rw[HCN.out];congr 1,fun hd j hj=>?_,⟨hrf _ _ r0.row,fun j hj=>⟨cell_up ((setRow_other g (m8w C) wr (k*8) (j*8+7) (by omega)).trans (r0.dat j hj).1) hgb,(r0.dat j hj).2.up hrf⟩⟩,fun x N h=>hrf x N (r2 x N h),fun x hx hj=>(q3 x (by have:=hj k hlt;rw[hT] at this;exact this)).trans ((setRow_block g x hx (m8w C) wr (k*8)).trans (r3 x hx hj)),by rw[q4,setRow_size];exact r4,(setRow_below g B hB w (m8w C) wr (k*8) r5).trans q5⟩,by simp[intOf];omega⟩
   by_cases e:j=k
   ·subst e;rw[hT,hC]
    exact⟨fun t ht=>cell_up (setRow_at g (m8w C) wr (j*8) t (by omega) (r0.row (j*8+t) (by omega)).1) hgb,fun b hb=>q1 b hb⟩
   ·have hj':j<k:=by omega
    have H0:=r1 hd j hj'
    refine⟨fun t ht=>cell_up ((setRow_other g (m8w C) wr (k*8) (j*8+t) (by omega)).trans (H0.row t ht)) hgb,fun b hb t ht=>cell_up (H0.dat b hb t ht) ?_⟩
    have hbg:b≠g:=by
     rcases (r0.dat j (by omega)).2.2.2 with⟨e,_⟩|⟨b',e,hne,_⟩
     ·rw[hb] at e;cases e
     ·rw[hb] at e;cases e;exact hne
    have hba:a≠some ⟨b,0,none⟩:=by
     have:=hd j k hj' hlt b hb
     rw[hT] at this
     exact this
    exact (q3 b hba).trans (setRow_block g b hbg (m8w C) wr (k*8))
  ·have hkn:k=n:=by omega
   subst hkn;go_wp2
   go_ret;exact⟨rfl,hdone,hsh,hrow,hoth,hsz,hb⟩
set_option maxRecDepth 20000 in
theorem markEventS_gen (B:Nat) (w:World) (g n cap c:Nat) (hs:Nat→Hd) (h:sh8 w g n hs) (hcp:n≤cap) (hn:n≤1048576) (hc:c≤20000000000000) (hB:B≤g) (hB2:abv B hs n) :
  Calls Tryz.prog 97 #[.slice (some ⟨g,0,none⟩) n cap,.int .i64 (c:Int)] w fun o w'=>o = .returned (.int .i64 (cn8 c hs n:Int))∧(dst hs n→∀ j,j<n→mk8 w' g (j*8) (cn8 c hs j) (hs j))∧sh8 w' g n hs∧(∀ x N,rowF w x N→rowF w' x N)∧(∀ x,x≠g→(∀ j,j<n→(hs j).1≠some ⟨x,0,none⟩)→w'.heap[x]?=w.heap[x]?)∧w'.heap.size=w.heap.size∧Below B w w':=by
 have HSH:Hid (sh8 w g n hs):=h
 have HB2:Hid (abv B hs n):=hB2
 have HLE:Hid (∀ j,j≤n→cn8 c hs j≤c+j*1048583):=cn8_le c n hs (fun j hj=>(h.dat j hj).2.1)
 clear h hB2;go_enter Tryz.func97,Tryz.ntmps97
 go_wp2
 go_loopw [1,5] (fun kk i wr=>∃ k:Nat,k≤n∧i = .int .i64 (k:Int)∧kk = .int .i64 (cn8 c hs k:Int)∧(dst hs n→∀ j,j<k→mk8 wr g (j*8) (cn8 c hs j) (hs j))∧sh8 wr g n hs∧(∀ x N,rowF w x N→rowF wr x N)∧(∀ x,x≠g→(∀ j,j<n→(hs j).1≠some ⟨x,0,none⟩)→wr.heap[x]?=w.heap[x]?)∧wr.heap.size=w.heap.size∧Below B w wr) (fun _ i _=>n-(intOf i).toNat)
 case atStart=>exact⟨0,Nat.zero_le _,rfl,rfl,fun _ j hj=>absurd hj (Nat.not_lt_zero _),HSH.out,fun _ _ h=>h,fun _ _ _=>rfl,rfl,Below.refl _ _⟩
 case round=>
  obtain⟨k,hk,rfl,rfl,hdone,hsh,hrow,hoth,hsz,hb⟩:=hrel
  by_cases hlt:k<n
  ·have hkn:k*8+8≤n*8:=by omega
   obtain⟨⟨v0,z0⟩,f0⟩:=hsh.row (k*8) (by omega)
   obtain⟨⟨v1,z1⟩,f1⟩:=hsh.row (k*8+1) (by omega)
   obtain⟨⟨v2,z2⟩,f2⟩:=hsh.row (k*8+2) (by omega)
   obtain⟨⟨v3,z3⟩,f3⟩:=hsh.row (k*8+3) (by omega)
   obtain⟨⟨v4,z4⟩,f4⟩:=hsh.row (k*8+4) (by omega)
   obtain⟨⟨v5,z5⟩,f5⟩:=hsh.row (k*8+5) (by omega)
   obtain⟨⟨v6,z6⟩,f6⟩:=hsh.row (k*8+6) (by omega)
   obtain⟨zd,hh⟩:=hsh.dat k hlt
   have HD:Hid ((dst hs n→∀ j,j<k→mk8 wr g (j*8) (cn8 c hs j) (hs j))∧sh8 wr g n hs∧(∀ x N,rowF w x N→rowF wr x N)∧(∀ x,x≠g→(∀ j,j<n→(hs j).1≠some ⟨x,0,none⟩)→wr.heap[x]?=w.heap[x]?)∧wr.heap.size=w.heap.size∧Below B w wr):=⟨hdone,hsh,hrow,hoth,hsz,hb⟩
   clear hdone hsh hrow hoth hsz hb;have HCN:Hid (cn8 c hs (k+1)=cn8 c hs k+7+(hs k).2.1):=rfl
   have hC1:cn8 c hs k≤30000000000000:=by have:=HLE.out k hk;omega
   generalize hC:cn8 c hs k=C at *;have HC:Hid (cn8 c hs k=C):=hC
   clear hC;have HAB:Hid (∀ b,(hs k).1=some ⟨b,0,none⟩→B≤b):=HB2.out k hlt
   obtain⟨t,ht⟩ : ∃ t,hs k=t:=⟨_,rfl⟩
   have HT:Hid (hs k=t):=ht
   rw[ht] at zd hh HCN HAB
   clear ht;obtain⟨a,m,cc⟩:=t
   simp only at zd
   have hm:m≤1048576:=hh.1
   have e3:((C:Int)+1+1+1).tmod 3=(((C+3) % 3:Nat):Int):=by rw[Int.tmod_eq_emod_of_nonneg (by omega)];omega
   have e5:((C:Int)+1+1+1+1+1).tmod 3=(((C+5) % 3:Nat):Int):=by rw[Int.tmod_eq_emod_of_nonneg (by omega)];omega
   have HBY:Hid (∀ W,(∀ x N,rowF wr x N→rowF W x N)→Calls Tryz.prog 54 #[.slice a m cc,.int .i64 ((C:Int)+1+1+1+1+1+1+1)] W fun o w'=>o = .returned (.int .i64 ((C+7+m:Nat):Int))∧(∀ b,a=some ⟨b,0,none⟩→mkB w' b m (C+7))∧(∀ x N,rowF W x N→rowF w' x N)∧(∀ x,a≠some ⟨x,0,none⟩→w'.heap[x]?=W.heap[x]?)∧w'.heap.size=W.heap.size∧Below B W w'):=fun W hW=>by
    have:=markHd B W g a m cc (C+7) (hh.up hW) HAB.out (by omega)
    have e:(((C+7:Nat)):Int)=(C:Int)+1+1+1+1+1+1+1:=by omega
    rw[e] at this
    exact this
   have HH:Hid (hd wr g (a,m,cc)):=hh
   clear hh;go_wp2_with (first | (go_at_call 54;refine (HBY.out _ (fun x N h=>h.setRow g (m8w C) wr (k*8))).mono ?_;rintro o w5 ⟨rfl,q1,q2,q3,q4,q5⟩;have HQ:Hid ((∀ b,a=some ⟨b,0,none⟩→mkB w5 b m (C+7))∧(∀ x N,rowF (setRow wr g (k*8) (m8w C)) x N→rowF w5 x N)∧(∀ x,a≠some ⟨x,0,none⟩→w5.heap[x]?=(setRow wr g (k*8) (m8w C)).heap[x]?)∧w5.heap.size=(setRow wr g (k*8) (m8w C)).heap.size∧Below B (setRow wr g (k*8) (m8w C)) w5):=⟨q1,q2,q3,q4,q5⟩;clear q1 q2 q3 q4 q5))
   obtain⟨q1,q2,q3,q4,q5⟩:=HQ.out
   obtain⟨r1,r0,r2,r3,r4,r5⟩:=HD.out
   have hT:=HT.out
   have hC:=HC.out
   have hl:(m8w C).length=7:=rfl
   have hag:a≠some ⟨g,0,none⟩:=by
    rcases HH.out.2.2 with⟨e,_⟩|⟨b,e,hne,_⟩
    ·intro h;rw[h] at e;cases e
    ·intro h;rw[h] at e;cases e;exact hne rfl
   have hgb:=q3 g hag
   have hrf:∀ x N,rowF wr x N→rowF w5 x N:=fun x N h=>q2 x N (h.setRow g (m8w C) wr (k*8))
   refine⟨⟨k+1,by omega,by go_num,by rw[HCN.out];congr 1,fun hd j hj=>?_,⟨hrf _ _ r0.row,fun j hj=>⟨cell_up ((setRow_other g (m8w C) wr (k*8) (j*8+7) (by omega)).trans (r0.dat j hj).1) hgb,(r0.dat j hj).2.up hrf⟩⟩,fun x N h=>hrf x N (r2 x N h),fun x hx hj=>(q3 x (by have:=hj k hlt;rw[hT] at this;exact this)).trans ((setRow_block g x hx (m8w C) wr (k*8)).trans (r3 x hx hj)),by rw[q4,setRow_size];exact r4,(setRow_below g B hB w (m8w C) wr (k*8) r5).trans q5⟩,by simp[intOf];omega⟩
   by_cases e:j=k
   ·subst e;rw[hT,hC]
    exact⟨fun t ht=>cell_up (setRow_at g (m8w C) wr (j*8) t (by omega) (r0.row (j*8+t) (by omega)).1) hgb,fun b hb=>q1 b hb⟩
   ·have hj':j<k:=by omega
    have H0:=r1 hd j hj'
    refine⟨fun t ht=>cell_up ((setRow_other g (m8w C) wr (k*8) (j*8+t) (by omega)).trans (H0.row t ht)) hgb,fun b hb t ht=>cell_up (H0.dat b hb t ht) ?_⟩
    have hbg:b≠g:=by
     rcases (r0.dat j (by omega)).2.2.2 with⟨e,_⟩|⟨b',e,hne,_⟩
     ·rw[hb] at e;cases e
     ·rw[hb] at e;cases e;exact hne
    have hba:a≠some ⟨b,0,none⟩:=by
     have:=hd j k hj' hlt b hb
     rw[hT] at this
     exact this
    exact (q3 b hba).trans (setRow_block g b hbg (m8w C) wr (k*8))
  ·have hkn:k=n:=by omega
   subst hkn;go_wp2
   go_ret;exact⟨rfl,hdone,hsh,hrow,hoth,hsz,hb⟩
set_option maxRecDepth 20000 in
theorem markFrameS_gen (B:Nat) (w:World) (g n cap c:Nat) (hs:Nat→Hd) (h:sh5 w g n hs) (hcp:n≤cap) (hn:n≤1048576) (hc:c≤20000000000000) (hB:B≤g) (hB2:abv B hs n) :
  Calls Tryz.prog 96 #[.slice (some ⟨g,0,none⟩) n cap,.int .i64 (c:Int)] w fun o w'=>o = .returned (.int .i64 (cn5 c hs n:Int))∧(dst hs n→∀ j,j<n→mk5 w' g (j*5) (cn5 c hs j) (hs j))∧sh5 w' g n hs∧(∀ x N,rowF w x N→rowF w' x N)∧(∀ x,x≠g→(∀ j,j<n→(hs j).1≠some ⟨x,0,none⟩)→w'.heap[x]?=w.heap[x]?)∧w'.heap.size=w.heap.size∧Below B w w':=by
 have HSH:Hid (sh5 w g n hs):=h
 have HB2:Hid (abv B hs n):=hB2
 have HLE:Hid (∀ j,j≤n→cn5 c hs j≤c+j*1048583):=cn5_le c n hs (fun j hj=>(h.dat j hj).2.1)
 clear h hB2;go_enter Tryz.func96,Tryz.ntmps96
 go_wp2
 go_loopw [1,5] (fun kk i wr=>∃ k:Nat,k≤n∧i = .int .i64 (k:Int)∧kk = .int .i64 (cn5 c hs k:Int)∧(dst hs n→∀ j,j<k→mk5 wr g (j*5) (cn5 c hs j) (hs j))∧sh5 wr g n hs∧(∀ x N,rowF w x N→rowF wr x N)∧(∀ x,x≠g→(∀ j,j<n→(hs j).1≠some ⟨x,0,none⟩)→wr.heap[x]?=w.heap[x]?)∧wr.heap.size=w.heap.size∧Below B w wr) (fun _ i _=>n-(intOf i).toNat)
 case atStart=>exact⟨0,Nat.zero_le _,rfl,rfl,fun _ j hj=>absurd hj (Nat.not_lt_zero _),HSH.out,fun _ _ h=>h,fun _ _ _=>rfl,rfl,Below.refl _ _⟩
 case round=>
  obtain⟨k,hk,rfl,rfl,hdone,hsh,hrow,hoth,hsz,hb⟩:=hrel
  by_cases hlt:k<n
  ·have hkn:k*5+5≤n*5:=by omega
   obtain⟨⟨v0,z0⟩,f0⟩:=hsh.row (k*5) (by omega)
   obtain⟨⟨v1,z1⟩,f1⟩:=hsh.row (k*5+1) (by omega)
   obtain⟨⟨v2,z2⟩,f2⟩:=hsh.row (k*5+2) (by omega)
   obtain⟨⟨v3,z3⟩,f3⟩:=hsh.row (k*5+3) (by omega)
   obtain⟨zd,hh⟩:=hsh.dat k hlt
   have HD:Hid ((dst hs n→∀ j,j<k→mk5 wr g (j*5) (cn5 c hs j) (hs j))∧sh5 wr g n hs∧(∀ x N,rowF w x N→rowF wr x N)∧(∀ x,x≠g→(∀ j,j<n→(hs j).1≠some ⟨x,0,none⟩)→wr.heap[x]?=w.heap[x]?)∧wr.heap.size=w.heap.size∧Below B w wr):=⟨hdone,hsh,hrow,hoth,hsz,hb⟩
   clear hdone hsh hrow hoth hsz hb;have HCN:Hid (cn5 c hs (k+1)=cn5 c hs k+4+(hs k).2.1):=rfl
   have hC1:cn5 c hs k≤30000000000000:=by have:=HLE.out k hk;omega
   generalize hC:cn5 c hs k=C at *;have HC:Hid (cn5 c hs k=C):=hC
   clear hC;have HAB:Hid (∀ b,(hs k).1=some ⟨b,0,none⟩→B≤b):=HB2.out k hlt
   obtain⟨t,ht⟩ : ∃ t,hs k=t:=⟨_,rfl⟩
   have HT:Hid (hs k=t):=ht
   rw[ht] at zd hh HCN HAB
   clear ht;obtain⟨a,m,cc⟩:=t
   simp only at zd
   have hm:m≤1048576:=hh.1
   have e0:((C:Int)).tmod 3=(((C+0) % 3:Nat):Int):=by rw[Int.tmod_eq_emod_of_nonneg (by omega)];omega
   have e2:((C:Int)+1+1).tmod 3=(((C+2) % 3:Nat):Int):=by rw[Int.tmod_eq_emod_of_nonneg (by omega)];omega
   have HBY:Hid (∀ W,(∀ x N,rowF wr x N→rowF W x N)→Calls Tryz.prog 54 #[.slice a m cc,.int .i64 ((C:Int)+1+1+1+1)] W fun o w'=>o = .returned (.int .i64 ((C+4+m:Nat):Int))∧(∀ b,a=some ⟨b,0,none⟩→mkB w' b m (C+4))∧(∀ x N,rowF W x N→rowF w' x N)∧(∀ x,a≠some ⟨x,0,none⟩→w'.heap[x]?=W.heap[x]?)∧w'.heap.size=W.heap.size∧Below B W w'):=fun W hW=>by
    have:=markHd B W g a m cc (C+4) (hh.up hW) HAB.out (by omega)
    have e:(((C+4:Nat)):Int)=(C:Int)+1+1+1+1:=by omega
    rw[e] at this
    exact this
   have HH:Hid (hd wr g (a,m,cc)):=hh
   clear hh;go_wp2_with (first | (go_at_call 54;refine (HBY.out _ (fun x N h=>h.setRow g (m5w C) wr (k*5))).mono ?_;rintro o w5 ⟨rfl,q1,q2,q3,q4,q5⟩;have HQ:Hid ((∀ b,a=some ⟨b,0,none⟩→mkB w5 b m (C+4))∧(∀ x N,rowF (setRow wr g (k*5) (m5w C)) x N→rowF w5 x N)∧(∀ x,a≠some ⟨x,0,none⟩→w5.heap[x]?=(setRow wr g (k*5) (m5w C)).heap[x]?)∧w5.heap.size=(setRow wr g (k*5) (m5w C)).heap.size∧Below B (setRow wr g (k*5) (m5w C)) w5):=⟨q1,q2,q3,q4,q5⟩;clear q1 q2 q3 q4 q5))
   obtain⟨q1,q2,q3,q4,q5⟩:=HQ.out
   obtain⟨r1,r0,r2,r3,r4,r5⟩:=HD.out
   have hT:=HT.out
   have hC:=HC.out
   have hl:(m5w C).length=4:=rfl
   have hag:a≠some ⟨g,0,none⟩:=by
    rcases HH.out.2.2 with⟨e,_⟩|⟨b,e,hne,_⟩
    ·intro h;rw[h] at e;cases e
    ·intro h;rw[h] at e;cases e;exact hne rfl
   have hgb:=q3 g hag
   have hrf:∀ x N,rowF wr x N→rowF w5 x N:=fun x N h=>q2 x N (h.setRow g (m5w C) wr (k*5))
   refine⟨⟨k+1,by omega,by go_num,by rw[HCN.out];congr 1,fun hd j hj=>?_,⟨hrf _ _ r0.row,fun j hj=>⟨cell_up ((setRow_other g (m5w C) wr (k*5) (j*5+4) (by omega)).trans (r0.dat j hj).1) hgb,(r0.dat j hj).2.up hrf⟩⟩,fun x N h=>hrf x N (r2 x N h),fun x hx hj=>(q3 x (by have:=hj k hlt;rw[hT] at this;exact this)).trans ((setRow_block g x hx (m5w C) wr (k*5)).trans (r3 x hx hj)),by rw[q4,setRow_size];exact r4,(setRow_below g B hB w (m5w C) wr (k*5) r5).trans q5⟩,by simp[intOf];omega⟩
   by_cases e:j=k
   ·subst e;rw[hT,hC]
    exact⟨fun t ht=>cell_up (setRow_at g (m5w C) wr (j*5) t (by omega) (r0.row (j*5+t) (by omega)).1) hgb,fun b hb=>q1 b hb⟩
   ·have hj':j<k:=by omega
    have H0:=r1 hd j hj'
    refine⟨fun t ht=>cell_up ((setRow_other g (m5w C) wr (k*5) (j*5+t) (by omega)).trans (H0.row t ht)) hgb,fun b hb t ht=>cell_up (H0.dat b hb t ht) ?_⟩
    have hbg:b≠g:=by
     rcases (r0.dat j (by omega)).2.2.2 with⟨e,_⟩|⟨b',e,hne,_⟩
     ·rw[hb] at e;cases e
     ·rw[hb] at e;cases e;exact hne
    have hba:a≠some ⟨b,0,none⟩:=by
     have:=hd j k hj' hlt b hb
     rw[hT] at this
     exact this
    exact (q3 b hba).trans (setRow_block g b hbg (m5w C) wr (k*5))
  ·have hkn:k=n:=by omega
   subst hkn;go_wp2
   go_ret;exact⟨rfl,hdone,hsh,hrow,hoth,hsz,hb⟩
end Go.Proofs.YtkfcfigbgmbaiaaGreat
