import Derived.Test.YtaamahohdnbpiaaGreatG00
namespace Go.Proofs.YtaamahohdnbpiaaGreat
open Go.RowKit
set_option linter.unusedVariables false
theorem rowF.setCell {w:World} {x N:Nat} (h:rowF w x N) (p:Addr) (v:Value):rowF (w.setCell p v) x N:=fun t ht=>by
 obtain⟨⟨u,hu⟩,hf⟩:=h t ht
 refine⟨?_,by rw[World.frozen?_setCell];exact hf⟩
 by_cases e:(⟨x,t,none⟩ : Addr)=p
 ·subst e;exact⟨v,World.cell?_setCell_same _ _ _ hu⟩
 ·exact⟨u,by rw[World.cell?_setCell_other _ _ _ _ (fun hh=>e hh.symm)];exact hu⟩
theorem rowF.setRow {x N:Nat} (g:Nat):∀ (vs:List Value) (w:World) (p:Nat),rowF w x N→rowF (setRow w g p vs) x N:=by
 intro vs;induction vs with
 | nil=>intro w p h;exact h
 | cons v vs ih=>intro w p h;exact ih _ (p+1) (h.setCell _ v)
theorem rowF.le {w:World} {x N M:Nat} (h:rowF w x N) (hM:M≤N):rowF w x M:=fun t ht=>h t (by omega)
def mkB (W:World) (b m C:Nat):Prop:=∀ t,t<m→W.cell? ⟨b,t,none⟩=some (.int .u8 (((C+t) % 256:Nat):Int))
abbrev Hd:=Option Addr × Nat × Nat
def hd (W:World) (g:Nat) (h:Hd):Prop:=h.2.1≤1048576∧h.2.1≤h.2.2∧((h.1=none∧h.2.1=0)∨∃ b,h.1=some ⟨b,0,none⟩∧b≠g∧rowF W b h.2.1)
theorem hd.up {W W':World} {g:Nat} {h:Hd} (H:hd W g h) (hr:∀ x N,rowF W x N→rowF W' x N):hd W' g h:=by
 obtain⟨h1,h2,h3⟩:=H
 refine⟨h1,h2,?_⟩
 rcases h3 with h3|⟨b,e,hn,hf⟩
 ·exact Or.inl h3
 ·exact Or.inr ⟨b,e,hn,hr _ _ hf⟩
def dst (hs:Nat→Hd) (n:Nat):Prop:=∀ i j,i<j→j<n→∀ b,(hs i).1=some ⟨b,0,none⟩→(hs j).1≠some ⟨b,0,none⟩
structure sh8 (W:World) (g n:Nat) (hs:Nat→Hd):Prop where
 row:rowF W g (n*8)
 dat:∀ j,j<n→W.cell? ⟨g,j*8+7,none⟩=some (.slice (hs j).1 (hs j).2.1 (hs j).2.2)∧hd W g (hs j)
def cn8 (c:Nat) (hs:Nat→Hd):Nat→Nat
 | 0=>c
 | j+1=>cn8 c hs j+7+(hs j).2.1
theorem cn8_le (c n:Nat) (hs:Nat→Hd) (h:∀ j,j<n→(hs j).2.1≤1048576):∀ j,j≤n→cn8 c hs j≤c+j*1048583:=by
 intro j;induction j with
 | zero=>intro _;exact Nat.le_refl _
 | succ j ih=>
  intro hj;have h1:=ih (by omega)
  have h2:=h j (by omega)
  simp only[cn8]
  omega
def m8w (C:Nat):List Value:=[Value.int .i64 (C:Int),Value.int .i64 ((C:Int)+1),Value.int .i64 ((C:Int)+1+1),Value.bool ((C:Int) % 3 == 0),Value.int .u32 (((C:Int)+1+1+1+1) % 4294967296),Value.bool (((C:Int)+5) % 3 == 0),Value.int .i64 ((C:Int)+1+1+1+1+1+1)]
structure mk8 (W:World) (g o C:Nat) (h:Hd):Prop where
 row:∀ t (ht:t<7),W.cell? ⟨g,o+t,none⟩=some ((m8w C)[t]'(by simpa[m8w] using ht))
 dat:∀ b,h.1=some ⟨b,0,none⟩→mkB W b h.2.1 (C+7)
theorem mk8.up {W W':World} {g o C:Nat} {h:Hd} (H:mk8 W g o C h) (hg:W'.heap[g]?=W.heap[g]?) (hb:∀ b,h.1=some ⟨b,0,none⟩→W'.heap[b]?=W.heap[b]?):mk8 W' g o C h:=
 ⟨fun t ht=>cell_up (H.row t ht) hg,fun b e t ht=>cell_up (H.dat b e t ht) (hb b e)⟩
theorem sh8.up {W W':World} {g n:Nat} {hs:Nat→Hd} (H:sh8 W g n hs) (hg:W'.heap[g]?=W.heap[g]?) (hr:∀ x N,rowF W x N→rowF W' x N):sh8 W' g n hs:=
 ⟨H.row.up hg,fun j hj=>⟨cell_up (H.dat j hj).1 hg,(H.dat j hj).2.up hr⟩⟩
structure sh5 (W:World) (g n:Nat) (hs:Nat→Hd):Prop where
 row:rowF W g (n*5)
 dat:∀ j,j<n→W.cell? ⟨g,j*5+4,none⟩=some (.slice (hs j).1 (hs j).2.1 (hs j).2.2)∧hd W g (hs j)
def cn5 (c:Nat) (hs:Nat→Hd):Nat→Nat
 | 0=>c
 | j+1=>cn5 c hs j+4+(hs j).2.1
theorem cn5_le (c n:Nat) (hs:Nat→Hd) (h:∀ j,j<n→(hs j).2.1≤1048576):∀ j,j≤n→cn5 c hs j≤c+j*1048583:=by
 intro j;induction j with
 | zero=>intro _;exact Nat.le_refl _
 | succ j ih=>
  intro hj;have h1:=ih (by omega)
  have h2:=h j (by omega)
  simp only[cn5]
  omega
def m5w (C:Nat):List Value:=[Value.bool ((C:Int) % 3 == 0),Value.int .u32 (((C:Int)+1) % 4294967296),Value.bool (((C:Int)+2) % 3 == 0),Value.int .i64 ((C:Int)+1+1+1)]
structure mk5 (W:World) (g o C:Nat) (h:Hd):Prop where
 row:∀ t (ht:t<4),W.cell? ⟨g,o+t,none⟩=some ((m5w C)[t]'(by simpa[m5w] using ht))
 dat:∀ b,h.1=some ⟨b,0,none⟩→mkB W b h.2.1 (C+4)
theorem mk5.up {W W':World} {g o C:Nat} {h:Hd} (H:mk5 W g o C h) (hg:W'.heap[g]?=W.heap[g]?) (hb:∀ b,h.1=some ⟨b,0,none⟩→W'.heap[b]?=W.heap[b]?):mk5 W' g o C h:=
 ⟨fun t ht=>cell_up (H.row t ht) hg,fun b e t ht=>cell_up (H.dat b e t ht) (hb b e)⟩
theorem sh5.up {W W':World} {g n:Nat} {hs:Nat→Hd} (H:sh5 W g n hs) (hg:W'.heap[g]?=W.heap[g]?) (hr:∀ x N,rowF W x N→rowF W' x N):sh5 W' g n hs:=
 ⟨H.row.up hg,fun j hj=>⟨cell_up (H.dat j hj).1 hg,(H.dat j hj).2.up hr⟩⟩
end Go.Proofs.YtaamahohdnbpiaaGreat
