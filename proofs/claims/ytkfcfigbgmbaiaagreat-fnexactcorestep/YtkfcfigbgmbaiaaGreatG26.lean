import Derived.Test.YtkfcfigbgmbaiaaGreatG23
import Derived.Test.YtkfcfigbgmbaiaaGreatG25
import Derived.Test.YtkfcfigbgmbaiaaGreatG12
import Derived.Test.YtkfcfigbgmbaiaaGreatG07
namespace Go.Proofs.YtkfcfigbgmbaiaaGreat
open Go.RowKit
set_option linter.unusedVariables false
def slSome (s:Sl):Prop:=(∃ g,s.a1=some ⟨g,0,none⟩)∧(∃ g,s.a2=some ⟨g,0,none⟩)
theorem wrHo.some {B T:Nat} {W:World} {s:Sl} (h:wrHo B T W s):slSome s:=by
 obtain⟨g1,g2,g3,g4,e,_⟩:=h.e
 rw[e]
 exact⟨⟨g1,rfl⟩,⟨g2,rfl⟩⟩
theorem okHo.n2 {H:Ho} (h:okHo H):H.bx.length≤8:=by
 have h1:=of_decide_eq_true h.cf
 have h2:=h.nb
 omega
theorem lvS.best {w0:World} {P mb:Nat} {L:List Value} {gf n1 kf:Nat} {fs:List R3} {gb n2 kb:Nat} {bx:List R8} {hs:Nat→Hd} {gr r1:Nat} {ff:List R5} {gq r3:Nat} {qu:List R8} {k:Nat} {W:World} {st:Int} (h:lvS Unit w0 P mb L gf n1 kf fs gb n2 kb bx hs gr r1 ff gq r3 qu k W) (h5:L[5]?=some (.slice (some ⟨gb,0,none⟩) n2 kb)) (hn:n2≤8) (hok:okBxs st bx) :
  Calls Tryz.prog 228 #[.pointer (some ⟨P,0,none⟩)] W fun o w'=>∃ r:Int,o = .returned (.int .i64 r)∧bestR bx r∧Below w0.heap.size w0 w':=
 (best_any W P (some ⟨gb,0,none⟩) n2 kb bx st (h.p.cell 5 _ h5) ((h.x.k W rfl h.b).1.is (h.x.k W rfl h.b).2) hn hok).mono (by rintro o w' ⟨r,rfl,hr,hb⟩;exact⟨r,rfl,hr,h.b.trans (hb.mono h.b.size)⟩)
set_option maxHeartbeats 16000000
theorem isBytes.typed {W:World} {a:Option Addr} {n cap:Nat} {l:List Nat} (h:isBytes W a n cap l) (p:Addr) (v v':Value) (hp:W.cell? p=some v) (hv:∀ x,v≠.int .u8 x):isBytes (W.setCell p v') a n cap l:=by
 refine⟨h.len,h.cap,h.small,fun hne=>?_⟩
 obtain⟨g,off,e,hc⟩:=h.cells hne
 refine⟨g,off,e,fun j hj=>?_⟩
 rw[World.cell?_setCell_other _ _ _ _ (by
  intro e2;have:=hc j hj
  rw[← e2,hp] at this
  injection this with this
  exact hv _ this)]
 exact hc j hj
def onW (b:R8):Prop:=b.x=2∨b.x=3
def bsy (bx:List R8) (r:Int):Prop:=(∃ (k:Nat) (h:k<bx.length),onW bx[k]∧(∀ j (hj:j<bx.length),j<k→¬ onW bx[j])∧r=(k:Int))∨((∀ k (h:k<bx.length),¬ onW bx[k])∧r = -1)
theorem bsy_neg {bx:List R8} {r:Int} (h:bsy bx r):r<0↔∀ k (h:k<bx.length),¬ onW bx[k]:=by
 rcases h with⟨k,hk,h1,_,rfl⟩|⟨h1,rfl⟩
 ·exact⟨fun e=>by omega,fun e=>absurd h1 (e k hk)⟩
 ·exact⟨fun _=>h1,fun _=>by omega⟩
set_option maxRecDepth 20000 in
theorem l3busy_any (w:World) (H:Ho) (s:Sl) (h:isR8s w s.a2 s.n2 s.k2 H.bx) (hn:s.n2≤1000) :
  Calls Tryz.prog 76 #[.agg (hoL H s).toArray] w fun o w'=>∃ r:Int,o = .returned (.int .i64 r)∧bsy H.bx r∧Below w.heap.size w w':=by
 have H0:Hid (obS w H s (w.alloc (.cells (hoL H s).toArray 39))):=⟨blk.new w _ 39,(Below.refl _ _).alloc (Nat.le_refl _) _⟩
 have hcp:=h.cap
 obtain⟨c0,c1,c2,c3,fs,bx,ff,qu,lo,st⟩:=H
 obtain⟨a1,n1,k1,a2,n2,k2,a3,n3,k3,a4,n4,k4⟩:=s
 simp only[] at h hcp hn ⊢
 have HL:Hid (n2=bx.length):=h.len
 by_cases hl:bx=[]
 ·subst hl;have hn0:n2=0:=HL.out
  subst hn0;clear h;go_enter Tryz.func76,Tryz.ntmps76
  go_wp2_with fail;go_loopw [3] (fun i wr=>i = .int .i64 0∧obS w ⟨c0,c1,c2,c3,fs,[],ff,qu,lo,st⟩ ⟨a1,n1,k1,a2,0,k2,a3,n3,k3,a4,n4,k4⟩ wr) (fun _ _=>0)
  case atStart=>exact⟨rfl,H0.out⟩
  case round=>
   obtain⟨rfl,hS⟩:=hrel
   have p5:=hS.p.cell 5 _ rfl
   have HS:=hS.b
   go_wp2
   go_ret;exact⟨-1,rfl,Or.inr ⟨fun k hk=>(by cases hk),rfl⟩,HS⟩
 obtain⟨g,off,rfl,hc⟩:=h.cells hl
 have HC:Hid (∀ j (h:j<bx.length),∃ ao m c,at8 w g (off+j*8) bx[j] ao m c):=hc
 clear hc h hl;go_enter Tryz.func76,Tryz.ntmps76
 go_wp2_with fail;go_loopw [3] (fun i wr=>∃ k:Nat,k≤n2∧i = .int .i64 (k:Int)∧(∀ j (hj:j<bx.length),j<k→¬ onW bx[j])∧obS w ⟨c0,c1,c2,c3,fs,bx,ff,qu,lo,st⟩ ⟨a1,n1,k1,some ⟨g,off,none⟩,n2,k2,a3,n3,k3,a4,n4,k4⟩ wr) (fun i _=>n2-(intOf i).toNat)
 case atStart=>exact⟨0,Nat.zero_le _,rfl,fun j _ h=>absurd h (Nat.not_lt_zero _),H0.out⟩
 case round=>
  obtain⟨k,hk,rfl,hA,hS⟩:=hrel
  have HA:Hid (∀ j (hj:j<bx.length),j<k→¬ onW bx[j]):=hA
  have HS:Hid (obS w ⟨c0,c1,c2,c3,fs,bx,ff,qu,lo,st⟩ ⟨a1,n1,k1,some ⟨g,off,none⟩,n2,k2,a3,n3,k3,a4,n4,k4⟩ wr):=hS
  have x5:=hS.p.cell 5 _ rfl
  clear hA hS;by_cases hlt:k<n2
  ·have hkl:k<bx.length:=by have:=HL.out;omega
   obtain⟨ao,m,c,hx⟩:=HC.out k hkl
   have u0:=(hx.below HS.out.b).c0
   clear hx;have HX:Hid (bx[k].x=bx[k].x):=rfl
   have HON:Hid (onW bx[k]↔(bx[k].x=2∨bx[k].x=3)):=Iff.rfl
   generalize bx[k].x=x at *;by_cases h2:x=2
   ·subst h2;go_wp2_with fail;go_ret;exact⟨k,rfl,Or.inl ⟨k,hkl,HON.out.2 (by simp),HA.out,rfl⟩,HS.out.b⟩
   ·have h2':(x == 2)=false:=by simpa using h2
    by_cases h3:x=3
    ·subst h3;go_wp2_with fail;go_ret;exact⟨k,rfl,Or.inl ⟨k,hkl,HON.out.2 (by simp),HA.out,rfl⟩,HS.out.b⟩
    ·have h3':(x == 3)=false:=by simpa using h3
     have HNO:Hid (¬ onW bx[k]):=fun e=>by rcases HON.out.1 e with e | e <;> contradiction
     clear h2 h3;go_wp2_with fail;go_roundw
     case rel=>
      refine⟨k+1,by omega,by go_num,fun j hj hjk=>?_,HS.out⟩
      by_cases e:j=k
      ·subst e;exact HNO.out
      ·exact HA.out j hj (by omega)
     case measure=>simp[intOf];omega
  ·have hkn:n2=k:=by omega
   subst hkn;go_wp2_with fail;go_ret;exact⟨-1,rfl,Or.inr ⟨fun j hj=>HA.out j hj (by have:=HL.out;omega),rfl⟩,HS.out.b⟩
def takeB (bx:List R8) (i:Int):List R8:=if h:0≤i∧i<(bx.length:Int) then (if (bx[i.toNat]'(by omega)).x=1∧(∀ b ∈ bx,¬ (b.x=2∨b.x=3)) then bx.set i.toNat { (bx[i.toNat]'(by omega)) with x:=2 } else bx) else bx
def takeHo (H:Ho) (i:Int):Ho:={ H with bx:=takeB H.bx i }
theorem takeB_out {bx:List R8} {i:Int} (h:i<0∨(bx.length:Int)≤i):takeB bx i=bx:=by unfold takeB;rw[dif_neg (by omega)]
theorem takeB_no {bx:List R8} {k:Nat} (hk:k<bx.length) (h:bx[k].x≠1):takeB bx (k:Int)=bx:=by
 unfold takeB
 rw[dif_pos (by omega),if_neg]
 rintro⟨h1,_⟩;simp only[Int.toNat_natCast] at h1
 exact h h1
theorem takeB_busy {bx:List R8} {i:Int} {r:Int} (h:bsy bx r) (hr:0≤r):takeB bx i=bx:=by
 unfold takeB
 by_cases hi:0≤i∧i<(bx.length:Int)
 ·rw[dif_pos hi,if_neg]
  rintro⟨_,h2⟩;have:=(bsy_neg h).2 (fun k hk=>h2 _ (List.getElem_mem hk))
  omega
 ·rw[dif_neg hi]
theorem takeB_yes {bx:List R8} {k:Nat} (hk:k<bx.length) (h:bx[k].x=1) {r:Int} (hb:bsy bx r) (hr:r<0):takeB bx (k:Int)=bx.set k { bx[k] with x:=2 }:=by
 unfold takeB
 rw[dif_pos (by omega),if_pos]
 ·simp
 ·refine⟨by simpa using h,fun b hbm=>?_⟩
  obtain⟨j,hj,rfl⟩:=List.getElem_of_mem hbm
  exact (bsy_neg hb).1 hr j hj
theorem takeB_len (bx:List R8) (i:Int):(takeB bx i).length=bx.length:=by
 unfold takeB
 split
 ·split
  ·simp
  ·rfl
 ·rfl
theorem takeB_l (bx:List R8) (i:Int) (j:Nat) (h:j<(takeB bx i).length) (h':j<bx.length):(takeB bx i)[j].l=bx[j].l:=by
 unfold takeB
 split
 ·split
  ·simp only[List.getElem_set]
   split
   ·rename_i e;subst e;rfl
   ·rfl
  ·rfl
 ·rfl
theorem isR8s.setX {W:World} {g n cap:Nat} {bx:List R8} (h:isR8s W (some ⟨g,0,none⟩) n cap bx) (k:Nat) (hk:k<bx.length) (v:Int):isR8s (W.setCell ⟨g,k*8,none⟩ (.int .i64 v)) (some ⟨g,0,none⟩) n cap (bx.set k { bx[k] with x:=v }):=by
 have hc:∀ j (h:j<bx.length),∃ ao m c,at8 W g (j*8) bx[j] ao m c:=by
  obtain⟨g',off,e,hc⟩:=h.cells (by intro e;subst e;cases hk)
  cases e
  intro j hj;have:=hc j hj
  rw[Nat.zero_add] at this
  exact this
 obtain⟨_,_,_,hk0⟩:=hc k hk
 refine⟨by simpa using h.len,h.cap,fun _=>⟨g,0,rfl,fun j hj=>?_⟩⟩
 have hj':j<bx.length:=by simpa using hj
 obtain⟨ao,m,c,q⟩:=hc j hj'
 refine⟨ao,m,c,?_⟩
 rw[Nat.zero_add]
 have ot:∀ t,j*8+t≠k*8→(W.setCell ⟨g,k*8,none⟩ (.int .i64 v)).cell? ⟨g,j*8+t,none⟩=W.cell? ⟨g,j*8+t,none⟩:=fun t ht=>World.cell?_setCell_other _ _ _ _ (by intro e;simp at e <;> omega)
 have od:=q.dat.typed ⟨g,k*8,none⟩ _ (.int .i64 v) hk0.c0 (by intro x e;cases e)
 by_cases e:j=k
 ·subst e;simp only[List.getElem_set_self]
  exact⟨World.cell?_setCell_same _ _ _ hk0.c0,(ot 1 (by omega)).trans q.c1,(ot 2 (by omega)).trans q.c2,(ot 3 (by omega)).trans q.c3,(ot 4 (by omega)).trans q.c4,(ot 5 (by omega)).trans q.c5,(ot 6 (by omega)).trans q.c6,(ot 7 (by omega)).trans q.cs,od⟩
 ·rw[List.getElem_set_ne (by omega)]
  exact⟨(ot 0 (by omega)).trans q.c0,(ot 1 (by omega)).trans q.c1,(ot 2 (by omega)).trans q.c2,(ot 3 (by omega)).trans q.c3,(ot 4 (by omega)).trans q.c4,(ot 5 (by omega)).trans q.c5,(ot 6 (by omega)).trans q.c6,(ot 7 (by omega)).trans q.cs,od⟩
theorem isR8s.setAt {W:World} {a:Option Addr} {n cap:Nat} {bx:List R8} (h:isR8s W a n cap bx) (p:Addr) (x v:Int) (hp:W.cell? p=some (.int .i64 x)) (hb:∀ g off,a=some ⟨g,off,none⟩→g≠p.block):isR8s (W.setCell p (.int .i64 v)) a n cap bx:=by
 refine⟨h.len,h.cap,fun hne=>?_⟩
 obtain⟨g,off,e,hc⟩:=h.cells hne
 refine⟨g,off,e,fun j hj=>?_⟩
 obtain⟨ao,m,c,q⟩:=hc j hj
 have hg:=heap_setCell_other W p g (.int .i64 v) (hb g off e)
 exact⟨ao,m,c,cell_up q.c0 hg,cell_up q.c1 hg,cell_up q.c2 hg,cell_up q.c3 hg,cell_up q.c4 hg,cell_up q.c5 hg,cell_up q.c6 hg,cell_up q.cs hg,q.dat.typed p _ _ hp (by intro y e;cases e)⟩
theorem isR5s.setAt {W:World} {a:Option Addr} {n cap:Nat} {bx:List R5} (h:isR5s W a n cap bx) (p:Addr) (x v:Int) (hp:W.cell? p=some (.int .i64 x)) (hb:∀ g off,a=some ⟨g,off,none⟩→g≠p.block):isR5s (W.setCell p (.int .i64 v)) a n cap bx:=by
 refine⟨h.len,h.cap,fun hne=>?_⟩
 obtain⟨g,off,e,hc⟩:=h.cells hne
 refine⟨g,off,e,fun j hj=>?_⟩
 obtain⟨ao,m,c,q⟩:=hc j hj
 have hg:=heap_setCell_other W p g (.int .i64 v) (hb g off e)
 exact⟨ao,m,c,cell_up q.c0 hg,cell_up q.c1 hg,cell_up q.c2 hg,cell_up q.c3 hg,cell_up q.cs hg,q.dat.typed p _ _ hp (by intro y e;cases e)⟩
theorem isR3s.setAt {W:World} {a:Option Addr} {n cap:Nat} {bx:List R3} (h:isR3s W a n cap bx) (p:Addr) (x v:Int) (hp:W.cell? p=some (.int .i64 x)):isR3s (W.setCell p (.int .i64 v)) a n cap bx:=by
 refine⟨h.len,h.cap,fun hne=>?_⟩
 obtain⟨g,off,e,hc⟩:=h.cells hne
 refine⟨g,off,e,fun j hj=>?_⟩
 have q:=hc j hj
 have ot:∀ (t:Nat) (u:Value),W.cell? ⟨g,t,none⟩=some u→(∀ y,u≠.int .i64 y)→(W.setCell p (.int .i64 v)).cell? ⟨g,t,none⟩=some u:=fun t u hu hn=>by
  rw[World.cell?_setCell_other _ _ _ _ (by intro e2;rw[← e2,hp] at hu;injection hu with hu;exact hn _ hu.symm)]
  exact hu
 exact⟨ot _ _ q.c0 (by intro y e;cases e),ot _ _ q.c1 (by intro y e;cases e),ot _ _ q.c2 (by intro y e;cases e)⟩
theorem isHo.setX {W:World} {H:Ho} {s:Sl} (h:isHo W H s) {g:Nat} (ha:s.a2=some ⟨g,0,none⟩) (hne:∀ x,s.a3=some ⟨x,0,none⟩∨s.a4=some ⟨x,0,none⟩→g≠x) (ha3:∃ x,s.a3=some ⟨x,0,none⟩) (ha4:∃ x,s.a4=some ⟨x,0,none⟩) (k:Nat) (hk:k<H.bx.length) (v:Int):isHo (W.setCell ⟨g,k*8,none⟩ (.int .i64 v)) { H with bx:=H.bx.set k { H.bx[k] with x:=v } } s:=by
 have hb:=h.bx
 rw[ha] at hb
 obtain⟨g',off,e,hc⟩:=hb.cells (by intro e;rw[e] at hk;cases hk)
 cases e
 obtain⟨_,_,_,q⟩:=hc k hk
 have q0:=q.c0
 rw[Nat.zero_add] at q0
 obtain⟨x3,e3⟩:=ha3
 obtain⟨x4,e4⟩:=ha4
 refine⟨h.fs.setAt _ _ _ q0,?_,h.ff.setAt _ _ _ q0 (fun g2 off e=>?_),h.qu.setAt _ _ _ q0 (fun g2 off e=>?_)⟩
 ·rw[ha]
  exact hb.setX k hk v
 ·rw[e3] at e;cases e
  exact fun e5=>hne x3 (Or.inl e3) e5.symm
 ·rw[e4] at e;cases e
  exact fun e5=>hne x4 (Or.inr e4) e5.symm
set_option maxRecDepth 20000 in
theorem indexBox_any (w:World) (a:Option Addr) (n cap:Nat) (bs:List R8) (h:isR8s w a n cap bs) (hn:n≤1048576) :
  Calls Tryz.prog 192 #[.slice a n cap,.func (.func 182) #[] #[]] w fun o w'=>∃ z:Int,o = .returned (.int .i64 z)∧bsy bs z∧Below w.heap.size w w':=by
 have hlen:=h.len
 have hcp:=h.cap
 by_cases hl:bs=[]
 ·subst hl;have hn0:n=0:=hlen
  subst hn0;clear hlen h;go_enter Tryz.func192,Tryz.ntmps192
  go_wp2
  go_loopw [8] (fun i wr=>i = .int .i64 0∧wr=w) (fun _ _=>0)
  case atStart=>exact⟨rfl,rfl⟩
  case round=>
   obtain⟨rfl,rfl⟩:=hrel
   go_wp2
   go_ret;exact⟨-1,rfl,Or.inr ⟨fun k hk=>(by cases hk),rfl⟩,Below.refl _ _⟩
 ·obtain⟨g,off,rfl,hc⟩:=h.cells hl
  have HL:Hid (n=bs.length):=hlen
  have HC:Hid (∀ j (h:j<bs.length),∃ ao m c,at8 w g (off+j*8) bs[j] ao m c):=hc
  clear h hlen hc;go_enter Tryz.func192,Tryz.ntmps192
  go_wp2
  go_loopw [8] (fun i wr=>∃ k:Nat,k≤n∧i = .int .i64 (k:Int)∧(∀ j (hj:j<bs.length),j<k→¬ onW bs[j])∧Below w.heap.size w wr) (fun i _=>n-(intOf i).toNat)
  case atStart=>exact⟨0,Nat.zero_le _,rfl,fun j hj h=>absurd h (Nat.not_lt_zero _),Below.refl _ _⟩
  case round=>
   obtain⟨k,hk,rfl,hdone,hb⟩:=hrel
   by_cases hlt:k<n
   ·have hkl:k<bs.length:=by have:=HL.out;omega
    obtain⟨ao,m,c,hx⟩:=HC.out k hkl
    have hx':=hx.below hb
    have HRG:=hx'.range
    have HW:Hid (Calls Tryz.prog 182 #[bxV bs[k].x bs[k].y bs[k].z bs[k].e bs[k].i bs[k].r bs[k].d ao m c] wr fun o w'=>o = .returned (.bool (bs[k].x == 2 || bs[k].x == 3))∧Below wr.heap.size wr w'):=isOnWire_any wr bs[k] ao m c
    have HB:Hid (Below w.heap.size w wr):=hb
    have HD:Hid (∀ j (hj:j<bs.length),j<k→¬ onW bs[j]):=hdone
    clear hx hx' hb hdone;have HON:Hid ((bs[k].x == 2 || bs[k].x == 3)=true↔onW bs[k]):=by show _↔_;unfold onW;simp
    generalize (bs[k].x == 2 || bs[k].x == 3)=q at *;have HRG:Hid (wr.rangeAt g (off+k*8) [.int .i64 bs[k].x,.int .i64 bs[k].y,.int .i64 bs[k].z,.bool bs[k].e,.int .u32 (bs[k].i:Int),.bool bs[k].r,.int .i64 bs[k].d,.slice ao m c]):=HRG
    cases q
    ·have HN:Hid (∀ j (hj:j<bs.length),j<k+1→¬ onW bs[j]):=fun j hj hjk=>by
      by_cases e:j=k
      ·subst e;exact fun h=>absurd (HON.out.2 h) (by simp)
      ·exact HD.out j hj (by omega)
     clear HON;generalize bs[k].x=x0 at *;generalize bs[k].y=y0 at *;generalize bs[k].z=z0 at *;generalize bs[k].e=e0 at *;generalize bs[k].i=i0 at *;generalize bs[k].r=r0 at *;generalize bs[k].d=d0 at *;go_wp2_with (first
      | (refine wpList_load_mid (P:=Tryz.prog) rfl 166 _ rfl g (off+k*8) rfl _ _ HRG.out Tryz.underlying166 rfl sz95 ?_)
      | (go_at_call 182;refine HW.out.mono ?_;rintro o w5 ⟨rfl,hb5⟩))
     go_roundw
     case rel=>exact⟨k+1,by omega,by go_num,HN.out,HB.out.trans (hb5.mono HB.out.size)⟩
     case measure=>simp[intOf];omega
    ·have HN:Hid (bsy bs (k:Int)):=Or.inl ⟨k,hkl,HON.out.1 rfl,HD.out,rfl⟩
     clear HON;generalize bs[k].x=x0 at *;generalize bs[k].y=y0 at *;generalize bs[k].z=z0 at *;generalize bs[k].e=e0 at *;generalize bs[k].i=i0 at *;generalize bs[k].r=r0 at *;generalize bs[k].d=d0 at *;go_wp2_with (first
      | (refine wpList_load_mid (P:=Tryz.prog) rfl 166 _ rfl g (off+k*8) rfl _ _ HRG.out Tryz.underlying166 rfl sz95 ?_)
      | (go_at_call 182;refine HW.out.mono ?_;rintro o w5 ⟨rfl,hb5⟩))
     go_ret;exact⟨k,rfl,HN.out,HB.out.trans (hb5.mono HB.out.size)⟩
   ·have hkn:n=k:=by omega
    subst hkn;go_wp2
    go_ret;exact⟨-1,rfl,Or.inr ⟨fun j hj=>hdone j hj (by have:=HL.out;omega),rfl⟩,hb⟩
theorem onWire_any (w:World) (P:Nat) (a:Option Addr) (n cap:Nat) (bx:List R8) (y5:w.cell? ⟨P,5,none⟩=some (.slice a n cap)) (h:isR8s w a n cap bx) (hn:n≤1048576) :
  Calls Tryz.prog 152 #[.pointer (some ⟨P,0,none⟩)] w fun o w'=>∃ z:Int,o = .returned (.int .i64 z)∧bsy bx z∧Below w.heap.size w w':=by
 have HI:Hid (Calls Tryz.prog 192 #[.slice a n cap,.func (.func 182) #[] #[]] w fun o w'=>∃ z:Int,o = .returned (.int .i64 z)∧bsy bx z∧Below w.heap.size w w'):=indexBox_any w a n cap bx h hn
 clear h;go_enter Tryz.func152,Tryz.ntmps152
 go_wp2_with (first | (go_at_call 192;refine HI.out.mono ?_;rintro o w5 ⟨z,rfl,hz,hb5⟩;have HZ:Hid (bsy bx z∧Below w.heap.size w w5):=⟨hz,hb5⟩;clear hz hb5))
 go_ret;exact⟨z,rfl,HZ.out.1,HZ.out.2⟩
def sendQ (W:World) (gb:Nat) (bx:List R8) (i:Int) (w':World):Prop:=∃ W1,Below W.heap.size W W1∧((w'=W1∧takeB bx i=bx)∨∃ (k:Nat) (hk:k<bx.length),w'=W1.setCell ⟨gb,k*8,none⟩ (.int .i64 2)∧takeB bx i=bx.set k { bx[k] with x:=2 }∧bx[k].x=1)
set_option maxRecDepth 20000 in
theorem send_any (W:World) (P gb n kb:Nat) (bx:List R8) (i:Int) (y5:W.cell? ⟨P,5,none⟩=some (.slice (some ⟨gb,0,none⟩) n kb)) (h:isR8s W (some ⟨gb,0,none⟩) n kb bx) (hrf:rowF W gb (n*8)) (hn:n≤8) :
  Calls Tryz.prog 230 #[.pointer (some ⟨P,0,none⟩),.int .i64 i] W fun o w'=>o = .returned (.tuple #[])∧sendQ W gb bx i w':=by
 have hln:=h.len
 have hcp:=h.cap
 by_cases hi:0≤i∧i≤(n:Int)-1
 ·obtain⟨k,rfl⟩ : ∃ k:Nat,i=(k:Int):=⟨i.toNat,by omega⟩
  have hk:k<bx.length:=by omega
  have hkn:k<n:=by omega
  have HIR:Hid (∀ X,Calls Tryz.prog 43 #[.int .i64 (k:Int),.int .i64 0,.int .i64 ((n:Int)-1)] X fun o w'=>o = .returned (.bool true)∧w'=X):=fun X=>(inRange_any X _ _ _).mono (by rintro o w' ⟨rfl,rfl⟩;exact⟨by simp;omega,rfl⟩)
  obtain⟨ao,m,c,q⟩ : ∃ ao m c,at8 W gb (k*8) bx[k] ao m c:=by
   obtain⟨g',off,e,hc⟩:=h.cells (by intro e;rw[e] at hk;cases hk)
   cases e
   have:=hc k hk
   rw[Nat.zero_add] at this
   exact this
  have y0:=q.c0
  have HOW:Hid (Calls Tryz.prog 152 #[.pointer (some ⟨P,0,none⟩)] W fun o w'=>∃ z:Int,o = .returned (.int .i64 z)∧bsy bx z∧Below W.heap.size W w'):=onWire_any W P _ n kb bx y5 h (by omega)
  have HRF:Hid (rowF W gb (n*8)):=hrf
  have HP:Hid (P<W.heap.size∧gb<W.heap.size):=⟨World.block_lt_of_cell? W _ y5,World.block_lt_of_cell? W _ y0⟩
  clear h hrf q hi hln;by_cases hx:bx[k].x=1
  ·rw[hx] at y0
   have HX:Hid (bx[k].x=1):=hx
   clear hx;go_enter Tryz.func230,Tryz.ntmps230
   go_wp2_with (first | (go_at_call 43;refine (HIR.out _).mono ?_;rintro o w1 ⟨rfl,rfl⟩))
   refine HOW.out.mono ?_
   rintro o w5 ⟨z,rfl,hz,hb5⟩;have y5':=(hb5.cell (p:=⟨P,5,none⟩) (by exact HP.out.1)).trans y5
   have y0':=(hb5.cell (p:=⟨gb,k*8,none⟩) (by exact HP.out.2)).trans y0
   have f0:w5.frozen? ⟨gb,k*8,none⟩=false:=by
    rw[World.frozen?_of_block (hb5.block gb HP.out.2)]
    exact (HRF.out (k*8) (by omega)).2
   have HB5:Hid (Below w1.heap.size w1 w5):=hb5
   have HZ:Hid (bsy bx z):=hz
   clear hz hb5 y5 y0;by_cases hz0:z<0
   ·have HT:Hid (takeB bx (k:Int)=bx.set k { bx[k] with x:=2 }):=takeB_yes hk HX.out HZ.out hz0
    go_wp2_with fail;first | go_end0 | (try simp only[Exit.inBlock,Exit.then]);refine bodyPost_ret (results_none rfl _ _ _) rfl ?_
    exact⟨rfl,w5,HB5.out,Or.inr ⟨k,hk,rfl,HT.out,HX.out⟩⟩
   ·have HT:Hid (takeB bx (k:Int)=bx):=takeB_busy HZ.out (by omega)
    go_wp2_with fail;first | go_end0 | (try simp only[Exit.inBlock,Exit.then]);refine bodyPost_ret (results_none rfl _ _ _) rfl ?_
    exact⟨rfl,w5,HB5.out,Or.inl ⟨rfl,HT.out⟩⟩
  ·have hx':(bx[k].x == 1)=false:=by simpa using hx
   have HT:Hid (takeB bx (k:Int)=bx):=takeB_no hk hx
   generalize bx[k].x=x at *;go_enter Tryz.func230,Tryz.ntmps230
   go_wp2_with (first | (go_at_call 43;refine (HIR.out _).mono ?_;rintro o w1 ⟨rfl,rfl⟩))
   first | go_end0 | (try simp only[Exit.inBlock,Exit.then]);refine bodyPost_ret (results_none rfl _ _ _) rfl ?_
   exact⟨rfl,w1,Below.refl _ _,Or.inl ⟨rfl,HT.out⟩⟩
 ·have HIR:Hid (∀ X,Calls Tryz.prog 43 #[.int .i64 i,.int .i64 0,.int .i64 ((n:Int)-1)] X fun o w'=>o = .returned (.bool false)∧w'=X):=fun X=>(inRange_any X _ _ _).mono (by rintro o w' ⟨rfl,rfl⟩;exact⟨by simp;omega,rfl⟩)
  have HT:Hid (takeB bx i=bx):=takeB_out (by omega)
  clear h hrf hi hcp hln;go_enter Tryz.func230,Tryz.ntmps230
  go_wp2_with (first | (go_at_call 43;refine (HIR.out _).mono ?_;rintro o w1 ⟨rfl,rfl⟩))
  first | go_end0 | (try simp only[Exit.inBlock,Exit.then]);refine bodyPost_ret (results_none rfl _ _ _) rfl ?_
  exact⟨rfl,w1,Below.refl _ _,Or.inl ⟨rfl,HT.out⟩⟩
end Go.Proofs.YtkfcfigbgmbaiaaGreat
namespace Go.Proofs.YtkfcfigbgmbaiaaGreat
open Go.Shelf Go.RowKit
set_option linter.unusedVariables false
def dx5 (b0:World) (U:Nat) (a:Option Addr) (n c:Nat) (ff:List R5) (hs:Nat→Hd) (k:Nat) (W:World):Prop:=(a=none∧n=0∧c=0∧ff=[])∨∃ g,a=some ⟨g,0,none⟩∧n≤c∧dr5 b0 U g n ff hs k W
def dx8 (b0:World) (U:Nat) (a:Option Addr) (n c:Nat) (ff:List R8) (hs:Nat→Hd) (k:Nat) (W:World):Prop:=(a=none∧n=0∧c=0∧ff=[])∨∃ g,a=some ⟨g,0,none⟩∧n≤c∧dr8 b0 U g n ff hs k W
theorem dx5.below {b0 W W':World} {U:Nat} {a:Option Addr} {n c:Nat} {ff:List R5} {hs:Nat→Hd} {k:Nat} (h:dx5 b0 U a n c ff hs k W) (hb:Below W.heap.size W W'):dx5 b0 U a n c ff hs k W':=by
 rcases h with h|⟨g,e,h1,h2⟩
 ·exact Or.inl h
 ·exact Or.inr ⟨g,e,h1,h2.below hb⟩
theorem dx8.below {b0 W W':World} {U:Nat} {a:Option Addr} {n c:Nat} {ff:List R8} {hs:Nat→Hd} {k:Nat} (h:dx8 b0 U a n c ff hs k W) (hb:Below W.heap.size W W'):dx8 b0 U a n c ff hs k W':=by
 rcases h with h|⟨g,e,h1,h2⟩
 ·exact Or.inl h
 ·exact Or.inr ⟨g,e,h1,h2.below hb⟩
theorem dx5.hi {b0 W:World} {U:Nat} {a:Option Addr} {n c:Nat} {ff:List R5} {hs:Nat→Hd} {k:Nat} (h:dx5 b0 U a n c ff hs k W):∀ g,a=some ⟨g,0,none⟩→g<W.heap.size:=by
 rcases h with h|⟨g,e,h1,h2⟩
 ·intro g hg;rw[h.1] at hg;cases hg
 ·intro g' hg;rw[e] at hg;cases hg;exact h2.hi
theorem dx8.hi {b0 W:World} {U:Nat} {a:Option Addr} {n c:Nat} {ff:List R8} {hs:Nat→Hd} {k:Nat} (h:dx8 b0 U a n c ff hs k W):∀ g,a=some ⟨g,0,none⟩→g<W.heap.size:=by
 rcases h with h|⟨g,e,h1,h2⟩
 ·intro g hg;rw[h.1] at hg;cases hg
 ·intro g' hg;rw[e] at hg;cases hg;exact h2.hi
theorem look5_dr (b0 w:World) (P o gs room first n:Nat) (L:List R5) (hn:n=L.length) (y0:w.cell? ⟨P,o,none⟩=some (.slice (some ⟨gs,0,none⟩) room room)) (y1:w.cell? ⟨P,o+1,none⟩=some (.int .i64 (first:Int))) (y2:w.cell? ⟨P,o+2,none⟩=some (.int .i64 (n:Int))) (hr:ring5 b0 w gs room first L) (hfi:first<room) (h1:1≤room∧room≤1000) (hL:n≤room) (hb0:Below b0.heap.size b0 w) (hsm:∀ j (h:j<L.length),L[j].l.length≤1048576) :
  Calls Tryz.prog 179 #[.pointer (some ⟨P,o,none⟩),.int .i64 (n:Int)] w fun e w'=>∃ a c hs,e = .returned (.slice a n c)∧(∀ g,a=some ⟨g,0,none⟩→w.heap.size≤g)∧dx5 b0 0 a n c L hs 0 w'∧Below w.heap.size w w':=by
 subst hn;refine (look5_any b0 w P o gs room first L y0 y1 y2 hr hfi h1 hL).mono ?_
 rintro e w' ⟨v,bs,rfl,hm,hby,ho,hbw⟩;rcases ownsRow_split ho with⟨e1,e2⟩|⟨g',cap',rfl,hb,hlt,hcp,hrf,hrg⟩
 ·refine⟨none,0,fun _=>(none,0,0),by rw[e1,e2],fun g hg=>(by cases hg),Or.inl ⟨rfl,e2,rfl,List.length_eq_zero_iff.1 e2⟩,hbw⟩
 ·exact⟨some ⟨g',0,none⟩,cap',_,rfl,fun g hg=>by cases hg;exact hb,Or.inr ⟨g',rfl,hcp,dr5.start (B:=0) bs hm hby rfl hrf hrg (Nat.le_trans hb0.size hb) hlt (hb0.trans (hbw.mono hb0.size)) hsm⟩,hbw⟩
theorem look8_dr (b0 w:World) (P o gs room first n:Nat) (L:List R8) (hn:n=L.length) (y0:w.cell? ⟨P,o,none⟩=some (.slice (some ⟨gs,0,none⟩) room room)) (y1:w.cell? ⟨P,o+1,none⟩=some (.int .i64 (first:Int))) (y2:w.cell? ⟨P,o+2,none⟩=some (.int .i64 (n:Int))) (hr:ring8 b0 w gs room first L) (hfi:first<room) (h1:1≤room∧room≤1000) (hL:n≤room) (hb0:Below b0.heap.size b0 w) (hsm:∀ j (h:j<L.length),L[j].l.length≤1048576) :
  Calls Tryz.prog 180 #[.pointer (some ⟨P,o,none⟩),.int .i64 (n:Int)] w fun e w'=>∃ a c hs,e = .returned (.slice a n c)∧(∀ g,a=some ⟨g,0,none⟩→w.heap.size≤g)∧dx8 b0 0 a n c L hs 0 w'∧Below w.heap.size w w':=by
 subst hn;refine (look8_any b0 w P o gs room first L y0 y1 y2 hr hfi h1 hL).mono ?_
 rintro e w' ⟨v,bs,rfl,hm,hby,ho,hbw⟩;rcases ownsRow_split ho with⟨e1,e2⟩|⟨g',cap',rfl,hb,hlt,hcp,hrf,hrg⟩
 ·refine⟨none,0,fun _=>(none,0,0),by rw[e1,e2],fun g hg=>(by cases hg),Or.inl ⟨rfl,e2,rfl,List.length_eq_zero_iff.1 e2⟩,hbw⟩
 ·exact⟨some ⟨g',0,none⟩,cap',_,rfl,fun g hg=>by cases hg;exact hb,Or.inr ⟨g',rfl,hcp,dr8.start (B:=0) bs hm hby rfl hrf hrg (Nat.le_trans hb0.size hb) hlt (hb0.trans (hbw.mono hb0.size)) hsm⟩,hbw⟩
def Z10:List Value:=[.int .i64 0,.int .i64 0,.int .i64 0,.int .i64 0,.slice none 0 0,.slice none 0 0,.slice none 0 0,.slice none 0 0,.int .i64 0,.int .i64 0]
structure tdE (w:World) (n1:Nat) (fs:List R3) (n2:Nat) (bx:List R8) (n3:Nat) (ff:List R5) (n4:Nat) (qu:List R8) (g1 k1 g2 k2:Nat) (h2:Nat→Hd) (a3:Option Addr) (k3:Nat) (h3:Nat→Hd) (a4:Option Addr) (k4:Nat) (h4:Nat→Hd) (PH:Nat) (W:World):Prop where
 f1:dr3 w g1 n1 fs W
 c1:n1≤k1
 f2:dr8 w 0 g2 n2 bx h2 0 W
 c2:n2≤k2
 f3:dx5 w 0 a3 n3 k3 ff h3 0 W
 f4:dx8 w 0 a4 n4 k4 qu h4 0 W
 fh:blk W PH Z10 39
 fr:blk W w.heap.size Z10 39
 o1:g1<g2
 o2:∀ g,a3=some ⟨g,0,none⟩→g2<g
 o3:∀ g,a4=some ⟨g,0,none⟩→g2<g∧∀ g',a3=some ⟨g',0,none⟩→g'<g
 p1:PH≠g1∧PH≠g2∧(∀ g,a3=some ⟨g,0,none⟩→PH≠g)∧(∀ g,a4=some ⟨g,0,none⟩→PH≠g)
 r1:w.heap.size<g1∧w.heap.size<PH
open Go.RowKit
theorem dr8.same0 {b0 W W':World} {U U' g n:Nat} {bx:List R8} {hs:Nat→Hd} (h:dr8 b0 U g n bx hs 0 W) (he:W'.heap[g]?=W.heap[g]?) (hz:W.heap.size≤W'.heap.size) (hb:Below b0.heap.size b0 W'):dr8 b0 U' g n bx hs 0 W':=
 ⟨h.len,h.row.up he,fun j hj=>rangeAt.up (h.rng j hj) he,h.old,fun j hj hk=>absurd hk (Nat.not_lt_zero _),h.dst,h.lo,Nat.lt_of_lt_of_le h.hi hz,hb,h.sm⟩
theorem dx8.same0 {b0 W W':World} {U U':Nat} {a:Option Addr} {n c:Nat} {ff:List R8} {hs:Nat→Hd} (h:dx8 b0 U a n c ff hs 0 W) (he:∀ g,a=some ⟨g,0,none⟩→W'.heap[g]?=W.heap[g]?) (hz:W.heap.size≤W'.heap.size) (hb:Below b0.heap.size b0 W'):dx8 b0 U' a n c ff hs 0 W':=by
 rcases h with h|⟨g,e,h1,h2⟩
 ·exact Or.inl h
 ·exact Or.inr ⟨g,e,h1,h2.same0 (he g e) hz hb⟩
theorem dx8.same {b0 W W':World} {U:Nat} {a:Option Addr} {n c:Nat} {ff:List R8} {hs:Nat→Hd} {k:Nat} (h:dx8 b0 U a n c ff hs k W) (he:∀ x,a=some ⟨x,0,none⟩∨U≤x→x<W.heap.size→W'.heap[x]?=W.heap[x]?) (hz:W.heap.size≤W'.heap.size) (hb:Below b0.heap.size b0 W'):dx8 b0 U a n c ff hs k W':=by
 rcases h with h|⟨g,e,h1,h2⟩
 ·exact Or.inl h
 ·exact Or.inr ⟨g,e,h1,h2.same (fun x hx=>he x (by rcases hx with e2 | e2;(left;rw[e2];exact e);(right;exact e2))) hz hb⟩
theorem dx8.sx {b0 W:World} {U:Nat} {a:Option Addr} {n c:Nat} {ff:List R8} {hs:Nat→Hd} (h:dx8 b0 U a n c ff hs n W) (hU:∀ g,a=some ⟨g,0,none⟩→g<U):sx8 W a n c hs∧isR8s W a n c ff∧dst hs n∧(∀ j,j<n→∀ b,(hs j).1=some ⟨b,0,none⟩→U≤b∧b<W.heap.size):=by
 rcases h with⟨e1,e2,e3,e4⟩|⟨g,e,h1,h2⟩
 ·subst e2;exact⟨Or.inl ⟨e1,rfl,e3⟩,⟨by rw[e4];rfl,by omega,fun hne=>absurd e4 hne⟩,fun i j _ hj=>absurd hj (Nat.not_lt_zero _),fun j hj=>absurd hj (Nat.not_lt_zero _)⟩
 ·obtain⟨q1,q2⟩:=h2.sh (hU g e)
  subst e;exact⟨Or.inr ⟨g,rfl,q1,h1⟩,h2.is h1,h2.dst,q2⟩
theorem isR8s.same {W W':World} {a:Option Addr} {n c:Nat} {ff:List R8} (h:isR8s W a n c ff) {hs:Nat→Hd} (hx:sx8 W a n c hs) (he:∀ x,ft a n hs x→W'.heap[x]?=W.heap[x]?):isR8s W' a n c ff:=by
 rcases hx with⟨e1,e2,e3⟩|⟨g,e,h1,h2⟩
 ·have:ff=[]:=List.length_eq_zero_iff.1 (by have:=h.len;omega)
  exact⟨h.len,h.cap,fun hne=>absurd this hne⟩
 ·subst e;refine⟨h.len,h.cap,fun hne=>?_⟩
  obtain⟨g',off,e,hc⟩:=h.cells hne
  cases e
  refine⟨g,0,rfl,fun j hj=>?_⟩
  obtain⟨ao,m,c',hat⟩:=hc j hj
  have hj':j<n:=by have:=h.len;omega
  have hcs:=hat.cs
  rw[Nat.zero_add,(h1.dat j hj').1] at hcs
  have e1:(hs j).1=ao:=by injection hcs with q;injection q
  have e2:(hs j).2.1=m:=by injection hcs with q;injection q
  have hg:=he g (Or.inl rfl)
  refine⟨ao,m,c',cell_up hat.c0 hg,cell_up hat.c1 hg,cell_up hat.c2 hg,cell_up hat.c3 hg,cell_up hat.c4 hg,cell_up hat.c5 hg,cell_up hat.c6 hg,cell_up hat.cs hg,?_⟩
  have hd2:=(h1.dat j hj').2
  rcases hd2.2.2 with⟨z1,z2⟩|⟨b,z1,z2,z3⟩
  ·refine⟨hat.dat.len,hat.dat.cap,hat.dat.small,fun hne2=>?_⟩
   exact absurd (List.length_pos_iff.2 hne2) (by have:=hat.dat.len;omega)
  ·have hb:=he b (Or.inr ⟨j,hj',z1⟩)
   have hdt:=hat.dat
   rw[← e1,z1] at hdt ⊢
   exact hdt.other hb
theorem dr5.same0 {b0 W W':World} {U U' g n:Nat} {bx:List R5} {hs:Nat→Hd} (h:dr5 b0 U g n bx hs 0 W) (he:W'.heap[g]?=W.heap[g]?) (hz:W.heap.size≤W'.heap.size) (hb:Below b0.heap.size b0 W'):dr5 b0 U' g n bx hs 0 W':=
 ⟨h.len,h.row.up he,fun j hj=>rangeAt.up (h.rng j hj) he,h.old,fun j hj hk=>absurd hk (Nat.not_lt_zero _),h.dst,h.lo,Nat.lt_of_lt_of_le h.hi hz,hb,h.sm⟩
theorem dx5.same0 {b0 W W':World} {U U':Nat} {a:Option Addr} {n c:Nat} {ff:List R5} {hs:Nat→Hd} (h:dx5 b0 U a n c ff hs 0 W) (he:∀ g,a=some ⟨g,0,none⟩→W'.heap[g]?=W.heap[g]?) (hz:W.heap.size≤W'.heap.size) (hb:Below b0.heap.size b0 W'):dx5 b0 U' a n c ff hs 0 W':=by
 rcases h with h|⟨g,e,h1,h2⟩
 ·exact Or.inl h
 ·exact Or.inr ⟨g,e,h1,h2.same0 (he g e) hz hb⟩
theorem dx5.same {b0 W W':World} {U:Nat} {a:Option Addr} {n c:Nat} {ff:List R5} {hs:Nat→Hd} {k:Nat} (h:dx5 b0 U a n c ff hs k W) (he:∀ x,a=some ⟨x,0,none⟩∨U≤x→x<W.heap.size→W'.heap[x]?=W.heap[x]?) (hz:W.heap.size≤W'.heap.size) (hb:Below b0.heap.size b0 W'):dx5 b0 U a n c ff hs k W':=by
 rcases h with h|⟨g,e,h1,h2⟩
 ·exact Or.inl h
 ·exact Or.inr ⟨g,e,h1,h2.same (fun x hx=>he x (by rcases hx with e2 | e2;(left;rw[e2];exact e);(right;exact e2))) hz hb⟩
theorem dx5.sx {b0 W:World} {U:Nat} {a:Option Addr} {n c:Nat} {ff:List R5} {hs:Nat→Hd} (h:dx5 b0 U a n c ff hs n W) (hU:∀ g,a=some ⟨g,0,none⟩→g<U):sx5 W a n c hs∧isR5s W a n c ff∧dst hs n∧(∀ j,j<n→∀ b,(hs j).1=some ⟨b,0,none⟩→U≤b∧b<W.heap.size):=by
 rcases h with⟨e1,e2,e3,e4⟩|⟨g,e,h1,h2⟩
 ·subst e2;exact⟨Or.inl ⟨e1,rfl,e3⟩,⟨by rw[e4];rfl,by omega,fun hne=>absurd e4 hne⟩,fun i j _ hj=>absurd hj (Nat.not_lt_zero _),fun j hj=>absurd hj (Nat.not_lt_zero _)⟩
 ·obtain⟨q1,q2⟩:=h2.sh (hU g e)
  subst e;exact⟨Or.inr ⟨g,rfl,q1,h1⟩,h2.is h1,h2.dst,q2⟩
theorem isR5s.same {W W':World} {a:Option Addr} {n c:Nat} {ff:List R5} (h:isR5s W a n c ff) {hs:Nat→Hd} (hx:sx5 W a n c hs) (he:∀ x,ft a n hs x→W'.heap[x]?=W.heap[x]?):isR5s W' a n c ff:=by
 rcases hx with⟨e1,e2,e3⟩|⟨g,e,h1,h2⟩
 ·have:ff=[]:=List.length_eq_zero_iff.1 (by have:=h.len;omega)
  exact⟨h.len,h.cap,fun hne=>absurd this hne⟩
 ·subst e;refine⟨h.len,h.cap,fun hne=>?_⟩
  obtain⟨g',off,e,hc⟩:=h.cells hne
  cases e
  refine⟨g,0,rfl,fun j hj=>?_⟩
  obtain⟨ao,m,c',hat⟩:=hc j hj
  have hj':j<n:=by have:=h.len;omega
  have hcs:=hat.cs
  rw[Nat.zero_add,(h1.dat j hj').1] at hcs
  have e1:(hs j).1=ao:=by injection hcs with q;injection q
  have e2:(hs j).2.1=m:=by injection hcs with q;injection q
  have hg:=he g (Or.inl rfl)
  refine⟨ao,m,c',cell_up hat.c0 hg,cell_up hat.c1 hg,cell_up hat.c2 hg,cell_up hat.c3 hg,cell_up hat.cs hg,?_⟩
  have hd2:=(h1.dat j hj').2
  rcases hd2.2.2 with⟨z1,z2⟩|⟨b,z1,z2,z3⟩
  ·refine⟨hat.dat.len,hat.dat.cap,hat.dat.small,fun hne2=>?_⟩
   exact absurd (List.length_pos_iff.2 hne2) (by have:=hat.dat.len;omega)
  ·have hb:=he b (Or.inr ⟨j,hj',z1⟩)
   have hdt:=hat.dat
   rw[← e1,z1] at hdt ⊢
   exact hdt.other hb
theorem isR3s.same {W W':World} {g n c:Nat} {ff:List R3} (h:isR3s W (some ⟨g,0,none⟩) n c ff) (he:W'.heap[g]?=W.heap[g]?):isR3s W' (some ⟨g,0,none⟩) n c ff:=by
 refine⟨h.len,h.cap,fun hne=>?_⟩
 obtain⟨g',off,e,hc⟩:=h.cells hne
 cases e
 exact⟨g,0,rfl,fun j hj=>(hc j hj).up he⟩
structure tdF (w:World) (n1:Nat) (fs:List R3) (n2:Nat) (bx:List R8) (n3:Nat) (ff:List R5) (n4:Nat) (qu:List R8) (g1 g2:Nat) (h2:Nat→Hd) (a3:Option Addr) (k3:Nat) (h3:Nat→Hd) (a4:Option Addr) (k4:Nat) (h4:Nat→Hd) (PH:Nat) (HL:List Value) (U2 i2 U3 i3 U4 i4:Nat) (W:World):Prop where
 f1:dr3 w g1 n1 fs W
 f2:dr8 w U2 g2 n2 bx h2 i2 W
 f3:dx5 w U3 a3 n3 k3 ff h3 i3 W
 f4:dx8 w U4 a4 n4 k4 qu h4 i4 W
 fh:blk W PH HL 39
 fr:blk W w.heap.size Z10 39
 b:Below w.heap.size w W
structure tdO (w:World) (n1 k1 n2 k2 g1 g2:Nat) (a3 a4:Option Addr) (PH:Nat):Prop where
 c1:n1≤k1
 c2:n2≤k2
 o1:g1<g2
 o2:∀ g,a3=some ⟨g,0,none⟩→g2<g
 o3:∀ g,a4=some ⟨g,0,none⟩→g2<g∧∀ g',a3=some ⟨g',0,none⟩→g'<g
 p1:PH≠g1∧PH≠g2∧(∀ g,a3=some ⟨g,0,none⟩→PH≠g)∧(∀ g,a4=some ⟨g,0,none⟩→PH≠g)
 r1:w.heap.size<g1∧w.heap.size<PH
theorem tdE.put {w:World} {n1:Nat} {fs:List R3} {n2:Nat} {bx:List R8} {n3:Nat} {ff:List R5} {n4:Nat} {qu:List R8} {g1 k1 g2 k2:Nat} {h2:Nat→Hd} {a3:Option Addr} {k3:Nat} {h3:Nat→Hd} {a4:Option Addr} {k4:Nat} {h4:Nat→Hd} {PH:Nat} {W:World} (E:tdE w n1 fs n2 bx n3 ff n4 qu g1 k1 g2 k2 h2 a3 k3 h3 a4 k4 h4 PH W) (hb:Below w.heap.size w W) (HL:List Value) (hl:HL.length=10) (U2 U3 U4:Nat):tdF w n1 fs n2 bx n3 ff n4 qu g1 g2 h2 a3 k3 h3 a4 k4 h4 PH HL U2 0 U3 0 U4 0 (World.setCells W PH 0 HL)∧tdO w n1 k1 n2 k2 g1 g2 a3 a4 PH:=by
 have oth:∀ x,x≠PH→(World.setCells W PH 0 HL).heap[x]?=W.heap[x]?:=fun x hx=>setCells_other PH x hx HL W 0
 have hz:W.heap.size≤(World.setCells W PH 0 HL).heap.size:=by rw[setCells_size];exact Nat.le_refl _
 have hbb:Below w.heap.size w (World.setCells W PH 0 HL):=setCells_below (by have:=E.r1.2;omega) 0 HL hb
 refine⟨⟨E.f1.same (oth _ (fun e=>E.p1.1 e.symm)) hz,E.f2.same0 (oth _ (fun e=>E.p1.2.1 e.symm)) hz hbb,E.f3.same0 (fun g hg=>oth _ (fun e=>E.p1.2.2.1 g hg e.symm)) hz hbb,E.f4.same0 (fun g hg=>oth _ (fun e=>E.p1.2.2.2 g hg e.symm)) hz hbb,?_,E.fr.kept (oth _ (by have:=E.r1.2;omega)),hbb⟩,⟨E.c1,E.c2,E.o1,E.o2,E.o3,E.p1,E.r1⟩⟩
 have:=blk.put [] Z10 [] HL (w:=W) (b:=PH) (T:=39) (by simpa using E.fh) (by rw[hl];rfl)
 simpa using this
theorem tdF.own2 {w:World} {n1:Nat} {fs:List R3} {n2:Nat} {bx:List R8} {n3:Nat} {ff:List R5} {n4:Nat} {qu:List R8} {g1 g2:Nat} {h2:Nat→Hd} {a3:Option Addr} {k3:Nat} {h3:Nat→Hd} {a4:Option Addr} {k4:Nat} {h4:Nat→Hd} {PH:Nat} {HL:List Value} {k1 k2 U k:Nat} {W:World} (h:tdF w n1 fs n2 bx n3 ff n4 qu g1 g2 h2 a3 k3 h3 a4 k4 h4 PH HL U k 0 0 0 0 W) (O:tdO w n1 k1 n2 k2 g1 g2 a3 a4 PH) (hU:g2<U) (hUz:U≤W.heap.size) (hk:k<n2) :
  Calls Tryz.prog 126 #[.pointer (some ⟨g2,k*8+3,none⟩)] W fun e w'=>∃ h2',e = .returned (.tuple #[])∧tdF w n1 fs n2 bx n3 ff n4 qu g1 g2 h2' a3 k3 h3 a4 k4 h4 PH HL U (k+1) 0 0 0 0 w'∧U≤w'.heap.size:=by
 have hkl:k<bx.length:=by have:=h.f2.len;omega
 refine (ownData_any W g2 (k*8+3) _ _ _ bx[k].l (h.f2.at_ k hkl).cs (h.f2.row (k*8+7) (by omega)).2 (h.f2.at_ k hkl).dat (by have:=(h.f2.at_ k hkl).dat.len;have:=h.f2.sm k hkl;omega)).mono ?_
 rintro e w' ⟨a',c',w1,rfl,rfl,q1,q2,q3⟩;obtain⟨hs',d2⟩:=h.f2.step hkl hUz hU a' c' q1 q2 q3
 have oth:∀ x,x≠g2→x<W.heap.size→(w1.setCell ⟨g2,k*8+3+4,none⟩ (.slice a' (h2 k).2.1 c')).heap[x]?=W.heap[x]?:=fun x hx hl=>(heap_setCell_other w1 ⟨g2,k*8+3+4,none⟩ x _ hx).trans (q3.block x hl)
 have hz:W.heap.size≤(w1.setCell ⟨g2,k*8+3+4,none⟩ (.slice a' (h2 k).2.1 c')).heap.size:=by have:=q3.size;simpa using this
 refine⟨hs',rfl,⟨h.f1.same (oth _ (by have:=O.o1;omega) h.f1.hi) hz,d2,h.f3.same0 (fun g hg=>oth _ (by have:=O.o2 g hg;omega) (h.f3.hi g hg)) hz d2.bel,h.f4.same0 (fun g hg=>oth _ (by have:=(O.o3 g hg).1;omega) (h.f4.hi g hg)) hz d2.bel,h.fh.kept (oth _ O.p1.2.1 h.fh.lt),h.fr.kept (oth _ (by have:=O.o1;have:=O.r1.1;omega) h.fr.lt),d2.bel⟩,by omega⟩
theorem tdF.u3 {w:World} {n1:Nat} {fs:List R3} {n2:Nat} {bx:List R8} {n3:Nat} {ff:List R5} {n4:Nat} {qu:List R8} {g1 g2:Nat} {h2:Nat→Hd} {a3:Option Addr} {k3:Nat} {h3:Nat→Hd} {a4:Option Addr} {k4:Nat} {h4:Nat→Hd} {PH:Nat} {HL:List Value} {U2 i2 U3':Nat} {W:World} (h:tdF w n1 fs n2 bx n3 ff n4 qu g1 g2 h2 a3 k3 h3 a4 k4 h4 PH HL U2 i2 0 0 0 0 W):tdF w n1 fs n2 bx n3 ff n4 qu g1 g2 h2 a3 k3 h3 a4 k4 h4 PH HL U2 i2 U3' 0 0 0 W:=⟨h.f1,h.f2,h.f3.same0 (fun _ _=>rfl) (Nat.le_refl _) h.b,h.f4,h.fh,h.fr,h.b⟩
theorem tdF.u4 {w:World} {n1:Nat} {fs:List R3} {n2:Nat} {bx:List R8} {n3:Nat} {ff:List R5} {n4:Nat} {qu:List R8} {g1 g2:Nat} {h2:Nat→Hd} {a3:Option Addr} {k3:Nat} {h3:Nat→Hd} {a4:Option Addr} {k4:Nat} {h4:Nat→Hd} {PH:Nat} {HL:List Value} {U2 i2 U3 i3 U4':Nat} {W:World} (h:tdF w n1 fs n2 bx n3 ff n4 qu g1 g2 h2 a3 k3 h3 a4 k4 h4 PH HL U2 i2 U3 i3 0 0 W):tdF w n1 fs n2 bx n3 ff n4 qu g1 g2 h2 a3 k3 h3 a4 k4 h4 PH HL U2 i2 U3 i3 U4' 0 W:=⟨h.f1,h.f2,h.f3,h.f4.same0 (fun _ _=>rfl) (Nat.le_refl _) h.b,h.fh,h.fr,h.b⟩
theorem tdF.own3 {w:World} {n1:Nat} {fs:List R3} {n2:Nat} {bx:List R8} {n3:Nat} {ff:List R5} {n4:Nat} {qu:List R8} {g1 g2:Nat} {h2:Nat→Hd} {a3:Option Addr} {k3:Nat} {h3:Nat→Hd} {a4:Option Addr} {k4:Nat} {h4:Nat→Hd} {PH:Nat} {HL:List Value} {k1 k2 U U3 k g3:Nat} {W:World} (h:tdF w n1 fs n2 bx n3 ff n4 qu g1 g2 h2 a3 k3 h3 a4 k4 h4 PH HL U n2 U3 k 0 0 W) (O:tdO w n1 k1 n2 k2 g1 g2 a3 a4 PH) (ha:a3=some ⟨g3,0,none⟩) (hU:g3<U) (hU3:U≤U3) (hUz:U3≤W.heap.size) (hk:k<n3) :
  Calls Tryz.prog 126 #[.pointer (some ⟨g3,k*5,none⟩)] W fun e w'=>∃ h3',e = .returned (.tuple #[])∧tdF w n1 fs n2 bx n3 ff n4 qu g1 g2 h2 a3 k3 h3' a4 k4 h4 PH HL U n2 U3 (k+1) 0 0 w'∧U3≤w'.heap.size:=by
 have hf3:dr5 w U3 g3 n3 ff h3 k W∧n3≤k3:=by
  rcases h.f3 with⟨e,_⟩|⟨g,e,e1,e2⟩
  ·rw[ha] at e;cases e
  ·rw[ha] at e;cases e;exact⟨e2,e1⟩
 obtain⟨f3,hc3⟩:=hf3
 have hkl:k<ff.length:=by have:=f3.len;omega
 have hg2:=O.o2 g3 ha
 refine (ownData_any W g3 (k*5) _ _ _ ff[k].l (f3.at_ k hkl).cs (f3.row (k*5+4) (by omega)).2 (f3.at_ k hkl).dat (by have:=(f3.at_ k hkl).dat.len;have:=f3.sm k hkl;omega)).mono ?_
 rintro e w' ⟨a',c',w1,rfl,rfl,q1,q2,q3⟩;obtain⟨hs',d3⟩:=f3.step hkl hUz (by omega) a' c' q1 q2 q3
 have oth:∀ x,x≠g3→x<W.heap.size→(w1.setCell ⟨g3,k*5+4,none⟩ (.slice a' (h3 k).2.1 c')).heap[x]?=W.heap[x]?:=fun x hx hl=>(heap_setCell_other w1 ⟨g3,k*5+4,none⟩ x _ hx).trans (q3.block x hl)
 have hz:W.heap.size≤(w1.setCell ⟨g3,k*5+4,none⟩ (.slice a' (h3 k).2.1 c')).heap.size:=by have:=q3.size;simpa using this
 refine⟨hs',rfl,⟨h.f1.same (oth _ (by have:=O.o1;omega) h.f1.hi) hz,h.f2.same (fun x hx hl=>oth x (by rcases hx with e | e <;> omega) hl) hz d3.bel,Or.inr ⟨g3,ha,hc3,d3⟩,h.f4.same0 (fun g hg=>oth _ (by have:=(O.o3 g hg).2 g3 ha;omega) (h.f4.hi g hg)) hz d3.bel,h.fh.kept (oth _ (O.p1.2.2.1 g3 ha) h.fh.lt),h.fr.kept (oth _ (by have:=O.o1;have:=O.r1.1;omega) h.fr.lt),d3.bel⟩,by omega⟩
theorem tdF.own4 {w:World} {n1:Nat} {fs:List R3} {n2:Nat} {bx:List R8} {n3:Nat} {ff:List R5} {n4:Nat} {qu:List R8} {g1 g2:Nat} {h2:Nat→Hd} {a3:Option Addr} {k3:Nat} {h3:Nat→Hd} {a4:Option Addr} {k4:Nat} {h4:Nat→Hd} {PH:Nat} {HL:List Value} {k1 k2 U U3 U4 k g4:Nat} {W:World} (h:tdF w n1 fs n2 bx n3 ff n4 qu g1 g2 h2 a3 k3 h3 a4 k4 h4 PH HL U n2 U3 n3 U4 k W) (O:tdO w n1 k1 n2 k2 g1 g2 a3 a4 PH) (ha:a4=some ⟨g4,0,none⟩) (hU:g4<U) (hU3:U≤U3∧U3≤U4) (hUz:U4≤W.heap.size) (hk:k<n4) :
  Calls Tryz.prog 126 #[.pointer (some ⟨g4,k*8+3,none⟩)] W fun e w'=>∃ h4',e = .returned (.tuple #[])∧tdF w n1 fs n2 bx n3 ff n4 qu g1 g2 h2 a3 k3 h3 a4 k4 h4' PH HL U n2 U3 n3 U4 (k+1) w'∧U4≤w'.heap.size:=by
 have hf4:dr8 w U4 g4 n4 qu h4 k W∧n4≤k4:=by
  rcases h.f4 with⟨e,_⟩|⟨g,e,e1,e2⟩
  ·rw[ha] at e;cases e
  ·rw[ha] at e;cases e;exact⟨e2,e1⟩
 obtain⟨f4,hc4⟩:=hf4
 have hkl:k<qu.length:=by have:=f4.len;omega
 have hg2:=O.o3 g4 ha
 refine (ownData_any W g4 (k*8+3) _ _ _ qu[k].l (f4.at_ k hkl).cs (f4.row (k*8+7) (by omega)).2 (f4.at_ k hkl).dat (by have:=(f4.at_ k hkl).dat.len;have:=f4.sm k hkl;omega)).mono ?_
 rintro e w' ⟨a',c',w1,rfl,rfl,q1,q2,q3⟩;obtain⟨hs',d4⟩:=f4.step hkl hUz (by omega) a' c' q1 q2 q3
 have oth:∀ x,x≠g4→x<W.heap.size→(w1.setCell ⟨g4,k*8+3+4,none⟩ (.slice a' (h4 k).2.1 c')).heap[x]?=W.heap[x]?:=fun x hx hl=>(heap_setCell_other w1 ⟨g4,k*8+3+4,none⟩ x _ hx).trans (q3.block x hl)
 have hz:W.heap.size≤(w1.setCell ⟨g4,k*8+3+4,none⟩ (.slice a' (h4 k).2.1 c')).heap.size:=by have:=q3.size;simpa using this
 refine⟨hs',rfl,⟨h.f1.same (oth _ (by have:=O.o1;omega) h.f1.hi) hz,h.f2.same (fun x hx hl=>oth x (by rcases hx with e | e <;> omega) hl) hz d4.bel,h.f3.same (fun x hx hl=>oth x (by rcases hx with e | e;(have:=hg2.2 x e;omega);omega) hl) hz d4.bel,Or.inr ⟨g4,ha,hc4,d4⟩,h.fh.kept (oth _ (O.p1.2.2.2 g4 ha) h.fh.lt),h.fr.kept (oth _ (by have:=O.o1;have:=O.r1.1;omega) h.fr.lt),d4.bel⟩,by omega⟩
theorem tdF.fin {w:World} {n1:Nat} {fs:List R3} {n2:Nat} {bx:List R8} {n3:Nat} {ff:List R5} {n4:Nat} {qu:List R8} {g1 g2:Nat} {h2:Nat→Hd} {a3:Option Addr} {k3:Nat} {h3:Nat→Hd} {a4:Option Addr} {k4:Nat} {h4:Nat→Hd} {PH:Nat} {HL:List Value} {k1 k2 U U3 U4:Nat} {W W':World} (c0 c1 c2 c3 lo st:Int) (h:tdF w n1 fs n2 bx n3 ff n4 qu g1 g2 h2 a3 k3 h3 a4 k4 h4 PH HL U n2 U3 n3 U4 n4 W) (O:tdO w n1 k1 n2 k2 g1 g2 a3 a4 PH) (hU:g1<U∧g2<U∧(∀ g,a3=some ⟨g,0,none⟩→g<U)∧(∀ g,a4=some ⟨g,0,none⟩→g<U)∧w.heap.size<U) (hU3:U≤U3∧U3≤U4) (D2:∀ j,j<n2→∀ b,(h2 j).1=some ⟨b,0,none⟩→b<U3) (D3:∀ j,j<n3→∀ b,(h3 j).1=some ⟨b,0,none⟩→b<U4) (m:n2≤1000∧n3≤1000∧n4≤1000) (oth:∀ x,x≠w.heap.size→x<W.heap.size→W'.heap[x]?=W.heap[x]?) (hz:W'.heap.size=W.heap.size) :
  ∃ s:Wh,s.sl=⟨some ⟨g1,0,none⟩,n1,k1,some ⟨g2,0,none⟩,n2,k2,a3,n3,k3,a4,n4,k4⟩∧St w.heap.size W' (fun W=>isHo W ⟨c0,c1,c2,c3,fs,bx,ff,qu,lo,st⟩ s.sl)∧whS w.heap.size W'.heap.size W' s∧whD s∧whE s:=by
 obtain⟨q1,q2⟩:=h.f2.sh hU.2.1
 obtain⟨r1,r2,r3,r4⟩:=h.f3.sx (fun g hg=>by have:=hU.2.2.1 g hg;omega)
 obtain⟨p1,p2,p3,p4⟩:=h.f4.sx (fun g hg=>by have:=hU.2.2.2.1 g hg;omega)
 have x2:sx8 W (some ⟨g2,0,none⟩) n2 k2 h2:=Or.inr ⟨g2,rfl,q1,O.c2⟩
 have hr1:=O.r1.1
 have ho1:=O.o1
 have I2:inn w.heap.size W.heap.size (some ⟨g2,0,none⟩) n2 h2:=fun x hx=>by
  rcases hx with e|⟨j,hj,e⟩
  ·cases e;exact⟨by omega,h.f2.hi⟩
  ·have:=q2 j hj x e;omega
 have I3:inn w.heap.size W.heap.size a3 n3 h3:=fun x hx=>by
  rcases hx with e|⟨j,hj,e⟩
  ·have:=O.o2 x e;exact⟨by omega,h.f3.hi x e⟩
  ·have:=r4 j hj x e;omega
 have I4:inn w.heap.size W.heap.size a4 n4 h4:=fun x hx=>by
  rcases hx with e|⟨j,hj,e⟩
  ·have:=(O.o3 x e).1;exact⟨by omega,h.f4.hi x e⟩
  ·have:=p4 j hj x e;omega
 have n2':∀ x,ft (some ⟨g2,0,none⟩) n2 h2 x→x≠w.heap.size:=fun x hx e=>by
  rcases hx with e2|⟨j,hj,e2⟩
  ·cases e2;omega
  ·have:=q2 j hj x e2;omega
 have n3':∀ x,ft a3 n3 h3 x→x≠w.heap.size:=fun x hx e=>by
  rcases hx with e2|⟨j,hj,e2⟩
  ·have:=O.o2 x e2;omega
  ·have:=r4 j hj x e2;omega
 have n4':∀ x,ft a4 n4 h4 x→x≠w.heap.size:=fun x hx e=>by
  rcases hx with e2|⟨j,hj,e2⟩
  ·have:=(O.o3 x e2).1;omega
  ·have:=p4 j hj x e2;omega
 have E2:∀ x,ft (some ⟨g2,0,none⟩) n2 h2 x→W'.heap[x]?=W.heap[x]?:=fun x hx=>oth x (n2' x hx) (I2 x hx).2
 have E3:∀ x,ft a3 n3 h3 x→W'.heap[x]?=W.heap[x]?:=fun x hx=>oth x (n3' x hx) (I3 x hx).2
 have E4:∀ x,ft a4 n4 h4 x→W'.heap[x]?=W.heap[x]?:=fun x hx=>oth x (n4' x hx) (I4 x hx).2
 have Eg:W'.heap[g1]?=W.heap[g1]?:=oth g1 (by omega) h.f1.hi
 have b2:isR8s W (some ⟨g2,0,none⟩) n2 k2 bx:=h.f2.is O.c2
 have b1:isR3s W (some ⟨g1,0,none⟩) n1 k1 fs:=⟨h.f1.len,O.c1,fun _=>⟨g1,0,rfl,fun j hj=>by rw[Nat.zero_add];exact h.f1.at_ j hj⟩⟩
 rw[← hz] at I2 I3 I4
 have hg1z:g1<W'.heap.size:=by rw[hz];exact h.f1.hi
 refine⟨(⟨g1,n1,k1,some ⟨g2,0,none⟩,n2,k2,h2,a3,n3,k3,h3,a4,n4,k4,h4⟩ : Wh),rfl,fun V hV=>⟨?_,?_,?_,?_⟩,⟨h.f1.row.up Eg,O.c1,⟨by simp only;omega,hg1z⟩,x2.same E2,I2,r1.same E3,I3,p1.same E4,I4,h.f1.m,by simp only;omega,by simp only;omega,by simp only;omega⟩,⟨?_,?_,?_,?_,?_,?_⟩,⟨h.f2.dst,r3,p3⟩⟩
 ·exact (b1.same Eg).same (hV g1 (by omega) hg1z)
 ·exact (b2.same x2 E2).same (x2.same E2) (fun x hx=>hV x (I2 x hx).1 (I2 x hx).2)
 ·exact (r2.same r1 E3).same (r1.same E3) (fun x hx=>hV x (I3 x hx).1 (I3 x hx).2)
 ·exact (p2.same p1 E4).same (p1.same E4) (fun x hx=>hV x (I4 x hx).1 (I4 x hx).2)
 ·rintro (e|⟨j,hj,e⟩)
  ·have e2:(some (⟨g2,0,none⟩ : Addr))=some ⟨g1,0,none⟩:=e
   injection e2 with e2
   injection e2 with e2
   omega
  ·have:=q2 j hj g1 e;omega
 ·rintro (e|⟨j,hj,e⟩)
  ·have:=O.o2 g1 e;omega
  ·have:=r4 j hj g1 e;omega
 ·rintro (e|⟨j,hj,e⟩)
  ·have:=(O.o3 g1 e).1;omega
  ·have:=p4 j hj g1 e;omega
 ·rintro x (e|⟨j,hj,e⟩) (e'|⟨j',hj',e'⟩)
  ·cases e;have:=O.o2 g2 e';omega
  ·cases e;have:=r4 j' hj' g2 e';omega
  ·have:=q2 j hj x e;have:=hU.2.2.1 x e';omega
  ·have:=D2 j hj x e;have:=r4 j' hj' x e';omega
 ·rintro x (e|⟨j,hj,e⟩) (e'|⟨j',hj',e'⟩)
  ·cases e;have:=(O.o3 g2 e').1;omega
  ·cases e;have:=p4 j' hj' g2 e';omega
  ·have:=q2 j hj x e;have:=hU.2.2.2.1 x e';omega
  ·have:=D2 j hj x e;have:=p4 j' hj' x e';omega
 ·rintro x (e|⟨j,hj,e⟩) (e'|⟨j',hj',e'⟩)
  ·have:=(O.o3 x e').2 x e;omega
  ·have:=hU.2.2.1 x e;have:=p4 j' hj' x e';omega
  ·have:=r4 j hj x e;have:=hU.2.2.2.1 x e';omega
  ·have:=D3 j hj x e;have:=p4 j' hj' x e';omega
end Go.Proofs.YtkfcfigbgmbaiaaGreat
