import Derived.Test.YtaamahohdnbpiaaGreatG23
import Derived.Test.YtaamahohdnbpiaaGreatLI
import Derived.Test.YtaamahohdnbpiaaGreatG18
import Derived.Test.YtaamahohdnbpiaaGreatNF
namespace Go.Proofs.YtaamahohdnbpiaaGreat
open Go.RowKit
set_option linter.unusedVariables false
def slSome (s:Sl):Prop:=(∃ g,s.a1=some ⟨g,0,none⟩)∧(∃ g,s.a2=some ⟨g,0,none⟩)
theorem wrHo.some {B T:Nat} {W:World} {s:Sl} (h:wrHo B T W s):slSome s:=by
 obtain⟨g1,g2,g3,g4,e,_⟩:=h.e
 rw[e]
 exact⟨⟨g1,rfl⟩,⟨g2,rfl⟩⟩
def bestH (H:Ho) (r:Int):Prop:=(okHo H∧bestR H.bx r)∨(¬ okHo H∧r = -1)
theorem okHo.n2 {H:Ho} (h:okHo H):H.bx.length≤8:=by
 have h1:=of_decide_eq_true h.cf
 have h2:=h.nb
 omega
set_option maxHeartbeats 4000000 in
set_option maxRecDepth 20000 in
theorem specBest_any (w:World) (H:Ho) (s:Sl) (h:isHo w H s) (hn:H.le 1048576) :
  Calls Tryz.prog 27 #[.agg (hoL H s).toArray] w fun o w'=>∃ r,o = .returned (.int .i64 r)∧bestH H r∧Below w.heap.size w w':=by
 have H0:Hid (obS w H s (w.alloc (.cells (hoL H s).toArray 35))):=⟨blk.new w _ 35,(Below.refl _ _).alloc (Nat.le_refl _) _⟩
 by_cases hok:okHo H
 ·have HV:Hid (∀ W,Below w.heap.size w W→Calls Tryz.prog 72 #[.agg (hoL H s).toArray] W fun o w'=>o = .returned (.bool true)∧Below W.heap.size W w'):=fun W hW=>(l3ok_any W H s (h.below hW) hn).mono (by rintro o w' ⟨⟨b,rfl,hb⟩,h2⟩;rw[hb.2 hok];exact⟨rfl,h2⟩)
  have HB:Hid (∀ W,Below w.heap.size w W→Calls Tryz.prog 77 #[.agg (hoL H s).toArray] W fun o w'=>∃ r:Int,o = .returned (.int .i64 r)∧bestR H.bx r∧Below W.heap.size W w'):=fun W hW=>l3best_any W H s (h.below hW).bx (by rw[h.bx.len];exact hok.n2)
  have HOK:Hid (okHo H):=hok
  clear h hn hok;go_enter Tryz.func27,Tryz.ntmps27
  go_wp2_with (first
   | (refine wpList_load_mid (P:=Tryz.prog) rfl 35 _ rfl w.heap.size 0 rfl _ _ H0.out.p.load Tryz.underlying35 rfl (sz41L H s) ?_)
   | (go_at_call 72;refine (HV.out _ H0.out.b).mono ?_;rintro o w1 ⟨rfl,hb1⟩;have H1:Hid (obS w H s w1):=H0.out.below hb1;clear H0 hb1)
   | (refine wpList_load_mid (P:=Tryz.prog) rfl 35 _ rfl w.heap.size 0 rfl _ _ H1.out.p.load Tryz.underlying35 rfl (sz41L H s) ?_)
   | (go_at_call 77;refine (HB.out _ H1.out.b).mono ?_;rintro o w2 ⟨r,rfl,hr,hb2⟩;have H2:Hid (bestR H.bx r∧Below w.heap.size w w2):=⟨hr,(H1.out.below hb2).b⟩;clear hr hb2))
  go_ret;exact⟨r,rfl,Or.inl ⟨HOK.out,H2.out.1⟩,H2.out.2⟩
 ·have HV:Hid (∀ W,Below w.heap.size w W→Calls Tryz.prog 72 #[.agg (hoL H s).toArray] W fun o w'=>o = .returned (.bool false)∧Below W.heap.size W w'):=fun W hW=>(l3ok_any W H s (h.below hW) hn).mono (by rintro o w' ⟨⟨b,rfl,hb⟩,h2⟩;cases b;exact⟨rfl,h2⟩;exact absurd (hb.1 rfl) hok)
  have HOK:Hid (¬ okHo H):=hok
  clear h hn hok;go_enter Tryz.func27,Tryz.ntmps27
  go_wp2_with (first
   | (refine wpList_load_mid (P:=Tryz.prog) rfl 35 _ rfl w.heap.size 0 rfl _ _ H0.out.p.load Tryz.underlying35 rfl (sz41L H s) ?_)
   | (go_at_call 72;refine (HV.out _ H0.out.b).mono ?_;rintro o w1 ⟨rfl,hb1⟩;have H1:Hid (obS w H s w1):=H0.out.below hb1;clear H0 hb1))
  go_ret;exact⟨-1,rfl,Or.inr ⟨HOK.out,rfl⟩,H1.out.b⟩
theorem lvS.best {w0:World} {P mb:Nat} {L:List Value} {gf n1 kf:Nat} {fs:List R3} {gb n2 kb:Nat} {bx:List R8} {hs:Nat→Hd} {gr r1:Nat} {ff:List R5} {gq r3:Nat} {qu:List R8} {k:Nat} {W:World} {st:Int} (h:lvS Unit w0 P mb L gf n1 kf fs gb n2 kb bx hs gr r1 ff gq r3 qu k W) (h5:L[5]?=some (.slice (some ⟨gb,0,none⟩) n2 kb)) (hn:n2≤8) (hok:okBxs st bx) :
  Calls Tryz.prog 62 #[.pointer (some ⟨P,0,none⟩)] W fun o w'=>∃ r:Int,o = .returned (.int .i64 r)∧bestR bx r∧Below w0.heap.size w0 w':=
 (best_any W P (some ⟨gb,0,none⟩) n2 kb bx st (h.p.cell 5 _ h5) ((h.x.k W rfl h.b).1.is (h.x.k W rfl h.b).2) hn hok).mono (by rintro o w' ⟨r,rfl,hr,hb⟩;exact⟨r,rfl,hr,h.b.trans (hb.mono h.b.size)⟩)
theorem open_best (w:World) (H:Ho) (s:Sl) (h:isHo w H s) (hs:slSome s) (hok:okHo H) (hm:H.fs.length≤1048576) (hbd:∀ j (h:j<H.bx.length),H.bx[j].l.length≤1048576) :
  Calls Tryz.prog 61 #[.agg (hoL H s).toArray] w fun o w'=>∃ P,o = .returned (.pointer (some ⟨P,0,none⟩))∧Below w.heap.size w w'∧Calls Tryz.prog 62 #[.pointer (some ⟨P,0,none⟩)] w' fun o w2=>∃ r:Int,o = .returned (.int .i64 r)∧bestR H.bx r∧Below w.heap.size w w2:=by
 obtain⟨c0,c1,c2,c3,fs,bx,ff,qu,lo,st⟩:=H
 obtain⟨a1,n1,k1,a2,n2,k2,a3,n3,k3,a4,n4,k4⟩:=s
 obtain⟨⟨g1,e1⟩,⟨g2,e2⟩⟩:=hs
 simp only[] at e1 e2
 subst e1 e2;have hcf:=of_decide_eq_true hok.cf
 have hnf:=hok.nf
 have hnq:=hok.nq
 have l1:=h.fs.len
 have l2:=h.bx.len
 have l3:=h.ff.len
 have l4:=h.qu.len
 simp only[] at hcf hnf hnq l1 l2 l3 l4 hm hbd
 have hn2:=hok.n2
 simp only[] at hn2
 obtain⟨r1,hr1⟩ : ∃ r1:Nat,c1=(r1:Int):=⟨c1.toNat,by omega⟩
 obtain⟨r3,hr3⟩ : ∃ r3:Nat,c3=(r3:Int):=⟨c3.toNat,by omega⟩
 subst hr1 hr3;refine (openHost_any Unit w c0 c2 r1 r3 fs bx ff qu lo st g1 n1 k1 g2 0 n2 k2 a3 n3 k3 a4 n4 k4 h.fs h.bx h.ff h.qu (by omega) (by omega) (by omega) (by omega) hok.bx hbd).mono ?_
 rintro o w' ⟨P,mb,gf,kf,gb,kb,hs',gr,gq,rfl,hl⟩;exact⟨P,rfl,hl.b,hl.best rfl (by omega) hok.bx⟩
set_option maxHeartbeats 4000000 in
set_option maxRecDepth 20000 in
theorem implBest_any (w:World) (H:Ho) (s:Sl) (h:isHo w H s) (hs:slSome s) (hn:H.le 1048576) :
  Calls Tryz.prog 17 #[.agg (hoL H s).toArray] w fun o w'=>∃ r,o = .returned (.int .i64 r)∧bestH H r∧Below w.heap.size w w':=by
 have H0:Hid (obS w H s (w.alloc (.cells (hoL H s).toArray 35))):=⟨blk.new w _ 35,(Below.refl _ _).alloc (Nat.le_refl _) _⟩
 by_cases hok:okHo H
 ·have HV:Hid (∀ W,Below w.heap.size w W→Calls Tryz.prog 60 #[.agg (hoL H s).toArray] W fun o w'=>o = .returned (.bool true)∧Below W.heap.size W w'):=fun W hW=>(validHost_any W H s (h.below hW) hn).mono (by rintro o w' ⟨⟨b,rfl,hb⟩,h2⟩;rw[hb.2 hok];exact⟨rfl,h2⟩)
  have HB:Hid (∀ W,Below w.heap.size w W→Calls Tryz.prog 61 #[.agg (hoL H s).toArray] W fun o w'=>∃ P,o = .returned (.pointer (some ⟨P,0,none⟩))∧Below W.heap.size W w'∧Calls Tryz.prog 62 #[.pointer (some ⟨P,0,none⟩)] w' fun o w2=>∃ r:Int,o = .returned (.int .i64 r)∧bestR H.bx r∧Below W.heap.size W w2):=fun W hW=>open_best W H s (h.below hW) hs hok hn.fs hn.bd
  have HOK:Hid (okHo H):=hok
  clear h hn hok hs;go_enter Tryz.func17,Tryz.ntmps17
  go_wp2_with (first
   | (refine wpList_load_mid (P:=Tryz.prog) rfl 35 _ rfl w.heap.size 0 rfl _ _ H0.out.p.load Tryz.underlying35 rfl (sz41L H s) ?_)
   | (go_at_call 60;refine (HV.out _ H0.out.b).mono ?_;rintro o w1 ⟨rfl,hb1⟩;have H1:Hid (obS w H s w1):=H0.out.below hb1;clear H0 hb1)
   | (refine wpList_load_mid (P:=Tryz.prog) rfl 35 _ rfl w.heap.size 0 rfl _ _ H1.out.p.load Tryz.underlying35 rfl (sz41L H s) ?_)
   | (go_at_call 61;refine (HB.out _ H1.out.b).mono ?_;rintro o w2 ⟨P,rfl,hb2,hc2⟩;have HC2:Hid (Calls Tryz.prog 62 #[.pointer (some ⟨P,0,none⟩)] w2 fun o w3=>∃ r:Int,o = .returned (.int .i64 r)∧bestR H.bx r∧Below w1.heap.size w1 w3):=hc2;clear hc2 hb2)
   | (go_at_call 62;refine (Calls.mono HC2.out) ?_;rintro o w3 ⟨r,rfl,hr,hb3⟩;have H2:Hid (bestR H.bx r∧Below w.heap.size w w3):=⟨hr,H1.out.b.trans (hb3.mono H1.out.b.size)⟩;clear hr hb3))
  go_ret;exact⟨r,rfl,Or.inl ⟨HOK.out,H2.out.1⟩,H2.out.2⟩
 ·have HV:Hid (∀ W,Below w.heap.size w W→Calls Tryz.prog 60 #[.agg (hoL H s).toArray] W fun o w'=>o = .returned (.bool false)∧Below W.heap.size W w'):=fun W hW=>(validHost_any W H s (h.below hW) hn).mono (by rintro o w' ⟨⟨b,rfl,hb⟩,h2⟩;cases b;exact⟨rfl,h2⟩;exact absurd (hb.1 rfl) hok)
  have HOK:Hid (¬ okHo H):=hok
  clear h hn hok hs;go_enter Tryz.func17,Tryz.ntmps17
  go_wp2_with (first
   | (refine wpList_load_mid (P:=Tryz.prog) rfl 35 _ rfl w.heap.size 0 rfl _ _ H0.out.p.load Tryz.underlying35 rfl (sz41L H s) ?_)
   | (go_at_call 60;refine (HV.out _ H0.out.b).mono ?_;rintro o w1 ⟨rfl,hb1⟩;have H1:Hid (obS w H s w1):=H0.out.below hb1;clear H0 hb1))
  go_ret;exact⟨-1,rfl,Or.inr ⟨HOK.out,rfl⟩,H1.out.b⟩
theorem isBytes.typed {W:World} {a:Option Addr} {n cap:Nat} {l:List Nat} (h:isBytes W a n cap l) (p:Addr) (v v':Value) (hp:W.cell? p=some v) (hv:∀ x,v≠.int .u8 x):isBytes (W.setCell p v') a n cap l:=by
 refine⟨h.len,h.cap,h.small,fun hne=>?_⟩
 obtain⟨g,off,e,hc⟩:=h.cells hne
 refine⟨g,off,e,fun j hj=>?_⟩
 rw[World.cell?_setCell_other _ _ _ _ (by
  intro e2;have:=hc j hj
  rw[← e2,hp] at this
  injection this with this
  exact hv _ this)]
 exact hc j hj
def onW (b:R8):Prop:=b.x=2∨b.x=3
def bsy (bx:List R8) (r:Int):Prop:=(∃ (k:Nat) (h:k<bx.length),onW bx[k]∧(∀ j (hj:j<bx.length),j<k→¬ onW bx[j])∧r=(k:Int))∨((∀ k (h:k<bx.length),¬ onW bx[k])∧r = -1)
theorem bsy_neg {bx:List R8} {r:Int} (h:bsy bx r):r<0↔∀ k (h:k<bx.length),¬ onW bx[k]:=by
 rcases h with⟨k,hk,h1,_,rfl⟩|⟨h1,rfl⟩
 ·exact⟨fun e=>by omega,fun e=>absurd h1 (e k hk)⟩
 ·exact⟨fun _=>h1,fun _=>by omega⟩
set_option maxHeartbeats 4000000 in
set_option maxRecDepth 20000 in
theorem l3busy_any (w:World) (H:Ho) (s:Sl) (h:isR8s w s.a2 s.n2 s.k2 H.bx) (hn:s.n2≤1000) :
  Calls Tryz.prog 142 #[.agg (hoL H s).toArray] w fun o w'=>∃ r:Int,o = .returned (.int .i64 r)∧bsy H.bx r∧Below w.heap.size w w':=by
 have H0:Hid (obS w H s (w.alloc (.cells (hoL H s).toArray 35))):=⟨blk.new w _ 35,(Below.refl _ _).alloc (Nat.le_refl _) _⟩
 have hcp:=h.cap
 obtain⟨c0,c1,c2,c3,fs,bx,ff,qu,lo,st⟩:=H
 obtain⟨a1,n1,k1,a2,n2,k2,a3,n3,k3,a4,n4,k4⟩:=s
 simp only[] at h hcp hn ⊢
 have HL:Hid (n2=bx.length):=h.len
 by_cases hl:bx=[]
 ·subst hl;have hn0:n2=0:=HL.out
  subst hn0;clear h;go_enter Tryz.func142,Tryz.ntmps142
  go_wp2_with fail;go_loopw [3] (fun i wr=>i = .int .i64 0∧obS w ⟨c0,c1,c2,c3,fs,[],ff,qu,lo,st⟩ ⟨a1,n1,k1,a2,0,k2,a3,n3,k3,a4,n4,k4⟩ wr) (fun _ _=>0)
  case atStart=>exact⟨rfl,H0.out⟩
  case round=>
   obtain⟨rfl,hS⟩:=hrel
   have p5:=hS.p.cell 5 _ rfl
   have HS:=hS.b
   go_wp2
   go_ret;exact⟨-1,rfl,Or.inr ⟨fun k hk=>(by cases hk),rfl⟩,HS⟩
 obtain⟨g,off,rfl,hc⟩:=h.cells hl
 have HC:Hid (∀ j (h:j<bx.length),∃ ao m c,at8 w g (off+j*8) bx[j] ao m c):=hc
 clear hc h hl;go_enter Tryz.func142,Tryz.ntmps142
 go_wp2_with fail;go_loopw [3] (fun i wr=>∃ k:Nat,k≤n2∧i = .int .i64 (k:Int)∧(∀ j (hj:j<bx.length),j<k→¬ onW bx[j])∧obS w ⟨c0,c1,c2,c3,fs,bx,ff,qu,lo,st⟩ ⟨a1,n1,k1,some ⟨g,off,none⟩,n2,k2,a3,n3,k3,a4,n4,k4⟩ wr) (fun i _=>n2-(intOf i).toNat)
 case atStart=>exact⟨0,Nat.zero_le _,rfl,fun j _ h=>absurd h (Nat.not_lt_zero _),H0.out⟩
 case round=>
  obtain⟨k,hk,rfl,hA,hS⟩:=hrel
  have HA:Hid (∀ j (hj:j<bx.length),j<k→¬ onW bx[j]):=hA
  have HS:Hid (obS w ⟨c0,c1,c2,c3,fs,bx,ff,qu,lo,st⟩ ⟨a1,n1,k1,some ⟨g,off,none⟩,n2,k2,a3,n3,k3,a4,n4,k4⟩ wr):=hS
  have x5:=hS.p.cell 5 _ rfl
  clear hA hS;by_cases hlt:k<n2
  ·have hkl:k<bx.length:=by have:=HL.out;omega
   obtain⟨ao,m,c,hx⟩:=HC.out k hkl
   have u0:=(hx.below HS.out.b).c0
   clear hx;have HX:Hid (bx[k].x=bx[k].x):=rfl
   have HON:Hid (onW bx[k]↔(bx[k].x=2∨bx[k].x=3)):=Iff.rfl
   generalize bx[k].x=x at *;by_cases h2:x=2
   ·subst h2;go_wp2_with fail;go_ret;exact⟨k,rfl,Or.inl ⟨k,hkl,HON.out.2 (by simp),HA.out,rfl⟩,HS.out.b⟩
   ·have h2':(x == 2)=false:=by simpa using h2
    by_cases h3:x=3
    ·subst h3;go_wp2_with fail;go_ret;exact⟨k,rfl,Or.inl ⟨k,hkl,HON.out.2 (by simp),HA.out,rfl⟩,HS.out.b⟩
    ·have h3':(x == 3)=false:=by simpa using h3
     have HNO:Hid (¬ onW bx[k]):=fun e=>by rcases HON.out.1 e with e | e <;> contradiction
     clear h2 h3;go_wp2_with fail;go_roundw
     case rel=>
      refine⟨k+1,by omega,by go_num,fun j hj hjk=>?_,HS.out⟩
      by_cases e:j=k
      ·subst e;exact HNO.out
      ·exact HA.out j hj (by omega)
     case measure=>simp[intOf];omega
  ·have hkn:n2=k:=by omega
   subst hkn;go_wp2_with fail;go_ret;exact⟨-1,rfl,Or.inr ⟨fun j hj=>HA.out j hj (by have:=HL.out;omega),rfl⟩,HS.out.b⟩
def takeB (bx:List R8) (i:Int):List R8:=if h:0≤i∧i<(bx.length:Int) then (if (bx[i.toNat]'(by omega)).x=1∧(∀ b ∈ bx,¬ (b.x=2∨b.x=3)) then bx.set i.toNat { (bx[i.toNat]'(by omega)) with x:=2 } else bx) else bx
def takeHo (H:Ho) (i:Int):Ho:={ H with bx:=takeB H.bx i }
theorem takeB_out {bx:List R8} {i:Int} (h:i<0∨(bx.length:Int)≤i):takeB bx i=bx:=by unfold takeB;rw[dif_neg (by omega)]
theorem takeB_no {bx:List R8} {k:Nat} (hk:k<bx.length) (h:bx[k].x≠1):takeB bx (k:Int)=bx:=by
 unfold takeB
 rw[dif_pos (by omega),if_neg]
 rintro⟨h1,_⟩;simp only[Int.toNat_natCast] at h1
 exact h h1
theorem takeB_busy {bx:List R8} {i:Int} {r:Int} (h:bsy bx r) (hr:0≤r):takeB bx i=bx:=by
 unfold takeB
 by_cases hi:0≤i∧i<(bx.length:Int)
 ·rw[dif_pos hi,if_neg]
  rintro⟨_,h2⟩;have:=(bsy_neg h).2 (fun k hk=>h2 _ (List.getElem_mem hk))
  omega
 ·rw[dif_neg hi]
theorem takeB_yes {bx:List R8} {k:Nat} (hk:k<bx.length) (h:bx[k].x=1) {r:Int} (hb:bsy bx r) (hr:r<0):takeB bx (k:Int)=bx.set k { bx[k] with x:=2 }:=by
 unfold takeB
 rw[dif_pos (by omega),if_pos]
 ·simp
 ·refine⟨by simpa using h,fun b hbm=>?_⟩
  obtain⟨j,hj,rfl⟩:=List.getElem_of_mem hbm
  exact (bsy_neg hb).1 hr j hj
theorem takeB_len (bx:List R8) (i:Int):(takeB bx i).length=bx.length:=by
 unfold takeB
 split
 ·split
  ·simp
  ·rfl
 ·rfl
theorem takeB_l (bx:List R8) (i:Int) (j:Nat) (h:j<(takeB bx i).length) (h':j<bx.length):(takeB bx i)[j].l=bx[j].l:=by
 unfold takeB
 split
 ·split
  ·simp only[List.getElem_set]
   split
   ·rename_i e;subst e;rfl
   ·rfl
  ·rfl
 ·rfl
theorem isR8s.setX {W:World} {g n cap:Nat} {bx:List R8} (h:isR8s W (some ⟨g,0,none⟩) n cap bx) (k:Nat) (hk:k<bx.length) (v:Int):isR8s (W.setCell ⟨g,k*8,none⟩ (.int .i64 v)) (some ⟨g,0,none⟩) n cap (bx.set k { bx[k] with x:=v }):=by
 have hc:∀ j (h:j<bx.length),∃ ao m c,at8 W g (j*8) bx[j] ao m c:=by
  obtain⟨g',off,e,hc⟩:=h.cells (by intro e;subst e;cases hk)
  cases e
  intro j hj;have:=hc j hj
  rw[Nat.zero_add] at this
  exact this
 obtain⟨_,_,_,hk0⟩:=hc k hk
 refine⟨by simpa using h.len,h.cap,fun _=>⟨g,0,rfl,fun j hj=>?_⟩⟩
 have hj':j<bx.length:=by simpa using hj
 obtain⟨ao,m,c,q⟩:=hc j hj'
 refine⟨ao,m,c,?_⟩
 rw[Nat.zero_add]
 have ot:∀ t,j*8+t≠k*8→(W.setCell ⟨g,k*8,none⟩ (.int .i64 v)).cell? ⟨g,j*8+t,none⟩=W.cell? ⟨g,j*8+t,none⟩:=fun t ht=>World.cell?_setCell_other _ _ _ _ (by intro e;simp at e <;> omega)
 have od:=q.dat.typed ⟨g,k*8,none⟩ _ (.int .i64 v) hk0.c0 (by intro x e;cases e)
 by_cases e:j=k
 ·subst e;simp only[List.getElem_set_self]
  exact⟨World.cell?_setCell_same _ _ _ hk0.c0,(ot 1 (by omega)).trans q.c1,(ot 2 (by omega)).trans q.c2,(ot 3 (by omega)).trans q.c3,(ot 4 (by omega)).trans q.c4,(ot 5 (by omega)).trans q.c5,(ot 6 (by omega)).trans q.c6,(ot 7 (by omega)).trans q.cs,od⟩
 ·rw[List.getElem_set_ne (by omega)]
  exact⟨(ot 0 (by omega)).trans q.c0,(ot 1 (by omega)).trans q.c1,(ot 2 (by omega)).trans q.c2,(ot 3 (by omega)).trans q.c3,(ot 4 (by omega)).trans q.c4,(ot 5 (by omega)).trans q.c5,(ot 6 (by omega)).trans q.c6,(ot 7 (by omega)).trans q.cs,od⟩
theorem isR8s.setAt {W:World} {a:Option Addr} {n cap:Nat} {bx:List R8} (h:isR8s W a n cap bx) (p:Addr) (x v:Int) (hp:W.cell? p=some (.int .i64 x)) (hb:∀ g off,a=some ⟨g,off,none⟩→g≠p.block):isR8s (W.setCell p (.int .i64 v)) a n cap bx:=by
 refine⟨h.len,h.cap,fun hne=>?_⟩
 obtain⟨g,off,e,hc⟩:=h.cells hne
 refine⟨g,off,e,fun j hj=>?_⟩
 obtain⟨ao,m,c,q⟩:=hc j hj
 have hg:=heap_setCell_other W p g (.int .i64 v) (hb g off e)
 exact⟨ao,m,c,cell_up q.c0 hg,cell_up q.c1 hg,cell_up q.c2 hg,cell_up q.c3 hg,cell_up q.c4 hg,cell_up q.c5 hg,cell_up q.c6 hg,cell_up q.cs hg,q.dat.typed p _ _ hp (by intro y e;cases e)⟩
theorem isR5s.setAt {W:World} {a:Option Addr} {n cap:Nat} {bx:List R5} (h:isR5s W a n cap bx) (p:Addr) (x v:Int) (hp:W.cell? p=some (.int .i64 x)) (hb:∀ g off,a=some ⟨g,off,none⟩→g≠p.block):isR5s (W.setCell p (.int .i64 v)) a n cap bx:=by
 refine⟨h.len,h.cap,fun hne=>?_⟩
 obtain⟨g,off,e,hc⟩:=h.cells hne
 refine⟨g,off,e,fun j hj=>?_⟩
 obtain⟨ao,m,c,q⟩:=hc j hj
 have hg:=heap_setCell_other W p g (.int .i64 v) (hb g off e)
 exact⟨ao,m,c,cell_up q.c0 hg,cell_up q.c1 hg,cell_up q.c2 hg,cell_up q.c3 hg,cell_up q.cs hg,q.dat.typed p _ _ hp (by intro y e;cases e)⟩
theorem isR3s.setAt {W:World} {a:Option Addr} {n cap:Nat} {bx:List R3} (h:isR3s W a n cap bx) (p:Addr) (x v:Int) (hp:W.cell? p=some (.int .i64 x)):isR3s (W.setCell p (.int .i64 v)) a n cap bx:=by
 refine⟨h.len,h.cap,fun hne=>?_⟩
 obtain⟨g,off,e,hc⟩:=h.cells hne
 refine⟨g,off,e,fun j hj=>?_⟩
 have q:=hc j hj
 have ot:∀ (t:Nat) (u:Value),W.cell? ⟨g,t,none⟩=some u→(∀ y,u≠.int .i64 y)→(W.setCell p (.int .i64 v)).cell? ⟨g,t,none⟩=some u:=fun t u hu hn=>by
  rw[World.cell?_setCell_other _ _ _ _ (by intro e2;rw[← e2,hp] at hu;injection hu with hu;exact hn _ hu.symm)]
  exact hu
 exact⟨ot _ _ q.c0 (by intro y e;cases e),ot _ _ q.c1 (by intro y e;cases e),ot _ _ q.c2 (by intro y e;cases e)⟩
theorem isHo.setX {W:World} {H:Ho} {s:Sl} (h:isHo W H s) {g:Nat} (ha:s.a2=some ⟨g,0,none⟩) (hne:∀ x,s.a3=some ⟨x,0,none⟩∨s.a4=some ⟨x,0,none⟩→g≠x) (ha3:∃ x,s.a3=some ⟨x,0,none⟩) (ha4:∃ x,s.a4=some ⟨x,0,none⟩) (k:Nat) (hk:k<H.bx.length) (v:Int):isHo (W.setCell ⟨g,k*8,none⟩ (.int .i64 v)) { H with bx:=H.bx.set k { H.bx[k] with x:=v } } s:=by
 have hb:=h.bx
 rw[ha] at hb
 obtain⟨g',off,e,hc⟩:=hb.cells (by intro e;rw[e] at hk;cases hk)
 cases e
 obtain⟨_,_,_,q⟩:=hc k hk
 have q0:=q.c0
 rw[Nat.zero_add] at q0
 obtain⟨x3,e3⟩:=ha3
 obtain⟨x4,e4⟩:=ha4
 refine⟨h.fs.setAt _ _ _ q0,?_,h.ff.setAt _ _ _ q0 (fun g2 off e=>?_),h.qu.setAt _ _ _ q0 (fun g2 off e=>?_)⟩
 ·rw[ha]
  exact hb.setX k hk v
 ·rw[e3] at e;cases e
  exact fun e5=>hne x3 (Or.inl e3) e5.symm
 ·rw[e4] at e;cases e
  exact fun e5=>hne x4 (Or.inr e4) e5.symm
def quP (c3:Int) (qu:List R8) (e:R8):List R8:=if (qu.length:Int)<c3 then qu++[e] else qu
def loP (c3:Int) (qu:List R8) (lo:Int):Int:=if (qu.length:Int)<c3 then lo else if lo<100000 then lo+1 else lo
def postHo (H:Ho) (e:R8):Ho:={ H with qu:=quP H.c3 H.qu e,lo:=loP H.c3 H.qu H.lo }
def qSl (s:Sl) (g n k:Nat):Sl:={ s with a4:=some ⟨g,0,none⟩,n4:=n,k4:=k }
theorem ownG.holes {w w' V:World} {B T E g gd kd:Nat} {g' k':Nat} {rs:List (R8 × Nat × Nat)} {ev:R8} (h1:ownG rc8 w' B E 8 g' k' (rs++[(ev,gd,kd)])) (hg:g'=g∨w.heap.size≤g') (hgT:g<T) (hall:∀ p ∈ rs,rc8.gd p<T) (hgd:w.heap.size≤gd) (hV:∀ x,B≤x→x<T∨w.heap.size≤x→x<w'.heap.size→V.heap[x]?=w'.heap[x]?) (hz:w'.heap.size≤V.heap.size):ownG rc8 V B E 8 g' k' (rs++[(ev,gd,kd)]):=by
 refine⟨ownsRow_kept h1.own (hV g' h1.lt.1 (by omega) h1.lt.2),fun p hp=>?_⟩
 obtain⟨d1,d2,d3,d4⟩:=h1.dat p hp
 have e:rc8.gd p<T∨w.heap.size≤rc8.gd p:=by
  rcases List.mem_append.1 hp with h|h
  ·exact Or.inl (hall p h)
  ·right
   have:p=(ev,gd,kd):=by simpa using h
   subst this;exact hgd
 exact⟨d1.other (hV _ d2 e d4),d2,d3,Nat.lt_of_lt_of_le d4 hz⟩
theorem ownG.holes0 {w' V:World} {B T E g k:Nat} {rs:List (R8 × Nat × Nat)} (h1:ownG rc8 w' B E 8 g k rs) (hgT:g<T) (hall:∀ p ∈ rs,rc8.gd p<T) (hV:∀ x,B≤x→x<T→x<w'.heap.size→V.heap[x]?=w'.heap[x]?) (hz:w'.heap.size≤V.heap.size):ownG rc8 V B E 8 g k rs:=by
 refine⟨ownsRow_kept h1.own (hV g h1.lt.1 hgT h1.lt.2),fun p hp=>?_⟩
 obtain⟨d1,d2,d3,d4⟩:=h1.dat p hp
 exact⟨d1.other (hV _ d2 (hall p hp) d4),d2,d3,Nat.lt_of_lt_of_le d4 hz⟩
theorem l3post_q (w:World) (H:Ho) (s:Sl) (B T g4:Nat) (ev:R8) (ao:Option Addr) (m c:Nat) (ha:s.a4=some ⟨g4,0,none⟩) (hQ:rowQ8 B T 46 g4 s.n4 s.k4 H.qu w) (hB:B≤w.heap.size) (hn:s.n4≤1000) (hlo:0≤H.lo∧H.lo≤100000) (hf:isBytes w ao m c ev.l) (hm:m≤1048576) :
  Calls Tryz.prog 143 #[.agg (hoL H s).toArray,.int .i64 ev.x,.int .i64 ev.y,.int .i64 ev.z,frV ev.e ev.i ev.r ev.d ao m c] w fun o w'=>∃ g' n' k',o = .returned (.agg (hoL (postHo H ev) (qSl s g' n' k')).toArray)∧(∀ V:World,(∀ x,B≤x→x<T∨w.heap.size≤x→x<w'.heap.size→V.heap[x]?=w'.heap[x]?)→w'.heap.size≤V.heap.size→rowQ8 B V.heap.size 46 g' n' k' (quP H.c3 H.qu ev) V)∧(∀ q,q≠g4→q<w.heap.size→w'.heap[q]?=w.heap[q]?)∧Below B w w':=by
 obtain⟨rs,ho,hmap,hlen,hgT,hall⟩:=hQ
 have hql:H.qu.length=s.n4:=by rw[← hmap,List.length_map,hlen]
 have hml:=hf.len
 subst hml;obtain⟨c0,c1,c2,c3,fs,bx,ff,qu,lo,st⟩:=H
 obtain⟨a1,n1,k1,a2,n2,k2,a3,n3,k3,a4,n4,k4⟩:=s
 obtain⟨x,y,z,e,i,r,d,l⟩:=ev
 simp only[] at ha hlen hql hn hlo hmap ho hf hm
 subst ha;by_cases hq:(n4:Int)<c3
 ·refine (l3post_more w c0 c1 c2 c3 lo st a1 n1 k1 a2 n2 k2 a3 n3 k3 B g4 n4 k4 rs x y z e i r d ao c l hq hn ho hlen hB hf hm).mono ?_
  rintro o w' ⟨g',k',gd,kd,rfl,h1,h2,h3,h4,h5⟩;have hq':(qu.length:Int)<c3:=by rw[hql];exact hq
  refine⟨g',n4+1,k',?_,fun V hV hz=>?_,h2,h5⟩
  ·simp only[hoL,postHo,qSl,loP,if_pos hq']
  have h1:=h1.holes h3 hgT hall h4 hV hz
  refine⟨_,h1,?_,?_,h1.lt.2,fun p hp=>(h1.dat p hp).2.2.2⟩
  ·simp only[quP,if_pos hq',List.map_append,hmap,List.map_cons,List.map_nil]
  ·simp[hlen]
 ·refine (l3post_full w c0 c1 c2 c3 lo st a1 n1 k1 a2 n2 k2 a3 n3 k3 (some ⟨g4,0,none⟩) n4 k4 x y z e i r d ao l.length c (by omega) hlo).mono ?_
  rintro o w' ⟨rfl,hb⟩;have hq':¬ (qu.length:Int)<c3:=by rw[hql];exact hq
  refine⟨g4,n4,k4,?_,fun V hV hz=>?_,fun q _ h=>hb.block q h,hb.mono hB⟩
  ·simp only[hoL,postHo,qSl,loP,if_neg hq']
  have h1:=(ho.below hb).holes0 hgT hall (fun x h1 h2 h3=>hV x h1 (Or.inl h2) h3) hz
  exact⟨rs,h1,by simp only[quP,if_neg hq',hmap],hlen,h1.lt.2,fun p hp=>(h1.dat p hp).2.2.2⟩
abbrev ev3 (x y z:Int):R8:=⟨x,y,z,false,0,false,0,[]⟩
theorem l3say_q (w:World) (H:Ho) (s:Sl) (B T g4:Nat) (x y z:Int) (ha:s.a4=some ⟨g4,0,none⟩) (hQ:rowQ8 B T 46 g4 s.n4 s.k4 H.qu w) (hB:B≤w.heap.size) (hn:s.n4≤1000) (hlo:0≤H.lo∧H.lo≤100000) :
  Calls Tryz.prog 139 #[.agg (hoL H s).toArray,.int .i64 x,.int .i64 y,.int .i64 z] w fun o w'=>∃ g' n' k',o = .returned (.agg (hoL (postHo H (ev3 x y z)) (qSl s g' n' k')).toArray)∧(∀ V:World,(∀ x,B≤x→x<T∨w.heap.size≤x→x<w'.heap.size→V.heap[x]?=w'.heap[x]?)→w'.heap.size≤V.heap.size→rowQ8 B V.heap.size 46 g' n' k' (quP H.c3 H.qu (ev3 x y z)) V)∧(∀ q,q≠g4→q<w.heap.size→w'.heap[q]?=w.heap[q]?)∧Below B w w':=by
 obtain⟨rs,ho,hmap,hlen,hgT,hall⟩:=hQ
 have hql:H.qu.length=s.n4:=by rw[← hmap,List.length_map,hlen]
 obtain⟨c0,c1,c2,c3,fs,bx,ff,qu,lo,st⟩:=H
 obtain⟨a1,n1,k1,a2,n2,k2,a3,n3,k3,a4,n4,k4⟩:=s
 simp only[] at ha hlen hql hn hlo hmap ho
 subst ha;by_cases hq:(n4:Int)<c3
 ·refine (l3say_more w c0 c1 c2 c3 lo st a1 n1 k1 a2 n2 k2 a3 n3 k3 B g4 n4 k4 rs x y z hq hn ho hlen hB).mono ?_
  rintro o w' ⟨g',k',gd,kd,rfl,h1,h2,h3,h4,h5⟩;have hq':(qu.length:Int)<c3:=by rw[hql];exact hq
  refine⟨g',n4+1,k',?_,fun V hV hz=>?_,h2,h5⟩
  ·simp only[hoL,postHo,qSl,loP,if_pos hq']
  have h1:=h1.holes h3 hgT hall h4 hV hz
  refine⟨_,h1,?_,?_,h1.lt.2,fun p hp=>(h1.dat p hp).2.2.2⟩
  ·simp only[quP,if_pos hq',List.map_append,hmap,List.map_cons,List.map_nil]
  ·simp[hlen]
 ·have hq':¬ (qu.length:Int)<c3:=by rw[hql];exact hq
  refine (l3say_full w c0 c1 c2 c3 lo st a1 n1 k1 a2 n2 k2 a3 n3 k3 (some ⟨g4,0,none⟩) n4 k4 x y z (by omega) hlo (loP c3 qu lo) (by simp only[loP,if_neg hq'])).mono ?_
  rintro o w' ⟨rfl,hb⟩;refine⟨g4,n4,k4,rfl,fun V hV hz=>?_,fun q _ h=>hb.block q h,hb.mono hB⟩
  have h1:=(ho.below hb).holes0 hgT hall (fun x h1 h2 h3=>hV x h1 (Or.inl h2) h3) hz
  exact⟨rs,h1,by simp only[quP,if_neg hq',hmap],hlen,h1.lt.2,fun p hp=>(h1.dat p hp).2.2.2⟩
def fstB (p:R8→Prop) (bx:List R8) (r:Int):Prop:=(∃ (k:Nat) (h:k<bx.length),p bx[k]∧(∀ j (hj:j<bx.length),j<k→¬ p bx[j])∧r=(k:Int))∨((∀ k (h:k<bx.length),¬ p bx[k])∧r = -1)
theorem fstB.ix {p:R8→Prop} [DecidablePred p] {bx:List R8} {r:Int} (h:fstB p bx r):(r = -1∧bx.findIdx (fun b=>decide (p b))=bx.length)∨(r=(bx.findIdx (fun b=>decide (p b)):Int)∧bx.findIdx (fun b=>decide (p b))<bx.length):=by
 rcases h with⟨k,hk,h1,h2,rfl⟩|⟨h1,rfl⟩
 ·right
  have e:bx.findIdx (fun b=>decide (p b))=k:=by
   rw[List.findIdx_eq hk]
   exact⟨by simpa using h1,fun j hj=>by simpa using h2 j (by omega) hj⟩
  rw[e]
  exact⟨rfl,hk⟩
 ·left
  refine⟨rfl,List.findIdx_eq_length.2 fun b hb=>?_⟩
  obtain⟨j,hj,rfl⟩:=List.getElem_of_mem hb
  simpa using h1 j hj
def tagB (t:Int) (b:R8):Prop:=b.x≠0∧b.y=t
set_option maxHeartbeats 4000000 in
set_option maxRecDepth 20000 in
theorem l3find_any (w:World) (H:Ho) (s:Sl) (t:Int) (h:isR8s w s.a2 s.n2 s.k2 H.bx) (hn:s.n2≤1000) :
  Calls Tryz.prog 140 #[.agg (hoL H s).toArray,.int .i64 t] w fun o w'=>∃ r:Int,o = .returned (.int .i64 r)∧fstB (tagB t) H.bx r∧Below w.heap.size w w':=by
 have H0:Hid (obS w H s (w.alloc (.cells (hoL H s).toArray 35))):=⟨blk.new w _ 35,(Below.refl _ _).alloc (Nat.le_refl _) _⟩
 have hcp:=h.cap
 obtain⟨c0,c1,c2,c3,fs,bx,ff,qu,lo,st⟩:=H
 obtain⟨a1,n1,k1,a2,n2,k2,a3,n3,k3,a4,n4,k4⟩:=s
 simp only[] at h hcp hn ⊢
 have HL:Hid (n2=bx.length):=h.len
 by_cases hl:bx=[]
 ·subst hl;have hn0:n2=0:=HL.out
  subst hn0;clear h;go_enter Tryz.func140,Tryz.ntmps140
  go_wp2_with fail;go_loopw [5] (fun i wr=>i = .int .i64 0∧obS w ⟨c0,c1,c2,c3,fs,[],ff,qu,lo,st⟩ ⟨a1,n1,k1,a2,0,k2,a3,n3,k3,a4,n4,k4⟩ wr) (fun _ _=>0)
  case atStart=>exact⟨rfl,H0.out⟩
  case round=>
   obtain⟨rfl,hS⟩:=hrel
   have p5:=hS.p.cell 5 _ rfl
   have HS:=hS.b
   go_wp2
   go_ret;exact⟨-1,rfl,Or.inr ⟨fun k hk=>(by cases hk),rfl⟩,HS⟩
 obtain⟨g,off,rfl,hc⟩:=h.cells hl
 have HC:Hid (∀ j (h:j<bx.length),∃ ao m c,at8 w g (off+j*8) bx[j] ao m c):=hc
 clear hc h hl;go_enter Tryz.func140,Tryz.ntmps140
 go_wp2_with fail;go_loopw [5] (fun i wr=>∃ k:Nat,k≤n2∧i = .int .i64 (k:Int)∧(∀ j (hj:j<bx.length),j<k→¬ tagB t bx[j])∧obS w ⟨c0,c1,c2,c3,fs,bx,ff,qu,lo,st⟩ ⟨a1,n1,k1,some ⟨g,off,none⟩,n2,k2,a3,n3,k3,a4,n4,k4⟩ wr) (fun i _=>n2-(intOf i).toNat)
 case atStart=>exact⟨0,Nat.zero_le _,rfl,fun j _ h=>absurd h (Nat.not_lt_zero _),H0.out⟩
 case round=>
  obtain⟨k,hk,rfl,hA,hS⟩:=hrel
  have HA:Hid (∀ j (hj:j<bx.length),j<k→¬ tagB t bx[j]):=hA
  have HS:Hid (obS w ⟨c0,c1,c2,c3,fs,bx,ff,qu,lo,st⟩ ⟨a1,n1,k1,some ⟨g,off,none⟩,n2,k2,a3,n3,k3,a4,n4,k4⟩ wr):=hS
  have x5:=hS.p.cell 5 _ rfl
  clear hA hS;by_cases hlt:k<n2
  ·have hkl:k<bx.length:=by have:=HL.out;omega
   obtain⟨ao,m,c,hx⟩:=HC.out k hkl
   have u0:=(hx.below HS.out.b).c0
   have u1:=(hx.below HS.out.b).c1
   clear hx;have HON:Hid (tagB t bx[k]↔(bx[k].x≠0∧bx[k].y=t)):=Iff.rfl
   generalize bx[k].x=x at *;generalize bx[k].y=y at *;by_cases h2:x=0
   ·subst h2;go_wp2_with fail;go_roundw
    case rel=>
     refine⟨k+1,by omega,by go_num,fun j hj hjk=>?_,HS.out⟩
     by_cases e:j=k
     ·subst e;intro hh;exact (HON.out.1 hh).1 rfl
     ·exact HA.out j hj (by omega)
    case measure=>simp[intOf];omega
   ·have h2':(x == 0)=false:=by simpa using h2
    by_cases h3:y=t
    ·subst h3;go_wp2_with fail;go_ret;exact⟨k,rfl,Or.inl ⟨k,hkl,HON.out.2 ⟨h2,by simp⟩,HA.out,rfl⟩,HS.out.b⟩
    ·have h3':(y == t)=false:=by simpa using h3
     go_wp2_with fail;go_roundw
     case rel=>
      refine⟨k+1,by omega,by go_num,fun j hj hjk=>?_,HS.out⟩
      by_cases e:j=k
      ·subst e;intro hh;exact h3 (HON.out.1 hh).2
      ·exact HA.out j hj (by omega)
     case measure=>simp[intOf];omega
  ·have hkn:n2=k:=by omega
   subst hkn;go_wp2_with fail;go_ret;exact⟨-1,rfl,Or.inr ⟨fun j hj=>HA.out j hj (by have:=HL.out;omega),rfl⟩,HS.out.b⟩
structure dtS (w:World) (H:Ho) (s:Sl) (W:World):Prop where
 p:blk W w.heap.size (hoL H s) 35
 r:blk W (w.heap.size+1) Z10 35
 b:Below w.heap.size w W
theorem setCell_block_eq {W w:World} {x:Nat} (h:W.heap[x]?=w.heap[x]?) (p:Addr) (v:Value):(W.setCell p v).heap[x]?=(w.setCell p v).heap[x]?:=by
 unfold World.setCell
 simp only[Array.getElem?_modify,h]
theorem setCell_back {w:World} {g o:Nat} {v:Value} (h:w.cell? ⟨g,o,none⟩=some v) (u:Value) (x:Nat):((w.setCell ⟨g,o,none⟩ u).setCell ⟨g,o,none⟩ v).heap[x]?=w.heap[x]?:=by
 by_cases e:x=g
 ·subst e;unfold World.setCell
  simp only[World.cell?] at h
  cases hg:w.heap[x]? with
  | none=>simp[Array.getElem?_modify,hg]
  | some ob=>
   rw[hg] at h
   cases ob with
   | cells c t fz=>
    simp only[Array.getElem?_modify,hg,if_true,Option.map_some]
    congr 2
    have hv:c[o]?=some v:=by simpa using h
    apply Array.ext_getElem?
    intro j;simp only[Option.isSome_none,Bool.false_eq_true,if_false,Array.getElem?_setIfInBounds,Array.size_setIfInBounds]
    by_cases ej:o=j
    ·subst ej;have hlt:=(Array.getElem?_eq_some_iff.1 hv).1
     simp[hlt]
     exact (Array.getElem?_eq_some_iff.1 hv).2.symm
    ·simp[ej]
   | _=>simp[Array.getElem?_modify,hg]
 ·rw[heap_setCell_other _ ⟨g,o,none⟩ x _ e,heap_setCell_other _ ⟨g,o,none⟩ x _ e]
structure dtP (w:World) (H:Ho) (s:Sl) (W:World):Prop where
 p:blk W w.heap.size (hoL H s) 35
 r:blk W (w.heap.size+1) Z10 35
theorem dtS.below {w:World} {H:Ho} {s:Sl} {W W':World} (h:dtS w H s W) (hb:Below W.heap.size W W'):dtS w H s W':=⟨h.p.below hb,h.r.below hb,h.b.trans (hb.mono h.b.size)⟩
theorem dtS.new (w:World) (H:Ho) (s:Sl):dtS w H s ((w.alloc (.cells (hoL H s).toArray 35)).alloc (.cells Z10.toArray 35)):=by
 refine⟨(blk.new w _ 35).alloc _,?_,((Below.refl _ _).alloc (Nat.le_refl _) _).alloc (by simp) _⟩
 have:=blk.new (w.alloc (.cells (hoL H s).toArray 35)) Z10 35
 simpa using this
theorem takeHo_same {H:Ho} {i:Int} (h:takeB H.bx i=H.bx):takeHo H i=H:=by unfold takeHo;rw[h]
theorem takeHo_hoL (H:Ho) (i:Int) (s:Sl):hoL (takeHo H i) s=hoL H s:=rfl
set_option maxHeartbeats 8000000 in
set_option maxRecDepth 20000 in
theorem l3doTake_1 (B:Nat) (w:World) (H:Ho) (s:Sl) (k:Nat) (g:Nat) (hst:St B w (fun W=>isHo W H s)) (ha:s.a2=some ⟨g,0,none⟩) (hrf:rowF w g (s.n2*8)) (hne:(∀ x,s.a3=some ⟨x,0,none⟩∨s.a4=some ⟨x,0,none⟩→g≠x)∧(∃ x,s.a3=some ⟨x,0,none⟩)∧(∃ x,s.a4=some ⟨x,0,none⟩)) (hn:s.n2≤1000) (hB:B≤g) (hBw:B≤w.heap.size) (hgw:g<w.heap.size) (hk:k<H.bx.length) (hx:H.bx[k].x=1) :
  Calls Tryz.prog 78 #[.agg (hoL H s).toArray,.int .i64 (k:Int)] w fun o w'=>o = .returned (.agg (hoL H s).toArray)∧St B w' (fun W=>isHo W (takeHo H (k:Int)) s)∧Below B w w':=by
 have H0:Hid (dtS w H s ((w.alloc (.cells (hoL H s).toArray 35)).alloc (.cells [.int .i64 0,.int .i64 0,.int .i64 0,.int .i64 0,.slice none 0 0,.slice none 0 0,.slice none 0 0,.slice none 0 0,.int .i64 0,.int .i64 0].toArray 35))):=dtS.new w H s
 have x5:((w.alloc (.cells (hoL H s).toArray 35)).alloc (.cells [.int .i64 0,.int .i64 0,.int .i64 0,.int .i64 0,.slice none 0 0,.slice none 0 0,.slice none 0 0,.slice none 0 0,.int .i64 0,.int .i64 0].toArray 35)).cell? ⟨w.heap.size,5,none⟩=some (.slice s.a2 s.n2 s.k2):=H0.out.p.cell 5 _ (by unfold hoL;rfl)
 have h:isHo w H s:=hst.now
 have HST:Hid (St B w (fun W=>isHo W H s)):=hst
 clear hst;have HH:Hid (isHo w H s):=h
 have hln:s.n2=H.bx.length:=h.bx.len
 have hk2:k<s.n2:=by omega
 obtain⟨ao,m,c,q⟩ : ∃ ao m c,at8 w g (k*8) H.bx[k] ao m c:=by
  have hb:=h.bx
  rw[ha] at hb
  obtain⟨g',off,e,hc⟩:=hb.cells (by intro e;rw[e] at hk;cases hk)
  cases e
  have:=hc k hk
  rw[Nat.zero_add] at this
  exact this
 have y0:=(q.below H0.out.b).c0
 rw[ha] at x5
 have HRF:Hid (rowF w g (s.n2*8)):=hrf
 have HNE:Hid ((∀ x,s.a3=some ⟨x,0,none⟩∨s.a4=some ⟨x,0,none⟩→g≠x)∧(∃ x,s.a3=some ⟨x,0,none⟩)∧(∃ x,s.a4=some ⟨x,0,none⟩)):=hne
 have HBS:Hid (∀ W,Below w.heap.size w W→Calls Tryz.prog 142 #[.agg (hoL H s).toArray] W fun o w'=>∃ r:Int,o = .returned (.int .i64 r)∧bsy H.bx r∧Below W.heap.size W w'):=fun W hW=>l3busy_any W H s (h.below hW).bx hn
 have HQ:Hid (at8 w g (k*8) H.bx[k] ao m c):=q
 have hcp:s.n2≤s.k2:=h.bx.cap
 clear h hrf hne q;have HA2:Hid (s.a2=some ⟨g,0,none⟩):=ha
 have HLN:Hid (s.n2=H.bx.length):=hln
 have hd0:decide ((k:Int)<0)=false:=by simp
 have hd1:decide (s.n2≤k)=false:=by simp;omega
 have hd2:(decide ((k:Int)<0) || decide (s.n2≤k))=false:=by rw[hd0,hd1];rfl
 clear ha hln;rw[hx] at y0
 have HX:Hid (H.bx[k].x=1):=hx
 clear hx;go_enter Tryz.func78,Tryz.ntmps78
 go_wp2_with (first
  | (refine wpList_load_midG (by first | rfl | (simp[Region.wanted,yielded];done) | (simp[Region.wanted,yielded];omega)) 35 (.tmp 2) rfl w.heap.size 0 rfl (hoL H s) _ H0.out.p.load Tryz.underlying35 rfl (sz41L H s) ?_)
  | (refine wpList_load_mid (P:=Tryz.prog) rfl 35 (.tmp 2) rfl w.heap.size 0 rfl (hoL H s) _ H0.out.p.load Tryz.underlying35 rfl (sz41L H s) ?_))
 refine (HBS.out _ H0.out.b).mono ?_
 rintro o w5 ⟨r,rfl,hr,hb5⟩;have H5:Hid (dtS w H s w5):=H0.out.below hb5
 have HR:Hid (bsy H.bx r):=hr
 clear hr hb5 x5 y0 H0;have x5:w5.cell? ⟨w.heap.size,5,none⟩=some (.slice (some ⟨g,0,none⟩) s.n2 s.k2):=by
  have:=H5.out.p.cell 5 (.slice s.a2 s.n2 s.k2) (by unfold hoL;rfl)
  rw[HA2.out] at this
  exact this
 by_cases hr0:r<0
 ·have y0:=(HQ.out.below H5.out.b).c0
  have f0:w5.frozen? ⟨g,k*8,none⟩=false:=by
   rw[World.frozen?_of_block (H5.out.b.block g hgw)]
   exact (HRF.out (k*8) (by omega)).2
  have H6:Hid (dtP w H s (w5.setCell ⟨g,k*8,none⟩ (.int .i64 2))):=⟨H5.out.p.setOther (by omega) _ _,H5.out.r.setOther (by omega) _ _⟩
  have hr1:¬ 0≤r:=by omega
  go_wp2_with (first
  | (refine wpList_load_mid (P:=Tryz.prog) rfl 35 (.tmp 2) rfl w.heap.size 0 rfl (hoL H s) _ H6.out.p.load Tryz.underlying35 rfl (sz41L H s) ?_)
  | (refine wpList_store_mid (P:=Tryz.prog) rfl 35 (.tmp 4) (.tmp 34) rfl (w.heap.size+1) 0 (hoL H s).toArray rfl rfl (H6.out.r.there 0 _ (by rw[List.size_toArray,hoL_len];decide)) (sz41A H s) (hoL_one H s) ?_;generalize hW8:World.setCells _ (w.heap.size+1) 0 _=w8;have HW8:Hid (_=w8):=hW8;clear hW8))
  ·skip;have e8:=HW8.out
   have hF:blk w8 (w.heap.size+1) (hoL H s) 35:=by
    rw[← e8]
    have:=blk.put [] Z10 [] (hoL H s) (w:=w5.setCell ⟨g,k*8,none⟩ (.int .i64 2)) (b:=w.heap.size+1) (T:=35) (by simpa using H6.out.r) (by rw[hoL_len];rfl)
    simpa using this
   have hL:=run_loadVar_mid (P:=Tryz.prog) w8 (w.heap.size+1) 0 35 _ _ hF.load Tryz.underlying35 rfl (sz41L H s)
   refine bodyPost_ret (v:=.agg (hoL H s).toArray) (results_cell Tryz.results78 _ w8 (w.heap.size+1) _ rfl hL) rfl ?_
   have b6:Below B w (w5.setCell ⟨g,k*8,none⟩ (.int .i64 2)):=(H5.out.b.mono hBw).setCell (by exact hB) _
   have b8:Below B w w8:=by
    rw[← e8]
    exact setCells_below (by omega) 0 _ b6
   have hT:takeHo H (k:Int) = { H with bx:=H.bx.set k { H.bx[k] with x:=2 } }:=by
    unfold takeHo
    rw[takeB_yes hk HX.out HR.out hr0]
   rw[hT]
   have q0:=HQ.out.c0
   rw[HX.out] at q0
   have k8:∀ x,x<w.heap.size→w8.heap[x]?=(w.setCell ⟨g,k*8,none⟩ (.int .i64 2)).heap[x]?:=fun x hx=>by
    rw[← e8,setCells_other _ x (by omega)]
    exact setCell_block_eq (H5.out.b.block x hx) _ _
   refine⟨rfl,fun V hV=>?_,b8⟩
   have key:∀ x,B≤x→x<w.heap.size→V.heap[x]?=(w.setCell ⟨g,k*8,none⟩ (.int .i64 2)).heap[x]?:=fun x h1 h2=>(hV x h1 (Nat.lt_of_lt_of_le h2 b8.size)).trans (k8 x h2)
   have V0:isHo (V.setCell ⟨g,k*8,none⟩ (.int .i64 1)) H s:=HST.out _ (fun x h1 h2=>(setCell_block_eq (key x h1 h2) _ _).trans (setCell_back q0 _ x))
   have V1:=V0.setX HA2.out HNE.out.1 HNE.out.2.1 HNE.out.2.2 k hk 2
   have c2:V.cell? ⟨g,k*8,none⟩=some (.int .i64 2):=cell_up (World.cell?_setCell_same _ _ _ q0) (key g hB hgw)
   exact V1.below ⟨rfl,rfl,rfl,by simp,fun x _=>(setCell_back c2 _ x).symm⟩
 ·have HT:Hid (takeHo H (k:Int)=H):=takeHo_same (takeB_busy HR.out (by omega))
  have hr1:0≤r:=by omega
  go_wp2_with (first
  | (refine wpList_load_mid (P:=Tryz.prog) rfl 35 (.tmp 2) rfl w.heap.size 0 rfl (hoL H s) _ H5.out.p.load Tryz.underlying35 rfl (sz41L H s) ?_)
  | (refine wpList_store_mid (P:=Tryz.prog) rfl 35 (.tmp 4) (.tmp 28) rfl (w.heap.size+1) 0 (hoL H s).toArray rfl rfl (H5.out.r.there 0 _ (by rw[List.size_toArray,hoL_len];decide)) (sz41A H s) (hoL_one H s) ?_;generalize hW8:World.setCells _ (w.heap.size+1) 0 _=w8;have HW8:Hid (_=w8):=hW8;clear hW8))
  ·skip;have e8:=HW8.out
   have hF:blk w8 (w.heap.size+1) (hoL H s) 35:=by
    rw[← e8]
    have:=blk.put [] Z10 [] (hoL H s) (w:=w5) (b:=w.heap.size+1) (T:=35) (by simpa using H5.out.r) (by rw[hoL_len];rfl)
    simpa using this
   have hL:=run_loadVar_mid (P:=Tryz.prog) w8 (w.heap.size+1) 0 35 _ _ hF.load Tryz.underlying35 rfl (sz41L H s)
   refine bodyPost_ret (v:=.agg (hoL H s).toArray) (results_cell Tryz.results78 _ w8 (w.heap.size+1) _ rfl hL) rfl ?_
   have b8:Below w.heap.size w w8:=by
    rw[← e8]
    exact setCells_below (by omega) 0 _ H5.out.b
   rw[HT.out]
   exact⟨rfl,fun W hW=>HST.out W (fun x h1 h2=>(hW x h1 (Nat.lt_of_lt_of_le h2 b8.size)).trans (b8.block x h2)),b8.mono hBw⟩
set_option maxHeartbeats 8000000 in
set_option maxRecDepth 20000 in
theorem l3doTake_any (B:Nat) (w:World) (H:Ho) (s:Sl) (i:Int) (g:Nat) (hst:St B w (fun W=>isHo W H s)) (ha:s.a2=some ⟨g,0,none⟩) (hrf:rowF w g (s.n2*8)) (hne:(∀ x,s.a3=some ⟨x,0,none⟩∨s.a4=some ⟨x,0,none⟩→g≠x)∧(∃ x,s.a3=some ⟨x,0,none⟩)∧(∃ x,s.a4=some ⟨x,0,none⟩)) (hn:s.n2≤1000) (hB:B≤g) (hBw:B≤w.heap.size) (hgw:g<w.heap.size) :
  Calls Tryz.prog 78 #[.agg (hoL H s).toArray,.int .i64 i] w fun o w'=>o = .returned (.agg (hoL H s).toArray)∧St B w' (fun W=>isHo W (takeHo H i) s)∧Below B w w':=by
 have H0:Hid (dtS w H s ((w.alloc (.cells (hoL H s).toArray 35)).alloc (.cells [.int .i64 0,.int .i64 0,.int .i64 0,.int .i64 0,.slice none 0 0,.slice none 0 0,.slice none 0 0,.slice none 0 0,.int .i64 0,.int .i64 0].toArray 35))):=dtS.new w H s
 have x5:((w.alloc (.cells (hoL H s).toArray 35)).alloc (.cells [.int .i64 0,.int .i64 0,.int .i64 0,.int .i64 0,.slice none 0 0,.slice none 0 0,.slice none 0 0,.slice none 0 0,.int .i64 0,.int .i64 0].toArray 35)).cell? ⟨w.heap.size,5,none⟩=some (.slice s.a2 s.n2 s.k2):=H0.out.p.cell 5 _ (by unfold hoL;rfl)
 have h:isHo w H s:=hst.now
 have HST:Hid (St B w (fun W=>isHo W H s)):=hst
 clear hst;have HH:Hid (isHo w H s):=h
 have hln:s.n2=H.bx.length:=h.bx.len
 by_cases hi0:i<0
 ·have HT:Hid (takeHo H i=H):=takeHo_same (takeB_out (Or.inl hi0))
  clear h hrf hne hln x5;go_enter Tryz.func78,Tryz.ntmps78
  go_wp2_with (first
   | (refine wpList_load_mid (P:=Tryz.prog) rfl 35 (.tmp 2) rfl w.heap.size 0 rfl (hoL H s) _ H0.out.p.load Tryz.underlying35 rfl (sz41L H s) ?_)
   | (refine wpList_store_mid (P:=Tryz.prog) rfl 35 (.tmp 4) (.tmp 28) rfl (w.heap.size+1) 0 (hoL H s).toArray rfl rfl (H0.out.r.there 0 _ (by rw[List.size_toArray,hoL_len];decide)) (sz41A H s) (hoL_one H s) ?_;generalize hW8:World.setCells _ (w.heap.size+1) 0 _=w8;have HW8:Hid (_=w8):=hW8;clear hW8))
  ·skip;have e8:=HW8.out
   have hF:blk w8 (w.heap.size+1) (hoL H s) 35:=by
    rw[← e8]
    have:=blk.put [] Z10 [] (hoL H s) (w:=((w.alloc (.cells (hoL H s).toArray 35)).alloc (.cells [.int .i64 0,.int .i64 0,.int .i64 0,.int .i64 0,.slice none 0 0,.slice none 0 0,.slice none 0 0,.slice none 0 0,.int .i64 0,.int .i64 0].toArray 35))) (b:=w.heap.size+1) (T:=35) (by simpa using H0.out.r) (by rw[hoL_len];rfl)
    simpa using this
   have hL:=run_loadVar_mid (P:=Tryz.prog) w8 (w.heap.size+1) 0 35 _ _ hF.load Tryz.underlying35 rfl (sz41L H s)
   refine bodyPost_ret (v:=.agg (hoL H s).toArray) (results_cell Tryz.results78 _ w8 (w.heap.size+1) _ rfl hL) rfl ?_
   have b8:Below w.heap.size w w8:=by
    rw[← e8]
    exact setCells_below (by omega) 0 _ H0.out.b
   rw[HT.out]
   exact⟨rfl,fun W hW=>HST.out W (fun x h1 h2=>(hW x h1 (Nat.lt_of_lt_of_le h2 b8.size)).trans (b8.block x h2)),b8.mono hBw⟩
 by_cases hi1:(s.n2:Int)≤i
 ·have HT:Hid (takeHo H i=H):=takeHo_same (takeB_out (Or.inr (by omega)))
  clear h hrf hne hln;go_enter Tryz.func78,Tryz.ntmps78
  go_wp2_with (first
   | (refine wpList_load_mid (P:=Tryz.prog) rfl 35 (.tmp 2) rfl w.heap.size 0 rfl (hoL H s) _ H0.out.p.load Tryz.underlying35 rfl (sz41L H s) ?_)
   | (refine wpList_store_mid (P:=Tryz.prog) rfl 35 (.tmp 4) (.tmp 28) rfl (w.heap.size+1) 0 (hoL H s).toArray rfl rfl (H0.out.r.there 0 _ (by rw[List.size_toArray,hoL_len];decide)) (sz41A H s) (hoL_one H s) ?_;generalize hW8:World.setCells _ (w.heap.size+1) 0 _=w8;have HW8:Hid (_=w8):=hW8;clear hW8))
  ·skip;have e8:=HW8.out
   have hF:blk w8 (w.heap.size+1) (hoL H s) 35:=by
    rw[← e8]
    have:=blk.put [] Z10 [] (hoL H s) (w:=((w.alloc (.cells (hoL H s).toArray 35)).alloc (.cells [.int .i64 0,.int .i64 0,.int .i64 0,.int .i64 0,.slice none 0 0,.slice none 0 0,.slice none 0 0,.slice none 0 0,.int .i64 0,.int .i64 0].toArray 35))) (b:=w.heap.size+1) (T:=35) (by simpa using H0.out.r) (by rw[hoL_len];rfl)
    simpa using this
   have hL:=run_loadVar_mid (P:=Tryz.prog) w8 (w.heap.size+1) 0 35 _ _ hF.load Tryz.underlying35 rfl (sz41L H s)
   refine bodyPost_ret (v:=.agg (hoL H s).toArray) (results_cell Tryz.results78 _ w8 (w.heap.size+1) _ rfl hL) rfl ?_
   have b8:Below w.heap.size w w8:=by
    rw[← e8]
    exact setCells_below (by omega) 0 _ H0.out.b
   rw[HT.out]
   exact⟨rfl,fun W hW=>HST.out W (fun x h1 h2=>(hW x h1 (Nat.lt_of_lt_of_le h2 b8.size)).trans (b8.block x h2)),b8.mono hBw⟩
 obtain⟨k,rfl⟩ : ∃ k:Nat,i=(k:Int):=⟨i.toNat,by omega⟩
 have hk:k<H.bx.length:=by omega
 have hk2:k<s.n2:=by omega
 obtain⟨ao,m,c,q⟩ : ∃ ao m c,at8 w g (k*8) H.bx[k] ao m c:=by
  have hb:=h.bx
  rw[ha] at hb
  obtain⟨g',off,e,hc⟩:=hb.cells (by intro e;rw[e] at hk;cases hk)
  cases e
  have:=hc k hk
  rw[Nat.zero_add] at this
  exact this
 have y0:=(q.below H0.out.b).c0
 rw[ha] at x5
 have HRF:Hid (rowF w g (s.n2*8)):=hrf
 have HNE:Hid ((∀ x,s.a3=some ⟨x,0,none⟩∨s.a4=some ⟨x,0,none⟩→g≠x)∧(∃ x,s.a3=some ⟨x,0,none⟩)∧(∃ x,s.a4=some ⟨x,0,none⟩)):=hne
 have HBS:Hid (∀ W,Below w.heap.size w W→Calls Tryz.prog 142 #[.agg (hoL H s).toArray] W fun o w'=>∃ r:Int,o = .returned (.int .i64 r)∧bsy H.bx r∧Below W.heap.size W w'):=fun W hW=>l3busy_any W H s (h.below hW).bx hn
 have HQ:Hid (at8 w g (k*8) H.bx[k] ao m c):=q
 have hcp:s.n2≤s.k2:=h.bx.cap
 clear h hrf hne q hi0 hi1;have HA2:Hid (s.a2=some ⟨g,0,none⟩):=ha
 have HLN:Hid (s.n2=H.bx.length):=hln
 have hd0:decide ((k:Int)<0)=false:=by simp
 have hd1:decide (s.n2≤k)=false:=by simp;omega
 clear ha hln;by_cases hx:H.bx[k].x=1
 ·exact l3doTake_1 B w H s k g HST.out HA2.out HRF.out HNE.out hn hB hBw hgw hk hx
 ·have HT:Hid (takeHo H (k:Int)=H):=takeHo_same (takeB_no hk hx)
  have hx':(H.bx[k].x != 1)=true:=by simpa using hx
  clear HQ HBS HRF HNE;generalize H.bx[k].x=x at *;go_enter Tryz.func78,Tryz.ntmps78
  go_wp2_with (first
   | (refine wpList_load_mid (P:=Tryz.prog) rfl 35 (.tmp 2) rfl w.heap.size 0 rfl (hoL H s) _ H0.out.p.load Tryz.underlying35 rfl (sz41L H s) ?_)
   | (refine wpList_store_mid (P:=Tryz.prog) rfl 35 (.tmp 4) (.tmp 28) rfl (w.heap.size+1) 0 (hoL H s).toArray rfl rfl (H0.out.r.there 0 _ (by rw[List.size_toArray,hoL_len];decide)) (sz41A H s) (hoL_one H s) ?_;generalize hW8:World.setCells _ (w.heap.size+1) 0 _=w8;have HW8:Hid (_=w8):=hW8;clear hW8))
  ·skip;have e8:=HW8.out
   have hF:blk w8 (w.heap.size+1) (hoL H s) 35:=by
    rw[← e8]
    have:=blk.put [] Z10 [] (hoL H s) (w:=((w.alloc (.cells (hoL H s).toArray 35)).alloc (.cells [.int .i64 0,.int .i64 0,.int .i64 0,.int .i64 0,.slice none 0 0,.slice none 0 0,.slice none 0 0,.slice none 0 0,.int .i64 0,.int .i64 0].toArray 35))) (b:=w.heap.size+1) (T:=35) (by simpa using H0.out.r) (by rw[hoL_len];rfl)
    simpa using this
   have hL:=run_loadVar_mid (P:=Tryz.prog) w8 (w.heap.size+1) 0 35 _ _ hF.load Tryz.underlying35 rfl (sz41L H s)
   refine bodyPost_ret (v:=.agg (hoL H s).toArray) (results_cell Tryz.results78 _ w8 (w.heap.size+1) _ rfl hL) rfl ?_
   have b8:Below w.heap.size w w8:=by
    rw[← e8]
    exact setCells_below (by omega) 0 _ H0.out.b
   rw[HT.out]
   exact⟨rfl,fun W hW=>HST.out W (fun x h1 h2=>(hW x h1 (Nat.lt_of_lt_of_le h2 b8.size)).trans (b8.block x h2)),b8.mono hBw⟩
theorem rowQ8.F {B T E g n k:Nat} {bs:List R8} {W:World} (h:rowQ8 B T E g n k bs W):B≤g∧g<T∧rowF W g (n*8):=by
 obtain⟨rs,h2,_,h4,h5,_⟩:=h
 refine⟨h2.lt.1,h5,?_⟩
 rcases ownsRow_split h2.own with⟨e,_⟩|⟨g',cap,e,_,_,_,hr,_⟩
 ·cases e
 ·injection e with e1 e2 e3
  injection e1 with e1
  injection e1 with e1
  subst e1;rw[h4] at hr
  exact hr
theorem l3copy_anyN (w:World) (H:Ho) (s:Sl) (h:isHo w H s) (hn:H.le 1048576) :
  Calls Tryz.prog 71 #[hoV H s] w fun o w'=>∃ s',o = .returned (hoV H s')∧St (w.heap.size+3) w' (fun W=>isHo W H s')∧Below w.heap.size w w':=by
 refine (l3copy_own w H s h hn).mono ?_
 rintro o w' ⟨gf,kf,gb,kb,gq,kq,g4,k4,T0,T1,T2,T3,rfl,_,hs,hb⟩;exact⟨_,rfl,fun V hV=>⟨(hs V hV).1,(hs V hV).2.1.is,(hs V hV).2.2.1.is,(hs V hV).2.2.2.is⟩,hb⟩
theorem l3copy_wrN (w:World) (H:Ho) (s:Sl) (h:isHo w H s) (hn:H.le 1048576) :
  Calls Tryz.prog 71 #[hoV H s] w fun o w'=>∃ s' gx,o = .returned (hoV H s')∧s'.a2=some ⟨gx,0,none⟩∧w.heap.size≤gx∧St (w.heap.size+3) w' (fun W=>isHo W H s'∧rowF W gx (s'.n2*8))∧((∀ g,s'.a3=some ⟨g,0,none⟩∨s'.a4=some ⟨g,0,none⟩→gx≠g)∧(∃ x,s'.a3=some ⟨x,0,none⟩)∧(∃ x,s'.a4=some ⟨x,0,none⟩))∧Below w.heap.size w w':=by
 refine (l3copy_own w H s h hn).mono ?_
 rintro o w' ⟨gf,kf,gb,kb,gq,kq,g4,k4,T0,T1,T2,T3,rfl,hT,hs,hb⟩;have h1:=hs.now.2.1.F
 have h2:T1≤gq:=by obtain⟨rs,h2,_⟩:=hs.now.2.2.1;exact h2.lt.1
 have h3:=hs.now.2.2.2.F
 refine⟨_,gb,rfl,rfl,by omega,fun V hV=>⟨⟨(hs V hV).1,(hs V hV).2.1.is,(hs V hV).2.2.1.is,(hs V hV).2.2.2.is⟩,(hs V hV).2.1.F.2.2⟩,⟨?_,⟨gq,rfl⟩,⟨g4,rfl⟩⟩,hb⟩
 rintro g (e|e)
 ·injection e with e;injection e with e;omega
 ·injection e with e;injection e with e;omega
abbrev zHo:Ho:=⟨0,0,0,0,[],[],[],[],0,0⟩
abbrev zSl:Sl:=⟨none,0,0,none,0,0,none,0,0,none,0,0⟩
theorem zHo_is (W:World):isHo W zHo zSl:=⟨⟨rfl,Nat.le_refl _,fun e=>absurd rfl e⟩,⟨rfl,Nat.le_refl _,fun e=>absurd rfl e⟩,⟨rfl,Nat.le_refl _,fun e=>absurd rfl e⟩,⟨rfl,Nat.le_refl _,fun e=>absurd rfl e⟩⟩
def takeRel (H:Ho) (i:Int) (T:Ho):Prop:=(okHo H∧T=takeHo H i)∨(¬ okHo H∧T=zHo)
theorem takeRel.yes {H:Ho} {i:Int} {T:Ho} (h:takeRel H i T) (hok:okHo H):T=takeHo H i:=by
 rcases h with⟨_,e⟩|⟨h,_⟩
 ·exact e
 ·exact absurd hok h
theorem takeRel.no {H:Ho} {i:Int} {T:Ho} (h:takeRel H i T) (hok:¬ okHo H):T=zHo:=by
 rcases h with⟨h,_⟩|⟨_,e⟩
 ·exact absurd h hok
 ·exact e
theorem copyL (W:World) (H:Ho) (s:Sl) (h:isHo W H s) (hn:H.le 1048576):Calls Tryz.prog 71 #[.agg (hoL H s).toArray] W fun o w'=>∃ s' gx,o = .returned (.agg (hoL H s').toArray)∧s'.a2=some ⟨gx,0,none⟩∧W.heap.size≤gx∧s'.n2=H.bx.length∧(St (W.heap.size+3) w' (fun V=>isHo V H s')∧rowF w' gx (s'.n2*8))∧((∀ g,s'.a3=some ⟨g,0,none⟩∨s'.a4=some ⟨g,0,none⟩→gx≠g)∧(∃ x,s'.a3=some ⟨x,0,none⟩)∧(∃ x,s'.a4=some ⟨x,0,none⟩))∧Below W.heap.size W w':=by
 rw[← hoV_L]
 refine (l3copy_wrN W H s h hn).mono ?_
 rintro o w' ⟨s',gx,rfl,e1,e2,h1,h2,h3⟩;exact⟨s',gx,by rw[hoV_L],e1,e2,h1.now.1.bx.len,⟨fun V hV=>(h1 V hV).1,h1.now.2⟩,h2,h3⟩
theorem okHo.pos {H:Ho} (h:okHo H):1≤H.bx.length:=by
 have h1:=of_decide_eq_true h.cf
 have h2:=h.nb
 omega
theorem okL (W:World) (H:Ho) (s:Sl) (h:isHo W H s) (hn:H.le 1048576) (hok:okHo H):Calls Tryz.prog 72 #[.agg (hoL H s).toArray] W fun o w'=>o = .returned (.bool true)∧Below W.heap.size W w':=(l3ok_any W H s h hn).mono (by rintro o w' ⟨⟨b,rfl,hb⟩,h2⟩;rw[hb.2 hok];exact⟨rfl,h2⟩)
theorem badL (W:World) (H:Ho) (s:Sl) (h:isHo W H s) (hn:H.le 1048576) (hok:¬ okHo H):Calls Tryz.prog 72 #[.agg (hoL H s).toArray] W fun o w'=>o = .returned (.bool false)∧Below W.heap.size W w':=(l3ok_any W H s h hn).mono (by rintro o w' ⟨⟨b,rfl,hb⟩,h2⟩;cases b;exact⟨rfl,h2⟩;exact absurd (hb.1 rfl) hok)
theorem zHo_L:hoL zHo zSl=[.int .i64 0,.int .i64 0,.int .i64 0,.int .i64 0,.slice none 0 0,.slice none 0 0,.slice none 0 0,.slice none 0 0,.int .i64 0,.int .i64 0]:=rfl
set_option maxHeartbeats 4000000 in
set_option maxRecDepth 20000 in
theorem specTake_any (w:World) (H:Ho) (s:Sl) (i:Int) (T:Ho) (hR:takeRel H i T) (h:isHo w H s) (hn:H.le 1048576) :
  Calls Tryz.prog 29 #[.agg (hoL H s).toArray,.int .i64 i] w fun o w'=>∃ s',o = .returned (.agg (hoL T s').toArray)∧isHo w' T s'∧Below w.heap.size w w':=by
 have H0:Hid (dtS w H s ((w.alloc (.cells (hoL H s).toArray 35)).alloc (.cells [.int .i64 0,.int .i64 0,.int .i64 0,.int .i64 0,.slice none 0 0,.slice none 0 0,.slice none 0 0,.slice none 0 0,.int .i64 0,.int .i64 0].toArray 35))):=dtS.new w H s
 have HR:Hid (takeRel H i T):=hR
 clear hR;by_cases hok:okHo H
 ·have HV:Hid (∀ W,Below w.heap.size w W→Calls Tryz.prog 72 #[.agg (hoL H s).toArray] W fun o w'=>o = .returned (.bool true)∧Below W.heap.size W w'):=fun W hW=>okL W H s (h.below hW) hn hok
  have HC:Hid (∀ W,Below w.heap.size w W→Calls Tryz.prog 71 #[.agg (hoL H s).toArray] W fun o w'=>∃ s' gx,o = .returned (.agg (hoL H s').toArray)∧s'.a2=some ⟨gx,0,none⟩∧W.heap.size≤gx∧s'.n2=H.bx.length∧(St (W.heap.size+3) w' (fun V=>isHo V H s')∧rowF w' gx (s'.n2*8))∧((∀ g,s'.a3=some ⟨g,0,none⟩∨s'.a4=some ⟨g,0,none⟩→gx≠g)∧(∃ x,s'.a3=some ⟨x,0,none⟩)∧(∃ x,s'.a4=some ⟨x,0,none⟩))∧Below W.heap.size W w'):=fun W hW=>copyL W H s (h.below hW) hn
  have HOK:Hid (okHo H):=hok
  clear h hn hok;go_enter Tryz.func29,Tryz.ntmps29
  go_wp2_with (first
   | (refine wpList_load_mid (P:=Tryz.prog) rfl 35 (.tmp 2) rfl w.heap.size 0 rfl _ _ H0.out.p.load Tryz.underlying35 rfl (sz41L H s) ?_))
  refine (HV.out _ H0.out.b).mono ?_
  rintro o w1 ⟨rfl,hb1⟩;have H1:Hid (dtS w H s w1):=H0.out.below hb1
  clear H0 hb1;go_wp2_with (first
   | (refine wpList_load_mid (P:=Tryz.prog) rfl 35 (.tmp 2) rfl w.heap.size 0 rfl _ _ H1.out.p.load Tryz.underlying35 rfl (sz41L H s) ?_))
  refine (HC.out _ H1.out.b).mono ?_
  rintro o w2 ⟨s2,gx,rfl,e1,e2,e3,⟨e4,e5⟩,e6,hb2⟩;have hn2:s2.n2≤8:=by rw[e3];exact HOK.out.n2
  have hp2:1≤s2.n2:=by rw[e3];exact HOK.out.pos
  have hgx:gx<w2.heap.size:=by
   obtain⟨⟨v,hv⟩,_⟩:=e5 0 (by omega)
   exact World.block_lt_of_cell? w2 _ hv
  have HD:Hid (Calls Tryz.prog 78 #[.agg (hoL H s2).toArray,.int .i64 i] w2 fun o w'=>o = .returned (.agg (hoL H s2).toArray)∧St w1.heap.size w' (fun W=>isHo W (takeHo H i) s2)∧Below w1.heap.size w2 w'):=l3doTake_any w1.heap.size w2 H s2 i gx (e4.mono (by omega)) e1 e5 e6 (by omega) e2 hb2.size hgx
  have H2:Hid (dtS w H s w2):=H1.out.below hb2
  have HZ2:Hid (w.heap.size+1<w1.heap.size):=H1.out.r.lt
  have HZB:Hid (w1.heap.size≤w2.heap.size):=hb2.size
  clear e1 e2 e3 e4 e5 e6 hb2 hn2 hp2 hgx H1 HC HV;go_wp2_with fail;refine HD.out.mono ?_
  rintro o w3 ⟨rfl,q1,q2⟩;have H3:Hid (dtP w H s w3):=⟨H2.out.p.kept (q2.block _ (by have:=HZ2.out;omega)),H2.out.r.kept (q2.block _ HZ2.out)⟩
  have HB3:Hid (Below w.heap.size w w3):=H2.out.b.trans (q2.mono (by have:=HZ2.out;omega))
  have HST:Hid (St w1.heap.size w3 (fun W=>isHo W (takeHo H i) s2)):=q1
  clear q1 q2 H2 HD;go_wp2_with (first
   | (refine wpList_store_mid (P:=Tryz.prog) rfl 35 (.tmp 4) _ rfl (w.heap.size+1) 0 (hoL H s2).toArray rfl rfl (H3.out.r.there 0 _ (by rw[List.size_toArray,hoL_len];decide)) (sz41A H s2) (hoL_one H s2) ?_;generalize hW8:World.setCells _ (w.heap.size+1) 0 _=w8;have HW8:Hid (_=w8):=hW8;clear hW8))
  have e8:=HW8.out
  have hF:blk w8 (w.heap.size+1) (hoL H s2) 35:=by
   rw[← e8]
   have:=blk.put [] Z10 [] (hoL H s2) (w:=w3) (b:=w.heap.size+1) (T:=35) (by simpa using H3.out.r) (by rw[hoL_len];rfl)
   simpa using this
  have hL:=run_loadVar_mid (P:=Tryz.prog) w8 (w.heap.size+1) 0 35 _ _ hF.load Tryz.underlying35 rfl (sz41L H s2)
  refine bodyPost_ret (v:=.agg (hoL H s2).toArray) (results_cell Tryz.results29 _ w8 (w.heap.size+1) _ rfl hL) rfl ?_
  have hR:=HR.out.yes HOK.out
  subst hR;refine⟨s2,by rw[takeHo_hoL],HST.out _ (fun x h1 h2=>?_),?_⟩
  ·rw[← e8]
   exact setCells_other _ x (by have:=HZ2.out;omega) _ _ _
  ·rw[← e8]
   exact setCells_below (by omega) 0 _ HB3.out
 ·have HV:Hid (∀ W,Below w.heap.size w W→Calls Tryz.prog 72 #[.agg (hoL H s).toArray] W fun o w'=>o = .returned (.bool false)∧Below W.heap.size W w'):=fun W hW=>badL W H s (h.below hW) hn hok
  have HOK:Hid (¬ okHo H):=hok
  clear h hn hok;go_enter Tryz.func29,Tryz.ntmps29
  go_wp2_with (first
   | (refine wpList_load_mid (P:=Tryz.prog) rfl 35 (.tmp 2) rfl w.heap.size 0 rfl _ _ H0.out.p.load Tryz.underlying35 rfl (sz41L H s) ?_))
  refine (HV.out _ H0.out.b).mono ?_
  rintro o w1 ⟨rfl,hb1⟩;have H1:Hid (dtS w H s w1):=H0.out.below hb1
  clear H0 hb1;go_wp2_with (first
   | (refine wpList_store_mid (P:=Tryz.prog) rfl 35 (.tmp 4) (.tmp 8) rfl (w.heap.size+1) 0 [.int .i64 0,.int .i64 0,.int .i64 0,.int .i64 0,.slice none 0 0,.slice none 0 0,.slice none 0 0,.slice none 0 0,.int .i64 0,.int .i64 0].toArray rfl rfl (H1.out.r.there 0 10 (by simp[Z10])) sz41 (all_oneCell_toArray (by simp[Value.oneCell'])) ?_;generalize hW8:World.setCells _ (w.heap.size+1) 0 _=w8;have HW8:Hid (_=w8):=hW8;clear hW8))
  have e8:=HW8.out
  have hF:blk w8 (w.heap.size+1) [.int .i64 0,.int .i64 0,.int .i64 0,.int .i64 0,.slice none 0 0,.slice none 0 0,.slice none 0 0,.slice none 0 0,.int .i64 0,.int .i64 0] 35:=by
   rw[← e8]
   have:=blk.put [] Z10 [] [.int .i64 0,.int .i64 0,.int .i64 0,.int .i64 0,.slice none 0 0,.slice none 0 0,.slice none 0 0,.slice none 0 0,.int .i64 0,.int .i64 0] (w:=w1) (b:=w.heap.size+1) (T:=35) (by simpa using H1.out.r) rfl
   simpa using this
  have hL:=run_loadVar_mid (P:=Tryz.prog) w8 (w.heap.size+1) 0 35 _ _ hF.load Tryz.underlying35 rfl sz41
  refine bodyPost_ret (v:=.agg [.int .i64 0,.int .i64 0,.int .i64 0,.int .i64 0,.slice none 0 0,.slice none 0 0,.slice none 0 0,.slice none 0 0,.int .i64 0,.int .i64 0].toArray) (results_cell Tryz.results29 _ w8 (w.heap.size+1) _ rfl hL) rfl ?_
  have hR:=HR.out.no HOK.out
  subst hR;refine⟨zSl,by rw[zHo_L],zHo_is _,?_⟩
  rw[← e8]
  exact setCells_below (by omega) 0 _ H1.out.b
end Go.Proofs.YtaamahohdnbpiaaGreat
