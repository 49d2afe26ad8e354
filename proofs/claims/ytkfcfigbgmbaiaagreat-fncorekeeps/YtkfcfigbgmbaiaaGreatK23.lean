import Derived.Test.YtkfcfigbgmbaiaaGreatK22
import Derived.Test.YtkfcfigbgmbaiaaGreatK20
namespace Go.Proofs.YtkfcfigbgmbaiaaGreat
open Go.RowKit
set_option linter.unusedVariables false
open Go.Value renaming int→I,slice→sL,bool→bO,pointer→pT,agg→aG
open Go.IntKind renaming i64→J
open Go.Ending renaming returned→rT
open Go.Proofs.Tryz renaming prog→Tp
variable {W:World}
def slSome (s:Sl):Prop:=(∃ g,s.a1=some ⟨g,0,none⟩)∧(∃ g,s.a2=some ⟨g,0,none⟩)
theorem wrHo.some {B T:Nat} {s:Sl} (h:wrHo B T W s):slSome s:=by
 obtain⟨g1,g2,g3,g4,e,_⟩:=h.e
 rw[e]
 exact⟨⟨g1,rfl⟩,⟨g2,rfl⟩⟩
theorem okHo.n2 {H:Ho} (h:okHo H):H.bx.length≤8:=by
 have h1:=of_decide_eq_true h.cf
 have h2:=h.nb
 omega
theorem lvS.best {w0:World} {P mb:Nat} {L:List Value} {gf n1 kf:Nat} {fs:List R3} {gb n2 kb:Nat} {bx:List R8} {hs:Nat→Hd} {gr r1:Nat} {ff:List R5} {gq r3:Nat} {qu:List R8} {k:Nat} {st:Int} (h:lvS Unit w0 P mb L gf n1 kf fs gb n2 kb bx hs gr r1 ff gq r3 qu k W) (h5:L[5]?=some (sL (some ⟨gb,0,none⟩) n2 kb)) (hn:n2≤8) (hok:okBxs st bx) :
  Calls Tp 228 #[pT (some ⟨P,0,none⟩)] W fun o w'=>∃ r:Int,o = rT (I J r)∧bestR bx r∧Below w0.heap.size w0 w':=
 (best_any W P (some ⟨gb,0,none⟩) n2 kb bx st (h.p.cell 5 _ h5) ((h.x.k W rfl h.b).1.is (h.x.k W rfl h.b).2) hn hok).mono (by rintro o w' ⟨r,rfl,hr,hb⟩;exact⟨r,rfl,hr,h.b.trans (hb.mono h.b.size)⟩)
set_option maxRecDepth 20000
set_option maxHeartbeats 16000000
theorem iB.typed {W:World} {a:Option Addr} {n cap:Nat} {l:List Nat} (h:iB W a n cap l) (p:Addr) (v v':Value) (hp:W.cell? p=some v) (hv:∀ x,v≠I .u8 x):iB (W.setCell p v') a n cap l:=by
 refine⟨h.len,h.cap,h.small,fun hne=>?_⟩
 obtain⟨g,off,e,hc⟩:=h.cells hne
 refine⟨g,off,e,fun j hj=>?_⟩
 rw[World.cell?_setCell_other _ _ _ _ (by
  intro e2;have:=hc j hj
  rw[← e2,hp] at this
  injection this with this
  exact hv _ this)]
 exact hc j hj
def onW (b:R8):Prop:=b.x=2∨b.x=3
def bsy (bx:List R8) (r:Int):Prop:=(∃ (k:Nat) (h:k<bx.length),onW bx[k]∧(∀ j (hj:j<bx.length),j<k→¬ onW bx[j])∧r=(k:Int))∨((∀ k (h:k<bx.length),¬ onW bx[k])∧r = -1)
theorem bsy_neg {bx:List R8} {r:Int} (h:bsy bx r):r<0↔∀ k (h:k<bx.length),¬ onW bx[k]:=by
 rcases h with⟨k,hk,h1,_,rfl⟩|⟨h1,rfl⟩
 ·exact⟨fun e=>by omega,fun e=>absurd h1 (e k hk)⟩
 ·exact⟨fun _=>h1,fun _=>by omega⟩
theorem l3busy_any (w:World) (H:Ho) (s:Sl) (h:isR8s w s.a2 s.n2 s.k2 H.bx) (hn:s.n2≤1000) :
  Calls Tp 76 #[aG (hoL H s).toArray] w fun o w'=>∃ r:Int,o = rT (I J r)∧bsy H.bx r∧Below w.heap.size w w':=by
 have H0:Hid (obS w H s (w.alloc (.cells (hoL H s).toArray 39))):=⟨blk.new w _ 39,(bW _ _).alloc (nR _) _⟩
 have hcp:=h.cap
 obtain⟨c0,c1,c2,c3,fs,bx,ff,qu,lo,st⟩:=H
 obtain⟨a1,n1,k1,a2,n2,k2,a3,n3,k3,a4,n4,k4⟩:=s
 simp only[] at h hcp hn ⊢
 have HL:Hid (n2=bx.length):=h.len
 by_cases hl:bx=[]
 ·subst hl;have hn0:n2=0:=HL.out
  subst hn0;clear h;go_enter Tryz.func76,Tryz.ntmps76
  go_wp2_with fail;go_loopw [3] (fun i wr=>i = I J 0∧obS w ⟨c0,c1,c2,c3,fs,[],ff,qu,lo,st⟩ ⟨a1,n1,k1,a2,0,k2,a3,n3,k3,a4,n4,k4⟩ wr) (fun _ _=>0)
  case atStart=>exact⟨rfl,H0.out⟩
  case round=>
   obtain⟨rfl,hS⟩:=hrel
   have p5:=hS.p.cell 5 _ rfl
   have HS:=hS.b
   go_wp2
   go_ret;exact⟨-1,rfl,Or.inr ⟨fun k hk=>(by cases hk),rfl⟩,HS⟩
 obtain⟨g,off,rfl,hc⟩:=h.cells hl
 have HC:Hid (∀ j (h:j<bx.length),∃ ao m c,at8 w g (off+j*8) bx[j] ao m c):=hc
 clear hc h hl;go_enter Tryz.func76,Tryz.ntmps76
 go_wp2_with fail;go_loopw [3] (fun i wr=>∃ k:Nat,k≤n2∧i = I J (k:Int)∧(∀ j (hj:j<bx.length),j<k→¬ onW bx[j])∧obS w ⟨c0,c1,c2,c3,fs,bx,ff,qu,lo,st⟩ ⟨a1,n1,k1,some ⟨g,off,none⟩,n2,k2,a3,n3,k3,a4,n4,k4⟩ wr) (fun i _=>n2-(intOf i).toNat)
 case atStart=>exact⟨0,nZ _,rfl,fun j _ h=>absurd h (nN _),H0.out⟩
 case round=>
  obtain⟨k,hk,rfl,hA,hS⟩:=hrel
  have HA:Hid (∀ j (hj:j<bx.length),j<k→¬ onW bx[j]):=hA
  have HS:Hid (obS w ⟨c0,c1,c2,c3,fs,bx,ff,qu,lo,st⟩ ⟨a1,n1,k1,some ⟨g,off,none⟩,n2,k2,a3,n3,k3,a4,n4,k4⟩ wr):=hS
  have x5:=hS.p.cell 5 _ rfl
  clear hA hS;by_cases hlt:k<n2
  ·have hkl:k<bx.length:=by have:=HL.out;omega
   obtain⟨ao,m,c,hx⟩:=HC.out k hkl
   have u0:=(hx.below HS.out.b).c0
   clear hx;have HX:Hid (bx[k].x=bx[k].x):=rfl
   have HON:Hid (onW bx[k]↔(bx[k].x=2∨bx[k].x=3)):=Iff.rfl
   generalize bx[k].x=x at *;by_cases h2:x=2
   ·subst h2;go_wp2_with fail;go_ret;exact⟨k,rfl,Or.inl ⟨k,hkl,HON.out.2 (by simp),HA.out,rfl⟩,HS.out.b⟩
   ·have h2':(x == 2)=false:=by simpa using h2
    by_cases h3:x=3
    ·subst h3;go_wp2_with fail;go_ret;exact⟨k,rfl,Or.inl ⟨k,hkl,HON.out.2 (by simp),HA.out,rfl⟩,HS.out.b⟩
    ·have h3':(x == 3)=false:=by simpa using h3
     have HNO:Hid (¬ onW bx[k]):=fun e=>by rcases HON.out.1 e with e | e <;> contradiction
     clear h2 h3;go_wp2_with fail;go_roundw
     case rel=>
      refine⟨k+1,by omega,by go_num,fun j hj hjk=>?_,HS.out⟩
      by_cases e:j=k
      ·subst e;exact HNO.out
      ·exact HA.out j hj (by omega)
     case measure=>simp[intOf];omega
  ·have hkn:n2=k:=by omega
   subst hkn;go_wp2_with fail;go_ret;exact⟨-1,rfl,Or.inr ⟨fun j hj=>HA.out j hj (by have:=HL.out;omega),rfl⟩,HS.out.b⟩
variable {bx:List R8} {W:World} {n cap k:Nat} {a:Option Addr} {i:Int}
def takeB (bx:List R8) (i:Int):List R8:=if h:0≤i∧i<(bx.length:Int) then (if (bx[i.toNat]'(by omega)).x=1∧(∀ b ∈ bx,¬ (b.x=2∨b.x=3)) then bx.set i.toNat { (bx[i.toNat]'(by omega)) with x:=2 } else bx) else bx
def takeHo (H:Ho) (i:Int):Ho:={ H with bx:=takeB H.bx i }
theorem takeB_out (h:i<0∨(bx.length:Int)≤i):takeB bx i=bx:=by unfold takeB;rw[dif_neg (by omega)]
theorem takeB_no (hk:k<bx.length) (h:bx[k].x≠1):takeB bx (k:Int)=bx:=by
 unfold takeB
 rw[dif_pos (by omega),if_neg]
 rintro⟨h1,_⟩;simp only[Int.toNat_natCast] at h1
 exact h h1
theorem takeB_busy {r:Int} (h:bsy bx r) (hr:0≤r):takeB bx i=bx:=by
 unfold takeB
 by_cases hi:0≤i∧i<(bx.length:Int)
 ·rw[dif_pos hi,if_neg]
  rintro⟨_,h2⟩;have:=(bsy_neg h).2 (fun k hk=>h2 _ (List.getElem_mem hk))
  omega
 ·rw[dif_neg hi]
theorem takeB_yes (hk:k<bx.length) (h:bx[k].x=1) {r:Int} (hb:bsy bx r) (hr:r<0):takeB bx (k:Int)=bx.set k { bx[k] with x:=2 }:=by
 unfold takeB
 rw[dif_pos (by omega),if_pos]
 ·simp
 ·refine⟨by simpa using h,fun b hbm=>?_⟩
  obtain⟨j,hj,rfl⟩:=List.getElem_of_mem hbm
  exact (bsy_neg hb).1 hr j hj
theorem isR8s.setX {g:Nat} (h:isR8s W (some ⟨g,0,none⟩) n cap bx) (k:Nat) (hk:k<bx.length) (v:Int):isR8s (W.setCell ⟨g,k*8,none⟩ (I J v)) (some ⟨g,0,none⟩) n cap (bx.set k { bx[k] with x:=v }):=by
 have hc:∀ j (h:j<bx.length),∃ ao m c,at8 W g (j*8) bx[j] ao m c:=by
  obtain⟨g',off,e,hc⟩:=h.cells (by intro e;subst e;cases hk)
  cases e
  intro j hj;have:=hc j hj
  rw[Nat.zero_add] at this
  exact this
 obtain⟨_,_,_,hk0⟩:=hc k hk
 refine⟨by simpa using h.len,h.cap,fun _=>⟨g,0,rfl,fun j hj=>?_⟩⟩
 have hj':j<bx.length:=by simpa using hj
 obtain⟨ao,m,c,q⟩:=hc j hj'
 refine⟨ao,m,c,?_⟩
 rw[Nat.zero_add]
 have ot:∀ t,j*8+t≠k*8→(W.setCell ⟨g,k*8,none⟩ (I J v)).cell? ⟨g,j*8+t,none⟩=W.cell? ⟨g,j*8+t,none⟩:=fun t ht=>World.cell?_setCell_other _ _ _ _ (by intro e;simp at e <;> omega)
 have od:=q.dat.typed ⟨g,k*8,none⟩ _ (I J v) hk0.c0 (by intro x e;cases e)
 by_cases e:j=k
 ·subst e;simp only[List.getElem_set_self]
  exact⟨World.cell?_setCell_same _ _ _ hk0.c0,(ot 1 (by omega)).trans q.c1,(ot 2 (by omega)).trans q.c2,(ot 3 (by omega)).trans q.c3,(ot 4 (by omega)).trans q.c4,(ot 5 (by omega)).trans q.c5,(ot 6 (by omega)).trans q.c6,(ot 7 (by omega)).trans q.cs,od⟩
 ·rw[List.getElem_set_ne (by omega)]
  exact⟨(ot 0 (by omega)).trans q.c0,(ot 1 (by omega)).trans q.c1,(ot 2 (by omega)).trans q.c2,(ot 3 (by omega)).trans q.c3,(ot 4 (by omega)).trans q.c4,(ot 5 (by omega)).trans q.c5,(ot 6 (by omega)).trans q.c6,(ot 7 (by omega)).trans q.cs,od⟩
theorem isR8s.setAt (h:isR8s W a n cap bx) (p:Addr) (x v:Int) (hp:W.cell? p=some (I J x)) (hb:∀ g off,a=some ⟨g,off,none⟩→g≠p.block):isR8s (W.setCell p (I J v)) a n cap bx:=by
 refine⟨h.len,h.cap,fun hne=>?_⟩
 obtain⟨g,off,e,hc⟩:=h.cells hne
 refine⟨g,off,e,fun j hj=>?_⟩
 obtain⟨ao,m,c,q⟩:=hc j hj
 have hg:=heap_setCell_other W p g (I J v) (hb g off e)
 exact⟨ao,m,c,cU q.c0 hg,cU q.c1 hg,cU q.c2 hg,cU q.c3 hg,cU q.c4 hg,cU q.c5 hg,cU q.c6 hg,cU q.cs hg,q.dat.typed p _ _ hp (by intro y e;cases e)⟩
theorem isR5s.setAt {bx:List R5} (h:isR5s W a n cap bx) (p:Addr) (x v:Int) (hp:W.cell? p=some (I J x)) (hb:∀ g off,a=some ⟨g,off,none⟩→g≠p.block):isR5s (W.setCell p (I J v)) a n cap bx:=by
 refine⟨h.len,h.cap,fun hne=>?_⟩
 obtain⟨g,off,e,hc⟩:=h.cells hne
 refine⟨g,off,e,fun j hj=>?_⟩
 obtain⟨ao,m,c,q⟩:=hc j hj
 have hg:=heap_setCell_other W p g (I J v) (hb g off e)
 exact⟨ao,m,c,cU q.c0 hg,cU q.c1 hg,cU q.c2 hg,cU q.c3 hg,cU q.cs hg,q.dat.typed p _ _ hp (by intro y e;cases e)⟩
theorem isR3s.setAt {bx:List R3} (h:isR3s W a n cap bx) (p:Addr) (x v:Int) (hp:W.cell? p=some (I J x)):isR3s (W.setCell p (I J v)) a n cap bx:=by
 refine⟨h.len,h.cap,fun hne=>?_⟩
 obtain⟨g,off,e,hc⟩:=h.cells hne
 refine⟨g,off,e,fun j hj=>?_⟩
 have q:=hc j hj
 have ot:∀ (t:Nat) (u:Value),W.cell? ⟨g,t,none⟩=some u→(∀ y,u≠I J y)→(W.setCell p (I J v)).cell? ⟨g,t,none⟩=some u:=fun t u hu hn=>by
  rw[World.cell?_setCell_other _ _ _ _ (by intro e2;rw[← e2,hp] at hu;injection hu with hu;exact hn _ hu.symm)]
  exact hu
 exact⟨ot _ _ q.c0 (by intro y e;cases e),ot _ _ q.c1 (by intro y e;cases e),ot _ _ q.c2 (by intro y e;cases e)⟩
theorem isHo.setX {H:Ho} {s:Sl} (h:isHo W H s) {g:Nat} (ha:s.a2=some ⟨g,0,none⟩) (hne:∀ x,s.a3=some ⟨x,0,none⟩∨s.a4=some ⟨x,0,none⟩→g≠x) (ha3:∃ x,s.a3=some ⟨x,0,none⟩) (ha4:∃ x,s.a4=some ⟨x,0,none⟩) (k:Nat) (hk:k<H.bx.length) (v:Int):isHo (W.setCell ⟨g,k*8,none⟩ (I J v)) { H with bx:=H.bx.set k { H.bx[k] with x:=v } } s:=by
 have hb:=h.bx
 rw[ha] at hb
 obtain⟨g',off,e,hc⟩:=hb.cells (by intro e;rw[e] at hk;cases hk)
 cases e
 obtain⟨_,_,_,q⟩:=hc k hk
 have q0:=q.c0
 rw[Nat.zero_add] at q0
 obtain⟨x3,e3⟩:=ha3
 obtain⟨x4,e4⟩:=ha4
 refine⟨h.fs.setAt _ _ _ q0,?_,h.ff.setAt _ _ _ q0 (fun g2 off e=>?_),h.qu.setAt _ _ _ q0 (fun g2 off e=>?_)⟩
 ·rw[ha]
  exact hb.setX k hk v
 ·rw[e3] at e;cases e
  exact fun e5=>hne x3 (Or.inl e3) e5.symm
 ·rw[e4] at e;cases e
  exact fun e5=>hne x4 (Or.inr e4) e5.symm
structure dtS (w:World) (H:Ho) (s:Sl) (W:World):Prop where
 p:blk W w.heap.size (hoL H s) 39
 r:blk W (w.heap.size+1) Z10 39
 b:Below w.heap.size w W
theorem dtS.below {w:World} {H:Ho} {s:Sl} {W W':World} (h:dtS w H s W) (hb:Below W.heap.size W W'):dtS w H s W':=⟨h.p.below hb,h.r.below hb,h.b.trans (hb.mono h.b.size)⟩
theorem dtS.new (w:World) (H:Ho) (s:Sl):dtS w H s ((w.alloc (.cells (hoL H s).toArray 39)).alloc (.cells Z10.toArray 39)):=by
 refine⟨(blk.new w _ 39).alloc _,?_,((bW _ _).alloc (nR _) _).alloc (by simp) _⟩
 have:=blk.new (w.alloc (.cells (hoL H s).toArray 39)) Z10 39
 simpa using this
theorem indexBox_any (w:World) (a:Option Addr) (n cap:Nat) (bs:List R8) (h:isR8s w a n cap bs) (hn:n≤1048576) :
  Calls Tp 192 #[sL a n cap,.func (.func 182) #[] #[]] w fun o w'=>∃ z:Int,o = rT (I J z)∧bsy bs z∧Below w.heap.size w w':=by
 have hlen:=h.len
 have hcp:=h.cap
 by_cases hl:bs=[]
 ·subst hl;have hn0:n=0:=hlen
  subst hn0;clear hlen h;go_enter Tryz.func192,Tryz.ntmps192
  go_wp2
  go_loopw [8] (fun i wr=>i = I J 0∧wr=w) (fun _ _=>0)
  case atStart=>exact⟨rfl,rfl⟩
  case round=>
   obtain⟨rfl,rfl⟩:=hrel
   go_wp2
   go_ret;exact⟨-1,rfl,Or.inr ⟨fun k hk=>(by cases hk),rfl⟩,bW _ _⟩
 ·obtain⟨g,off,rfl,hc⟩:=h.cells hl
  have HL:Hid (n=bs.length):=hlen
  have HC:Hid (∀ j (h:j<bs.length),∃ ao m c,at8 w g (off+j*8) bs[j] ao m c):=hc
  clear h hlen hc;go_enter Tryz.func192,Tryz.ntmps192
  go_wp2
  go_loopw [8] (fun i wr=>∃ k:Nat,k≤n∧i = I J (k:Int)∧(∀ j (hj:j<bs.length),j<k→¬ onW bs[j])∧Below w.heap.size w wr) (fun i _=>n-(intOf i).toNat)
  case atStart=>exact⟨0,nZ _,rfl,fun j hj h=>absurd h (nN _),bW _ _⟩
  case round=>
   obtain⟨k,hk,rfl,hdone,hb⟩:=hrel
   by_cases hlt:k<n
   ·have hkl:k<bs.length:=by have:=HL.out;omega
    obtain⟨ao,m,c,hx⟩:=HC.out k hkl
    have hx':=hx.below hb
    have HRG:=hx'.range
    have HW:Hid (Calls Tp 182 #[bxV bs[k].x bs[k].y bs[k].z bs[k].e bs[k].i bs[k].r bs[k].d ao m c] wr fun o w'=>o = rT (bO (bs[k].x == 2 || bs[k].x == 3))∧Below wr.heap.size wr w'):=isOnWire_any wr bs[k] ao m c
    have HB:Hid (Below w.heap.size w wr):=hb
    have HD:Hid (∀ j (hj:j<bs.length),j<k→¬ onW bs[j]):=hdone
    clear hx hx' hb hdone;have HON:Hid ((bs[k].x == 2 || bs[k].x == 3)=true↔onW bs[k]):=by show _↔_;unfold onW;simp
    generalize (bs[k].x == 2 || bs[k].x == 3)=q at *;have HRG:Hid (wr.rangeAt g (off+k*8) [I J bs[k].x,I J bs[k].y,I J bs[k].z,bO bs[k].e,I .u32 (bs[k].i:Int),bO bs[k].r,I J bs[k].d,sL ao m c]):=HRG
    cases q
    ·have HN:Hid (∀ j (hj:j<bs.length),j<k+1→¬ onW bs[j]):=fun j hj hjk=>by
      by_cases e:j=k
      ·subst e;exact fun h=>absurd (HON.out.2 h) (by simp)
      ·exact HD.out j hj (by omega)
     clear HON;generalize bs[k].x=x0 at *;generalize bs[k].y=y0 at *;generalize bs[k].z=z0 at *;generalize bs[k].e=e0 at *;generalize bs[k].i=i0 at *;generalize bs[k].r=r0 at *;generalize bs[k].d=d0 at *;go_wp2_with (first
      | (refine lq166 HRG.out ?_)
      | (go_at_call 182;refine HW.out.mono ?_;rintro o w5 ⟨rfl,hb5⟩))
     go_roundw
     case rel=>exact⟨k+1,by omega,by go_num,HN.out,HB.out.trans (hb5.mono HB.out.size)⟩
     case measure=>simp[intOf];omega
    ·have HN:Hid (bsy bs (k:Int)):=Or.inl ⟨k,hkl,HON.out.1 rfl,HD.out,rfl⟩
     clear HON;generalize bs[k].x=x0 at *;generalize bs[k].y=y0 at *;generalize bs[k].z=z0 at *;generalize bs[k].e=e0 at *;generalize bs[k].i=i0 at *;generalize bs[k].r=r0 at *;generalize bs[k].d=d0 at *;go_wp2_with (first
      | (refine lq166 HRG.out ?_)
      | (go_at_call 182;refine HW.out.mono ?_;rintro o w5 ⟨rfl,hb5⟩))
     go_ret;exact⟨k,rfl,HN.out,HB.out.trans (hb5.mono HB.out.size)⟩
   ·have hkn:n=k:=by omega
    subst hkn;go_wp2
    go_ret;exact⟨-1,rfl,Or.inr ⟨fun j hj=>hdone j hj (by have:=HL.out;omega),rfl⟩,hb⟩
theorem onWire_any (w:World) (P:Nat) (a:Option Addr) (n cap:Nat) (bx:List R8) (y5:w.cell? ⟨P,5,none⟩=some (sL a n cap)) (h:isR8s w a n cap bx) (hn:n≤1048576) :
  Calls Tp 152 #[pT (some ⟨P,0,none⟩)] w fun o w'=>∃ z:Int,o = rT (I J z)∧bsy bx z∧Below w.heap.size w w':=by
 have HI:Hid (Calls Tp 192 #[sL a n cap,.func (.func 182) #[] #[]] w fun o w'=>∃ z:Int,o = rT (I J z)∧bsy bx z∧Below w.heap.size w w'):=indexBox_any w a n cap bx h hn
 clear h;go_enter Tryz.func152,Tryz.ntmps152
 go_wp2_with (first | (go_at_call 192;refine HI.out.mono ?_;rintro o w5 ⟨z,rfl,hz,hb5⟩;have HZ:Hid (bsy bx z∧Below w.heap.size w w5):=⟨hz,hb5⟩;clear hz hb5))
 go_ret;exact⟨z,rfl,HZ.out.1,HZ.out.2⟩
def sendQ (W:World) (gb:Nat) (bx:List R8) (i:Int) (w':World):Prop:=∃ W1,Below W.heap.size W W1∧((w'=W1∧takeB bx i=bx)∨∃ (k:Nat) (hk:k<bx.length),w'=W1.setCell ⟨gb,k*8,none⟩ (I J 2)∧takeB bx i=bx.set k { bx[k] with x:=2 }∧bx[k].x=1)
theorem send_any (W:World) (P gb n kb:Nat) (bx:List R8) (i:Int) (y5:W.cell? ⟨P,5,none⟩=some (sL (some ⟨gb,0,none⟩) n kb)) (h:isR8s W (some ⟨gb,0,none⟩) n kb bx) (hrf:rowF W gb (n*8)) (hn:n≤8) :
  Calls Tp 230 #[pT (some ⟨P,0,none⟩),I J i] W fun o w'=>o = rT (.tuple #[])∧sendQ W gb bx i w':=by
 have hln:=h.len
 have hcp:=h.cap
 by_cases hi:0≤i∧i≤(n:Int)-1
 ·obtain⟨k,rfl⟩ : ∃ k:Nat,i=(k:Int):=⟨i.toNat,by omega⟩
  have hk:k<bx.length:=by omega
  have hkn:k<n:=by omega
  have HIR:Hid (∀ X,Calls Tp 43 #[I J (k:Int),I J 0,I J ((n:Int)-1)] X fun o w'=>o = rT (bO true)∧w'=X):=fun X=>(inRange_any X _ _ _).mono (by rintro o w' ⟨rfl,rfl⟩;exact⟨by simp;omega,rfl⟩)
  obtain⟨ao,m,c,q⟩ : ∃ ao m c,at8 W gb (k*8) bx[k] ao m c:=by
   obtain⟨g',off,e,hc⟩:=h.cells (by intro e;rw[e] at hk;cases hk)
   cases e
   have:=hc k hk
   rw[Nat.zero_add] at this
   exact this
  have y0:=q.c0
  have HOW:Hid (Calls Tp 152 #[pT (some ⟨P,0,none⟩)] W fun o w'=>∃ z:Int,o = rT (I J z)∧bsy bx z∧Below W.heap.size W w'):=onWire_any W P _ n kb bx y5 h (by omega)
  have HRF:Hid (rowF W gb (n*8)):=hrf
  have HP:Hid (P<W.heap.size∧gb<W.heap.size):=⟨World.block_lt_of_cell? W _ y5,World.block_lt_of_cell? W _ y0⟩
  clear h hrf q hi hln;by_cases hx:bx[k].x=1
  ·rw[hx] at y0
   have HX:Hid (bx[k].x=1):=hx
   clear hx;go_enter Tryz.func230,Tryz.ntmps230
   go_wp2_with (first | (go_at_call 43;refine (HIR.out _).mono ?_;rintro o w1 ⟨rfl,rfl⟩))
   refine HOW.out.mono ?_
   rintro o w5 ⟨z,rfl,hz,hb5⟩;have y5':=(hb5.cell (p:=⟨P,5,none⟩) (by exact HP.out.1)).trans y5
   have y0':=(hb5.cell (p:=⟨gb,k*8,none⟩) (by exact HP.out.2)).trans y0
   have f0:w5.frozen? ⟨gb,k*8,none⟩=false:=by
    rw[World.frozen?_of_block (hb5.block gb HP.out.2)]
    exact (HRF.out (k*8) (by omega)).2
   have HB5:Hid (Below w1.heap.size w1 w5):=hb5
   have HZ:Hid (bsy bx z):=hz
   clear hz hb5 y5 y0;by_cases hz0:z<0
   ·have HT:Hid (takeB bx (k:Int)=bx.set k { bx[k] with x:=2 }):=takeB_yes hk HX.out HZ.out hz0
    go_wp2_with fail;first | go_end0 | (try simp only[Exit.inBlock,Exit.then]);refine bN ?_
    exact⟨rfl,w5,HB5.out,Or.inr ⟨k,hk,rfl,HT.out,HX.out⟩⟩
   ·have HT:Hid (takeB bx (k:Int)=bx):=takeB_busy HZ.out (by omega)
    go_wp2_with fail;first | go_end0 | (try simp only[Exit.inBlock,Exit.then]);refine bN ?_
    exact⟨rfl,w5,HB5.out,Or.inl ⟨rfl,HT.out⟩⟩
  ·have hx':(bx[k].x == 1)=false:=by simpa using hx
   have HT:Hid (takeB bx (k:Int)=bx):=takeB_no hk hx
   generalize bx[k].x=x at *;go_enter Tryz.func230,Tryz.ntmps230
   go_wp2_with (first | (go_at_call 43;refine (HIR.out _).mono ?_;rintro o w1 ⟨rfl,rfl⟩))
   first | go_end0 | (try simp only[Exit.inBlock,Exit.then]);refine bN ?_
   exact⟨rfl,w1,bW _ _,Or.inl ⟨rfl,HT.out⟩⟩
 ·have HIR:Hid (∀ X,Calls Tp 43 #[I J i,I J 0,I J ((n:Int)-1)] X fun o w'=>o = rT (bO false)∧w'=X):=fun X=>(inRange_any X _ _ _).mono (by rintro o w' ⟨rfl,rfl⟩;exact⟨by simp;omega,rfl⟩)
  have HT:Hid (takeB bx i=bx):=takeB_out (by omega)
  clear h hrf hi hcp hln;go_enter Tryz.func230,Tryz.ntmps230
  go_wp2_with (first | (go_at_call 43;refine (HIR.out _).mono ?_;rintro o w1 ⟨rfl,rfl⟩))
  first | go_end0 | (try simp only[Exit.inBlock,Exit.then]);refine bN ?_
  exact⟨rfl,w1,bW _ _,Or.inl ⟨rfl,HT.out⟩⟩
variable {w0 w W:World} {g room first:Nat}
theorem ring5.base {L:List R5} (h:ring5 w0 W g room first L) (hb:Below w0.heap.size w0 w):ring5 w W g room first L:=fun i hi=>by
 obtain⟨ao,m,c,h1,h2⟩:=h i hi
 exact⟨ao,m,c,h1,h2.below hb⟩
theorem ring8.base {L:List R8} (h:ring8 w0 W g room first L) (hb:Below w0.heap.size w0 w):ring8 w W g room first L:=fun i hi=>by
 obtain⟨ao,m,c,h1,h2⟩:=h i hi
 exact⟨ao,m,c,h1,h2.below hb⟩
def toldQ (w:World) (H:Ho) (e:Ending) (w':World):Prop:=∃ s:Wh,e = rT (aG (hoL H s.sl).toArray)∧St w.heap.size w' (fun W=>isHo W H s.sl)∧whS w.heap.size w'.heap.size w' s∧whD s∧whE s∧Below w.heap.size w w'
theorem at8.rg {w:World} {g o:Nat} {b:R8} {ao:Option Addr} {m c:Nat} (h:at8 w g o b ao m c):w.rangeAt g o [I J b.x,I J b.y,I J b.z,bO b.e,I .u32 (b.i:Int),bO b.r,I J b.d,sL ao m c]:=by
 intro j v hv;match j,hv with
 | 0,hv=>cases hv;exact h.c0
 | 1,hv=>cases hv;exact h.c1
 | 2,hv=>cases hv;exact h.c2
 | 3,hv=>cases hv;exact h.c3
 | 4,hv=>cases hv;exact h.c4
 | 5,hv=>cases hv;exact h.c5
 | 6,hv=>cases hv;exact h.c6
 | 7,hv=>cases hv;exact h.cs
 | j+8,hv=>simp at hv
def wrP (bx:List R8):Prop:=¬ ∀ k (h:k<bx.length),¬ onW bx[k]
theorem isSending_any (w:World) (C:Co) (s:Sl) (h:isR8s w s.a2 s.n2 s.k2 C.ho.bx) (hn:s.n2≤1000) :
  Calls Tp 143 #[aG (coL C s).toArray] w fun o w'=>retB o (wrP C.ho.bx)∧Below w.heap.size w w':=by
 have H0:Hid (ctS w w.heap.size C s (w.alloc (.cells (coL C s).toArray 41))):=ctS.new w C s
 have hcp:=h.cap
 have HL:Hid (s.n2=C.ho.bx.length):=h.len
 have HH:Hid (isR8s w s.a2 s.n2 s.k2 C.ho.bx):=h
 obtain⟨n2,e2⟩ : ∃ n2,s.n2=n2:=⟨_,rfl⟩
 obtain⟨a2,ea⟩ : ∃ a2,s.a2=a2:=⟨_,rfl⟩
 obtain⟨k2,ek⟩ : ∃ k2,s.k2=k2:=⟨_,rfl⟩
 obtain⟨bx,eb⟩ : ∃ bx,C.ho.bx=bx:=⟨_,rfl⟩
 have HY:Hid (∀ X,ctS w w.heap.size C s X→X.cell? ⟨w.heap.size,16,none⟩=some (sL a2 n2 k2)):=fun X hX=>by
  have:=hX.p.cell 16 (sL s.a2 s.n2 s.k2) rfl
  rw[e2,ea,ek] at this
  exact this
 rw[e2,ea,ek,eb] at HH
 rw[e2,eb] at HL
 rw[e2,ek] at hcp
 rw[e2] at hn
 rw[eb]
 have y16:=HY.out _ H0.out
 clear h e2 ea ek eb;go_enter Tryz.func143,Tryz.ntmps143
 generalize hW0:w.alloc (.cells (coL C s).toArray 41)=W0 at *;go_wp2_with fail;clear y16;go_loopw [9] (fun i wr=>∃ k:Nat,k≤n2∧i = I J (k:Int)∧(∀ j (hj:j<bx.length),j<k→¬ onW bx[j])∧Below w.heap.size w wr) (fun i _=>n2-(intOf i).toNat)
 case atStart=>exact⟨0,nZ _,rfl,fun j hj h=>absurd h (nN _),H0.out.b⟩
 case round=>
  obtain⟨k,hk,rfl,hA,hb⟩:=hrel
  have HB:Hid (Below w.heap.size w wr):=hb
  have HA:Hid (∀ j (hj:j<bx.length),j<k→¬ onW bx[j]):=hA
  clear hb hA H0;by_cases hlt:k<n2
  ·have hkl:k<bx.length:=by have:=HL.out;omega
   obtain⟨g,off,rfl,hc⟩:=HH.out.cells (by intro e;rw[e] at hkl;cases hkl)
   obtain⟨ao,m,c,hx⟩:=hc k hkl
   have HR:Hid (wr.rangeAt g (off+k*8) [I J bx[k].x,I J bx[k].y,I J bx[k].z,bO bx[k].e,I .u32 (bx[k].i:Int),bO bx[k].r,I J bx[k].d,sL ao m c]):=(hx.below HB.out).rg
   have HON:Hid (∀ W,Calls Tp 182 #[bxV bx[k].x bx[k].y bx[k].z bx[k].e bx[k].i bx[k].r bx[k].d ao m c] W fun o w'=>o = rT (bO (bx[k].x == 2 || bx[k].x == 3))∧Below W.heap.size W w'):=fun W=>isOnWire_any W bx[k] ao m c
   have HW:Hid (onW bx[k]↔(bx[k].x == 2 || bx[k].x == 3)=true):=by unfold Hid onW;simp
   have HNX:Hid (¬ onW bx[k]→∀ j (hj:j<bx.length),j<k+1→¬ onW bx[j]):=fun hx j hj hjk=>by
    by_cases e:j=k
    ·subst e;exact hx
    ·exact HA.out j hj (by omega)
   have HYS:Hid (onW bx[k]→wrP bx):=fun h hall=>hall k hkl h
   clear hc hx HA;generalize onW bx[k]=ON at *;generalize bx[k]=b at *;obtain⟨bX,bY,bZ,bE,bI,bR,bD,bl⟩:=b
   simp only[] at *
   have HZ:Hid (blk (wr.alloc (.cells ([I J 0,I J 0,I J 0,bO false,I .u32 0,bO false,I J 0,sL none 0 0]:List Value).toArray 166)) wr.heap.size ([I J 0,I J 0,I J 0,bO false,I .u32 0,bO false,I J 0,sL none 0 0]:List Value) 166∧Below wr.heap.size wr (wr.alloc (.cells ([I J 0,I J 0,I J 0,bO false,I .u32 0,bO false,I J 0,sL none 0 0]:List Value).toArray 166))):=⟨blk.new wr _ 166,(bW _ _).alloc (nR _) _⟩
   go_wp2_with (first
    | (refine lq166 (cs:=[I J bX,I J bY,I J bZ,bO bE,I .u32 (bI:Int),bO bR,I J bD,sL ao m c]) HR.out ?_)
    | (refine wpList_store_mid (P:=Tp) rfl 166 (.tmp 4) (.tmp 12) rfl wr.heap.size 0 #[I J bX,I J bY,I J bZ,bO bE,I .u32 (bI:Int),bO bR,I J bD,sL ao m c] rfl rfl (HZ.out.1.there 0 8 (by simp)) sz95 (one8 _ _ _ _ _ _ _ _ _ _) ?_;generalize hW6:World.setCells (wr.alloc _) wr.heap.size 0 _=w6;have HP6:Hid (blk w6 wr.heap.size [I J bX,I J bY,I J bZ,bO bE,I .u32 (bI:Int),bO bR,I J bD,sL ao m c] 166∧Below wr.heap.size wr w6):=(by rw[← hW6];exact⟨(by have:=blk.put [] ([I J 0,I J 0,I J 0,bO false,I .u32 0,bO false,I J 0,sL none 0 0]:List Value) [] [I J bX,I J bY,I J bZ,bO bE,I .u32 (bI:Int),bO bR,I J bD,sL ao m c] (w:=wr.alloc (.cells ([I J 0,I J 0,I J 0,bO false,I .u32 0,bO false,I J 0,sL none 0 0]:List Value).toArray 166)) (b:=wr.heap.size) (T:=166) (by simpa using HZ.out.1) rfl;simpa using this),sW (nR _) 0 _ HZ.out.2⟩);clear hW6 HZ)
    | (refine lq166 (cs:=[I J bX,I J bY,I J bZ,bO bE,I .u32 (bI:Int),bO bR,I J bD,sL ao m c]) HP6.out.1.load ?_))
   refine (HON.out _).mono ?_
   rintro o w7 ⟨rfl,hb7⟩;have HB7:Hid (Below w.heap.size w w7):=HB.out.trans ((HP6.out.2.trans (hb7.mono HP6.out.2.size)).mono HB.out.size)
   clear hb7 HP6 HON HR HB;have HWo:=HW
   generalize (bX == 2 || bX == 3)=q at *;cases q
   ·have HN:Hid (∀ j (hj:j<bx.length),j<k+1→¬ onW bx[j]):=HNX.out (fun h=>by have:=HW.out.1 h;simp at this)
    go_wp2_with fail;go_roundw
    case rel=>exact⟨k+1,by omega,by go_num,HN.out,HB7.out⟩
    case measure=>simp[intOf];omega
   ·go_wp2_with fail;go_ret;exact⟨⟨true,rfl,by simp;exact HYS.out (HW.out.2 trivial)⟩,HB7.out⟩
  ·have hkn:k=n2:=by omega
   subst hkn;go_wp2_with fail;go_ret;exact⟨⟨false,rfl,by simp only[Bool.false_eq_true,false_iff];exact fun h=>h (fun j hj=>HA.out j hj (by have:=HL.out;omega))⟩,HB.out⟩
end Go.Proofs.YtkfcfigbgmbaiaaGreat
