import Derived.Test.YtbllefckefhpoaaGreatK01
namespace Go.Proofs.YtbllefckefhpoaaGreat
open Go.RowKit
set_option maxHeartbeats 16000000
open Go.Value renaming int→I,slice→sL,bool→bO,pointer→pT,agg→aG
open Go.IntKind renaming i64→J
open Go.Ending renaming returned→rT
open Go.Proofs.Tryz renaming prog→Tp
set_option maxRecDepth 20000 in
theorem szFrameS_any (w:World) (a:Option Addr) (n cap:Nat) (bs:List R5) (h:isR5s w a n cap bs) (m:Nat) (hm:m≤1048576) (hn:n≤9223372036854775807) (hd:∀ j (h:j<bs.length),bs[j].l.length≤9223372036854775807) :
  Calls Tp 44 #[sL a n cap,I J (m:Int)] w fun o w'=>∃ z:Int,o = rT (I J z)∧Below w.heap.size w w'∧(z = -1∨∃ m':Nat,z=(m':Int)∧m'≤m∧n≤m∧∀ j (h:j<bs.length),bs[j].l.length≤m):=by
 have hlen:=h.len
 have hcp:=h.cap
 by_cases hnm:n≤m
 ·by_cases hl:bs=[]
  ·subst hl;have hn0:n=0:=hlen
   subst hn0;clear hlen h hd;go_enter Tryz.func44,Tryz.ntmps44
   go_wp2
   go_loopw [1,5] (fun lf i wr=>i = I J 0∧lf = I J (m:Int)∧wr=w) (fun _ _ _=>0)
   case atStart=>exact⟨rfl,rfl,rfl⟩
   case round=>
    obtain⟨rfl,rfl,rfl⟩:=hrel
    go_wp2
    go_ret;exact⟨_,rfl,Below.refl _ _,.inr ⟨m,rfl,Nat.le_refl _,by omega,fun j hj=>by cases hj⟩⟩
  ·obtain⟨g,off,rfl,hc⟩:=h.cells hl
   have HL:Hid (n=bs.length):=hlen
   have HC:Hid (∀ j (h:j<bs.length),∃ ao m c,at5 w g (off+j*5) bs[j] ao m c):=hc
   have HD:Hid (∀ j (h:j<bs.length),bs[j].l.length≤9223372036854775807):=hd
   have hnz:¬ (m:Int)-(n:Int)<0:=by omega
   clear h hlen hc hd;go_enter Tryz.func44,Tryz.ntmps44
   go_wp2
   go_loopw [1,5] (fun lf i wr=>∃ k m':Nat,k≤n∧i = I J (k:Int)∧lf = I J (m':Int)∧m'≤m∧Below w.heap.size w wr∧∀ j (hj:j<k) (h:j<bs.length),bs[j].l.length≤m) (fun _ i _=>n-(intOf i).toNat)
   case atStart=>exact⟨0,m-n,Nat.zero_le _,rfl,by go_num,by omega,Below.refl _ _,fun j hj=>absurd hj (Nat.not_lt_zero _)⟩
   case round=>
    obtain⟨k,m',hk,rfl,rfl,hm',hb,hdone⟩:=hrel
    by_cases hlt:k<n
    ·have hkl:k<bs.length:=by have:=HL.out;omega
     obtain⟨ao,m0,c0,hx⟩:=HC.out k hkl
     have hgz:=World.block_lt_of_cell? w _ hx.c0
     have cx0:=(hb.cell (by exact hgz)).trans hx.c0
     have cx1:=(hb.cell (by exact hgz)).trans hx.c1
     have cx2:=(hb.cell (by exact hgz)).trans hx.c2
     have cx3:=(hb.cell (by exact hgz)).trans hx.c3
     have cxs:=(hb.cell (by exact hgz)).trans hx.cs
     have hm0:m0≤9223372036854775807:=by have:=HD.out k hkl;have:=hx.dat.len;omega
     have HM:Hid (m0=bs[k].l.length):=hx.dat.len
     have HB:Hid (Below w.heap.size w wr):=hb
     have HDN:Hid (∀ j (hj:j<k) (h:j<bs.length),bs[j].l.length≤m):=hdone
     clear hx hb hdone;generalize hBe:bs[k].e=ge at *;generalize hBi:bs[k].i=gi at *;generalize hBr:bs[k].r=gr at *;generalize hBd:bs[k].d=gd at *;clear hBe hBi hBr hBd;by_cases hle:(m0:Int)≤(m':Int)
     ·have HE:Hid (∀ W,Calls Tp 95 #[frV ge gi gr gd ao m0 c0,I J (m':Int)] W fun o w'=>o = rT (I J ((m':Int)-(m0:Int)))∧W.alloc (frC ge gi gr gd ao m0 c0 163)=w'):=by
       intro W;have:=szFrame_any W ge gi gr gd ao m0 c0 m' hm0 (by omega);rw[if_pos hle] at this;exact this
      have hnz2:¬ (m':Int)-(m0:Int)<0:=by omega
      go_wp2_with (first | (go_at_call 95;refine (HE.out _).mono ?_;rintro o w5 ⟨rfl,rfl⟩))
      go_roundw
      case rel=>
       refine⟨k+1,m'-m0,by omega,by go_num,by go_num,by omega,HB.out.trans (((Below.refl _ _).alloc (Nat.le_refl _) _).mono HB.out.size),fun j hj hjl=>?_⟩
       by_cases e:j=k
       ·subst e;have:=HM.out;omega
       ·exact HDN.out j (by omega) hjl
      case measure=>simp[intOf];omega
     ·have HE:Hid (∀ W,Calls Tp 95 #[frV ge gi gr gd ao m0 c0,I J (m':Int)] W fun o w'=>o = rT (I J (-1))∧W.alloc (frC ge gi gr gd ao m0 c0 163)=w'):=by
       intro W;have:=szFrame_any W ge gi gr gd ao m0 c0 m' hm0 (by omega);rw[if_neg hle] at this;exact this
      go_wp2_with (first | (go_at_call 95;refine (HE.out _).mono ?_;rintro o w5 ⟨rfl,rfl⟩))
      go_ret;exact⟨-1,rfl,HB.out.trans (((Below.refl _ _).alloc (Nat.le_refl _) _).mono HB.out.size),.inl rfl⟩
    ·go_wp2
     go_ret;exact⟨_,rfl,hb,.inr ⟨m',rfl,hm',hnm,fun j hj=>hdone j (by have:=HL.out;omega) hj⟩⟩
 ·have hneg:(m:Int)-(n:Int)<0:=by omega
  have hd2:decide ((m:Int)-(n:Int)<0)=true:=by simpa using hneg
  clear h hd hlen;go_enter Tryz.func44,Tryz.ntmps44
  go_wp2
  go_ret;exact⟨-1,rfl,Below.refl _ _,.inl rfl⟩
set_option maxRecDepth 20000 in
theorem szBoxS_any (w:World) (a:Option Addr) (n cap:Nat) (bs:List R8) (h:isR8s w a n cap bs) (m:Nat) (hm:m≤1048576) (hn:n≤9223372036854775807) (hd:∀ j (h:j<bs.length),bs[j].l.length≤9223372036854775807) :
  Calls Tp 43 #[sL a n cap,I J (m:Int)] w fun o w'=>∃ z:Int,o = rT (I J z)∧Below w.heap.size w w'∧(z = -1∨∃ m':Nat,z=(m':Int)∧m'≤m∧n≤m∧∀ j (h:j<bs.length),bs[j].l.length≤m):=by
 have hlen:=h.len
 have hcp:=h.cap
 by_cases hnm:n≤m
 ·by_cases hl:bs=[]
  ·subst hl;have hn0:n=0:=hlen
   subst hn0;clear hlen h hd;go_enter Tryz.func43,Tryz.ntmps43
   go_wp2
   go_loopw [1,5] (fun lf i wr=>i = I J 0∧lf = I J (m:Int)∧wr=w) (fun _ _ _=>0)
   case atStart=>exact⟨rfl,rfl,rfl⟩
   case round=>
    obtain⟨rfl,rfl,rfl⟩:=hrel
    go_wp2
    go_ret;exact⟨_,rfl,Below.refl _ _,.inr ⟨m,rfl,Nat.le_refl _,by omega,fun j hj=>by cases hj⟩⟩
  ·obtain⟨g,off,rfl,hc⟩:=h.cells hl
   have HL:Hid (n=bs.length):=hlen
   have HC:Hid (∀ j (h:j<bs.length),∃ ao m c,at8 w g (off+j*8) bs[j] ao m c):=hc
   have HD:Hid (∀ j (h:j<bs.length),bs[j].l.length≤9223372036854775807):=hd
   have hnz:¬ (m:Int)-(n:Int)<0:=by omega
   clear h hlen hc hd;go_enter Tryz.func43,Tryz.ntmps43
   go_wp2
   go_loopw [1,5] (fun lf i wr=>∃ k m':Nat,k≤n∧i = I J (k:Int)∧lf = I J (m':Int)∧m'≤m∧Below w.heap.size w wr∧∀ j (hj:j<k) (h:j<bs.length),bs[j].l.length≤m) (fun _ i _=>n-(intOf i).toNat)
   case atStart=>exact⟨0,m-n,Nat.zero_le _,rfl,by go_num,by omega,Below.refl _ _,fun j hj=>absurd hj (Nat.not_lt_zero _)⟩
   case round=>
    obtain⟨k,m',hk,rfl,rfl,hm',hb,hdone⟩:=hrel
    by_cases hlt:k<n
    ·have hkl:k<bs.length:=by have:=HL.out;omega
     obtain⟨ao,m0,c0,hx⟩:=HC.out k hkl
     have hgz:=World.block_lt_of_cell? w _ hx.c0
     have cx0:=(hb.cell (by exact hgz)).trans hx.c0
     have cx1:=(hb.cell (by exact hgz)).trans hx.c1
     have cx2:=(hb.cell (by exact hgz)).trans hx.c2
     have cx3:=(hb.cell (by exact hgz)).trans hx.c3
     have cx4:=(hb.cell (by exact hgz)).trans hx.c4
     have cx5:=(hb.cell (by exact hgz)).trans hx.c5
     have cx6:=(hb.cell (by exact hgz)).trans hx.c6
     have cxs:=(hb.cell (by exact hgz)).trans hx.cs
     have hm0:m0≤9223372036854775807:=by have:=HD.out k hkl;have:=hx.dat.len;omega
     have HM:Hid (m0=bs[k].l.length):=hx.dat.len
     have HB:Hid (Below w.heap.size w wr):=hb
     have HDN:Hid (∀ j (hj:j<k) (h:j<bs.length),bs[j].l.length≤m):=hdone
     clear hx hb hdone;generalize hBx:bs[k].x=gx at *;generalize hBy:bs[k].y=gy at *;generalize hBz:bs[k].z=gz at *;generalize hBe:bs[k].e=ge at *;generalize hBi:bs[k].i=gi at *;generalize hBr:bs[k].r=gr at *;generalize hBd:bs[k].d=gd at *;clear hBx hBy hBz hBe hBi hBr hBd;by_cases hle:(m0:Int)≤(m':Int)
     ·have HE:Hid (∀ W,Calls Tp 94 #[bxV gx gy gz ge gi gr gd ao m0 c0,I J (m':Int)] W fun o w'=>o = rT (I J ((m':Int)-(m0:Int)))∧Below W.heap.size W w'):=by
       intro W;have:=szBox_any W gx gy gz ge gi gr gd ao m0 c0 m' hm0 (by omega);rw[if_pos hle] at this;exact this
      have hnz2:¬ (m':Int)-(m0:Int)<0:=by omega
      go_wp2_with (first | (go_at_call 94;refine (HE.out _).mono ?_;rintro o w5 ⟨rfl,hb5⟩))
      go_roundw
      case rel=>
       refine⟨k+1,m'-m0,by omega,by go_num,by go_num,by omega,HB.out.trans (hb5.mono HB.out.size),fun j hj hjl=>?_⟩
       by_cases e:j=k
       ·subst e;have:=HM.out;omega
       ·exact HDN.out j (by omega) hjl
      case measure=>simp[intOf];omega
     ·have HE:Hid (∀ W,Calls Tp 94 #[bxV gx gy gz ge gi gr gd ao m0 c0,I J (m':Int)] W fun o w'=>o = rT (I J (-1))∧Below W.heap.size W w'):=by
       intro W;have:=szBox_any W gx gy gz ge gi gr gd ao m0 c0 m' hm0 (by omega);rw[if_neg hle] at this;exact this
      go_wp2_with (first | (go_at_call 94;refine (HE.out _).mono ?_;rintro o w5 ⟨rfl,hb5⟩))
      go_ret;exact⟨-1,rfl,HB.out.trans (hb5.mono HB.out.size),.inl rfl⟩
    ·go_wp2
     go_ret;exact⟨_,rfl,hb,.inr ⟨m',rfl,hm',hnm,fun j hj=>hdone j (by have:=HL.out;omega) hj⟩⟩
 ·have hneg:(m:Int)-(n:Int)<0:=by omega
  have hd2:decide ((m:Int)-(n:Int)<0)=true:=by simpa using hneg
  clear h hd hlen;go_enter Tryz.func43,Tryz.ntmps43
  go_wp2
  go_ret;exact⟨-1,rfl,Below.refl _ _,.inl rfl⟩
set_option maxRecDepth 20000 in
theorem szEventS_any (w:World) (a:Option Addr) (n cap:Nat) (bs:List R8) (h:isR8s w a n cap bs) (m:Nat) (hm:m≤1048576) (hn:n≤9223372036854775807) (hd:∀ j (h:j<bs.length),bs[j].l.length≤9223372036854775807) :
  Calls Tp 45 #[sL a n cap,I J (m:Int)] w fun o w'=>∃ z:Int,o = rT (I J z)∧Below w.heap.size w w'∧(z = -1∨∃ m':Nat,z=(m':Int)∧m'≤m∧n≤m∧∀ j (h:j<bs.length),bs[j].l.length≤m):=by
 have hlen:=h.len
 have hcp:=h.cap
 by_cases hnm:n≤m
 ·by_cases hl:bs=[]
  ·subst hl;have hn0:n=0:=hlen
   subst hn0;clear hlen h hd;go_enter Tryz.func45,Tryz.ntmps45
   go_wp2
   go_loopw [1,5] (fun lf i wr=>i = I J 0∧lf = I J (m:Int)∧wr=w) (fun _ _ _=>0)
   case atStart=>exact⟨rfl,rfl,rfl⟩
   case round=>
    obtain⟨rfl,rfl,rfl⟩:=hrel
    go_wp2
    go_ret;exact⟨_,rfl,Below.refl _ _,.inr ⟨m,rfl,Nat.le_refl _,by omega,fun j hj=>by cases hj⟩⟩
  ·obtain⟨g,off,rfl,hc⟩:=h.cells hl
   have HL:Hid (n=bs.length):=hlen
   have HC:Hid (∀ j (h:j<bs.length),∃ ao m c,at8 w g (off+j*8) bs[j] ao m c):=hc
   have HD:Hid (∀ j (h:j<bs.length),bs[j].l.length≤9223372036854775807):=hd
   have hnz:¬ (m:Int)-(n:Int)<0:=by omega
   clear h hlen hc hd;go_enter Tryz.func45,Tryz.ntmps45
   go_wp2
   go_loopw [1,5] (fun lf i wr=>∃ k m':Nat,k≤n∧i = I J (k:Int)∧lf = I J (m':Int)∧m'≤m∧Below w.heap.size w wr∧∀ j (hj:j<k) (h:j<bs.length),bs[j].l.length≤m) (fun _ i _=>n-(intOf i).toNat)
   case atStart=>exact⟨0,m-n,Nat.zero_le _,rfl,by go_num,by omega,Below.refl _ _,fun j hj=>absurd hj (Nat.not_lt_zero _)⟩
   case round=>
    obtain⟨k,m',hk,rfl,rfl,hm',hb,hdone⟩:=hrel
    by_cases hlt:k<n
    ·have hkl:k<bs.length:=by have:=HL.out;omega
     obtain⟨ao,m0,c0,hx⟩:=HC.out k hkl
     have hgz:=World.block_lt_of_cell? w _ hx.c0
     have cx0:=(hb.cell (by exact hgz)).trans hx.c0
     have cx1:=(hb.cell (by exact hgz)).trans hx.c1
     have cx2:=(hb.cell (by exact hgz)).trans hx.c2
     have cx3:=(hb.cell (by exact hgz)).trans hx.c3
     have cx4:=(hb.cell (by exact hgz)).trans hx.c4
     have cx5:=(hb.cell (by exact hgz)).trans hx.c5
     have cx6:=(hb.cell (by exact hgz)).trans hx.c6
     have cxs:=(hb.cell (by exact hgz)).trans hx.cs
     have hm0:m0≤9223372036854775807:=by have:=HD.out k hkl;have:=hx.dat.len;omega
     have HM:Hid (m0=bs[k].l.length):=hx.dat.len
     have HB:Hid (Below w.heap.size w wr):=hb
     have HDN:Hid (∀ j (hj:j<k) (h:j<bs.length),bs[j].l.length≤m):=hdone
     clear hx hb hdone;generalize hBx:bs[k].x=gx at *;generalize hBy:bs[k].y=gy at *;generalize hBz:bs[k].z=gz at *;generalize hBe:bs[k].e=ge at *;generalize hBi:bs[k].i=gi at *;generalize hBr:bs[k].r=gr at *;generalize hBd:bs[k].d=gd at *;clear hBx hBy hBz hBe hBi hBr hBd;by_cases hle:(m0:Int)≤(m':Int)
     ·have HE:Hid (∀ W,Calls Tp 96 #[bxV gx gy gz ge gi gr gd ao m0 c0,I J (m':Int)] W fun o w'=>o = rT (I J ((m':Int)-(m0:Int)))∧Below W.heap.size W w'):=by
       intro W;have:=szEvent_any W gx gy gz ge gi gr gd ao m0 c0 m' hm0 (by omega);rw[if_pos hle] at this;exact this
      have hnz2:¬ (m':Int)-(m0:Int)<0:=by omega
      go_wp2_with (first | (go_at_call 96;refine (HE.out _).mono ?_;rintro o w5 ⟨rfl,hb5⟩))
      go_roundw
      case rel=>
       refine⟨k+1,m'-m0,by omega,by go_num,by go_num,by omega,HB.out.trans (hb5.mono HB.out.size),fun j hj hjl=>?_⟩
       by_cases e:j=k
       ·subst e;have:=HM.out;omega
       ·exact HDN.out j (by omega) hjl
      case measure=>simp[intOf];omega
     ·have HE:Hid (∀ W,Calls Tp 96 #[bxV gx gy gz ge gi gr gd ao m0 c0,I J (m':Int)] W fun o w'=>o = rT (I J (-1))∧Below W.heap.size W w'):=by
       intro W;have:=szEvent_any W gx gy gz ge gi gr gd ao m0 c0 m' hm0 (by omega);rw[if_neg hle] at this;exact this
      go_wp2_with (first | (go_at_call 96;refine (HE.out _).mono ?_;rintro o w5 ⟨rfl,hb5⟩))
      go_ret;exact⟨-1,rfl,HB.out.trans (hb5.mono HB.out.size),.inl rfl⟩
    ·go_wp2
     go_ret;exact⟨_,rfl,hb,.inr ⟨m',rfl,hm',hnm,fun j hj=>hdone j (by have:=HL.out;omega) hj⟩⟩
 ·have hneg:(m:Int)-(n:Int)<0:=by omega
  have hd2:decide ((m:Int)-(n:Int)<0)=true:=by simpa using hneg
  clear h hd hlen;go_enter Tryz.func45,Tryz.ntmps45
  go_wp2
  go_ret;exact⟨-1,rfl,Below.refl _ _,.inl rfl⟩
theorem szFilterS_any (w:World) (a:Option Addr) (n cap:Nat) (m:Nat) (hn:n≤9223372036854775807) (hm:m≤1048576) :
  Calls Tp 42 #[sL a n cap,I J m] w fun o w'=>o = rT (I J (if (n:Int)≤(m:Int) then (m:Int)-(n:Int) else -1))∧w=w':=by
 by_cases h:(n:Int)≤(m:Int)
 ·rw[if_pos h]
  go_enter Tryz.func42,Tryz.ntmps42
  go_wp2
  go_ret;exact⟨rfl,rfl⟩
 ·rw[if_neg h]
  go_enter Tryz.func42,Tryz.ntmps42
  go_wp2
  go_ret;exact⟨rfl,rfl⟩
set_option linter.unusedVariables false
abbrev Hd:=Option Addr × Nat × Nat
def hd (W:World) (g:Nat) (h:Hd):Prop:=h.2.1≤1048576∧h.2.1≤h.2.2∧((h.1=none∧h.2.1=0)∨∃ b,h.1=some ⟨b,0,none⟩∧b≠g∧rowF W b h.2.1)
theorem hd.up {W W':World} {g:Nat} {h:Hd} (H:hd W g h) (hr:∀ x N,rowF W x N→rowF W' x N):hd W' g h:=by
 obtain⟨h1,h2,h3⟩:=H
 refine⟨h1,h2,?_⟩
 rcases h3 with h3|⟨b,e,hn,hf⟩
 ·exact Or.inl h3
 ·exact Or.inr ⟨b,e,hn,hr _ _ hf⟩
def dst (hs:Nat→Hd) (n:Nat):Prop:=∀ i j,i<j→j<n→∀ b,(hs i).1=some ⟨b,0,none⟩→(hs j).1≠some ⟨b,0,none⟩
def abv (B:Nat) (hs:Nat→Hd) (n:Nat):Prop:=∀ j,j<n→∀ b,(hs j).1=some ⟨b,0,none⟩→B≤b
theorem markHd (B:Nat) (W:World) (g:Nat) (a:Option Addr) (m cc C:Nat) (H:hd W g (a,m,cc)) (hB:∀ b,a=some ⟨b,0,none⟩→B≤b) (hC:C≤10000000000000000) :
  Calls Tp 145 #[sL a m cc,I J (C:Int)] W fun o w'=>o = rT (I J ((C+m:Nat):Int))∧(∀ b,a=some ⟨b,0,none⟩→mkB w' b m C)∧(∀ x N,rowF W x N→rowF w' x N)∧(∀ x,a≠some ⟨x,0,none⟩→w'.heap[x]?=W.heap[x]?)∧w'.heap.size=W.heap.size∧Below B W w':=by
 obtain⟨h1,h2,⟨e,hm⟩|⟨b,e,hn,hf⟩⟩:=H
 ·simp only at e hm
  subst e;subst hm;refine (markByte_none W cc C).mono ?_
  rintro o w' ⟨rfl,rfl⟩;exact⟨rfl,fun b hb=>absurd hb (by simp),fun _ _ h=>h,fun _ _=>rfl,rfl,Below.refl _ _⟩
 ·simp only at e hf h1 h2
  subst e;refine (markByteS_any W b m cc C hf h2 h1 hC).mono ?_
  rintro o w' ⟨rfl,q1,q2,q3,q4,q5⟩;exact⟨rfl,fun b' hb=>by cases hb;exact q1,q2,fun x hx=>q3 x (fun e=>hx (by rw[e])),q4,q5.mono (hB b rfl)⟩
theorem heldHd (W:World) (g:Nat) (a:Option Addr) (m cc C:Nat) (H:hd W g (a,m,cc)) (hk:∀ b,a=some ⟨b,0,none⟩→mkB W b m C) (hC:C≤10000000000000000) :
  Calls Tp 146 #[sL a m cc,I J (C:Int)] W fun o w'=>o = rT (I J ((C+m:Nat):Int))∧w'=W:=by
 obtain⟨h1,h2,⟨e,hm⟩|⟨b,e,hn,hf⟩⟩:=H
 ·simp only at e hm
  subst e;subst hm;exact (heldByte_none W cc C)
 ·simp only at e hf h1 h2
  subst e;exact heldByteS_any W b m cc C (hk b rfl) h2 h1 hC
structure sh8 (W:World) (g n:Nat) (hs:Nat→Hd):Prop where
 row:rowF W g (n*8)
 dat:∀ j,j<n→W.cell? ⟨g,j*8+7,none⟩=some (sL (hs j).1 (hs j).2.1 (hs j).2.2)∧hd W g (hs j)
def cn8 (c:Nat) (hs:Nat→Hd):Nat→Nat
 | 0=>c
 | j+1=>cn8 c hs j+7+(hs j).2.1
theorem cn8_le (c n:Nat) (hs:Nat→Hd) (h:∀ j,j<n→(hs j).2.1≤1048576):∀ j,j≤n→cn8 c hs j≤c+j*1048583:=by
 intro j;induction j with
 | zero=>intro _;exact Nat.le_refl _
 | succ j ih=>
  intro hj;have h1:=ih (by omega)
  have h2:=h j (by omega)
  simp only[cn8]
  omega
def m8w (C:Nat):List Value:=[Value.int .i64 (C:Int),Value.int .i64 ((C:Int)+1),Value.int .i64 ((C:Int)+1+1),Value.bool ((C:Int) % 3 == 0),Value.int .u32 (((C:Int)+1+1+1+1) % 4294967296),Value.bool (((C:Int)+5) % 3 == 0),Value.int .i64 ((C:Int)+1+1+1+1+1+1)]
structure mk8 (W:World) (g o C:Nat) (h:Hd):Prop where
 row:∀ t (ht:t<7),W.cell? ⟨g,o+t,none⟩=some ((m8w C)[t]'(by simpa[m8w] using ht))
 dat:∀ b,h.1=some ⟨b,0,none⟩→mkB W b h.2.1 (C+7)
theorem mk8.up {W W':World} {g o C:Nat} {h:Hd} (H:mk8 W g o C h) (hg:W'.heap[g]?=W.heap[g]?) (hb:∀ b,h.1=some ⟨b,0,none⟩→W'.heap[b]?=W.heap[b]?):mk8 W' g o C h:=
 ⟨fun t ht=>cell_up (H.row t ht) hg,fun b e t ht=>cell_up (H.dat b e t ht) (hb b e)⟩
theorem sh8.up {W W':World} {g n:Nat} {hs:Nat→Hd} (H:sh8 W g n hs) (hg:W'.heap[g]?=W.heap[g]?) (hr:∀ x N,rowF W x N→rowF W' x N):sh8 W' g n hs:=
 ⟨H.row.up hg,fun j hj=>⟨cell_up (H.dat j hj).1 hg,(H.dat j hj).2.up hr⟩⟩
structure sh5 (W:World) (g n:Nat) (hs:Nat→Hd):Prop where
 row:rowF W g (n*5)
 dat:∀ j,j<n→W.cell? ⟨g,j*5+4,none⟩=some (sL (hs j).1 (hs j).2.1 (hs j).2.2)∧hd W g (hs j)
def cn5 (c:Nat) (hs:Nat→Hd):Nat→Nat
 | 0=>c
 | j+1=>cn5 c hs j+4+(hs j).2.1
theorem cn5_le (c n:Nat) (hs:Nat→Hd) (h:∀ j,j<n→(hs j).2.1≤1048576):∀ j,j≤n→cn5 c hs j≤c+j*1048583:=by
 intro j;induction j with
 | zero=>intro _;exact Nat.le_refl _
 | succ j ih=>
  intro hj;have h1:=ih (by omega)
  have h2:=h j (by omega)
  simp only[cn5]
  omega
def m5w (C:Nat):List Value:=[Value.bool ((C:Int) % 3 == 0),Value.int .u32 (((C:Int)+1) % 4294967296),Value.bool (((C:Int)+2) % 3 == 0),Value.int .i64 ((C:Int)+1+1+1)]
structure mk5 (W:World) (g o C:Nat) (h:Hd):Prop where
 row:∀ t (ht:t<4),W.cell? ⟨g,o+t,none⟩=some ((m5w C)[t]'(by simpa[m5w] using ht))
 dat:∀ b,h.1=some ⟨b,0,none⟩→mkB W b h.2.1 (C+4)
theorem mk5.up {W W':World} {g o C:Nat} {h:Hd} (H:mk5 W g o C h) (hg:W'.heap[g]?=W.heap[g]?) (hb:∀ b,h.1=some ⟨b,0,none⟩→W'.heap[b]?=W.heap[b]?):mk5 W' g o C h:=
 ⟨fun t ht=>cell_up (H.row t ht) hg,fun b e t ht=>cell_up (H.dat b e t ht) (hb b e)⟩
theorem sh5.up {W W':World} {g n:Nat} {hs:Nat→Hd} (H:sh5 W g n hs) (hg:W'.heap[g]?=W.heap[g]?) (hr:∀ x N,rowF W x N→rowF W' x N):sh5 W' g n hs:=
 ⟨H.row.up hg,fun j hj=>⟨cell_up (H.dat j hj).1 hg,(H.dat j hj).2.up hr⟩⟩
set_option maxRecDepth 20000 in
theorem markBoxS_gen (B:Nat) (w:World) (g n cap c:Nat) (hs:Nat→Hd) (h:sh8 w g n hs) (hcp:n≤cap) (hn:n≤1048576) (hc:c≤20000000000000) (hB:B≤g) (hB2:abv B hs n) :
  Calls Tp 87 #[sL (some ⟨g,0,none⟩) n cap,I J (c:Int)] w fun o w'=>o = rT (I J (cn8 c hs n:Int))∧(dst hs n→∀ j,j<n→mk8 w' g (j*8) (cn8 c hs j) (hs j))∧sh8 w' g n hs∧(∀ x N,rowF w x N→rowF w' x N)∧(∀ x,x≠g→(∀ j,j<n→(hs j).1≠some ⟨x,0,none⟩)→w'.heap[x]?=w.heap[x]?)∧w'.heap.size=w.heap.size∧Below B w w':=by
 have HSH:Hid (sh8 w g n hs):=h
 have HB2:Hid (abv B hs n):=hB2
 have HLE:Hid (∀ j,j≤n→cn8 c hs j≤c+j*1048583):=cn8_le c n hs (fun j hj=>(h.dat j hj).2.1)
 clear h hB2;go_enter Tryz.func87,Tryz.ntmps87
 go_wp2
 go_loopw [1,5] (fun kk i wr=>∃ k:Nat,k≤n∧i = I J (k:Int)∧kk = I J (cn8 c hs k:Int)∧(dst hs n→∀ j,j<k→mk8 wr g (j*8) (cn8 c hs j) (hs j))∧sh8 wr g n hs∧(∀ x N,rowF w x N→rowF wr x N)∧(∀ x,x≠g→(∀ j,j<n→(hs j).1≠some ⟨x,0,none⟩)→wr.heap[x]?=w.heap[x]?)∧wr.heap.size=w.heap.size∧Below B w wr) (fun _ i _=>n-(intOf i).toNat)
 case atStart=>exact⟨0,Nat.zero_le _,rfl,rfl,fun _ j hj=>absurd hj (Nat.not_lt_zero _),HSH.out,fun _ _ h=>h,fun _ _ _=>rfl,rfl,Below.refl _ _⟩
 case round=>
  obtain⟨k,hk,rfl,rfl,hdone,hsh,hrow,hoth,hsz,hb⟩:=hrel
  by_cases hlt:k<n
  ·have hkn:k*8+8≤n*8:=by omega
   obtain⟨⟨v0,z0⟩,f0⟩:=hsh.row (k*8) (by omega)
   obtain⟨⟨v1,z1⟩,f1⟩:=hsh.row (k*8+1) (by omega)
   obtain⟨⟨v2,z2⟩,f2⟩:=hsh.row (k*8+2) (by omega)
   obtain⟨⟨v3,z3⟩,f3⟩:=hsh.row (k*8+3) (by omega)
   obtain⟨⟨v4,z4⟩,f4⟩:=hsh.row (k*8+4) (by omega)
   obtain⟨⟨v5,z5⟩,f5⟩:=hsh.row (k*8+5) (by omega)
   obtain⟨⟨v6,z6⟩,f6⟩:=hsh.row (k*8+6) (by omega)
   obtain⟨zd,hh⟩:=hsh.dat k hlt
   have HD:Hid ((dst hs n→∀ j,j<k→mk8 wr g (j*8) (cn8 c hs j) (hs j))∧sh8 wr g n hs∧(∀ x N,rowF w x N→rowF wr x N)∧(∀ x,x≠g→(∀ j,j<n→(hs j).1≠some ⟨x,0,none⟩)→wr.heap[x]?=w.heap[x]?)∧wr.heap.size=w.heap.size∧Below B w wr):=⟨hdone,hsh,hrow,hoth,hsz,hb⟩
   clear hdone hsh hrow hoth hsz hb;have HCN:Hid (cn8 c hs (k+1)=cn8 c hs k+7+(hs k).2.1):=rfl
   have hC1:cn8 c hs k≤30000000000000:=by have:=HLE.out k hk;omega
   generalize hC:cn8 c hs k=C at *;have HC:Hid (cn8 c hs k=C):=hC
   clear hC;have HAB:Hid (∀ b,(hs k).1=some ⟨b,0,none⟩→B≤b):=HB2.out k hlt
   obtain⟨t,ht⟩ : ∃ t,hs k=t:=⟨_,rfl⟩
   have HT:Hid (hs k=t):=ht
   rw[ht] at zd hh HCN HAB
   clear ht;obtain⟨a,m,cc⟩:=t
   simp only at zd
   have hm:m≤1048576:=hh.1
   have e3:((C:Int)+1+1+1).tmod 3=(((C+3) % 3:Nat):Int):=by rw[Int.tmod_eq_emod_of_nonneg (by omega)];omega
   have e5:((C:Int)+1+1+1+1+1).tmod 3=(((C+5) % 3:Nat):Int):=by rw[Int.tmod_eq_emod_of_nonneg (by omega)];omega
   have HBY:Hid (∀ W,(∀ x N,rowF wr x N→rowF W x N)→Calls Tp 145 #[sL a m cc,I J ((C:Int)+1+1+1+1+1+1+1)] W fun o w'=>o = rT (I J ((C+7+m:Nat):Int))∧(∀ b,a=some ⟨b,0,none⟩→mkB w' b m (C+7))∧(∀ x N,rowF W x N→rowF w' x N)∧(∀ x,a≠some ⟨x,0,none⟩→w'.heap[x]?=W.heap[x]?)∧w'.heap.size=W.heap.size∧Below B W w'):=fun W hW=>by
    have:=markHd B W g a m cc (C+7) (hh.up hW) HAB.out (by omega)
    have e:(((C+7:Nat)):Int)=(C:Int)+1+1+1+1+1+1+1:=by omega
    rw[e] at this
    exact this
   have HH:Hid (hd wr g (a,m,cc)):=hh
   clear hh;go_wp2_with (first | (go_at_call 145;refine (HBY.out _ (fun x N h=>h.setRow g (m8w C) wr (k*8))).mono ?_;rintro o w5 ⟨rfl,q1,q2,q3,q4,q5⟩;have HQ:Hid ((∀ b,a=some ⟨b,0,none⟩→mkB w5 b m (C+7))∧(∀ x N,rowF (setRow wr g (k*8) (m8w C)) x N→rowF w5 x N)∧(∀ x,a≠some ⟨x,0,none⟩→w5.heap[x]?=(setRow wr g (k*8) (m8w C)).heap[x]?)∧w5.heap.size=(setRow wr g (k*8) (m8w C)).heap.size∧Below B (setRow wr g (k*8) (m8w C)) w5):=⟨q1,q2,q3,q4,q5⟩;clear q1 q2 q3 q4 q5))
   obtain⟨q1,q2,q3,q4,q5⟩:=HQ.out
   obtain⟨r1,r0,r2,r3,r4,r5⟩:=HD.out
   have hT:=HT.out
   have hC:=HC.out
   have hl:(m8w C).length=7:=rfl
   have hag:a≠some ⟨g,0,none⟩:=by
    rcases HH.out.2.2 with⟨e,_⟩|⟨b,e,hne,_⟩
    ·intro h;rw[h] at e;cases e
    ·intro h;rw[h] at e;cases e;exact hne rfl
   have hgb:=q3 g hag
   have hrf:∀ x N,rowF wr x N→rowF w5 x N:=fun x N h=>q2 x N (h.setRow g (m8w C) wr (k*8))
   refine⟨⟨k+1,by omega,by go_num,by rw[HCN.out];congr 1,fun hd j hj=>?_,⟨hrf _ _ r0.row,fun j hj=>⟨cell_up ((setRow_other g (m8w C) wr (k*8) (j*8+7) (by omega)).trans (r0.dat j hj).1) hgb,(r0.dat j hj).2.up hrf⟩⟩,fun x N h=>hrf x N (r2 x N h),fun x hx hj=>(q3 x (by have:=hj k hlt;rw[hT] at this;exact this)).trans ((setRow_block g x hx (m8w C) wr (k*8)).trans (r3 x hx hj)),by rw[q4,setRow_size];exact r4,(setRow_below g B hB w (m8w C) wr (k*8) r5).trans q5⟩,by simp[intOf];omega⟩
   by_cases e:j=k
   ·subst e;rw[hT,hC]
    exact⟨fun t ht=>cell_up (setRow_at g (m8w C) wr (j*8) t (by omega) (r0.row (j*8+t) (by omega)).1) hgb,fun b hb=>q1 b hb⟩
   ·have hj':j<k:=by omega
    have H0:=r1 hd j hj'
    refine⟨fun t ht=>cell_up ((setRow_other g (m8w C) wr (k*8) (j*8+t) (by omega)).trans (H0.row t ht)) hgb,fun b hb t ht=>cell_up (H0.dat b hb t ht) ?_⟩
    have hbg:b≠g:=by
     rcases (r0.dat j (by omega)).2.2.2 with⟨e,_⟩|⟨b',e,hne,_⟩
     ·rw[hb] at e;cases e
     ·rw[hb] at e;cases e;exact hne
    have hba:a≠some ⟨b,0,none⟩:=by
     have:=hd j k hj' hlt b hb
     rw[hT] at this
     exact this
    exact (q3 b hba).trans (setRow_block g b hbg (m8w C) wr (k*8))
  ·have hkn:k=n:=by omega
   subst hkn;go_wp2
   go_ret;exact⟨rfl,hdone,hsh,hrow,hoth,hsz,hb⟩
set_option maxRecDepth 20000 in
theorem markEventS_gen (B:Nat) (w:World) (g n cap c:Nat) (hs:Nat→Hd) (h:sh8 w g n hs) (hcp:n≤cap) (hn:n≤1048576) (hc:c≤20000000000000) (hB:B≤g) (hB2:abv B hs n) :
  Calls Tp 89 #[sL (some ⟨g,0,none⟩) n cap,I J (c:Int)] w fun o w'=>o = rT (I J (cn8 c hs n:Int))∧(dst hs n→∀ j,j<n→mk8 w' g (j*8) (cn8 c hs j) (hs j))∧sh8 w' g n hs∧(∀ x N,rowF w x N→rowF w' x N)∧(∀ x,x≠g→(∀ j,j<n→(hs j).1≠some ⟨x,0,none⟩)→w'.heap[x]?=w.heap[x]?)∧w'.heap.size=w.heap.size∧Below B w w':=by
 have HSH:Hid (sh8 w g n hs):=h
 have HB2:Hid (abv B hs n):=hB2
 have HLE:Hid (∀ j,j≤n→cn8 c hs j≤c+j*1048583):=cn8_le c n hs (fun j hj=>(h.dat j hj).2.1)
 clear h hB2;go_enter Tryz.func89,Tryz.ntmps89
 go_wp2
 go_loopw [1,5] (fun kk i wr=>∃ k:Nat,k≤n∧i = I J (k:Int)∧kk = I J (cn8 c hs k:Int)∧(dst hs n→∀ j,j<k→mk8 wr g (j*8) (cn8 c hs j) (hs j))∧sh8 wr g n hs∧(∀ x N,rowF w x N→rowF wr x N)∧(∀ x,x≠g→(∀ j,j<n→(hs j).1≠some ⟨x,0,none⟩)→wr.heap[x]?=w.heap[x]?)∧wr.heap.size=w.heap.size∧Below B w wr) (fun _ i _=>n-(intOf i).toNat)
 case atStart=>exact⟨0,Nat.zero_le _,rfl,rfl,fun _ j hj=>absurd hj (Nat.not_lt_zero _),HSH.out,fun _ _ h=>h,fun _ _ _=>rfl,rfl,Below.refl _ _⟩
 case round=>
  obtain⟨k,hk,rfl,rfl,hdone,hsh,hrow,hoth,hsz,hb⟩:=hrel
  by_cases hlt:k<n
  ·have hkn:k*8+8≤n*8:=by omega
   obtain⟨⟨v0,z0⟩,f0⟩:=hsh.row (k*8) (by omega)
   obtain⟨⟨v1,z1⟩,f1⟩:=hsh.row (k*8+1) (by omega)
   obtain⟨⟨v2,z2⟩,f2⟩:=hsh.row (k*8+2) (by omega)
   obtain⟨⟨v3,z3⟩,f3⟩:=hsh.row (k*8+3) (by omega)
   obtain⟨⟨v4,z4⟩,f4⟩:=hsh.row (k*8+4) (by omega)
   obtain⟨⟨v5,z5⟩,f5⟩:=hsh.row (k*8+5) (by omega)
   obtain⟨⟨v6,z6⟩,f6⟩:=hsh.row (k*8+6) (by omega)
   obtain⟨zd,hh⟩:=hsh.dat k hlt
   have HD:Hid ((dst hs n→∀ j,j<k→mk8 wr g (j*8) (cn8 c hs j) (hs j))∧sh8 wr g n hs∧(∀ x N,rowF w x N→rowF wr x N)∧(∀ x,x≠g→(∀ j,j<n→(hs j).1≠some ⟨x,0,none⟩)→wr.heap[x]?=w.heap[x]?)∧wr.heap.size=w.heap.size∧Below B w wr):=⟨hdone,hsh,hrow,hoth,hsz,hb⟩
   clear hdone hsh hrow hoth hsz hb;have HCN:Hid (cn8 c hs (k+1)=cn8 c hs k+7+(hs k).2.1):=rfl
   have hC1:cn8 c hs k≤30000000000000:=by have:=HLE.out k hk;omega
   generalize hC:cn8 c hs k=C at *;have HC:Hid (cn8 c hs k=C):=hC
   clear hC;have HAB:Hid (∀ b,(hs k).1=some ⟨b,0,none⟩→B≤b):=HB2.out k hlt
   obtain⟨t,ht⟩ : ∃ t,hs k=t:=⟨_,rfl⟩
   have HT:Hid (hs k=t):=ht
   rw[ht] at zd hh HCN HAB
   clear ht;obtain⟨a,m,cc⟩:=t
   simp only at zd
   have hm:m≤1048576:=hh.1
   have e3:((C:Int)+1+1+1).tmod 3=(((C+3) % 3:Nat):Int):=by rw[Int.tmod_eq_emod_of_nonneg (by omega)];omega
   have e5:((C:Int)+1+1+1+1+1).tmod 3=(((C+5) % 3:Nat):Int):=by rw[Int.tmod_eq_emod_of_nonneg (by omega)];omega
   have HBY:Hid (∀ W,(∀ x N,rowF wr x N→rowF W x N)→Calls Tp 145 #[sL a m cc,I J ((C:Int)+1+1+1+1+1+1+1)] W fun o w'=>o = rT (I J ((C+7+m:Nat):Int))∧(∀ b,a=some ⟨b,0,none⟩→mkB w' b m (C+7))∧(∀ x N,rowF W x N→rowF w' x N)∧(∀ x,a≠some ⟨x,0,none⟩→w'.heap[x]?=W.heap[x]?)∧w'.heap.size=W.heap.size∧Below B W w'):=fun W hW=>by
    have:=markHd B W g a m cc (C+7) (hh.up hW) HAB.out (by omega)
    have e:(((C+7:Nat)):Int)=(C:Int)+1+1+1+1+1+1+1:=by omega
    rw[e] at this
    exact this
   have HH:Hid (hd wr g (a,m,cc)):=hh
   clear hh;go_wp2_with (first | (go_at_call 145;refine (HBY.out _ (fun x N h=>h.setRow g (m8w C) wr (k*8))).mono ?_;rintro o w5 ⟨rfl,q1,q2,q3,q4,q5⟩;have HQ:Hid ((∀ b,a=some ⟨b,0,none⟩→mkB w5 b m (C+7))∧(∀ x N,rowF (setRow wr g (k*8) (m8w C)) x N→rowF w5 x N)∧(∀ x,a≠some ⟨x,0,none⟩→w5.heap[x]?=(setRow wr g (k*8) (m8w C)).heap[x]?)∧w5.heap.size=(setRow wr g (k*8) (m8w C)).heap.size∧Below B (setRow wr g (k*8) (m8w C)) w5):=⟨q1,q2,q3,q4,q5⟩;clear q1 q2 q3 q4 q5))
   obtain⟨q1,q2,q3,q4,q5⟩:=HQ.out
   obtain⟨r1,r0,r2,r3,r4,r5⟩:=HD.out
   have hT:=HT.out
   have hC:=HC.out
   have hl:(m8w C).length=7:=rfl
   have hag:a≠some ⟨g,0,none⟩:=by
    rcases HH.out.2.2 with⟨e,_⟩|⟨b,e,hne,_⟩
    ·intro h;rw[h] at e;cases e
    ·intro h;rw[h] at e;cases e;exact hne rfl
   have hgb:=q3 g hag
   have hrf:∀ x N,rowF wr x N→rowF w5 x N:=fun x N h=>q2 x N (h.setRow g (m8w C) wr (k*8))
   refine⟨⟨k+1,by omega,by go_num,by rw[HCN.out];congr 1,fun hd j hj=>?_,⟨hrf _ _ r0.row,fun j hj=>⟨cell_up ((setRow_other g (m8w C) wr (k*8) (j*8+7) (by omega)).trans (r0.dat j hj).1) hgb,(r0.dat j hj).2.up hrf⟩⟩,fun x N h=>hrf x N (r2 x N h),fun x hx hj=>(q3 x (by have:=hj k hlt;rw[hT] at this;exact this)).trans ((setRow_block g x hx (m8w C) wr (k*8)).trans (r3 x hx hj)),by rw[q4,setRow_size];exact r4,(setRow_below g B hB w (m8w C) wr (k*8) r5).trans q5⟩,by simp[intOf];omega⟩
   by_cases e:j=k
   ·subst e;rw[hT,hC]
    exact⟨fun t ht=>cell_up (setRow_at g (m8w C) wr (j*8) t (by omega) (r0.row (j*8+t) (by omega)).1) hgb,fun b hb=>q1 b hb⟩
   ·have hj':j<k:=by omega
    have H0:=r1 hd j hj'
    refine⟨fun t ht=>cell_up ((setRow_other g (m8w C) wr (k*8) (j*8+t) (by omega)).trans (H0.row t ht)) hgb,fun b hb t ht=>cell_up (H0.dat b hb t ht) ?_⟩
    have hbg:b≠g:=by
     rcases (r0.dat j (by omega)).2.2.2 with⟨e,_⟩|⟨b',e,hne,_⟩
     ·rw[hb] at e;cases e
     ·rw[hb] at e;cases e;exact hne
    have hba:a≠some ⟨b,0,none⟩:=by
     have:=hd j k hj' hlt b hb
     rw[hT] at this
     exact this
    exact (q3 b hba).trans (setRow_block g b hbg (m8w C) wr (k*8))
  ·have hkn:k=n:=by omega
   subst hkn;go_wp2
   go_ret;exact⟨rfl,hdone,hsh,hrow,hoth,hsz,hb⟩
set_option maxRecDepth 20000 in
theorem markFrameS_gen (B:Nat) (w:World) (g n cap c:Nat) (hs:Nat→Hd) (h:sh5 w g n hs) (hcp:n≤cap) (hn:n≤1048576) (hc:c≤20000000000000) (hB:B≤g) (hB2:abv B hs n) :
  Calls Tp 88 #[sL (some ⟨g,0,none⟩) n cap,I J (c:Int)] w fun o w'=>o = rT (I J (cn5 c hs n:Int))∧(dst hs n→∀ j,j<n→mk5 w' g (j*5) (cn5 c hs j) (hs j))∧sh5 w' g n hs∧(∀ x N,rowF w x N→rowF w' x N)∧(∀ x,x≠g→(∀ j,j<n→(hs j).1≠some ⟨x,0,none⟩)→w'.heap[x]?=w.heap[x]?)∧w'.heap.size=w.heap.size∧Below B w w':=by
 have HSH:Hid (sh5 w g n hs):=h
 have HB2:Hid (abv B hs n):=hB2
 have HLE:Hid (∀ j,j≤n→cn5 c hs j≤c+j*1048583):=cn5_le c n hs (fun j hj=>(h.dat j hj).2.1)
 clear h hB2;go_enter Tryz.func88,Tryz.ntmps88
 go_wp2
 go_loopw [1,5] (fun kk i wr=>∃ k:Nat,k≤n∧i = I J (k:Int)∧kk = I J (cn5 c hs k:Int)∧(dst hs n→∀ j,j<k→mk5 wr g (j*5) (cn5 c hs j) (hs j))∧sh5 wr g n hs∧(∀ x N,rowF w x N→rowF wr x N)∧(∀ x,x≠g→(∀ j,j<n→(hs j).1≠some ⟨x,0,none⟩)→wr.heap[x]?=w.heap[x]?)∧wr.heap.size=w.heap.size∧Below B w wr) (fun _ i _=>n-(intOf i).toNat)
 case atStart=>exact⟨0,Nat.zero_le _,rfl,rfl,fun _ j hj=>absurd hj (Nat.not_lt_zero _),HSH.out,fun _ _ h=>h,fun _ _ _=>rfl,rfl,Below.refl _ _⟩
 case round=>
  obtain⟨k,hk,rfl,rfl,hdone,hsh,hrow,hoth,hsz,hb⟩:=hrel
  by_cases hlt:k<n
  ·have hkn:k*5+5≤n*5:=by omega
   obtain⟨⟨v0,z0⟩,f0⟩:=hsh.row (k*5) (by omega)
   obtain⟨⟨v1,z1⟩,f1⟩:=hsh.row (k*5+1) (by omega)
   obtain⟨⟨v2,z2⟩,f2⟩:=hsh.row (k*5+2) (by omega)
   obtain⟨⟨v3,z3⟩,f3⟩:=hsh.row (k*5+3) (by omega)
   obtain⟨zd,hh⟩:=hsh.dat k hlt
   have HD:Hid ((dst hs n→∀ j,j<k→mk5 wr g (j*5) (cn5 c hs j) (hs j))∧sh5 wr g n hs∧(∀ x N,rowF w x N→rowF wr x N)∧(∀ x,x≠g→(∀ j,j<n→(hs j).1≠some ⟨x,0,none⟩)→wr.heap[x]?=w.heap[x]?)∧wr.heap.size=w.heap.size∧Below B w wr):=⟨hdone,hsh,hrow,hoth,hsz,hb⟩
   clear hdone hsh hrow hoth hsz hb;have HCN:Hid (cn5 c hs (k+1)=cn5 c hs k+4+(hs k).2.1):=rfl
   have hC1:cn5 c hs k≤30000000000000:=by have:=HLE.out k hk;omega
   generalize hC:cn5 c hs k=C at *;have HC:Hid (cn5 c hs k=C):=hC
   clear hC;have HAB:Hid (∀ b,(hs k).1=some ⟨b,0,none⟩→B≤b):=HB2.out k hlt
   obtain⟨t,ht⟩ : ∃ t,hs k=t:=⟨_,rfl⟩
   have HT:Hid (hs k=t):=ht
   rw[ht] at zd hh HCN HAB
   clear ht;obtain⟨a,m,cc⟩:=t
   simp only at zd
   have hm:m≤1048576:=hh.1
   have e0:((C:Int)).tmod 3=(((C+0) % 3:Nat):Int):=by rw[Int.tmod_eq_emod_of_nonneg (by omega)];omega
   have e2:((C:Int)+1+1).tmod 3=(((C+2) % 3:Nat):Int):=by rw[Int.tmod_eq_emod_of_nonneg (by omega)];omega
   have HBY:Hid (∀ W,(∀ x N,rowF wr x N→rowF W x N)→Calls Tp 145 #[sL a m cc,I J ((C:Int)+1+1+1+1)] W fun o w'=>o = rT (I J ((C+4+m:Nat):Int))∧(∀ b,a=some ⟨b,0,none⟩→mkB w' b m (C+4))∧(∀ x N,rowF W x N→rowF w' x N)∧(∀ x,a≠some ⟨x,0,none⟩→w'.heap[x]?=W.heap[x]?)∧w'.heap.size=W.heap.size∧Below B W w'):=fun W hW=>by
    have:=markHd B W g a m cc (C+4) (hh.up hW) HAB.out (by omega)
    have e:(((C+4:Nat)):Int)=(C:Int)+1+1+1+1:=by omega
    rw[e] at this
    exact this
   have HH:Hid (hd wr g (a,m,cc)):=hh
   clear hh;go_wp2_with (first | (go_at_call 145;refine (HBY.out _ (fun x N h=>h.setRow g (m5w C) wr (k*5))).mono ?_;rintro o w5 ⟨rfl,q1,q2,q3,q4,q5⟩;have HQ:Hid ((∀ b,a=some ⟨b,0,none⟩→mkB w5 b m (C+4))∧(∀ x N,rowF (setRow wr g (k*5) (m5w C)) x N→rowF w5 x N)∧(∀ x,a≠some ⟨x,0,none⟩→w5.heap[x]?=(setRow wr g (k*5) (m5w C)).heap[x]?)∧w5.heap.size=(setRow wr g (k*5) (m5w C)).heap.size∧Below B (setRow wr g (k*5) (m5w C)) w5):=⟨q1,q2,q3,q4,q5⟩;clear q1 q2 q3 q4 q5))
   obtain⟨q1,q2,q3,q4,q5⟩:=HQ.out
   obtain⟨r1,r0,r2,r3,r4,r5⟩:=HD.out
   have hT:=HT.out
   have hC:=HC.out
   have hl:(m5w C).length=4:=rfl
   have hag:a≠some ⟨g,0,none⟩:=by
    rcases HH.out.2.2 with⟨e,_⟩|⟨b,e,hne,_⟩
    ·intro h;rw[h] at e;cases e
    ·intro h;rw[h] at e;cases e;exact hne rfl
   have hgb:=q3 g hag
   have hrf:∀ x N,rowF wr x N→rowF w5 x N:=fun x N h=>q2 x N (h.setRow g (m5w C) wr (k*5))
   refine⟨⟨k+1,by omega,by go_num,by rw[HCN.out];congr 1,fun hd j hj=>?_,⟨hrf _ _ r0.row,fun j hj=>⟨cell_up ((setRow_other g (m5w C) wr (k*5) (j*5+4) (by omega)).trans (r0.dat j hj).1) hgb,(r0.dat j hj).2.up hrf⟩⟩,fun x N h=>hrf x N (r2 x N h),fun x hx hj=>(q3 x (by have:=hj k hlt;rw[hT] at this;exact this)).trans ((setRow_block g x hx (m5w C) wr (k*5)).trans (r3 x hx hj)),by rw[q4,setRow_size];exact r4,(setRow_below g B hB w (m5w C) wr (k*5) r5).trans q5⟩,by simp[intOf];omega⟩
   by_cases e:j=k
   ·subst e;rw[hT,hC]
    exact⟨fun t ht=>cell_up (setRow_at g (m5w C) wr (j*5) t (by omega) (r0.row (j*5+t) (by omega)).1) hgb,fun b hb=>q1 b hb⟩
   ·have hj':j<k:=by omega
    have H0:=r1 hd j hj'
    refine⟨fun t ht=>cell_up ((setRow_other g (m5w C) wr (k*5) (j*5+t) (by omega)).trans (H0.row t ht)) hgb,fun b hb t ht=>cell_up (H0.dat b hb t ht) ?_⟩
    have hbg:b≠g:=by
     rcases (r0.dat j (by omega)).2.2.2 with⟨e,_⟩|⟨b',e,hne,_⟩
     ·rw[hb] at e;cases e
     ·rw[hb] at e;cases e;exact hne
    have hba:a≠some ⟨b,0,none⟩:=by
     have:=hd j k hj' hlt b hb
     rw[hT] at this
     exact this
    exact (q3 b hba).trans (setRow_block g b hbg (m5w C) wr (k*5))
  ·have hkn:k=n:=by omega
   subst hkn;go_wp2
   go_ret;exact⟨rfl,hdone,hsh,hrow,hoth,hsz,hb⟩
set_option maxRecDepth 20000 in
theorem heldBoxS_gen (w:World) (g n cap c:Nat) (hs:Nat→Hd) (h:sh8 w g n hs) (hm:∀ j,j<n→mk8 w g (j*8) (cn8 c hs j) (hs j)) (hcp:n≤cap) (hn:n≤1048576) (hc:c≤20000000000000) :
  Calls Tp 91 #[sL (some ⟨g,0,none⟩) n cap,I J (c:Int)] w fun o w'=>o = rT (I J (cn8 c hs n:Int))∧w'=w:=by
 have HSH:Hid (sh8 w g n hs):=h
 have HM:Hid (∀ j,j<n→mk8 w g (j*8) (cn8 c hs j) (hs j)):=hm
 have HLE:Hid (∀ j,j≤n→cn8 c hs j≤c+j*1048583):=cn8_le c n hs (fun j hj=>(h.dat j hj).2.1)
 clear h hm;go_enter Tryz.func91,Tryz.ntmps91
 go_wp2
 go_loopw [1,5] (fun kk i wr=>∃ k:Nat,k≤n∧i = I J (k:Int)∧kk = I J (cn8 c hs k:Int)∧wr=w) (fun _ i _=>n-(intOf i).toNat)
 case atStart=>exact⟨0,Nat.zero_le _,rfl,rfl,rfl⟩
 case round=>
  obtain⟨k,hk,rfl,rfl,rfl⟩:=hrel
  by_cases hlt:k<n
  ·have hx:=HM.out k hlt
   obtain⟨zd,hh⟩:=HSH.out.dat k hlt
   have HCN:Hid (cn8 c hs (k+1)=cn8 c hs k+7+(hs k).2.1):=rfl
   have hC1:cn8 c hs k≤30000000000000:=by have:=HLE.out k hk;omega
   generalize hC:cn8 c hs k=C at *;have HC:Hid (cn8 c hs k=C):=hC
   clear hC;obtain⟨t,ht⟩ : ∃ t,hs k=t:=⟨_,rfl⟩
   rw[ht] at zd hh HCN hx
   clear ht;obtain⟨a,m,cc⟩:=t
   simp only at zd
   have hm:m≤1048576:=hh.1
   have x0:wr.cell? ⟨g,k*8,none⟩=some (I J (C:Int)):=hx.row 0 (by omega)
   have x1:wr.cell? ⟨g,k*8+1,none⟩=some (I J ((C:Int)+1)):=hx.row 1 (by omega)
   have x2:wr.cell? ⟨g,k*8+2,none⟩=some (I J ((C:Int)+1+1)):=hx.row 2 (by omega)
   have x3:wr.cell? ⟨g,k*8+3,none⟩=some (bO ((C:Int) % 3 == 0)):=hx.row 3 (by omega)
   have x4:wr.cell? ⟨g,k*8+4,none⟩=some (I .u32 (((C:Int)+1+1+1+1) % 4294967296)):=hx.row 4 (by omega)
   have x5:wr.cell? ⟨g,k*8+5,none⟩=some (bO (((C:Int)+5) % 3 == 0)):=hx.row 5 (by omega)
   have x6:wr.cell? ⟨g,k*8+6,none⟩=some (I J ((C:Int)+1+1+1+1+1+1)):=hx.row 6 (by omega)
   have hdat:=hx.dat
   have e3:((C:Int)+1+1+1).tmod 3=(((C+3) % 3:Nat):Int):=by rw[Int.tmod_eq_emod_of_nonneg (by omega)];omega
   have e5:((C:Int)+1+1+1+1+1).tmod 3=(((C+5) % 3:Nat):Int):=by rw[Int.tmod_eq_emod_of_nonneg (by omega)];omega
   have HB:Hid (Calls Tp 146 #[sL a m cc,I J ((C:Int)+1+1+1+1+1+1+1)] wr fun o w'=>o = rT (I J ((C:Int)+7+(m:Int)))∧w'=wr):=by
    have:=heldHd wr g a m cc (C+7) hh hdat (by omega)
    have e:(((C+7:Nat)):Int)=(C:Int)+1+1+1+1+1+1+1:=by omega
    have e2:(((C+7+m:Nat)):Int)=(C:Int)+7+(m:Int):=by omega
    rw[e,e2] at this
    exact this
   clear hx hh hdat;have hnz:¬ (C:Int)+7+(m:Int)<0:=by omega
   go_wp2_with (first | (go_at_call 146;refine HB.out.mono ?_;rintro o w5 ⟨rfl,rfl⟩))
   refine⟨⟨k+1,by omega,by go_num,by rw[HCN.out];congr 1,trivial⟩,by simp[intOf];omega⟩
  ·have hkn:k=n:=by omega
   subst hkn;go_wp2
   go_ret;exact⟨rfl,rfl⟩
set_option maxRecDepth 20000 in
theorem heldEventS_gen (w:World) (g n cap c:Nat) (hs:Nat→Hd) (h:sh8 w g n hs) (hm:∀ j,j<n→mk8 w g (j*8) (cn8 c hs j) (hs j)) (hcp:n≤cap) (hn:n≤1048576) (hc:c≤20000000000000) :
  Calls Tp 93 #[sL (some ⟨g,0,none⟩) n cap,I J (c:Int)] w fun o w'=>o = rT (I J (cn8 c hs n:Int))∧w'=w:=by
 have HSH:Hid (sh8 w g n hs):=h
 have HM:Hid (∀ j,j<n→mk8 w g (j*8) (cn8 c hs j) (hs j)):=hm
 have HLE:Hid (∀ j,j≤n→cn8 c hs j≤c+j*1048583):=cn8_le c n hs (fun j hj=>(h.dat j hj).2.1)
 clear h hm;go_enter Tryz.func93,Tryz.ntmps93
 go_wp2
 go_loopw [1,5] (fun kk i wr=>∃ k:Nat,k≤n∧i = I J (k:Int)∧kk = I J (cn8 c hs k:Int)∧wr=w) (fun _ i _=>n-(intOf i).toNat)
 case atStart=>exact⟨0,Nat.zero_le _,rfl,rfl,rfl⟩
 case round=>
  obtain⟨k,hk,rfl,rfl,rfl⟩:=hrel
  by_cases hlt:k<n
  ·have hx:=HM.out k hlt
   obtain⟨zd,hh⟩:=HSH.out.dat k hlt
   have HCN:Hid (cn8 c hs (k+1)=cn8 c hs k+7+(hs k).2.1):=rfl
   have hC1:cn8 c hs k≤30000000000000:=by have:=HLE.out k hk;omega
   generalize hC:cn8 c hs k=C at *;have HC:Hid (cn8 c hs k=C):=hC
   clear hC;obtain⟨t,ht⟩ : ∃ t,hs k=t:=⟨_,rfl⟩
   rw[ht] at zd hh HCN hx
   clear ht;obtain⟨a,m,cc⟩:=t
   simp only at zd
   have hm:m≤1048576:=hh.1
   have x0:wr.cell? ⟨g,k*8,none⟩=some (I J (C:Int)):=hx.row 0 (by omega)
   have x1:wr.cell? ⟨g,k*8+1,none⟩=some (I J ((C:Int)+1)):=hx.row 1 (by omega)
   have x2:wr.cell? ⟨g,k*8+2,none⟩=some (I J ((C:Int)+1+1)):=hx.row 2 (by omega)
   have x3:wr.cell? ⟨g,k*8+3,none⟩=some (bO ((C:Int) % 3 == 0)):=hx.row 3 (by omega)
   have x4:wr.cell? ⟨g,k*8+4,none⟩=some (I .u32 (((C:Int)+1+1+1+1) % 4294967296)):=hx.row 4 (by omega)
   have x5:wr.cell? ⟨g,k*8+5,none⟩=some (bO (((C:Int)+5) % 3 == 0)):=hx.row 5 (by omega)
   have x6:wr.cell? ⟨g,k*8+6,none⟩=some (I J ((C:Int)+1+1+1+1+1+1)):=hx.row 6 (by omega)
   have hdat:=hx.dat
   have e3:((C:Int)+1+1+1).tmod 3=(((C+3) % 3:Nat):Int):=by rw[Int.tmod_eq_emod_of_nonneg (by omega)];omega
   have e5:((C:Int)+1+1+1+1+1).tmod 3=(((C+5) % 3:Nat):Int):=by rw[Int.tmod_eq_emod_of_nonneg (by omega)];omega
   have HB:Hid (Calls Tp 146 #[sL a m cc,I J ((C:Int)+1+1+1+1+1+1+1)] wr fun o w'=>o = rT (I J ((C:Int)+7+(m:Int)))∧w'=wr):=by
    have:=heldHd wr g a m cc (C+7) hh hdat (by omega)
    have e:(((C+7:Nat)):Int)=(C:Int)+1+1+1+1+1+1+1:=by omega
    have e2:(((C+7+m:Nat)):Int)=(C:Int)+7+(m:Int):=by omega
    rw[e,e2] at this
    exact this
   clear hx hh hdat;have hnz:¬ (C:Int)+7+(m:Int)<0:=by omega
   go_wp2_with (first | (go_at_call 146;refine HB.out.mono ?_;rintro o w5 ⟨rfl,rfl⟩))
   refine⟨⟨k+1,by omega,by go_num,by rw[HCN.out];congr 1,trivial⟩,by simp[intOf];omega⟩
  ·have hkn:k=n:=by omega
   subst hkn;go_wp2
   go_ret;exact⟨rfl,rfl⟩
set_option maxRecDepth 20000 in
theorem heldFrameS_gen (w:World) (g n cap c:Nat) (hs:Nat→Hd) (h:sh5 w g n hs) (hm:∀ j,j<n→mk5 w g (j*5) (cn5 c hs j) (hs j)) (hcp:n≤cap) (hn:n≤1048576) (hc:c≤20000000000000) :
  Calls Tp 92 #[sL (some ⟨g,0,none⟩) n cap,I J (c:Int)] w fun o w'=>o = rT (I J (cn5 c hs n:Int))∧w'=w:=by
 have HSH:Hid (sh5 w g n hs):=h
 have HM:Hid (∀ j,j<n→mk5 w g (j*5) (cn5 c hs j) (hs j)):=hm
 have HLE:Hid (∀ j,j≤n→cn5 c hs j≤c+j*1048583):=cn5_le c n hs (fun j hj=>(h.dat j hj).2.1)
 clear h hm;go_enter Tryz.func92,Tryz.ntmps92
 go_wp2
 go_loopw [1,5] (fun kk i wr=>∃ k:Nat,k≤n∧i = I J (k:Int)∧kk = I J (cn5 c hs k:Int)∧wr=w) (fun _ i _=>n-(intOf i).toNat)
 case atStart=>exact⟨0,Nat.zero_le _,rfl,rfl,rfl⟩
 case round=>
  obtain⟨k,hk,rfl,rfl,rfl⟩:=hrel
  by_cases hlt:k<n
  ·have hx:=HM.out k hlt
   obtain⟨zd,hh⟩:=HSH.out.dat k hlt
   have HCN:Hid (cn5 c hs (k+1)=cn5 c hs k+4+(hs k).2.1):=rfl
   have hC1:cn5 c hs k≤30000000000000:=by have:=HLE.out k hk;omega
   generalize hC:cn5 c hs k=C at *;have HC:Hid (cn5 c hs k=C):=hC
   clear hC;obtain⟨t,ht⟩ : ∃ t,hs k=t:=⟨_,rfl⟩
   rw[ht] at zd hh HCN hx
   clear ht;obtain⟨a,m,cc⟩:=t
   simp only at zd
   have hm:m≤1048576:=hh.1
   have x0:wr.cell? ⟨g,k*5,none⟩=some (bO ((C:Int) % 3 == 0)):=hx.row 0 (by omega)
   have x1:wr.cell? ⟨g,k*5+1,none⟩=some (I .u32 (((C:Int)+1) % 4294967296)):=hx.row 1 (by omega)
   have x2:wr.cell? ⟨g,k*5+2,none⟩=some (bO (((C:Int)+2) % 3 == 0)):=hx.row 2 (by omega)
   have x3:wr.cell? ⟨g,k*5+3,none⟩=some (I J ((C:Int)+1+1+1)):=hx.row 3 (by omega)
   have hdat:=hx.dat
   have e0:((C:Int)).tmod 3=(((C+0) % 3:Nat):Int):=by rw[Int.tmod_eq_emod_of_nonneg (by omega)];omega
   have e2:((C:Int)+1+1).tmod 3=(((C+2) % 3:Nat):Int):=by rw[Int.tmod_eq_emod_of_nonneg (by omega)];omega
   have HB:Hid (Calls Tp 146 #[sL a m cc,I J ((C:Int)+1+1+1+1)] wr fun o w'=>o = rT (I J ((C:Int)+4+(m:Int)))∧w'=wr):=by
    have:=heldHd wr g a m cc (C+4) hh hdat (by omega)
    have e:(((C+4:Nat)):Int)=(C:Int)+1+1+1+1:=by omega
    have e2:(((C+4+m:Nat)):Int)=(C:Int)+4+(m:Int):=by omega
    rw[e,e2] at this
    exact this
   clear hx hh hdat;have hnz:¬ (C:Int)+4+(m:Int)<0:=by omega
   go_wp2_with (first | (go_at_call 146;refine HB.out.mono ?_;rintro o w5 ⟨rfl,rfl⟩))
   refine⟨⟨k+1,by omega,by go_num,by rw[HCN.out];congr 1,trivial⟩,by simp[intOf];omega⟩
  ·have hkn:k=n:=by omega
   subst hkn;go_wp2
   go_ret;exact⟨rfl,rfl⟩
end Go.Proofs.YtbllefckefhpoaaGreat
