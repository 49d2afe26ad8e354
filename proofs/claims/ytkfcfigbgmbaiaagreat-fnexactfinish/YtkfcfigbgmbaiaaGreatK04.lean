import Derived.Test.YtkfcfigbgmbaiaaGreatK01
namespace Go.Proofs.YtkfcfigbgmbaiaaGreat
open Go.RowKit
structure Ho where
 c0:Int
 c1:Int
 c2:Int
 c3:Int
 fs:List R3
 bx:List R8
 ff:List R5
 qu:List R8
 lo:Int
 st:Int
structure Sl where
 a1:Option Addr
 n1:Nat
 k1:Nat
 a2:Option Addr
 n2:Nat
 k2:Nat
 a3:Option Addr
 n3:Nat
 k3:Nat
 a4:Option Addr
 n4:Nat
 k4:Nat
structure isHo (w:World) (H:Ho) (s:Sl):Prop where
 fs:isR3s w s.a1 s.n1 s.k1 H.fs
 bx:isR8s w s.a2 s.n2 s.k2 H.bx
 ff:isR5s w s.a3 s.n3 s.k3 H.ff
 qu:isR8s w s.a4 s.n4 s.k4 H.qu
theorem isHo.below {w w':World} {H:Ho} {s:Sl} (h:isHo w H s) (hb:Below w.heap.size w w'):isHo w' H s:=⟨h.fs.below hb,h.bx.below hb,h.ff.below hb,h.qu.below hb⟩
structure Ho.le (H:Ho) (m:Nat):Prop where
 fs:H.fs.length≤m
 bx:H.bx.length≤m
 ff:H.ff.length≤m
 qu:H.qu.length≤m
 bd:∀ j (h:j<H.bx.length),H.bx[j].l.length≤m
 fd:∀ j (h:j<H.ff.length),H.ff[j].l.length≤m
 qd:∀ j (h:j<H.qu.length),H.qu[j].l.length≤m
abbrev hoV (H:Ho) (s:Sl):Value:=.agg #[.int .i64 H.c0,.int .i64 H.c1,.int .i64 H.c2,.int .i64 H.c3,.slice s.a1 s.n1 s.k1,.slice s.a2 s.n2 s.k2,.slice s.a3 s.n3 s.k3,.slice s.a4 s.n4 s.k4,.int .i64 H.lo,.int .i64 H.st]
structure Keep3 (b:Nat) (X w':World):Prop where
 cp:∀ o,w'.cell? ⟨b,o,none⟩=X.cell? ⟨b,o,none⟩
 cr:∀ o,w'.cell? ⟨b+1,o,none⟩=X.cell? ⟨b+1,o,none⟩
 co:∀ o,w'.cell? ⟨b+1+1,o,none⟩=X.cell? ⟨b+1+1,o,none⟩
 fr:∀ o,w'.frozen? ⟨b+1,o,none⟩=X.frozen? ⟨b+1,o,none⟩
 fo:∀ o,w'.frozen? ⟨b+1+1,o,none⟩=X.frozen? ⟨b+1+1,o,none⟩
theorem keep3 {b:Nat} {X w':World} (hb:Below X.heap.size X w') (hz:b+3≤X.heap.size):Keep3 b X w':=
 ⟨fun o=>hb.cell (p:=⟨b,o,none⟩) (by show b<_;omega),fun o=>hb.cell (p:=⟨b+1,o,none⟩) (by show b+1<_;omega),fun o=>hb.cell (p:=⟨b+1+1,o,none⟩) (by show b+1+1<_;omega),fun o=>hb.frozen (p:=⟨b+1,o,none⟩) (by show b+1<_;omega),fun o=>hb.frozen (p:=⟨b+1+1,o,none⟩) (by show b+1+1<_;omega)⟩
theorem callFilter {w X:World} (hX:Below w.heap.size w X) (hz:w.heap.size+3≤X.heap.size) {a:Option Addr} {n cap:Nat} {bs:List R3} (h:isR3s w a n cap bs) (hn:bs.length≤1048576) :
  Calls Tryz.prog 79 #[.slice a n cap] X fun e w'=>∃ g,e = .returned (.slice (some ⟨g,0,none⟩) n n)∧St (w.heap.size+3) w' (fun W=>isR3s W (some ⟨g,0,none⟩) n n bs∧rowF W g (n*3))∧(w.heap.size≤g∧g<w'.heap.size)∧Below X.heap.size X w'∧Below w.heap.size w w'∧w.heap.size+3≤w'.heap.size∧Keep3 w.heap.size X w':=by
 refine (toFilterS_any X a n cap bs (h.below hX) (by have:=h.len;omega)).mono ?_
 rintro e w' ⟨g,rfl,h1,h3,h2⟩;exact⟨g,rfl,h1.mono hz,⟨Nat.le_trans hX.size h3.1,h3.2⟩,h2,hX.trans (h2.mono hX.size),Nat.le_trans hz h2.size,keep3 h2 hz⟩
structure wrHo (B T:Nat) (W:World) (s:Sl):Prop where
 e:∃ g1 g2 g3 g4,s=⟨some ⟨g1,0,none⟩,s.n1,s.n1,some ⟨g2,0,none⟩,s.n2,s.n2,some ⟨g3,0,none⟩,s.n3,s.n3,some ⟨g4,0,none⟩,s.n4,s.n4⟩∧rowF W g1 (s.n1*3)∧(B≤g1∧g1<T)∧wr8 B T W g2 s.n2∧wr5 B T W g3 s.n3∧wr8 B T W g4 s.n4
set_option maxHeartbeats 16000000
set_option maxRecDepth 20000 in
theorem szFrameS_any (w:World) (a:Option Addr) (n cap:Nat) (bs:List R5) (h:isR5s w a n cap bs) (m:Nat) (hm:m≤1048576) (hn:n≤9223372036854775807) (hd:∀ j (h:j<bs.length),bs[j].l.length≤9223372036854775807) :
  Calls Tryz.prog 73 #[.slice a n cap,.int .i64 (m:Int)] w fun o w'=>∃ z:Int,o = .returned (.int .i64 z)∧Below w.heap.size w w'∧(z = -1∨∃ m':Nat,z=(m':Int)∧m'≤m∧n≤m∧∀ j (h:j<bs.length),bs[j].l.length≤m):=by
 have hlen:=h.len
 have hcp:=h.cap
 by_cases hnm:n≤m
 ·by_cases hl:bs=[]
  ·subst hl;have hn0:n=0:=hlen
   subst hn0;clear hlen h hd;go_enter Tryz.func73,Tryz.ntmps73
   go_wp2
   go_loopw [1,5] (fun lf i wr=>i = .int .i64 0∧lf = .int .i64 (m:Int)∧wr=w) (fun _ _ _=>0)
   case atStart=>exact⟨rfl,rfl,rfl⟩
   case round=>
    obtain⟨rfl,rfl,rfl⟩:=hrel
    go_wp2
    go_ret;exact⟨_,rfl,Below.refl _ _,.inr ⟨m,rfl,Nat.le_refl _,by omega,fun j hj=>by cases hj⟩⟩
  ·obtain⟨g,off,rfl,hc⟩:=h.cells hl
   have HL:Hid (n=bs.length):=hlen
   have HC:Hid (∀ j (h:j<bs.length),∃ ao m c,at5 w g (off+j*5) bs[j] ao m c):=hc
   have HD:Hid (∀ j (h:j<bs.length),bs[j].l.length≤9223372036854775807):=hd
   have hnz:¬ (m:Int)-(n:Int)<0:=by omega
   clear h hlen hc hd;go_enter Tryz.func73,Tryz.ntmps73
   go_wp2
   go_loopw [1,5] (fun lf i wr=>∃ k m':Nat,k≤n∧i = .int .i64 (k:Int)∧lf = .int .i64 (m':Int)∧m'≤m∧Below w.heap.size w wr∧∀ j (hj:j<k) (h:j<bs.length),bs[j].l.length≤m) (fun _ i _=>n-(intOf i).toNat)
   case atStart=>exact⟨0,m-n,Nat.zero_le _,rfl,by go_num,by omega,Below.refl _ _,fun j hj=>absurd hj (Nat.not_lt_zero _)⟩
   case round=>
    obtain⟨k,m',hk,rfl,rfl,hm',hb,hdone⟩:=hrel
    by_cases hlt:k<n
    ·have hkl:k<bs.length:=by have:=HL.out;omega
     obtain⟨ao,m0,c0,hx⟩:=HC.out k hkl
     have hgz:=World.block_lt_of_cell? w _ hx.c0
     have cx0:=(hb.cell (by exact hgz)).trans hx.c0
     have cx1:=(hb.cell (by exact hgz)).trans hx.c1
     have cx2:=(hb.cell (by exact hgz)).trans hx.c2
     have cx3:=(hb.cell (by exact hgz)).trans hx.c3
     have cxs:=(hb.cell (by exact hgz)).trans hx.cs
     have hm0:m0≤9223372036854775807:=by have:=HD.out k hkl;have:=hx.dat.len;omega
     have HM:Hid (m0=bs[k].l.length):=hx.dat.len
     have HB:Hid (Below w.heap.size w wr):=hb
     have HDN:Hid (∀ j (hj:j<k) (h:j<bs.length),bs[j].l.length≤m):=hdone
     clear hx hb hdone;generalize hBe:bs[k].e=ge at *;generalize hBi:bs[k].i=gi at *;generalize hBr:bs[k].r=gr at *;generalize hBd:bs[k].d=gd at *;clear hBe hBi hBr hBd;by_cases hle:(m0:Int)≤(m':Int)
     ·have HE:Hid (∀ W,Calls Tryz.prog 17 #[frV ge gi gr gd ao m0 c0,.int .i64 (m':Int)] W fun o w'=>o = .returned (.int .i64 ((m':Int)-(m0:Int)))∧W.alloc (frC ge gi gr gd ao m0 c0 52)=w'):=by
       intro W;have:=szFrame_any W ge gi gr gd ao m0 c0 m' hm0 (by omega);rw[if_pos hle] at this;exact this
      have hnz2:¬ (m':Int)-(m0:Int)<0:=by omega
      go_wp2_with (first | (go_at_call 17;refine (HE.out _).mono ?_;rintro o w5 ⟨rfl,rfl⟩))
      go_roundw
      case rel=>
       refine⟨k+1,m'-m0,by omega,by go_num,by go_num,by omega,HB.out.trans (((Below.refl _ _).alloc (Nat.le_refl _) _).mono HB.out.size),fun j hj hjl=>?_⟩
       by_cases e:j=k
       ·subst e;have:=HM.out;omega
       ·exact HDN.out j (by omega) hjl
      case measure=>simp[intOf];omega
     ·have HE:Hid (∀ W,Calls Tryz.prog 17 #[frV ge gi gr gd ao m0 c0,.int .i64 (m':Int)] W fun o w'=>o = .returned (.int .i64 (-1))∧W.alloc (frC ge gi gr gd ao m0 c0 52)=w'):=by
       intro W;have:=szFrame_any W ge gi gr gd ao m0 c0 m' hm0 (by omega);rw[if_neg hle] at this;exact this
      go_wp2_with (first | (go_at_call 17;refine (HE.out _).mono ?_;rintro o w5 ⟨rfl,rfl⟩))
      go_ret;exact⟨-1,rfl,HB.out.trans (((Below.refl _ _).alloc (Nat.le_refl _) _).mono HB.out.size),.inl rfl⟩
    ·go_wp2
     go_ret;exact⟨_,rfl,hb,.inr ⟨m',rfl,hm',hnm,fun j hj=>hdone j (by have:=HL.out;omega) hj⟩⟩
 ·have hneg:(m:Int)-(n:Int)<0:=by omega
  have hd2:decide ((m:Int)-(n:Int)<0)=true:=by simpa using hneg
  clear h hd hlen;go_enter Tryz.func73,Tryz.ntmps73
  go_wp2
  go_ret;exact⟨-1,rfl,Below.refl _ _,.inl rfl⟩
set_option maxRecDepth 20000 in
theorem szBoxS_any (w:World) (a:Option Addr) (n cap:Nat) (bs:List R8) (h:isR8s w a n cap bs) (m:Nat) (hm:m≤1048576) (hn:n≤9223372036854775807) (hd:∀ j (h:j<bs.length),bs[j].l.length≤9223372036854775807) :
  Calls Tryz.prog 72 #[.slice a n cap,.int .i64 (m:Int)] w fun o w'=>∃ z:Int,o = .returned (.int .i64 z)∧Below w.heap.size w w'∧(z = -1∨∃ m':Nat,z=(m':Int)∧m'≤m∧n≤m∧∀ j (h:j<bs.length),bs[j].l.length≤m):=by
 have hlen:=h.len
 have hcp:=h.cap
 by_cases hnm:n≤m
 ·by_cases hl:bs=[]
  ·subst hl;have hn0:n=0:=hlen
   subst hn0;clear hlen h hd;go_enter Tryz.func72,Tryz.ntmps72
   go_wp2
   go_loopw [1,5] (fun lf i wr=>i = .int .i64 0∧lf = .int .i64 (m:Int)∧wr=w) (fun _ _ _=>0)
   case atStart=>exact⟨rfl,rfl,rfl⟩
   case round=>
    obtain⟨rfl,rfl,rfl⟩:=hrel
    go_wp2
    go_ret;exact⟨_,rfl,Below.refl _ _,.inr ⟨m,rfl,Nat.le_refl _,by omega,fun j hj=>by cases hj⟩⟩
  ·obtain⟨g,off,rfl,hc⟩:=h.cells hl
   have HL:Hid (n=bs.length):=hlen
   have HC:Hid (∀ j (h:j<bs.length),∃ ao m c,at8 w g (off+j*8) bs[j] ao m c):=hc
   have HD:Hid (∀ j (h:j<bs.length),bs[j].l.length≤9223372036854775807):=hd
   have hnz:¬ (m:Int)-(n:Int)<0:=by omega
   clear h hlen hc hd;go_enter Tryz.func72,Tryz.ntmps72
   go_wp2
   go_loopw [1,5] (fun lf i wr=>∃ k m':Nat,k≤n∧i = .int .i64 (k:Int)∧lf = .int .i64 (m':Int)∧m'≤m∧Below w.heap.size w wr∧∀ j (hj:j<k) (h:j<bs.length),bs[j].l.length≤m) (fun _ i _=>n-(intOf i).toNat)
   case atStart=>exact⟨0,m-n,Nat.zero_le _,rfl,by go_num,by omega,Below.refl _ _,fun j hj=>absurd hj (Nat.not_lt_zero _)⟩
   case round=>
    obtain⟨k,m',hk,rfl,rfl,hm',hb,hdone⟩:=hrel
    by_cases hlt:k<n
    ·have hkl:k<bs.length:=by have:=HL.out;omega
     obtain⟨ao,m0,c0,hx⟩:=HC.out k hkl
     have hgz:=World.block_lt_of_cell? w _ hx.c0
     have cx0:=(hb.cell (by exact hgz)).trans hx.c0
     have cx1:=(hb.cell (by exact hgz)).trans hx.c1
     have cx2:=(hb.cell (by exact hgz)).trans hx.c2
     have cx3:=(hb.cell (by exact hgz)).trans hx.c3
     have cx4:=(hb.cell (by exact hgz)).trans hx.c4
     have cx5:=(hb.cell (by exact hgz)).trans hx.c5
     have cx6:=(hb.cell (by exact hgz)).trans hx.c6
     have cxs:=(hb.cell (by exact hgz)).trans hx.cs
     have hm0:m0≤9223372036854775807:=by have:=HD.out k hkl;have:=hx.dat.len;omega
     have HM:Hid (m0=bs[k].l.length):=hx.dat.len
     have HB:Hid (Below w.heap.size w wr):=hb
     have HDN:Hid (∀ j (hj:j<k) (h:j<bs.length),bs[j].l.length≤m):=hdone
     clear hx hb hdone;generalize hBx:bs[k].x=gx at *;generalize hBy:bs[k].y=gy at *;generalize hBz:bs[k].z=gz at *;generalize hBe:bs[k].e=ge at *;generalize hBi:bs[k].i=gi at *;generalize hBr:bs[k].r=gr at *;generalize hBd:bs[k].d=gd at *;clear hBx hBy hBz hBe hBi hBr hBd;by_cases hle:(m0:Int)≤(m':Int)
     ·have HE:Hid (∀ W,Calls Tryz.prog 135 #[bxV gx gy gz ge gi gr gd ao m0 c0,.int .i64 (m':Int)] W fun o w'=>o = .returned (.int .i64 ((m':Int)-(m0:Int)))∧Below W.heap.size W w'):=by
       intro W;have:=szBox_any W gx gy gz ge gi gr gd ao m0 c0 m' hm0 (by omega);rw[if_pos hle] at this;exact this
      have hnz2:¬ (m':Int)-(m0:Int)<0:=by omega
      go_wp2_with (first | (go_at_call 135;refine (HE.out _).mono ?_;rintro o w5 ⟨rfl,hb5⟩))
      go_roundw
      case rel=>
       refine⟨k+1,m'-m0,by omega,by go_num,by go_num,by omega,HB.out.trans (hb5.mono HB.out.size),fun j hj hjl=>?_⟩
       by_cases e:j=k
       ·subst e;have:=HM.out;omega
       ·exact HDN.out j (by omega) hjl
      case measure=>simp[intOf];omega
     ·have HE:Hid (∀ W,Calls Tryz.prog 135 #[bxV gx gy gz ge gi gr gd ao m0 c0,.int .i64 (m':Int)] W fun o w'=>o = .returned (.int .i64 (-1))∧Below W.heap.size W w'):=by
       intro W;have:=szBox_any W gx gy gz ge gi gr gd ao m0 c0 m' hm0 (by omega);rw[if_neg hle] at this;exact this
      go_wp2_with (first | (go_at_call 135;refine (HE.out _).mono ?_;rintro o w5 ⟨rfl,hb5⟩))
      go_ret;exact⟨-1,rfl,HB.out.trans (hb5.mono HB.out.size),.inl rfl⟩
    ·go_wp2
     go_ret;exact⟨_,rfl,hb,.inr ⟨m',rfl,hm',hnm,fun j hj=>hdone j (by have:=HL.out;omega) hj⟩⟩
 ·have hneg:(m:Int)-(n:Int)<0:=by omega
  have hd2:decide ((m:Int)-(n:Int)<0)=true:=by simpa using hneg
  clear h hd hlen;go_enter Tryz.func72,Tryz.ntmps72
  go_wp2
  go_ret;exact⟨-1,rfl,Below.refl _ _,.inl rfl⟩
set_option maxRecDepth 20000 in
theorem szEventS_any (w:World) (a:Option Addr) (n cap:Nat) (bs:List R8) (h:isR8s w a n cap bs) (m:Nat) (hm:m≤1048576) (hn:n≤9223372036854775807) (hd:∀ j (h:j<bs.length),bs[j].l.length≤9223372036854775807) :
  Calls Tryz.prog 74 #[.slice a n cap,.int .i64 (m:Int)] w fun o w'=>∃ z:Int,o = .returned (.int .i64 z)∧Below w.heap.size w w'∧(z = -1∨∃ m':Nat,z=(m':Int)∧m'≤m∧n≤m∧∀ j (h:j<bs.length),bs[j].l.length≤m):=by
 have hlen:=h.len
 have hcp:=h.cap
 by_cases hnm:n≤m
 ·by_cases hl:bs=[]
  ·subst hl;have hn0:n=0:=hlen
   subst hn0;clear hlen h hd;go_enter Tryz.func74,Tryz.ntmps74
   go_wp2
   go_loopw [1,5] (fun lf i wr=>i = .int .i64 0∧lf = .int .i64 (m:Int)∧wr=w) (fun _ _ _=>0)
   case atStart=>exact⟨rfl,rfl,rfl⟩
   case round=>
    obtain⟨rfl,rfl,rfl⟩:=hrel
    go_wp2
    go_ret;exact⟨_,rfl,Below.refl _ _,.inr ⟨m,rfl,Nat.le_refl _,by omega,fun j hj=>by cases hj⟩⟩
  ·obtain⟨g,off,rfl,hc⟩:=h.cells hl
   have HL:Hid (n=bs.length):=hlen
   have HC:Hid (∀ j (h:j<bs.length),∃ ao m c,at8 w g (off+j*8) bs[j] ao m c):=hc
   have HD:Hid (∀ j (h:j<bs.length),bs[j].l.length≤9223372036854775807):=hd
   have hnz:¬ (m:Int)-(n:Int)<0:=by omega
   clear h hlen hc hd;go_enter Tryz.func74,Tryz.ntmps74
   go_wp2
   go_loopw [1,5] (fun lf i wr=>∃ k m':Nat,k≤n∧i = .int .i64 (k:Int)∧lf = .int .i64 (m':Int)∧m'≤m∧Below w.heap.size w wr∧∀ j (hj:j<k) (h:j<bs.length),bs[j].l.length≤m) (fun _ i _=>n-(intOf i).toNat)
   case atStart=>exact⟨0,m-n,Nat.zero_le _,rfl,by go_num,by omega,Below.refl _ _,fun j hj=>absurd hj (Nat.not_lt_zero _)⟩
   case round=>
    obtain⟨k,m',hk,rfl,rfl,hm',hb,hdone⟩:=hrel
    by_cases hlt:k<n
    ·have hkl:k<bs.length:=by have:=HL.out;omega
     obtain⟨ao,m0,c0,hx⟩:=HC.out k hkl
     have hgz:=World.block_lt_of_cell? w _ hx.c0
     have cx0:=(hb.cell (by exact hgz)).trans hx.c0
     have cx1:=(hb.cell (by exact hgz)).trans hx.c1
     have cx2:=(hb.cell (by exact hgz)).trans hx.c2
     have cx3:=(hb.cell (by exact hgz)).trans hx.c3
     have cx4:=(hb.cell (by exact hgz)).trans hx.c4
     have cx5:=(hb.cell (by exact hgz)).trans hx.c5
     have cx6:=(hb.cell (by exact hgz)).trans hx.c6
     have cxs:=(hb.cell (by exact hgz)).trans hx.cs
     have hm0:m0≤9223372036854775807:=by have:=HD.out k hkl;have:=hx.dat.len;omega
     have HM:Hid (m0=bs[k].l.length):=hx.dat.len
     have HB:Hid (Below w.heap.size w wr):=hb
     have HDN:Hid (∀ j (hj:j<k) (h:j<bs.length),bs[j].l.length≤m):=hdone
     clear hx hb hdone;generalize hBx:bs[k].x=gx at *;generalize hBy:bs[k].y=gy at *;generalize hBz:bs[k].z=gz at *;generalize hBe:bs[k].e=ge at *;generalize hBi:bs[k].i=gi at *;generalize hBr:bs[k].r=gr at *;generalize hBd:bs[k].d=gd at *;clear hBx hBy hBz hBe hBi hBr hBd;by_cases hle:(m0:Int)≤(m':Int)
     ·have HE:Hid (∀ W,Calls Tryz.prog 136 #[bxV gx gy gz ge gi gr gd ao m0 c0,.int .i64 (m':Int)] W fun o w'=>o = .returned (.int .i64 ((m':Int)-(m0:Int)))∧Below W.heap.size W w'):=by
       intro W;have:=szEvent_any W gx gy gz ge gi gr gd ao m0 c0 m' hm0 (by omega);rw[if_pos hle] at this;exact this
      have hnz2:¬ (m':Int)-(m0:Int)<0:=by omega
      go_wp2_with (first | (go_at_call 136;refine (HE.out _).mono ?_;rintro o w5 ⟨rfl,hb5⟩))
      go_roundw
      case rel=>
       refine⟨k+1,m'-m0,by omega,by go_num,by go_num,by omega,HB.out.trans (hb5.mono HB.out.size),fun j hj hjl=>?_⟩
       by_cases e:j=k
       ·subst e;have:=HM.out;omega
       ·exact HDN.out j (by omega) hjl
      case measure=>simp[intOf];omega
     ·have HE:Hid (∀ W,Calls Tryz.prog 136 #[bxV gx gy gz ge gi gr gd ao m0 c0,.int .i64 (m':Int)] W fun o w'=>o = .returned (.int .i64 (-1))∧Below W.heap.size W w'):=by
       intro W;have:=szEvent_any W gx gy gz ge gi gr gd ao m0 c0 m' hm0 (by omega);rw[if_neg hle] at this;exact this
      go_wp2_with (first | (go_at_call 136;refine (HE.out _).mono ?_;rintro o w5 ⟨rfl,hb5⟩))
      go_ret;exact⟨-1,rfl,HB.out.trans (hb5.mono HB.out.size),.inl rfl⟩
    ·go_wp2
     go_ret;exact⟨_,rfl,hb,.inr ⟨m',rfl,hm',hnm,fun j hj=>hdone j (by have:=HL.out;omega) hj⟩⟩
 ·have hneg:(m:Int)-(n:Int)<0:=by omega
  have hd2:decide ((m:Int)-(n:Int)<0)=true:=by simpa using hneg
  clear h hd hlen;go_enter Tryz.func74,Tryz.ntmps74
  go_wp2
  go_ret;exact⟨-1,rfl,Below.refl _ _,.inl rfl⟩
theorem szFilterS_any (w:World) (a:Option Addr) (n cap:Nat) (m:Nat) (hn:n≤9223372036854775807) (hm:m≤1048576) :
  Calls Tryz.prog 71 #[.slice a n cap,.int .i64 m] w fun o w'=>o = .returned (.int .i64 (if (n:Int)≤(m:Int) then (m:Int)-(n:Int) else -1))∧w=w':=by
 by_cases h:(n:Int)≤(m:Int)
 ·rw[if_pos h]
  go_enter Tryz.func71,Tryz.ntmps71
  go_wp2
  go_ret;exact⟨rfl,rfl⟩
 ·rw[if_neg h]
  go_enter Tryz.func71,Tryz.ntmps71
  go_wp2
  go_ret;exact⟨rfl,rfl⟩
set_option linter.unusedVariables false
theorem rowF.setCell {w:World} {x N:Nat} (h:rowF w x N) (p:Addr) (v:Value):rowF (w.setCell p v) x N:=fun t ht=>by
 obtain⟨⟨u,hu⟩,hf⟩:=h t ht
 refine⟨?_,by rw[World.frozen?_setCell];exact hf⟩
 by_cases e:(⟨x,t,none⟩ : Addr)=p
 ·subst e;exact⟨v,World.cell?_setCell_same _ _ _ hu⟩
 ·exact⟨u,by rw[World.cell?_setCell_other _ _ _ _ (fun hh=>e hh.symm)];exact hu⟩
theorem rowF.setRow {x N:Nat} (g:Nat):∀ (vs:List Value) (w:World) (p:Nat),rowF w x N→rowF (setRow w g p vs) x N:=by
 intro vs;induction vs with
 | nil=>intro w p h;exact h
 | cons v vs ih=>intro w p h;exact ih _ (p+1) (h.setCell _ v)
theorem rowF.le {w:World} {x N M:Nat} (h:rowF w x N) (hM:M≤N):rowF w x M:=fun t ht=>h t (by omega)
def mkB (W:World) (b m C:Nat):Prop:=∀ t,t<m→W.cell? ⟨b,t,none⟩=some (.int .u8 (((C+t) % 256:Nat):Int))
theorem markByteS_any (w:World) (b m cap C:Nat) (hr:rowF w b m) (hcp:m≤cap) (hm:m≤1048576) (hC:C≤10000000000000000) :
  Calls Tryz.prog 54 #[.slice (some ⟨b,0,none⟩) m cap,.int .i64 (C:Int)] w fun o w'=>o = .returned (.int .i64 ((C+m:Nat):Int))∧mkB w' b m C∧(∀ x N,rowF w x N→rowF w' x N)∧(∀ x,x≠b→w'.heap[x]?=w.heap[x]?)∧w'.heap.size=w.heap.size∧Below b w w':=by
 have HR:Hid (rowF w b m):=hr
 clear hr;go_enter Tryz.func54,Tryz.ntmps54
 go_wp2
 go_loopw [1,5] (fun kk i wr=>∃ k:Nat,k≤m∧i = .int .i64 (k:Int)∧kk = .int .i64 ((C+k:Nat):Int)∧mkB wr b k C∧(∀ x N,rowF w x N→rowF wr x N)∧(∀ x,x≠b→wr.heap[x]?=w.heap[x]?)∧wr.heap.size=w.heap.size∧Below b w wr) (fun _ i _=>m-(intOf i).toNat)
 case atStart=>exact⟨0,Nat.zero_le _,rfl,by go_num,fun j hj=>absurd hj (Nat.not_lt_zero _),fun _ _ h=>h,fun _ _=>rfl,rfl,Below.refl _ _⟩
 case round=>
  obtain⟨k,hk,rfl,rfl,hdone,hrow,hoth,hsz,hb⟩:=hrel
  by_cases hlt:k<m
  ·obtain⟨⟨v0,z0⟩,f0⟩:=(hrow b m HR.out) k hlt
   have HD:Hid (mkB wr b k C∧(∀ x N,rowF w x N→rowF wr x N)∧(∀ x,x≠b→wr.heap[x]?=w.heap[x]?)∧wr.heap.size=w.heap.size∧Below b w wr):=⟨hdone,hrow,hoth,hsz,hb⟩
   clear hdone hrow hoth hsz hb;generalize hD:C+k=D at *;have HD2:Hid (C+k=D):=hD
   have hD1:D≤20000000000000000:=by omega
   clear hD;go_wp2
   obtain⟨r1,r2,r3,r4,r5⟩:=HD.out
   have hD:=HD2.out
   refine⟨⟨k+1,by omega,by go_num,by rw[show C+(k+1)=D+1 by omega];go_num,fun t ht=>?_,fun x N h=>(r2 x N h).setCell _ _,fun x hx=>(heap_setCell_other _ _ x _ hx).trans (r3 x hx),by simpa using r4,r5.setCell (Nat.le_refl _) _⟩,by simp[intOf];omega⟩
   by_cases e:t=k
   ·subst e;rw[World.cell?_setCell_same _ _ _ z0,hD]
    congr 2
   ·rw[World.cell?_setCell_other _ _ _ _ (by intro hh;exact e (by simpa using hh.symm))]
    exact r1 t (by omega)
  ·have hkn:k=m:=by omega
   subst hkn;go_wp2
   go_ret;exact⟨rfl,hdone,hrow,hoth,hsz,hb⟩
theorem markByte_none (w:World) (cap C:Nat):Calls Tryz.prog 54 #[.slice none 0 cap,.int .i64 (C:Int)] w fun o w'=>o = .returned (.int .i64 (C:Int))∧w'=w:=by
 go_enter Tryz.func54,Tryz.ntmps54
 go_wp2
 go_loopw [1,5] (fun kk i wr=>i = .int .i64 0∧kk = .int .i64 (C:Int)∧wr=w) (fun _ _ _=>0)
 case atStart=>exact⟨rfl,rfl,rfl⟩
 case round=>
  obtain⟨rfl,rfl,rfl⟩:=hrel
  go_wp2
  go_ret;exact⟨rfl,rfl⟩
theorem heldByte_none (w:World) (cap C:Nat):Calls Tryz.prog 150 #[.slice none 0 cap,.int .i64 (C:Int)] w fun o w'=>o = .returned (.int .i64 (C:Int))∧w'=w:=by
 go_enter Tryz.func150,Tryz.ntmps150
 go_wp2
 go_loopw [1,5] (fun kk i wr=>i = .int .i64 0∧kk = .int .i64 (C:Int)∧wr=w) (fun _ _ _=>0)
 case atStart=>exact⟨rfl,rfl,rfl⟩
 case round=>
  obtain⟨rfl,rfl,rfl⟩:=hrel
  go_wp2
  go_ret;exact⟨rfl,rfl⟩
theorem heldByteS_any (w:World) (b m cap C:Nat) (hr:mkB w b m C) (hcp:m≤cap) (hm:m≤1048576) (hC:C≤10000000000000000) :
  Calls Tryz.prog 150 #[.slice (some ⟨b,0,none⟩) m cap,.int .i64 (C:Int)] w fun o w'=>o = .returned (.int .i64 ((C+m:Nat):Int))∧w'=w:=by
 have HR:Hid (mkB w b m C):=hr
 clear hr;go_enter Tryz.func150,Tryz.ntmps150
 go_wp2
 go_loopw [1,5] (fun kk i wr=>∃ k:Nat,k≤m∧i = .int .i64 (k:Int)∧kk = .int .i64 ((C+k:Nat):Int)∧wr=w) (fun _ i _=>m-(intOf i).toNat)
 case atStart=>exact⟨0,Nat.zero_le _,rfl,by go_num,rfl⟩
 case round=>
  obtain⟨k,hk,rfl,rfl,rfl⟩:=hrel
  by_cases hlt:k<m
  ·have z0:=HR.out k hlt
   generalize hD:C+k=D at *;have HD2:Hid (C+k=D):=hD
   have hD1:D≤20000000000000000:=by omega
   clear hD;go_wp2
   refine⟨⟨k+1,by omega,by go_num,by rw[show C+(k+1)=D+1 by have:=HD2.out;omega];go_num,trivial⟩,by simp[intOf];omega⟩
  ·have hkn:k=m:=by omega
   subst hkn;go_wp2
   go_ret;exact⟨rfl,rfl⟩
end Go.Proofs.YtkfcfigbgmbaiaaGreat
