import Derived.Test.YtkfcfigbgmbaiaaGreatK04
import Derived.Test.YtkfcfigbgmbaiaaGreatK03
namespace Go.Proofs.YtkfcfigbgmbaiaaGreat
open Go.RowKit
set_option maxHeartbeats 16000000
structure Keep2 (b:Nat) (X w':World):Prop where
 cp:∀ o,w'.cell? ⟨b,o,none⟩=X.cell? ⟨b,o,none⟩
 cr:∀ o,w'.cell? ⟨b+1,o,none⟩=X.cell? ⟨b+1,o,none⟩
theorem keep2 {b:Nat} {X w':World} (hb:Below X.heap.size X w') (hz:b+2≤X.heap.size):Keep2 b X w':=
 ⟨fun o=>hb.cell (p:=⟨b,o,none⟩) (by show b<_;omega),fun o=>hb.cell (p:=⟨b+1,o,none⟩) (by show b+1<_;omega)⟩
theorem ceqFilter {w X:World} (hX:Below w.heap.size w X) (hz:w.heap.size+2≤X.heap.size) {a a':Option Addr} {n cap n' cap':Nat} {bs:List R3} (h:isR3s w a n cap bs) (h':isR3s w a' n' cap' bs) (hn:bs.length≤1048576) :
  Calls Tryz.prog 90 #[.slice a n cap,.slice a' n' cap'] X fun e w'=>e = .returned (.bool true)∧Below w.heap.size w w'∧w.heap.size+2≤w'.heap.size∧Keep2 w.heap.size X w':=by
 refine (eqFilterS_same X a a' n cap n' cap' bs (h.below hX) (h'.below hX) (by have:=h.len;omega)).mono ?_
 rintro e w' ⟨rfl,h2⟩;exact⟨rfl,hX.trans (h2.mono hX.size),Nat.le_trans hz h2.size,keep2 h2 hz⟩
theorem ceqBox {w X:World} (hX:Below w.heap.size w X) (hz:w.heap.size+2≤X.heap.size) {a a':Option Addr} {n cap n' cap':Nat} {bs:List R8} (h:isR8s w a n cap bs) (h':isR8s w a' n' cap' bs) (hn:bs.length≤1048576) (hd:∀ j (h:j<bs.length),bs[j].l.length≤1048576) :
  Calls Tryz.prog 91 #[.slice a n cap,.slice a' n' cap'] X fun e w'=>e = .returned (.bool true)∧Below w.heap.size w w'∧w.heap.size+2≤w'.heap.size∧Keep2 w.heap.size X w':=by
 refine (eqBoxS_same X a a' n cap n' cap' bs (h.below hX) (h'.below hX) (by have:=h.len;omega) hd).mono ?_
 rintro e w' ⟨rfl,h2⟩;exact⟨rfl,hX.trans (h2.mono hX.size),Nat.le_trans hz h2.size,keep2 h2 hz⟩
theorem ceqFrame {w X:World} (hX:Below w.heap.size w X) (hz:w.heap.size+2≤X.heap.size) {a a':Option Addr} {n cap n' cap':Nat} {bs:List R5} (h:isR5s w a n cap bs) (h':isR5s w a' n' cap' bs) (hn:bs.length≤1048576) (hd:∀ j (h:j<bs.length),bs[j].l.length≤1048576) :
  Calls Tryz.prog 92 #[.slice a n cap,.slice a' n' cap'] X fun e w'=>e = .returned (.bool true)∧Below w.heap.size w w'∧w.heap.size+2≤w'.heap.size∧Keep2 w.heap.size X w':=by
 refine (eqFrameS_same X a a' n cap n' cap' bs (h.below hX) (h'.below hX) (by have:=h.len;omega) hd).mono ?_
 rintro e w' ⟨rfl,h2⟩;exact⟨rfl,hX.trans (h2.mono hX.size),Nat.le_trans hz h2.size,keep2 h2 hz⟩
theorem ceqEvent {w X:World} (hX:Below w.heap.size w X) (hz:w.heap.size+2≤X.heap.size) {a a':Option Addr} {n cap n' cap':Nat} {bs:List R8} (h:isR8s w a n cap bs) (h':isR8s w a' n' cap' bs) (hn:bs.length≤1048576) (hd:∀ j (h:j<bs.length),bs[j].l.length≤1048576) :
  Calls Tryz.prog 93 #[.slice a n cap,.slice a' n' cap'] X fun e w'=>e = .returned (.bool true)∧Below w.heap.size w w'∧w.heap.size+2≤w'.heap.size∧Keep2 w.heap.size X w':=by
 refine (eqEventS_same X a a' n cap n' cap' bs (h.below hX) (h'.below hX) (by have:=h.len;omega) hd).mono ?_
 rintro e w' ⟨rfl,h2⟩;exact⟨rfl,hX.trans (h2.mono hX.size),Nat.le_trans hz h2.size,keep2 h2 hz⟩
theorem ceqConfig {w X:World} (hX:Below w.heap.size w X) (hz:w.heap.size+2≤X.heap.size) (a b c d:Int) :
  Calls Tryz.prog 89 #[cfV a b c d,cfV a b c d] X fun e w'=>e = .returned (.bool true)∧Below w.heap.size w w'∧w.heap.size+2≤w'.heap.size∧Keep2 w.heap.size X w':=by
 refine (eqConfig_same X a b c d).mono ?_
 rintro e w' ⟨rfl,h2⟩;exact⟨rfl,hX.trans (h2.mono hX.size),Nat.le_trans hz h2.size,keep2 h2 hz⟩
set_option maxRecDepth 20000 in
theorem eqHost_same (w:World) (H:Ho) (s s':Sl) (h:isHo w H s) (h':isHo w H s') (hn:H.le 1048576) :
  Calls Tryz.prog 39 #[hoV H s,hoV H s'] w fun o w'=>o = .returned (.bool true)∧Below w.heap.size w w':=by
 have HH:Hid (isHo w H s):=h
 have HH':Hid (isHo w H s'):=h'
 have HN:Hid (H.le 1048576):=hn
 clear h h' hn;obtain⟨c0,c1,c2,c3,fs,bx,ff,qu,lo,st⟩:=H
 obtain⟨a1,n1,k1,a2,n2,k2,a3,n3,k3,a4,n4,k4⟩:=s
 obtain⟨b1,m1,l1,b2,m2,l2,b3,m3,l3,b4,m4,l4⟩:=s'
 have hlo:(lo != lo)=false:=by simp
 have hst:(st != st)=false:=by simp
 go_enter Tryz.func39,Tryz.ntmps39
 go_wp2_with (first | (go_at_call 89;refine (ceqConfig (w:=w) (((Below.refl _ _).alloc (Nat.le_refl _) _).alloc (by simp) _) (by simp) _ _ _ _).mono ?_;rintro o w1 ⟨rfl,B1,Z1,K1⟩;obtain⟨cp1,cr1⟩:=K1;have HB1:Hid (Below w.heap.size w w1):=B1;have HZ1:Hid (w.heap.size+2≤w1.heap.size):=Z1;clear B1 Z1) | (go_at_call 90;refine (ceqFilter HB1.out HZ1.out HH.out.fs HH'.out.fs HN.out.fs).mono ?_;rintro o w2 ⟨rfl,B2,Z2,K2⟩;obtain⟨cp2,cr2⟩:=K2;have HB2:Hid (Below w.heap.size w w2):=B2;have HZ2:Hid (w.heap.size+2≤w2.heap.size):=Z2;clear B2 Z2) | (go_at_call 91;refine (ceqBox HB2.out HZ2.out HH.out.bx HH'.out.bx HN.out.bx HN.out.bd).mono ?_;rintro o w3 ⟨rfl,B3,Z3,K3⟩;obtain⟨cp3,cr3⟩:=K3;have HB3:Hid (Below w.heap.size w w3):=B3;have HZ3:Hid (w.heap.size+2≤w3.heap.size):=Z3;clear B3 Z3) | (go_at_call 92;refine (ceqFrame HB3.out HZ3.out HH.out.ff HH'.out.ff HN.out.ff HN.out.fd).mono ?_;rintro o w4 ⟨rfl,B4,Z4,K4⟩;obtain⟨cp4,cr4⟩:=K4;have HB4:Hid (Below w.heap.size w w4):=B4;have HZ4:Hid (w.heap.size+2≤w4.heap.size):=Z4;clear B4 Z4) | (go_at_call 93;refine (ceqEvent HB4.out HZ4.out HH.out.qu HH'.out.qu HN.out.qu HN.out.qd).mono ?_;rintro o w5 ⟨rfl,B5,Z5,K5⟩;obtain⟨cp5,cr5⟩:=K5;have HB5:Hid (Below w.heap.size w w5):=B5;have HZ5:Hid (w.heap.size+2≤w5.heap.size):=Z5;clear B5 Z5))
 go_ret;exact⟨rfl,HB5.out⟩
theorem cszBox {w X:World} (hX:Below w.heap.size w X) (hz:w.heap.size+1≤X.heap.size) {a:Option Addr} {n cap:Nat} {bs:List R8} (h:isR8s w a n cap bs) (m:Nat) (hm:m≤1048576) (hn:bs.length≤9223372036854775807) (hd:∀ j (h:j<bs.length),bs[j].l.length≤9223372036854775807) :
  Calls Tryz.prog 72 #[.slice a n cap,.int .i64 (m:Int)] X fun e w'=>∃ z:Int,e = .returned (.int .i64 z)∧Below w.heap.size w w'∧w.heap.size+1≤w'.heap.size∧(∀ o,w'.cell? ⟨w.heap.size,o,none⟩=X.cell? ⟨w.heap.size,o,none⟩)∧(z = -1∨∃ m':Nat,z=(m':Int)∧m'≤m∧bs.length≤m∧∀ j (h:j<bs.length),bs[j].l.length≤m):=by
 have hl:=h.len
 refine (szBoxS_any X a n cap bs (h.below hX) m hm (by omega) hd).mono ?_
 rintro e w' ⟨z,rfl,h2,h3⟩;refine⟨z,rfl,hX.trans (h2.mono hX.size),Nat.le_trans hz h2.size,fun o=>h2.cell (p:=⟨w.heap.size,o,none⟩) (by show w.heap.size<_;omega),?_⟩
 rcases h3 with h3|⟨m',e1,e2,e3,e4⟩
 ·exact .inl h3
 ·exact .inr ⟨m',e1,e2,by omega,e4⟩
theorem cszFrame {w X:World} (hX:Below w.heap.size w X) (hz:w.heap.size+1≤X.heap.size) {a:Option Addr} {n cap:Nat} {bs:List R5} (h:isR5s w a n cap bs) (m:Nat) (hm:m≤1048576) (hn:bs.length≤9223372036854775807) (hd:∀ j (h:j<bs.length),bs[j].l.length≤9223372036854775807) :
  Calls Tryz.prog 73 #[.slice a n cap,.int .i64 (m:Int)] X fun e w'=>∃ z:Int,e = .returned (.int .i64 z)∧Below w.heap.size w w'∧w.heap.size+1≤w'.heap.size∧(∀ o,w'.cell? ⟨w.heap.size,o,none⟩=X.cell? ⟨w.heap.size,o,none⟩)∧(z = -1∨∃ m':Nat,z=(m':Int)∧m'≤m∧bs.length≤m∧∀ j (h:j<bs.length),bs[j].l.length≤m):=by
 have hl:=h.len
 refine (szFrameS_any X a n cap bs (h.below hX) m hm (by omega) hd).mono ?_
 rintro e w' ⟨z,rfl,h2,h3⟩;refine⟨z,rfl,hX.trans (h2.mono hX.size),Nat.le_trans hz h2.size,fun o=>h2.cell (p:=⟨w.heap.size,o,none⟩) (by show w.heap.size<_;omega),?_⟩
 rcases h3 with h3|⟨m',e1,e2,e3,e4⟩
 ·exact .inl h3
 ·exact .inr ⟨m',e1,e2,by omega,e4⟩
theorem cszEvent {w X:World} (hX:Below w.heap.size w X) (hz:w.heap.size+1≤X.heap.size) {a:Option Addr} {n cap:Nat} {bs:List R8} (h:isR8s w a n cap bs) (m:Nat) (hm:m≤1048576) (hn:bs.length≤9223372036854775807) (hd:∀ j (h:j<bs.length),bs[j].l.length≤9223372036854775807) :
  Calls Tryz.prog 74 #[.slice a n cap,.int .i64 (m:Int)] X fun e w'=>∃ z:Int,e = .returned (.int .i64 z)∧Below w.heap.size w w'∧w.heap.size+1≤w'.heap.size∧(∀ o,w'.cell? ⟨w.heap.size,o,none⟩=X.cell? ⟨w.heap.size,o,none⟩)∧(z = -1∨∃ m':Nat,z=(m':Int)∧m'≤m∧bs.length≤m∧∀ j (h:j<bs.length),bs[j].l.length≤m):=by
 have hl:=h.len
 refine (szEventS_any X a n cap bs (h.below hX) m hm (by omega) hd).mono ?_
 rintro e w' ⟨z,rfl,h2,h3⟩;refine⟨z,rfl,hX.trans (h2.mono hX.size),Nat.le_trans hz h2.size,fun o=>h2.cell (p:=⟨w.heap.size,o,none⟩) (by show w.heap.size<_;omega),?_⟩
 rcases h3 with h3|⟨m',e1,e2,e3,e4⟩
 ·exact .inl h3
 ·exact .inr ⟨m',e1,e2,by omega,e4⟩
def okCf (a b c d:Int):Bool:=decide (1≤a∧a≤8∧1≤b∧b≤16∧0≤c∧c≤1∧1≤d∧d≤32)
theorem inRange_any (w:World) (v l m:Int):Calls Tryz.prog 43 #[.int .i64 v,.int .i64 l,.int .i64 m] w fun o w'=>o = .returned (.bool (decide (l≤v∧v≤m)))∧w=w':=by
 have HD:Hid (∀ b:Bool,(b=true↔(l≤v∧v≤m))→b=decide (l≤v∧v≤m)):=fun b h=>by rw[Bool.eq_iff_iff,h];simp
 generalize decide (l≤v∧v≤m)=R at *;go_enter Tryz.func43,Tryz.ntmps43
 go_wp2
 all_goals
  go_ret;refine⟨ret_bool (HD.out _ ?_),rfl⟩
  simp
  try omega
theorem l3okConfig_any (w:World) (a b c d:Int):Calls Tryz.prog 127 #[cfV a b c d] w fun o w'=>o = .returned (.bool (okCf a b c d))∧Below w.heap.size w w':=by
 go_enter Tryz.func127,Tryz.ntmps127
 go_wp2
 all_goals
  go_ret;refine⟨ret_bool ?_,(Below.refl _ _).alloc (Nat.le_refl _) _⟩
  unfold okCf
  rw[Bool.eq_iff_iff]
  simp
  try omega
theorem validConfig_any (w:World) (a b c d:Int):Calls Tryz.prog 169 #[cfV a b c d] w fun o w'=>o = .returned (.bool (okCf a b c d))∧Below w.heap.size w w':=by
 go_enter Tryz.func169,Tryz.ntmps169
 go_wp2_with (first | (go_at_call 43;refine (inRange_any _ _ _ _).mono ?_;rintro o w1 ⟨rfl,rfl⟩))
 all_goals
  go_ret;refine⟨ret_bool ?_,(Below.refl _ _).alloc (Nat.le_refl _) _⟩
  unfold okCf
  rw[Bool.eq_iff_iff]
  simp
  try omega
def okFl (x:R3):Bool:=decide (x.m<(if x.e=true then 536870912 else 2048)) && decide (x.k<(if x.e=true then 536870912 else 2048))
theorem wrongFilter_any (w:World) (x:R3):Calls Tryz.prog 207 #[flV x.e x.m x.k] w fun o w'=>o = .returned (.bool (!okFl x))∧Below w.heap.size w w':=by
 obtain⟨e,m,k⟩:=x
 cases e
 ·have HD:Hid (∀ b:Bool,(b=true↔¬ (m<2048∧k<2048))→b = !okFl ⟨false,m,k⟩):=fun b h=>by rw[Bool.eq_iff_iff,h];simp[okFl];omega
  generalize okFl ⟨false,m,k⟩=R at *;go_enter Tryz.func207,Tryz.ntmps207
  go_wp2
  all_goals
   go_ret;refine⟨ret_bool (HD.out _ ?_),(Below.refl _ _).alloc (Nat.le_refl _) _⟩
   simp
   try omega
 ·have HD:Hid (∀ b:Bool,(b=true↔¬ (m<536870912∧k<536870912))→b = !okFl ⟨true,m,k⟩):=fun b h=>by rw[Bool.eq_iff_iff,h];simp[okFl];omega
  generalize okFl ⟨true,m,k⟩=R at *;go_enter Tryz.func207,Tryz.ntmps207
  go_wp2
  all_goals
   go_ret;refine⟨ret_bool (HD.out _ ?_),(Below.refl _ _).alloc (Nat.le_refl _) _⟩
   simp
   try omega
theorem all_snoc {bs:List R3} {k:Nat} (hk:k<bs.length) (h:∀ j (hj:j<bs.length),j<k→okFl bs[j]=true) (h1:okFl bs[k]=true):∀ j (hj:j<bs.length),j<k+1→okFl bs[j]=true:=by
 intro j hj h2;by_cases e:j=k
 ·subst e;exact h1
 ·exact h j hj (by omega)
theorem all_yes {bs:List R3} {k:Nat} (hk:bs.length≤k) (h:∀ j (hj:j<bs.length),j<k→okFl bs[j]=true):bs.all okFl=true:=by
 rw[List.all_eq_true]
 intro x hx;obtain⟨j,hj,rfl⟩:=List.getElem_of_mem hx
 exact h j hj (by omega)
theorem all_no {bs:List R3} {k:Nat} (hk:k<bs.length) (h1:okFl bs[k]=false):bs.all okFl=false:=by
 rw[List.all_eq_false]
 exact⟨bs[k],List.getElem_mem hk,by rw[h1];simp⟩
theorem indexFunc_any (w:World) (a:Option Addr) (n cap:Nat) (bs:List R3) (h:isR3s w a n cap bs) (hn:n≤1048576) :
  Calls Tryz.prog 224 #[.slice a n cap,.func (.func 207) #[] #[]] w fun o w'=>∃ z:Int,o = .returned (.int .i64 z)∧decide (0≤z) = !bs.all okFl∧Below w.heap.size w w':=by
 have hlen:=h.len
 have hcp:=h.cap
 by_cases hl:bs=[]
 ·subst hl;have hn0:n=0:=hlen
  subst hn0;clear hlen h;go_enter Tryz.func224,Tryz.ntmps224
  go_wp2
  go_loopw [8] (fun i wr=>i = .int .i64 0∧wr=w) (fun _ _=>0)
  case atStart=>exact⟨rfl,rfl⟩
  case round=>
   obtain⟨rfl,rfl⟩:=hrel
   go_wp2
   go_ret;exact⟨-1,rfl,rfl,Below.refl _ _⟩
 ·obtain⟨g,off,rfl,hc⟩:=h.cells hl
  have HL:Hid (n=bs.length):=hlen
  have HC:Hid (∀ j (h:j<bs.length),at3 w g (off+j*3) bs[j]):=hc
  have hgz:g<w.heap.size:=World.block_lt_of_cell? w _ (hc 0 (List.length_pos_iff.2 hl)).c0
  clear h hlen hc;go_enter Tryz.func224,Tryz.ntmps224
  go_wp2
  go_loopw [8] (fun i wr=>∃ k:Nat,k≤n∧i = .int .i64 (k:Int)∧(∀ j (hj:j<bs.length),j<k→okFl bs[j]=true)∧Below w.heap.size w wr) (fun i _=>n-(intOf i).toNat)
  case atStart=>exact⟨0,Nat.zero_le _,rfl,fun j hj h=>absurd h (Nat.not_lt_zero _),Below.refl _ _⟩
  case round=>
   obtain⟨k,hk,rfl,hdone,hb⟩:=hrel
   by_cases hlt:k<n
   ·have hkl:k<bs.length:=by have:=HL.out;omega
    have hx:=HC.out k hkl
    have x0:=(hb.cell (by exact hgz)).trans hx.c0
    have x1:=(hb.cell (by exact hgz)).trans hx.c1
    have x2:=(hb.cell (by exact hgz)).trans hx.c2
    have HB:Hid (Below w.heap.size w wr):=hb
    have HD:Hid (∀ j (hj:j<bs.length),j<k→okFl bs[j]=true):=hdone
    have HW:Hid (∀ W,Calls Tryz.prog 207 #[flV bs[k].e bs[k].m bs[k].k] W fun o w'=>o = .returned (.bool (!okFl bs[k]))∧Below W.heap.size W w'):=fun W=>wrongFilter_any W bs[k]
    clear hx hb hdone;cases hok:okFl bs[k]
    ·have HN:Hid (bs.all okFl=false):=all_no hkl hok
     rw[hok] at HW
     clear hok;generalize bs[k].e=e0 at *;generalize bs[k].m=m0 at *;generalize bs[k].k=k0 at *;go_wp2_with (first | (go_at_call 207;refine (HW.out _).mono ?_;rintro o w5 ⟨rfl,hb5⟩))
     go_ret;exact⟨_,rfl,by rw[HN.out];simp,HB.out.trans (hb5.mono HB.out.size)⟩
    ·have HN:Hid (∀ j (hj:j<bs.length),j<k+1→okFl bs[j]=true):=all_snoc hkl HD.out hok
     rw[hok] at HW
     clear hok;generalize bs[k].e=e0 at *;generalize bs[k].m=m0 at *;generalize bs[k].k=k0 at *;go_wp2_with (first | (go_at_call 207;refine (HW.out _).mono ?_;rintro o w5 ⟨rfl,hb5⟩))
     go_roundw
     case rel=>exact⟨k+1,by omega,by go_num,HN.out,HB.out.trans (hb5.mono HB.out.size)⟩
     case measure=>simp[intOf];omega
   ·have HN:Hid (bs.all okFl=true):=all_yes (by have:=HL.out;omega) hdone
    clear hdone;go_wp2
    go_ret;exact⟨_,rfl,by rw[HN.out];simp,hb⟩
theorem containsFunc_any (w:World) (a:Option Addr) (n cap:Nat) (bs:List R3) (h:isR3s w a n cap bs) (hn:n≤1048576) :
  Calls Tryz.prog 206 #[.slice a n cap,.func (.func 207) #[] #[]] w fun o w'=>o = .returned (.bool (!bs.all okFl))∧Below w.heap.size w w':=by
 have HI:Hid (Calls Tryz.prog 224 #[.slice a n cap,.func (.func 207) #[] #[]] w fun o w'=>∃ z:Int,o = .returned (.int .i64 z)∧decide (0≤z) = !bs.all okFl∧Below w.heap.size w w'):=indexFunc_any w a n cap bs h hn
 clear h;go_enter Tryz.func206,Tryz.ntmps206
 go_wp2_with (first | (go_at_call 224;refine HI.out.mono ?_;rintro o w5 ⟨z,rfl,hz,hb5⟩;have HZ:Hid (decide (0≤z) = !bs.all okFl):=hz;clear hz))
 go_ret;exact⟨ret_bool HZ.out,hb5⟩
def okFs (bs:List R3):Bool:=decide (bs.length≤16) && bs.all okFl
theorem validFilters_any (w:World) (a:Option Addr) (n cap:Nat) (bs:List R3) (h:isR3s w a n cap bs) (hn:n≤1048576) :
  Calls Tryz.prog 170 #[.slice a n cap] w fun o w'=>o = .returned (.bool (okFs bs))∧Below w.heap.size w w':=by
 have hl:=h.len
 have HI:Hid (Calls Tryz.prog 206 #[.slice a n cap,.func (.func 207) #[] #[]] w fun o w'=>o = .returned (.bool (!bs.all okFl))∧Below w.heap.size w w'):=containsFunc_any w a n cap bs h hn
 clear h;by_cases h16:n≤16
 ·have HD:Hid (okFs bs=bs.all okFl):=by unfold Hid okFs;rw[show decide (bs.length≤16)=true from decide_eq_true (by omega)];simp
  have hd:decide ((n:Int)≤16)=true:=by simp;omega
  clear hl;have hmf:∀ (fn:Fn) (first cap:Array Value) (w:World),(Instr.makeFunc fn first cap).run Tryz.prog w = .ok (.func fn first cap) w:=fun _ _ _ _=>rfl
  go_enter Tryz.func170,Tryz.ntmps170
  go_wp2_with (first | (go_at_call 206;refine HI.out.mono ?_;rintro o w5 ⟨rfl,hb5⟩))
  go_ret;exact⟨ret_bool (by rw[HD.out];try simp),hb5⟩
 ·have HD:Hid (okFs bs=false):=by unfold Hid okFs;rw[show decide (bs.length≤16)=false from decide_eq_false (by omega)];rfl
  have hd:decide ((n:Int)≤16)=false:=by simp;omega
  clear hl;go_enter Tryz.func170,Tryz.ntmps170
  go_wp2
  go_ret;exact⟨ret_bool HD.out.symm,Below.refl _ _⟩
theorem below_q {B:Nat} (w:World) (q:Nat):Below B w (w.drewN q):=below_drewN (Below.refl _ _) q
theorem okFl_iff (x:R3):okFl x=true↔(x.m<(if x.e=true then 536870912 else 2048)∧x.k<(if x.e=true then 536870912 else 2048)):=by simp[okFl]
theorem l3okFilters_any (w:World) (a:Option Addr) (n cap:Nat) (bs:List R3) (h:isR3s w a n cap bs) (hn:n≤1048576) :
  Calls Tryz.prog 128 #[.slice a n cap] w fun o w'=>o = .returned (.bool (okFs bs))∧Below w.heap.size w w':=by
 have hlen:=h.len
 have hcp:=h.cap
 by_cases h16:n≤16
 ·have HF:Hid (okFs bs=bs.all okFl):=by unfold Hid okFs;rw[show decide (bs.length≤16)=true from decide_eq_true (by omega)];simp
  have hd:decide ((16:Int)<(n:Int))=false:=by simp;omega
  by_cases hl:bs=[]
  ·subst hl;have hn0:n=0:=hlen
   subst hn0;clear hlen h;go_enter Tryz.func128,Tryz.ntmps128
   go_wp2
   go_loopw [3,4] (fun i _ wr=>i = .int .i64 0∧wr=w) (fun _ _ _=>0)
   case atStart=>exact⟨rfl,rfl⟩
   case round=>
    obtain⟨rfl,rfl⟩:=hrel
    go_wp2
    go_ret;exact⟨ret_bool HF.out.symm,Below.refl _ _⟩
  ·obtain⟨g,off,rfl,hc⟩:=h.cells hl
   have HL:Hid (n=bs.length):=hlen
   have HC:Hid (∀ j (h:j<bs.length),at3 w g (off+j*3) bs[j]):=hc
   clear h hlen hc;go_enter Tryz.func128,Tryz.ntmps128
   go_wp2
   go_loopw [3,4] (fun i _ wr=>∃ k:Nat,k≤n∧i = .int .i64 (k:Int)∧(∀ j (hj:j<bs.length),j<k→okFl bs[j]=true)∧∃ q,wr=w.drewN q) (fun i _ _=>n-(intOf i).toNat)
   case atStart=>exact⟨0,Nat.zero_le _,rfl,fun j hj h=>absurd h (Nat.not_lt_zero _),0,rfl⟩
   case round=>
    obtain⟨k,hk,rfl,hdone,q,rfl⟩:=hrel
    have HD:Hid (∀ j (hj:j<bs.length),j<k→okFl bs[j]=true):=hdone
    clear hdone;by_cases hlt:k<n
    ·have hkl:k<bs.length:=by have:=HL.out;omega
     have hx:=HC.out k hkl
     have hgz:=World.block_lt_of_cell? w _ hx.c0
     have x0:=((below_q (B:=w.heap.size) w q).cell (by exact hgz)).trans hx.c0
     have x1:=((below_q (B:=w.heap.size) w q).cell (by exact hgz)).trans hx.c1
     have x2:=((below_q (B:=w.heap.size) w q).cell (by exact hgz)).trans hx.c2
     have HY:Hid (okFl bs[k]=true→∀ j (hj:j<bs.length),j<k+1→okFl bs[j]=true):=fun h=>all_snoc hkl HD.out h
     have HN:Hid (okFl bs[k]=false→bs.all okFl=false):=fun h=>all_no hkl h
     have HO:Hid (okFl bs[k]=true↔(bs[k].m<(if bs[k].e=true then 536870912 else 2048)∧bs[k].k<(if bs[k].e=true then 536870912 else 2048))):=okFl_iff bs[k]
     clear hx;generalize okFl bs[k]=R at *;generalize bs[k].m=m0 at *;generalize bs[k].k=k0 at *;generalize hW:w.drewN q=W at *;have HW:Hid (W=w.drewN q):=hW.symm
     clear hW;cases he:bs[k].e
     ·rw[he] at x0 HO
      clear he;by_cases hm:m0<2048
      ·have hdm:decide (2048≤m0)=false:=by simp;omega
       by_cases hk0:k0<2048
       ·have hdk:decide (2048≤k0)=false:=by simp;omega
        have HR:Hid (R=true):=HO.out.2 (by simp;omega)
        go_wp2
        go_roundw
        case rel=>exact⟨k+1,by omega,by go_num,HY.out HR.out,q,HW.out⟩
        case measure=>simp[intOf];omega
       ·have hdk:decide (2048≤k0)=true:=by simp;omega
        have HR:Hid (R=false):=by cases hR:R with | false=>exact rfl | true=>exact absurd (HO.out.1 hR) (by simp;omega)
        go_wp2
        go_ret;exact⟨ret_bool (by rw[HF.out,HN.out HR.out]),by rw[HW.out];exact below_q w q⟩
      ·have hdm:decide (2048≤m0)=true:=by simp;omega
       have HR:Hid (R=false):=by cases hR:R with | false=>exact rfl | true=>exact absurd (HO.out.1 hR) (by simp;omega)
       go_wp2
       go_ret;exact⟨ret_bool (by rw[HF.out,HN.out HR.out]),by rw[HW.out];exact below_q w q⟩
     ·rw[he] at x0 HO
      clear he;by_cases hm:m0<536870912
      ·have hdm:decide (536870912≤m0)=false:=by simp;omega
       by_cases hk0:k0<536870912
       ·have hdk:decide (536870912≤k0)=false:=by simp;omega
        have HR:Hid (R=true):=HO.out.2 (by simp;omega)
        go_wp2
        go_roundw
        case rel=>exact⟨k+1,by omega,by go_num,HY.out HR.out,q,HW.out⟩
        case measure=>simp[intOf];omega
       ·have hdk:decide (536870912≤k0)=true:=by simp;omega
        have HR:Hid (R=false):=by cases hR:R with | false=>exact rfl | true=>exact absurd (HO.out.1 hR) (by simp;omega)
        go_wp2
        go_ret;exact⟨ret_bool (by rw[HF.out,HN.out HR.out]),by rw[HW.out];exact below_q w q⟩
      ·have hdm:decide (536870912≤m0)=true:=by simp;omega
       have HR:Hid (R=false):=by cases hR:R with | false=>exact rfl | true=>exact absurd (HO.out.1 hR) (by simp;omega)
       go_wp2
       go_ret;exact⟨ret_bool (by rw[HF.out,HN.out HR.out]),by rw[HW.out];exact below_q w q⟩
    ·have HA:Hid (bs.all okFl=true):=all_yes (by have:=HL.out;omega) HD.out
     go_wp2
     go_ret;exact⟨ret_bool (by rw[HF.out,HA.out]),below_q w q⟩
 ·have HF:Hid (okFs bs=false):=by unfold Hid okFs;rw[show decide (bs.length≤16)=false from decide_eq_false (by omega)];rfl
  have hd:decide ((16:Int)<(n:Int))=true:=by simp;omega
  clear h hlen;go_enter Tryz.func128,Tryz.ntmps128
  go_wp2
  go_ret;exact⟨ret_bool HF.out.symm,Below.refl _ _⟩
def mkF (c:Nat):R3:=⟨decide (c % 3=0),((c+1:Nat):Int),((c+2:Nat):Int)⟩
theorem mkF_row (C:Nat):[Value.bool ((C:Int) % 3 == 0),.int .u32 ((C:Int)+1),.int .u32 ((C:Int)+1+1)]=[.bool (mkF C).e,.int .u32 (mkF C).m,.int .u32 (mkF C).k]:=by
 have h1:((C:Int) % 3 == 0)=decide (C % 3=0):=by rw[Bool.eq_iff_iff];simp;omega
 simp only[mkF,h1]
 congr 3
theorem heldFilterS_any (w:World) (g n cap c:Nat) (hr:∀ j,j<n→at3 w g (j*3) (mkF (c+3*j))) (hcp:n≤cap) (hn:n≤1048576) (hc:c≤1000) :
  Calls Tryz.prog 98 #[.slice (some ⟨g,0,none⟩) n cap,.int .i64 (c:Int)] w fun o w'=>o = .returned (.int .i64 ((c+3*n:Nat):Int))∧Below w.heap.size w w':=by
 have HR:Hid (∀ j,j<n→at3 w g (j*3) (mkF (c+3*j))):=hr
 clear hr;go_enter Tryz.func98,Tryz.ntmps98
 go_wp2
 go_loopw [1,5] (fun kk i wr=>∃ k q:Nat,k≤n∧i = .int .i64 (k:Int)∧kk = .int .i64 ((c+3*k:Nat):Int)∧wr=w.drewN q) (fun _ i _=>n-(intOf i).toNat)
 case atStart=>exact⟨0,0,Nat.zero_le _,rfl,by go_num,rfl⟩
 case round=>
  obtain⟨k,q,hk,rfl,rfl,rfl⟩:=hrel
  by_cases hlt:k<n
  ·have hx:=HR.out k hlt
   have hgz:=World.block_lt_of_cell? w _ hx.c0
   have x0:=((below_q (B:=w.heap.size) w q).cell (by exact hgz)).trans hx.c0
   have x1:=((below_q (B:=w.heap.size) w q).cell (by exact hgz)).trans hx.c1
   have x2:=((below_q (B:=w.heap.size) w q).cell (by exact hgz)).trans hx.c2
   clear hx;generalize hC:c+3*k=C at *;have HC:Hid (c+3*k=C):=hC
   have hC1:C≤4000000:=by omega
   clear hC;have e3:(C:Int).tmod 3=((C % 3:Nat):Int):=by rw[Int.tmod_eq_emod_of_nonneg (by omega)];omega
   have h1:(mkF C).e=((C:Int) % 3 == 0):=by rw[Bool.eq_iff_iff];simp[mkF];omega
   have h2:(mkF C).m=(C:Int)+1:=by simp[mkF]
   have h3:(mkF C).k=(C:Int)+1+1:=by simp[mkF];omega
   rw[h1] at x0
   rw[h2] at x1
   rw[h3] at x2
   clear h1 h2 h3;generalize hW:w.drewN q=W at *;have HW:Hid (W=w.drewN q):=hW.symm
   clear hW;go_wp2
   refine⟨⟨k+1,q,by omega,by go_num,by rw[← HC.out];go_num,HW.out⟩,by simp[intOf];omega⟩
  ·have hkn:k=n:=by omega
   subst hkn;go_wp2
   go_ret;exact⟨rfl,below_q w q⟩
theorem setCells_block (b:Nat) (t:TypeId):∀ (vs old pre post:List Value) (w:World),old.length=vs.length→w.heap[b]?=some (.cells (pre++old++post).toArray t (0,0))→(w.setCells b pre.length vs).heap[b]?=some (.cells (pre++vs++post).toArray t (0,0)):=by
 intro vs;induction vs with
 | nil=>
  intro old pre post w hl h;have:old=[]:=List.length_eq_zero_iff.1 hl
  subst this;exact h
 | cons v vs ih=>
  intro old pre post w hl h;match old,hl with
  | o :: old',hl=>
   have h1:=heap_setCell_same w b pre.length _ _ v h
   have e:(pre++o :: old'++post).toArray.setIfInBounds pre.length v=((pre++[v])++old'++post).toArray:=by simp
   have h2:=ih old' (pre++[v]) post (w.setCell ⟨b,pre.length,none⟩ v) (by simpa using hl) (by rw[← e];exact h1)
   rw[List.length_append,List.length_singleton] at h2
   rw[List.append_assoc pre [v] vs] at h2
   exact h2
theorem range_block {w:World} {b:Nat} {l:List Value} {t:TypeId} {fr:Nat × Nat} (h:w.heap[b]?=some (.cells l.toArray t fr)):w.rangeAt b 0 l:=fun j v hv=>by
 simp[World.cell?,h,hv]
theorem there_block {w:World} {b:Nat} {l:List Value} {t:TypeId} (h:w.heap[b]?=some (.cells l.toArray t (0,0))) (o n:Nat) (ho:o+n≤l.length):w.there b o n:=fun j hj=>by
 refine⟨?_,?_⟩
 ·have:o+j<l.length:=by omega
  simp[World.cell?,h,this]
 ·simp[World.frozen?,h]
theorem setCells_other (b k:Nat) (hk:k≠b) (vs:List Value) (w:World) (o:Nat):(w.setCells b o vs).heap[k]?=w.heap[k]?:=by
 rw[setCells_row];exact setRow_block b k hk vs w o
theorem St.setCells {B:Nat} {w:World} {p:World→Prop} (h:St B w p) (b o:Nat) (hb:b<B) (vs:List Value):St B (w.setCells b o vs) p:=fun W hW=>h W fun k h1 h2=>(hW k h1 (by rw[setCells_row,setRow_size];exact h2)).trans (setCells_other b k (by omega) vs w o)
theorem sz41:(Tryz.prog.info? 39).map (·.size)=some 10:=by kernel_rfl
theorem one10 (c0 c1 c2 c3:Int) (b1:Option Addr) (m1 l1:Nat) (b2:Option Addr) (m2 l2:Nat) (b3:Option Addr) (m3 l3:Nat) (b4:Option Addr) (m4 l4:Nat) (lo st:Int):(#[.int .i64 c0,.int .i64 c1,.int .i64 c2,.int .i64 c3,.slice b1 m1 l1,.slice b2 m2 l2,.slice b3 m3 l3,.slice b4 m4 l4,.int .i64 lo,.int .i64 st]:Array Value).all (·.oneCell')=true:=
 all_oneCell_toArray (by simp[Value.oneCell'])
set_option linter.unusedVariables false
def esZ (p t r:Int):Int:=if p=7 then 2 else if 128≤t∨128≤r then 1 else 0
theorem l4state_any (w:World) (p t r:Int):Calls Tryz.prog 62 #[.int .i64 p,.int .i64 t,.int .i64 r] w fun o w'=>o = .returned (.int .i64 (esZ p t r))∧w=w':=by
 by_cases h:p=7
 ·have HZ:Hid (esZ p t r=2):=by unfold Hid esZ;rw[if_pos h]
  have hd:(p == 7)=true:=by simpa using h
  clear h;go_enter Tryz.func62,Tryz.ntmps62
  go_wp2
  go_ret;exact⟨ret_int HZ.out.symm,rfl⟩
 ·have hd:(p == 7)=false:=by simpa using h
  by_cases ht:128≤t
  ·have HZ:Hid (esZ p t r=1):=by unfold Hid esZ;rw[if_neg h,if_pos (.inl ht)]
   have hd1:decide (128≤t)=true:=by simpa using ht
   clear h;go_enter Tryz.func62,Tryz.ntmps62
   go_wp2
   go_ret;exact⟨ret_int HZ.out.symm,rfl⟩
  ·have hd1:decide (128≤t)=false:=by simpa using ht
   by_cases hr:128≤r
   ·have HZ:Hid (esZ p t r=1):=by unfold Hid esZ;rw[if_neg h,if_pos (.inr hr)]
    have hd2:decide (128≤r)=true:=by simpa using hr
    clear h;go_enter Tryz.func62,Tryz.ntmps62
    go_wp2
    go_ret;exact⟨ret_int HZ.out.symm,rfl⟩
   ·have hd2:decide (128≤r)=false:=by simpa using hr
    have HZ:Hid (esZ p t r=0):=by unfold Hid esZ;rw[if_neg h,if_neg (by omega)]
    clear h;go_enter Tryz.func62,Tryz.ntmps62
    go_wp2
    go_ret;exact⟨ret_int HZ.out.symm,rfl⟩
theorem stateOf_any (w:World) (p t r:Int) (b:Bool) (hb:b=decide (p=7)):Calls Tryz.prog 70 #[.bool b,.int .i64 t,.int .i64 r] w fun o w'=>o = .returned (.int .i64 (esZ p t r))∧w=w':=by
 by_cases h:p=7
 ·have HZ:Hid (esZ p t r=2):=by unfold Hid esZ;rw[if_pos h]
  have hd:b=true:=by rw[hb];simpa using h
  subst hd;clear hb h;go_enter Tryz.func70,Tryz.ntmps70
  go_wp2
  go_ret;exact⟨ret_int HZ.out.symm,rfl⟩
 ·have hd:b=false:=by rw[hb];simpa using h
  subst hd;by_cases ht:128≤max t r
  ·have HZ:Hid (esZ p t r=1):=by unfold Hid esZ;rw[if_neg h,if_pos (by omega)]
   clear hb h;have hd1:decide (128≤max t r)=true:=by simpa using ht
   go_enter Tryz.func70,Tryz.ntmps70
   go_wp2
   all_goals
    go_ret;exact⟨ret_int HZ.out.symm,rfl⟩
  ·have HZ:Hid (esZ p t r=0):=by unfold Hid esZ;rw[if_neg h,if_neg (by omega)]
   clear hb h;have hd1:decide (128≤max t r)=false:=by simpa using ht
   go_enter Tryz.func70,Tryz.ntmps70
   go_wp2
   all_goals
    go_ret;exact⟨ret_int HZ.out.symm,rfl⟩
def rLo (p:Int):Int:=if p=4 then 1 else 0
def rHi (p:Int):Int:=if p=2 then 5 else if p=3 then 15 else if p=4 then 7 else if p=5 then 2 else if p=6 then 7 else if p=7 then 10 else 0
theorem l4room_any (w:World) (p:Int):Calls Tryz.prog 75 #[.int .i64 p] w fun o w'=>o = .returned (.tuple #[.int .i64 (rLo p),.int .i64 (rHi p)])∧w=w':=by
 by_cases h2:p=2
 ·subst h2;go_enter Tryz.func75,Tryz.ntmps75
  go_wp2
  go_ret2
  exact⟨rfl,rfl⟩
 by_cases h3:p=3
 ·subst h3;go_enter Tryz.func75,Tryz.ntmps75
  go_wp2
  go_ret2
  exact⟨rfl,rfl⟩
 by_cases h4:p=4
 ·subst h4;go_enter Tryz.func75,Tryz.ntmps75
  go_wp2
  go_ret2
  exact⟨rfl,rfl⟩
 by_cases h5:p=5
 ·subst h5;go_enter Tryz.func75,Tryz.ntmps75
  go_wp2
  go_ret2
  exact⟨rfl,rfl⟩
 by_cases h6:p=6
 ·subst h6;go_enter Tryz.func75,Tryz.ntmps75
  go_wp2
  go_ret2
  exact⟨rfl,rfl⟩
 by_cases h7:p=7
 ·subst h7;go_enter Tryz.func75,Tryz.ntmps75
  go_wp2
  go_ret2
  exact⟨rfl,rfl⟩
 have HZ:Hid (rLo p=0∧rHi p=0):=by unfold Hid rLo rHi;rw[if_neg h4,if_neg h2,if_neg h3,if_neg h4,if_neg h5,if_neg h6,if_neg h7];exact⟨rfl,rfl⟩
 have e2:(p == 2)=false:=by simpa using h2
 have e3:(p == 3)=false:=by simpa using h3
 have e4:(p == 4)=false:=by simpa using h4
 have e5:(p == 5)=false:=by simpa using h5
 have e6:(p == 6)=false:=by simpa using h6
 have e7:(p == 7)=false:=by simpa using h7
 clear h2 h3 h4 h5 h6 h7;go_enter Tryz.func75,Tryz.ntmps75
 go_wp2
 go_ret2
 exact⟨by rw[HZ.out.1,HZ.out.2];rfl,rfl⟩
end Go.Proofs.YtkfcfigbgmbaiaaGreat
