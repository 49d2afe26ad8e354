import Derived.Test.YtbllefckefhpoaaGreatK01
import Derived.Test.YtbllefckefhpoaaGreatK03
import Derived.Test.YtbllefckefhpoaaGreatK04
namespace Go.Proofs.YtbllefckefhpoaaGreat
open Go.RowKit
set_option maxHeartbeats 16000000
open Go.Value renaming int→I,slice→sL,bool→bO,pointer→pT,agg→aG
open Go.IntKind renaming i64→J
open Go.Ending renaming returned→rT
open Go.Proofs.Tryz renaming prog→Tp
structure Keep2 (b:Nat) (X w':World):Prop where
 cp:∀ o,w'.cell? ⟨b,o,none⟩=X.cell? ⟨b,o,none⟩
 cr:∀ o,w'.cell? ⟨b+1,o,none⟩=X.cell? ⟨b+1,o,none⟩
theorem keep2 {b:Nat} {X w':World} (hb:Below X.heap.size X w') (hz:b+2≤X.heap.size):Keep2 b X w':=
 ⟨fun o=>hb.cell (p:=⟨b,o,none⟩) (by show b<_;omega),fun o=>hb.cell (p:=⟨b+1,o,none⟩) (by show b+1<_;omega)⟩
theorem ceqFilter {w X:World} (hX:Below w.heap.size w X) (hz:w.heap.size+2≤X.heap.size) {a a':Option Addr} {n cap n' cap':Nat} {bs:List R3} (h:isR3s w a n cap bs) (h':isR3s w a' n' cap' bs) (hn:bs.length≤1048576) :
  Calls Tp 82 #[sL a n cap,sL a' n' cap'] X fun e w'=>e = rT (bO true)∧Below w.heap.size w w'∧w.heap.size+2≤w'.heap.size∧Keep2 w.heap.size X w':=by
 refine (eqFilterS_same X a a' n cap n' cap' bs (h.below hX) (h'.below hX) (by have:=h.len;omega)).mono ?_
 rintro e w' ⟨rfl,h2⟩;exact⟨rfl,hX.trans (h2.mono hX.size),Nat.le_trans hz h2.size,keep2 h2 hz⟩
theorem ceqBox {w X:World} (hX:Below w.heap.size w X) (hz:w.heap.size+2≤X.heap.size) {a a':Option Addr} {n cap n' cap':Nat} {bs:List R8} (h:isR8s w a n cap bs) (h':isR8s w a' n' cap' bs) (hn:bs.length≤1048576) (hd:∀ j (h:j<bs.length),bs[j].l.length≤1048576) :
  Calls Tp 83 #[sL a n cap,sL a' n' cap'] X fun e w'=>e = rT (bO true)∧Below w.heap.size w w'∧w.heap.size+2≤w'.heap.size∧Keep2 w.heap.size X w':=by
 refine (eqBoxS_same X a a' n cap n' cap' bs (h.below hX) (h'.below hX) (by have:=h.len;omega) hd).mono ?_
 rintro e w' ⟨rfl,h2⟩;exact⟨rfl,hX.trans (h2.mono hX.size),Nat.le_trans hz h2.size,keep2 h2 hz⟩
theorem ceqFrame {w X:World} (hX:Below w.heap.size w X) (hz:w.heap.size+2≤X.heap.size) {a a':Option Addr} {n cap n' cap':Nat} {bs:List R5} (h:isR5s w a n cap bs) (h':isR5s w a' n' cap' bs) (hn:bs.length≤1048576) (hd:∀ j (h:j<bs.length),bs[j].l.length≤1048576) :
  Calls Tp 84 #[sL a n cap,sL a' n' cap'] X fun e w'=>e = rT (bO true)∧Below w.heap.size w w'∧w.heap.size+2≤w'.heap.size∧Keep2 w.heap.size X w':=by
 refine (eqFrameS_same X a a' n cap n' cap' bs (h.below hX) (h'.below hX) (by have:=h.len;omega) hd).mono ?_
 rintro e w' ⟨rfl,h2⟩;exact⟨rfl,hX.trans (h2.mono hX.size),Nat.le_trans hz h2.size,keep2 h2 hz⟩
theorem ceqEvent {w X:World} (hX:Below w.heap.size w X) (hz:w.heap.size+2≤X.heap.size) {a a':Option Addr} {n cap n' cap':Nat} {bs:List R8} (h:isR8s w a n cap bs) (h':isR8s w a' n' cap' bs) (hn:bs.length≤1048576) (hd:∀ j (h:j<bs.length),bs[j].l.length≤1048576) :
  Calls Tp 85 #[sL a n cap,sL a' n' cap'] X fun e w'=>e = rT (bO true)∧Below w.heap.size w w'∧w.heap.size+2≤w'.heap.size∧Keep2 w.heap.size X w':=by
 refine (eqEventS_same X a a' n cap n' cap' bs (h.below hX) (h'.below hX) (by have:=h.len;omega) hd).mono ?_
 rintro e w' ⟨rfl,h2⟩;exact⟨rfl,hX.trans (h2.mono hX.size),Nat.le_trans hz h2.size,keep2 h2 hz⟩
theorem ceqConfig {w X:World} (hX:Below w.heap.size w X) (hz:w.heap.size+2≤X.heap.size) (a b c d:Int) :
  Calls Tp 81 #[cfV a b c d,cfV a b c d] X fun e w'=>e = rT (bO true)∧Below w.heap.size w w'∧w.heap.size+2≤w'.heap.size∧Keep2 w.heap.size X w':=by
 refine (eqConfig_same X a b c d).mono ?_
 rintro e w' ⟨rfl,h2⟩;exact⟨rfl,hX.trans (h2.mono hX.size),Nat.le_trans hz h2.size,keep2 h2 hz⟩
set_option maxRecDepth 20000 in
theorem eqHost_same (w:World) (H:Ho) (s s':Sl) (h:isHo w H s) (h':isHo w H s') (hn:H.le 1048576) :
  Calls Tp 39 #[hoV H s,hoV H s'] w fun o w'=>o = rT (bO true)∧Below w.heap.size w w':=by
 have HH:Hid (isHo w H s):=h
 have HH':Hid (isHo w H s'):=h'
 have HN:Hid (H.le 1048576):=hn
 clear h h' hn;obtain⟨c0,c1,c2,c3,fs,bx,ff,qu,lo,st⟩:=H
 obtain⟨a1,n1,k1,a2,n2,k2,a3,n3,k3,a4,n4,k4⟩:=s
 obtain⟨b1,m1,l1,b2,m2,l2,b3,m3,l3,b4,m4,l4⟩:=s'
 have hlo:(lo != lo)=false:=by simp
 have hst:(st != st)=false:=by simp
 go_enter Tryz.func39,Tryz.ntmps39
 go_wp2_with (first | (go_at_call 81;refine (ceqConfig (w:=w) (((Below.refl _ _).alloc (Nat.le_refl _) _).alloc (by simp) _) (by simp) _ _ _ _).mono ?_;rintro o w1 ⟨rfl,B1,Z1,K1⟩;obtain⟨cp1,cr1⟩:=K1;have HB1:Hid (Below w.heap.size w w1):=B1;have HZ1:Hid (w.heap.size+2≤w1.heap.size):=Z1;clear B1 Z1) | (go_at_call 82;refine (ceqFilter HB1.out HZ1.out HH.out.fs HH'.out.fs HN.out.fs).mono ?_;rintro o w2 ⟨rfl,B2,Z2,K2⟩;obtain⟨cp2,cr2⟩:=K2;have HB2:Hid (Below w.heap.size w w2):=B2;have HZ2:Hid (w.heap.size+2≤w2.heap.size):=Z2;clear B2 Z2) | (go_at_call 83;refine (ceqBox HB2.out HZ2.out HH.out.bx HH'.out.bx HN.out.bx HN.out.bd).mono ?_;rintro o w3 ⟨rfl,B3,Z3,K3⟩;obtain⟨cp3,cr3⟩:=K3;have HB3:Hid (Below w.heap.size w w3):=B3;have HZ3:Hid (w.heap.size+2≤w3.heap.size):=Z3;clear B3 Z3) | (go_at_call 84;refine (ceqFrame HB3.out HZ3.out HH.out.ff HH'.out.ff HN.out.ff HN.out.fd).mono ?_;rintro o w4 ⟨rfl,B4,Z4,K4⟩;obtain⟨cp4,cr4⟩:=K4;have HB4:Hid (Below w.heap.size w w4):=B4;have HZ4:Hid (w.heap.size+2≤w4.heap.size):=Z4;clear B4 Z4) | (go_at_call 85;refine (ceqEvent HB4.out HZ4.out HH.out.qu HH'.out.qu HN.out.qu HN.out.qd).mono ?_;rintro o w5 ⟨rfl,B5,Z5,K5⟩;obtain⟨cp5,cr5⟩:=K5;have HB5:Hid (Below w.heap.size w w5):=B5;have HZ5:Hid (w.heap.size+2≤w5.heap.size):=Z5;clear B5 Z5))
 go_ret;exact⟨rfl,HB5.out⟩
theorem cszBox {w X:World} (hX:Below w.heap.size w X) (hz:w.heap.size+1≤X.heap.size) {a:Option Addr} {n cap:Nat} {bs:List R8} (h:isR8s w a n cap bs) (m:Nat) (hm:m≤1048576) (hn:bs.length≤9223372036854775807) (hd:∀ j (h:j<bs.length),bs[j].l.length≤9223372036854775807) :
  Calls Tp 43 #[sL a n cap,I J (m:Int)] X fun e w'=>∃ z:Int,e = rT (I J z)∧Below w.heap.size w w'∧w.heap.size+1≤w'.heap.size∧(∀ o,w'.cell? ⟨w.heap.size,o,none⟩=X.cell? ⟨w.heap.size,o,none⟩)∧(z = -1∨∃ m':Nat,z=(m':Int)∧m'≤m∧bs.length≤m∧∀ j (h:j<bs.length),bs[j].l.length≤m):=by
 have hl:=h.len
 refine (szBoxS_any X a n cap bs (h.below hX) m hm (by omega) hd).mono ?_
 rintro e w' ⟨z,rfl,h2,h3⟩;refine⟨z,rfl,hX.trans (h2.mono hX.size),Nat.le_trans hz h2.size,fun o=>h2.cell (p:=⟨w.heap.size,o,none⟩) (by show w.heap.size<_;omega),?_⟩
 rcases h3 with h3|⟨m',e1,e2,e3,e4⟩
 ·exact .inl h3
 ·exact .inr ⟨m',e1,e2,by omega,e4⟩
theorem cszFrame {w X:World} (hX:Below w.heap.size w X) (hz:w.heap.size+1≤X.heap.size) {a:Option Addr} {n cap:Nat} {bs:List R5} (h:isR5s w a n cap bs) (m:Nat) (hm:m≤1048576) (hn:bs.length≤9223372036854775807) (hd:∀ j (h:j<bs.length),bs[j].l.length≤9223372036854775807) :
  Calls Tp 44 #[sL a n cap,I J (m:Int)] X fun e w'=>∃ z:Int,e = rT (I J z)∧Below w.heap.size w w'∧w.heap.size+1≤w'.heap.size∧(∀ o,w'.cell? ⟨w.heap.size,o,none⟩=X.cell? ⟨w.heap.size,o,none⟩)∧(z = -1∨∃ m':Nat,z=(m':Int)∧m'≤m∧bs.length≤m∧∀ j (h:j<bs.length),bs[j].l.length≤m):=by
 have hl:=h.len
 refine (szFrameS_any X a n cap bs (h.below hX) m hm (by omega) hd).mono ?_
 rintro e w' ⟨z,rfl,h2,h3⟩;refine⟨z,rfl,hX.trans (h2.mono hX.size),Nat.le_trans hz h2.size,fun o=>h2.cell (p:=⟨w.heap.size,o,none⟩) (by show w.heap.size<_;omega),?_⟩
 rcases h3 with h3|⟨m',e1,e2,e3,e4⟩
 ·exact .inl h3
 ·exact .inr ⟨m',e1,e2,by omega,e4⟩
theorem cszEvent {w X:World} (hX:Below w.heap.size w X) (hz:w.heap.size+1≤X.heap.size) {a:Option Addr} {n cap:Nat} {bs:List R8} (h:isR8s w a n cap bs) (m:Nat) (hm:m≤1048576) (hn:bs.length≤9223372036854775807) (hd:∀ j (h:j<bs.length),bs[j].l.length≤9223372036854775807) :
  Calls Tp 45 #[sL a n cap,I J (m:Int)] X fun e w'=>∃ z:Int,e = rT (I J z)∧Below w.heap.size w w'∧w.heap.size+1≤w'.heap.size∧(∀ o,w'.cell? ⟨w.heap.size,o,none⟩=X.cell? ⟨w.heap.size,o,none⟩)∧(z = -1∨∃ m':Nat,z=(m':Int)∧m'≤m∧bs.length≤m∧∀ j (h:j<bs.length),bs[j].l.length≤m):=by
 have hl:=h.len
 refine (szEventS_any X a n cap bs (h.below hX) m hm (by omega) hd).mono ?_
 rintro e w' ⟨z,rfl,h2,h3⟩;refine⟨z,rfl,hX.trans (h2.mono hX.size),Nat.le_trans hz h2.size,fun o=>h2.cell (p:=⟨w.heap.size,o,none⟩) (by show w.heap.size<_;omega),?_⟩
 rcases h3 with h3|⟨m',e1,e2,e3,e4⟩
 ·exact .inl h3
 ·exact .inr ⟨m',e1,e2,by omega,e4⟩
set_option maxRecDepth 20000 in
theorem szHost_any (w:World) (H:Ho) (s:Sl) (h:isHo w H s) (hn:H.le 9223372036854775807) (m:Nat) (hm:m≤1048576) :
  Calls Tp 24 #[hoV H s,I J (m:Int)] w fun o w'=>∃ z:Int,o = rT (I J z)∧Below w.heap.size w w'∧(z = -1∨∃ m':Nat,z=(m':Int)∧H.le m):=by
 have HH:Hid (isHo w H s):=h
 have HN:Hid (H.le 9223372036854775807):=hn
 clear h hn;obtain⟨c0,c1,c2,c3,fs,bx,ff,qu,lo,st⟩:=H
 obtain⟨a1,n1,k1,a2,n2,k2,a3,n3,k3,a4,n4,k4⟩:=s
 have hA:Below w.heap.size w (w.alloc (.cells #[I J c0,I J c1,I J c2,I J c3,sL a1 n1 k1,sL a2 n2 k2,sL a3 n3 k3,sL a4 n4 k4,I J lo,I J st] 29)):=(Below.refl _ _).alloc (Nat.le_refl _) _
 have HA:Hid (Below w.heap.size w (w.alloc (.cells #[I J c0,I J c1,I J c2,I J c3,sL a1 n1 k1,sL a2 n2 k2,sL a3 n3 k3,sL a4 n4 k4,I J lo,I J st] 29))):=hA
 clear hA;by_cases h1:(n1:Int)≤(m:Int)
 ·have H1:Hid (∀ W,Calls Tp 42 #[sL a1 n1 k1,I J (m:Int)] W fun o w'=>o = rT (I J ((m:Int)-(n1:Int)))∧W=w'):=by
   intro W;have hl:n1=fs.length:=HH.out.fs.len
   have hb:fs.length≤9223372036854775807:=HN.out.fs
   have:=szFilterS_any W a1 n1 k1 m (by omega) hm
   rw[if_pos h1] at this
   exact this
  have e1:¬ (m:Int)-(n1:Int)<0:=by omega
  have ed:(m:Int)-(n1:Int)=((m-n1:Nat):Int):=by omega
  have hmm:m-n1≤1048576:=by omega
  have hmle:m-n1≤m:=by omega
  rw[ed] at H1 e1
  clear ed;generalize hmx:m-n1=mx at *;clear hmx;go_enter Tryz.func24,Tryz.ntmps24
  go_wp2_with (first | (go_at_call 42;refine (H1.out _).mono ?_;rintro o w1 ⟨rfl,rfl⟩))
  refine (cszBox HA.out (by simp) HH.out.bx mx hmm HN.out.bx HN.out.bd).mono ?_
  rintro o w2 ⟨z2,rfl,B2,Z2,cp2,h2⟩;have HB2:Hid (Below w.heap.size w w2):=B2
  have HZ2:Hid (w.heap.size+1≤w2.heap.size):=Z2
  clear B2 Z2;rcases h2 with rfl|⟨m2,rfl,l2,q2,d2⟩
  ·go_wp2_with fail;go_ret;exact⟨_,rfl,HB2.out,.inl rfl⟩
  ·have HD2:Hid (bx.length≤mx∧∀ j (h:j<bx.length),bx[j].l.length≤mx):=⟨q2,d2⟩
   clear q2 d2;go_wp2_with fail;refine (cszFrame HB2.out HZ2.out HH.out.ff m2 (by omega) HN.out.ff HN.out.fd).mono ?_
   rintro o w3 ⟨z3,rfl,B3,Z3,cp3,h3⟩;have HB3:Hid (Below w.heap.size w w3):=B3
   have HZ3:Hid (w.heap.size+1≤w3.heap.size):=Z3
   clear B3 Z3;rcases h3 with rfl|⟨m3,rfl,l3,q3,d3⟩
   ·go_wp2_with fail;go_ret;exact⟨_,rfl,HB3.out,.inl rfl⟩
   ·have HD3:Hid (ff.length≤m2∧∀ j (h:j<ff.length),ff[j].l.length≤m2):=⟨q3,d3⟩
    clear q3 d3;go_wp2_with fail;refine (cszEvent HB3.out HZ3.out HH.out.qu m3 (by omega) HN.out.qu HN.out.qd).mono ?_
    rintro o w4 ⟨z4,rfl,B4,Z4,cp4,h4⟩;have HB4:Hid (Below w.heap.size w w4):=B4
    clear B4 Z4;rcases h4 with rfl|⟨m4,rfl,l4,q4,d4⟩
    ·go_wp2_with fail;go_ret;exact⟨_,rfl,HB4.out,.inl rfl⟩
    ·have HD4:Hid (qu.length≤m3∧∀ j (h:j<qu.length),qu[j].l.length≤m3):=⟨q4,d4⟩
     clear q4 d4;go_wp2_with fail;go_ret;refine⟨_,rfl,HB4.out,.inr ⟨m4,rfl,?_⟩⟩
     have hl:n1=fs.length:=HH.out.fs.len
     obtain⟨x2,y2⟩:=HD2.out
     obtain⟨x3,y3⟩:=HD3.out
     obtain⟨x4,y4⟩:=HD4.out
     exact⟨by show fs.length≤m;omega,Nat.le_trans x2 hmle,by show ff.length≤m;omega,by show qu.length≤m;omega,fun j hj=>Nat.le_trans (y2 j hj) hmle,fun j hj=>Nat.le_trans (y3 j hj) (by omega),fun j hj=>Nat.le_trans (y4 j hj) (by omega)⟩
 ·have H1:Hid (∀ W,Calls Tp 42 #[sL a1 n1 k1,I J (m:Int)] W fun o w'=>o = rT (I J (-1))∧W=w'):=by
   intro W;have hl:n1=fs.length:=HH.out.fs.len
   have hb:fs.length≤9223372036854775807:=HN.out.fs
   have:=szFilterS_any W a1 n1 k1 m (by omega) hm
   rw[if_neg h1] at this
   exact this
  go_enter Tryz.func24,Tryz.ntmps24
  go_wp2_with (first | (go_at_call 42;refine (H1.out _).mono ?_;rintro o w1 ⟨rfl,rfl⟩))
  go_ret;exact⟨_,rfl,HA.out,.inl rfl⟩
def okCf (a b c d:Int):Bool:=decide (1≤a∧a≤8∧1≤b∧b≤16∧0≤c∧c≤1∧1≤d∧d≤32)
theorem inRange_any (w:World) (v l m:Int):Calls Tp 66 #[I J v,I J l,I J m] w fun o w'=>o = rT (bO (decide (l≤v∧v≤m)))∧w=w':=by
 have HD:Hid (∀ b:Bool,(b=true↔(l≤v∧v≤m))→b=decide (l≤v∧v≤m)):=fun b h=>by rw[Bool.eq_iff_iff,h];simp
 generalize decide (l≤v∧v≤m)=R at *;go_enter Tryz.func66,Tryz.ntmps66
 go_wp2
 all_goals
  go_ret;refine⟨ret_bool (HD.out _ ?_),rfl⟩
  simp
  try omega
theorem l3okConfig_any (w:World) (a b c d:Int):Calls Tp 97 #[cfV a b c d] w fun o w'=>o = rT (bO (okCf a b c d))∧Below w.heap.size w w':=by
 go_enter Tryz.func97,Tryz.ntmps97
 go_wp2
 all_goals
  go_ret;refine⟨ret_bool ?_,(Below.refl _ _).alloc (Nat.le_refl _) _⟩
  unfold okCf
  rw[Bool.eq_iff_iff]
  simp
  try omega
theorem validConfig_any (w:World) (a b c d:Int):Calls Tp 112 #[cfV a b c d] w fun o w'=>o = rT (bO (okCf a b c d))∧Below w.heap.size w w':=by
 go_enter Tryz.func112,Tryz.ntmps112
 go_wp2_with (first | (go_at_call 66;refine (inRange_any _ _ _ _).mono ?_;rintro o w1 ⟨rfl,rfl⟩))
 all_goals
  go_ret;refine⟨ret_bool ?_,(Below.refl _ _).alloc (Nat.le_refl _) _⟩
  unfold okCf
  rw[Bool.eq_iff_iff]
  simp
  try omega
def okFl (x:R3):Bool:=decide (x.m<(if x.e=true then 536870912 else 2048)) && decide (x.k<(if x.e=true then 536870912 else 2048))
theorem wrongFilter_any (w:World) (x:R3):Calls Tp 150 #[flV x.e x.m x.k] w fun o w'=>o = rT (bO (!okFl x))∧Below w.heap.size w w':=by
 obtain⟨e,m,k⟩:=x
 cases e
 ·have HD:Hid (∀ b:Bool,(b=true↔¬ (m<2048∧k<2048))→b = !okFl ⟨false,m,k⟩):=fun b h=>by rw[Bool.eq_iff_iff,h];simp[okFl];omega
  generalize okFl ⟨false,m,k⟩=R at *;go_enter Tryz.func150,Tryz.ntmps150
  go_wp2
  all_goals
   go_ret;refine⟨ret_bool (HD.out _ ?_),(Below.refl _ _).alloc (Nat.le_refl _) _⟩
   simp
   try omega
 ·have HD:Hid (∀ b:Bool,(b=true↔¬ (m<536870912∧k<536870912))→b = !okFl ⟨true,m,k⟩):=fun b h=>by rw[Bool.eq_iff_iff,h];simp[okFl];omega
  generalize okFl ⟨true,m,k⟩=R at *;go_enter Tryz.func150,Tryz.ntmps150
  go_wp2
  all_goals
   go_ret;refine⟨ret_bool (HD.out _ ?_),(Below.refl _ _).alloc (Nat.le_refl _) _⟩
   simp
   try omega
theorem all_snoc {bs:List R3} {k:Nat} (hk:k<bs.length) (h:∀ j (hj:j<bs.length),j<k→okFl bs[j]=true) (h1:okFl bs[k]=true):∀ j (hj:j<bs.length),j<k+1→okFl bs[j]=true:=by
 intro j hj h2;by_cases e:j=k
 ·subst e;exact h1
 ·exact h j hj (by omega)
theorem all_yes {bs:List R3} {k:Nat} (hk:bs.length≤k) (h:∀ j (hj:j<bs.length),j<k→okFl bs[j]=true):bs.all okFl=true:=by
 rw[List.all_eq_true]
 intro x hx;obtain⟨j,hj,rfl⟩:=List.getElem_of_mem hx
 exact h j hj (by omega)
theorem all_no {bs:List R3} {k:Nat} (hk:k<bs.length) (h1:okFl bs[k]=false):bs.all okFl=false:=by
 rw[List.all_eq_false]
 exact⟨bs[k],List.getElem_mem hk,by rw[h1];simp⟩
theorem indexFunc_any (w:World) (a:Option Addr) (n cap:Nat) (bs:List R3) (h:isR3s w a n cap bs) (hn:n≤1048576) :
  Calls Tp 183 #[sL a n cap,.func (.func 150) #[] #[]] w fun o w'=>∃ z:Int,o = rT (I J z)∧decide (0≤z) = !bs.all okFl∧Below w.heap.size w w':=by
 have hlen:=h.len
 have hcp:=h.cap
 by_cases hl:bs=[]
 ·subst hl;have hn0:n=0:=hlen
  subst hn0;clear hlen h;go_enter Tryz.func183,Tryz.ntmps183
  go_wp2
  go_loopw [8] (fun i wr=>i = I J 0∧wr=w) (fun _ _=>0)
  case atStart=>exact⟨rfl,rfl⟩
  case round=>
   obtain⟨rfl,rfl⟩:=hrel
   go_wp2
   go_ret;exact⟨-1,rfl,rfl,Below.refl _ _⟩
 ·obtain⟨g,off,rfl,hc⟩:=h.cells hl
  have HL:Hid (n=bs.length):=hlen
  have HC:Hid (∀ j (h:j<bs.length),at3 w g (off+j*3) bs[j]):=hc
  have hgz:g<w.heap.size:=World.block_lt_of_cell? w _ (hc 0 (List.length_pos_iff.2 hl)).c0
  clear h hlen hc;go_enter Tryz.func183,Tryz.ntmps183
  go_wp2
  go_loopw [8] (fun i wr=>∃ k:Nat,k≤n∧i = I J (k:Int)∧(∀ j (hj:j<bs.length),j<k→okFl bs[j]=true)∧Below w.heap.size w wr) (fun i _=>n-(intOf i).toNat)
  case atStart=>exact⟨0,Nat.zero_le _,rfl,fun j hj h=>absurd h (Nat.not_lt_zero _),Below.refl _ _⟩
  case round=>
   obtain⟨k,hk,rfl,hdone,hb⟩:=hrel
   by_cases hlt:k<n
   ·have hkl:k<bs.length:=by have:=HL.out;omega
    have hx:=HC.out k hkl
    have x0:=(hb.cell (by exact hgz)).trans hx.c0
    have x1:=(hb.cell (by exact hgz)).trans hx.c1
    have x2:=(hb.cell (by exact hgz)).trans hx.c2
    have HB:Hid (Below w.heap.size w wr):=hb
    have HD:Hid (∀ j (hj:j<bs.length),j<k→okFl bs[j]=true):=hdone
    have HW:Hid (∀ W,Calls Tp 150 #[flV bs[k].e bs[k].m bs[k].k] W fun o w'=>o = rT (bO (!okFl bs[k]))∧Below W.heap.size W w'):=fun W=>wrongFilter_any W bs[k]
    clear hx hb hdone;cases hok:okFl bs[k]
    ·have HN:Hid (bs.all okFl=false):=all_no hkl hok
     rw[hok] at HW
     clear hok;generalize bs[k].e=e0 at *;generalize bs[k].m=m0 at *;generalize bs[k].k=k0 at *;go_wp2_with (first | (go_at_call 150;refine (HW.out _).mono ?_;rintro o w5 ⟨rfl,hb5⟩))
     go_ret;exact⟨_,rfl,by rw[HN.out];simp,HB.out.trans (hb5.mono HB.out.size)⟩
    ·have HN:Hid (∀ j (hj:j<bs.length),j<k+1→okFl bs[j]=true):=all_snoc hkl HD.out hok
     rw[hok] at HW
     clear hok;generalize bs[k].e=e0 at *;generalize bs[k].m=m0 at *;generalize bs[k].k=k0 at *;go_wp2_with (first | (go_at_call 150;refine (HW.out _).mono ?_;rintro o w5 ⟨rfl,hb5⟩))
     go_roundw
     case rel=>exact⟨k+1,by omega,by go_num,HN.out,HB.out.trans (hb5.mono HB.out.size)⟩
     case measure=>simp[intOf];omega
   ·have HN:Hid (bs.all okFl=true):=all_yes (by have:=HL.out;omega) hdone
    clear hdone;go_wp2
    go_ret;exact⟨_,rfl,by rw[HN.out];simp,hb⟩
theorem containsFunc_any (w:World) (a:Option Addr) (n cap:Nat) (bs:List R3) (h:isR3s w a n cap bs) (hn:n≤1048576) :
  Calls Tp 149 #[sL a n cap,.func (.func 150) #[] #[]] w fun o w'=>o = rT (bO (!bs.all okFl))∧Below w.heap.size w w':=by
 have HI:Hid (Calls Tp 183 #[sL a n cap,.func (.func 150) #[] #[]] w fun o w'=>∃ z:Int,o = rT (I J z)∧decide (0≤z) = !bs.all okFl∧Below w.heap.size w w'):=indexFunc_any w a n cap bs h hn
 clear h;go_enter Tryz.func149,Tryz.ntmps149
 go_wp2_with (first | (go_at_call 183;refine HI.out.mono ?_;rintro o w5 ⟨z,rfl,hz,hb5⟩;have HZ:Hid (decide (0≤z) = !bs.all okFl):=hz;clear hz))
 go_ret;exact⟨ret_bool HZ.out,hb5⟩
def okFs (bs:List R3):Bool:=decide (bs.length≤16) && bs.all okFl
theorem validFilters_any (w:World) (a:Option Addr) (n cap:Nat) (bs:List R3) (h:isR3s w a n cap bs) (hn:n≤1048576) :
  Calls Tp 113 #[sL a n cap] w fun o w'=>o = rT (bO (okFs bs))∧Below w.heap.size w w':=by
 have hl:=h.len
 have HI:Hid (Calls Tp 149 #[sL a n cap,.func (.func 150) #[] #[]] w fun o w'=>o = rT (bO (!bs.all okFl))∧Below w.heap.size w w'):=containsFunc_any w a n cap bs h hn
 clear h;by_cases h16:n≤16
 ·have HD:Hid (okFs bs=bs.all okFl):=by unfold Hid okFs;rw[show decide (bs.length≤16)=true from decide_eq_true (by omega)];simp
  have hd:decide ((n:Int)≤16)=true:=by simp;omega
  clear hl;have hmf:∀ (fn:Fn) (first cap:Array Value) (w:World),(Instr.makeFunc fn first cap).run Tp w = .ok (.func fn first cap) w:=fun _ _ _ _=>rfl
  go_enter Tryz.func113,Tryz.ntmps113
  go_wp2_with (first | (go_at_call 149;refine HI.out.mono ?_;rintro o w5 ⟨rfl,hb5⟩))
  go_ret;exact⟨ret_bool (by rw[HD.out];try simp),hb5⟩
 ·have HD:Hid (okFs bs=false):=by unfold Hid okFs;rw[show decide (bs.length≤16)=false from decide_eq_false (by omega)];rfl
  have hd:decide ((n:Int)≤16)=false:=by simp;omega
  clear hl;go_enter Tryz.func113,Tryz.ntmps113
  go_wp2
  go_ret;exact⟨ret_bool HD.out.symm,Below.refl _ _⟩
theorem below_q {B:Nat} (w:World) (q:Nat):Below B w (w.drewN q):=below_drewN (Below.refl _ _) q
theorem okFl_iff (x:R3):okFl x=true↔(x.m<(if x.e=true then 536870912 else 2048)∧x.k<(if x.e=true then 536870912 else 2048)):=by simp[okFl]
theorem l3okFilters_any (w:World) (a:Option Addr) (n cap:Nat) (bs:List R3) (h:isR3s w a n cap bs) (hn:n≤1048576) :
  Calls Tp 98 #[sL a n cap] w fun o w'=>o = rT (bO (okFs bs))∧Below w.heap.size w w':=by
 have hlen:=h.len
 have hcp:=h.cap
 by_cases h16:n≤16
 ·have HF:Hid (okFs bs=bs.all okFl):=by unfold Hid okFs;rw[show decide (bs.length≤16)=true from decide_eq_true (by omega)];simp
  have hd:decide ((16:Int)<(n:Int))=false:=by simp;omega
  by_cases hl:bs=[]
  ·subst hl;have hn0:n=0:=hlen
   subst hn0;clear hlen h;go_enter Tryz.func98,Tryz.ntmps98
   go_wp2
   go_loopw [3,4] (fun i _ wr=>i = I J 0∧wr=w) (fun _ _ _=>0)
   case atStart=>exact⟨rfl,rfl⟩
   case round=>
    obtain⟨rfl,rfl⟩:=hrel
    go_wp2
    go_ret;exact⟨ret_bool HF.out.symm,Below.refl _ _⟩
  ·obtain⟨g,off,rfl,hc⟩:=h.cells hl
   have HL:Hid (n=bs.length):=hlen
   have HC:Hid (∀ j (h:j<bs.length),at3 w g (off+j*3) bs[j]):=hc
   clear h hlen hc;go_enter Tryz.func98,Tryz.ntmps98
   go_wp2
   go_loopw [3,4] (fun i _ wr=>∃ k:Nat,k≤n∧i = I J (k:Int)∧(∀ j (hj:j<bs.length),j<k→okFl bs[j]=true)∧∃ q,wr=w.drewN q) (fun i _ _=>n-(intOf i).toNat)
   case atStart=>exact⟨0,Nat.zero_le _,rfl,fun j hj h=>absurd h (Nat.not_lt_zero _),0,rfl⟩
   case round=>
    obtain⟨k,hk,rfl,hdone,q,rfl⟩:=hrel
    have HD:Hid (∀ j (hj:j<bs.length),j<k→okFl bs[j]=true):=hdone
    clear hdone;by_cases hlt:k<n
    ·have hkl:k<bs.length:=by have:=HL.out;omega
     have hx:=HC.out k hkl
     have hgz:=World.block_lt_of_cell? w _ hx.c0
     have x0:=((below_q (B:=w.heap.size) w q).cell (by exact hgz)).trans hx.c0
     have x1:=((below_q (B:=w.heap.size) w q).cell (by exact hgz)).trans hx.c1
     have x2:=((below_q (B:=w.heap.size) w q).cell (by exact hgz)).trans hx.c2
     have HY:Hid (okFl bs[k]=true→∀ j (hj:j<bs.length),j<k+1→okFl bs[j]=true):=fun h=>all_snoc hkl HD.out h
     have HN:Hid (okFl bs[k]=false→bs.all okFl=false):=fun h=>all_no hkl h
     have HO:Hid (okFl bs[k]=true↔(bs[k].m<(if bs[k].e=true then 536870912 else 2048)∧bs[k].k<(if bs[k].e=true then 536870912 else 2048))):=okFl_iff bs[k]
     clear hx;generalize okFl bs[k]=R at *;generalize bs[k].m=m0 at *;generalize bs[k].k=k0 at *;generalize hW:w.drewN q=W at *;have HW:Hid (W=w.drewN q):=hW.symm
     clear hW;cases he:bs[k].e
     ·rw[he] at x0 HO
      clear he;by_cases hm:m0<2048
      ·have hdm:decide (2048≤m0)=false:=by simp;omega
       by_cases hk0:k0<2048
       ·have hdk:decide (2048≤k0)=false:=by simp;omega
        have HR:Hid (R=true):=HO.out.2 (by simp;omega)
        go_wp2
        go_roundw
        case rel=>exact⟨k+1,by omega,by go_num,HY.out HR.out,q,HW.out⟩
        case measure=>simp[intOf];omega
       ·have hdk:decide (2048≤k0)=true:=by simp;omega
        have HR:Hid (R=false):=by cases hR:R with | false=>exact rfl | true=>exact absurd (HO.out.1 hR) (by simp;omega)
        go_wp2
        go_ret;exact⟨ret_bool (by rw[HF.out,HN.out HR.out]),by rw[HW.out];exact below_q w q⟩
      ·have hdm:decide (2048≤m0)=true:=by simp;omega
       have HR:Hid (R=false):=by cases hR:R with | false=>exact rfl | true=>exact absurd (HO.out.1 hR) (by simp;omega)
       go_wp2
       go_ret;exact⟨ret_bool (by rw[HF.out,HN.out HR.out]),by rw[HW.out];exact below_q w q⟩
     ·rw[he] at x0 HO
      clear he;by_cases hm:m0<536870912
      ·have hdm:decide (536870912≤m0)=false:=by simp;omega
       by_cases hk0:k0<536870912
       ·have hdk:decide (536870912≤k0)=false:=by simp;omega
        have HR:Hid (R=true):=HO.out.2 (by simp;omega)
        go_wp2
        go_roundw
        case rel=>exact⟨k+1,by omega,by go_num,HY.out HR.out,q,HW.out⟩
        case measure=>simp[intOf];omega
       ·have hdk:decide (536870912≤k0)=true:=by simp;omega
        have HR:Hid (R=false):=by cases hR:R with | false=>exact rfl | true=>exact absurd (HO.out.1 hR) (by simp;omega)
        go_wp2
        go_ret;exact⟨ret_bool (by rw[HF.out,HN.out HR.out]),by rw[HW.out];exact below_q w q⟩
      ·have hdm:decide (536870912≤m0)=true:=by simp;omega
       have HR:Hid (R=false):=by cases hR:R with | false=>exact rfl | true=>exact absurd (HO.out.1 hR) (by simp;omega)
       go_wp2
       go_ret;exact⟨ret_bool (by rw[HF.out,HN.out HR.out]),by rw[HW.out];exact below_q w q⟩
    ·have HA:Hid (bs.all okFl=true):=all_yes (by have:=HL.out;omega) HD.out
     go_wp2
     go_ret;exact⟨ret_bool (by rw[HF.out,HA.out]),below_q w q⟩
 ·have HF:Hid (okFs bs=false):=by unfold Hid okFs;rw[show decide (bs.length≤16)=false from decide_eq_false (by omega)];rfl
  have hd:decide ((16:Int)<(n:Int))=true:=by simp;omega
  clear h hlen;go_enter Tryz.func98,Tryz.ntmps98
  go_wp2
  go_ret;exact⟨ret_bool HF.out.symm,Below.refl _ _⟩
def mkF (c:Nat):R3:=⟨decide (c % 3=0),((c+1:Nat):Int),((c+2:Nat):Int)⟩
theorem mkF_row (C:Nat):[Value.bool ((C:Int) % 3 == 0),I .u32 ((C:Int)+1),I .u32 ((C:Int)+1+1)]=[bO (mkF C).e,I .u32 (mkF C).m,I .u32 (mkF C).k]:=by
 have h1:((C:Int) % 3 == 0)=decide (C % 3=0):=by rw[Bool.eq_iff_iff];simp;omega
 simp only[mkF,h1]
 congr 3
theorem heldFilterS_any (w:World) (g n cap c:Nat) (hr:∀ j,j<n→at3 w g (j*3) (mkF (c+3*j))) (hcp:n≤cap) (hn:n≤1048576) (hc:c≤1000) :
  Calls Tp 90 #[sL (some ⟨g,0,none⟩) n cap,I J (c:Int)] w fun o w'=>o = rT (I J ((c+3*n:Nat):Int))∧Below w.heap.size w w':=by
 have HR:Hid (∀ j,j<n→at3 w g (j*3) (mkF (c+3*j))):=hr
 clear hr;go_enter Tryz.func90,Tryz.ntmps90
 go_wp2
 go_loopw [1,5] (fun kk i wr=>∃ k q:Nat,k≤n∧i = I J (k:Int)∧kk = I J ((c+3*k:Nat):Int)∧wr=w.drewN q) (fun _ i _=>n-(intOf i).toNat)
 case atStart=>exact⟨0,0,Nat.zero_le _,rfl,by go_num,rfl⟩
 case round=>
  obtain⟨k,q,hk,rfl,rfl,rfl⟩:=hrel
  by_cases hlt:k<n
  ·have hx:=HR.out k hlt
   have hgz:=World.block_lt_of_cell? w _ hx.c0
   have x0:=((below_q (B:=w.heap.size) w q).cell (by exact hgz)).trans hx.c0
   have x1:=((below_q (B:=w.heap.size) w q).cell (by exact hgz)).trans hx.c1
   have x2:=((below_q (B:=w.heap.size) w q).cell (by exact hgz)).trans hx.c2
   clear hx;generalize hC:c+3*k=C at *;have HC:Hid (c+3*k=C):=hC
   have hC1:C≤4000000:=by omega
   clear hC;have e3:(C:Int).tmod 3=((C % 3:Nat):Int):=by rw[Int.tmod_eq_emod_of_nonneg (by omega)];omega
   have h1:(mkF C).e=((C:Int) % 3 == 0):=by rw[Bool.eq_iff_iff];simp[mkF];omega
   have h2:(mkF C).m=(C:Int)+1:=by simp[mkF]
   have h3:(mkF C).k=(C:Int)+1+1:=by simp[mkF];omega
   rw[h1] at x0
   rw[h2] at x1
   rw[h3] at x2
   clear h1 h2 h3;generalize hW:w.drewN q=W at *;have HW:Hid (W=w.drewN q):=hW.symm
   clear hW;go_wp2
   refine⟨⟨k+1,q,by omega,by go_num,by rw[← HC.out];go_num,HW.out⟩,by simp[intOf];omega⟩
  ·have hkn:k=n:=by omega
   subst hkn;go_wp2
   go_ret;exact⟨rfl,below_q w q⟩
theorem setCells_block (b:Nat) (t:TypeId):∀ (vs old pre post:List Value) (w:World),old.length=vs.length→w.heap[b]?=some (.cells (pre++old++post).toArray t (0,0))→(w.setCells b pre.length vs).heap[b]?=some (.cells (pre++vs++post).toArray t (0,0)):=by
 intro vs;induction vs with
 | nil=>
  intro old pre post w hl h;have:old=[]:=List.length_eq_zero_iff.1 hl
  subst this;exact h
 | cons v vs ih=>
  intro old pre post w hl h;match old,hl with
  | o :: old',hl=>
   have h1:=heap_setCell_same w b pre.length _ _ v h
   have e:(pre++o :: old'++post).toArray.setIfInBounds pre.length v=((pre++[v])++old'++post).toArray:=by simp
   have h2:=ih old' (pre++[v]) post (w.setCell ⟨b,pre.length,none⟩ v) (by simpa using hl) (by rw[← e];exact h1)
   rw[List.length_append,List.length_singleton] at h2
   rw[List.append_assoc pre [v] vs] at h2
   exact h2
theorem range_block {w:World} {b:Nat} {l:List Value} {t:TypeId} {fr:Nat × Nat} (h:w.heap[b]?=some (.cells l.toArray t fr)):w.rangeAt b 0 l:=fun j v hv=>by
 simp[World.cell?,h,hv]
theorem there_block {w:World} {b:Nat} {l:List Value} {t:TypeId} (h:w.heap[b]?=some (.cells l.toArray t (0,0))) (o n:Nat) (ho:o+n≤l.length):w.there b o n:=fun j hj=>by
 refine⟨?_,?_⟩
 ·have:o+j<l.length:=by omega
  simp[World.cell?,h,this]
 ·simp[World.frozen?,h]
theorem setCells_other (b k:Nat) (hk:k≠b) (vs:List Value) (w:World) (o:Nat):(w.setCells b o vs).heap[k]?=w.heap[k]?:=by
 rw[setCells_row];exact setRow_block b k hk vs w o
theorem St.setCells {B:Nat} {w:World} {p:World→Prop} (h:St B w p) (b o:Nat) (hb:b<B) (vs:List Value):St B (w.setCells b o vs) p:=fun W hW=>h W fun k h1 h2=>(hW k h1 (by rw[setCells_row,setRow_size];exact h2)).trans (setCells_other b k (by omega) vs w o)
theorem sz41:(Tp.info? 41).map (·.size)=some 10:=by kernel_rfl
theorem one10 (c0 c1 c2 c3:Int) (b1:Option Addr) (m1 l1:Nat) (b2:Option Addr) (m2 l2:Nat) (b3:Option Addr) (m3 l3:Nat) (b4:Option Addr) (m4 l4:Nat) (lo st:Int):(#[I J c0,I J c1,I J c2,I J c3,sL b1 m1 l1,sL b2 m2 l2,sL b3 m3 l3,sL b4 m4 l4,I J lo,I J st]:Array Value).all (·.oneCell')=true:=
 all_oneCell_toArray (by simp[Value.oneCell'])
set_option linter.unusedVariables false
theorem at3.newF {w:World} {g M:Nat} (h:rowF w g M) (p:Nat) (hp:p+3≤M) (b:R3):at3 (setRow w g p [bO b.e,I .u32 b.m,I .u32 b.k]) g p b:=
 ⟨setRow_at g _ w p 0 (by simp) (h (p+0) (by omega)).1,setRow_at g _ w p 1 (by simp) (h (p+1) (by omega)).1,setRow_at g _ w p 2 (by simp) (h (p+2) (by omega)).1⟩
theorem mark3 (B:Nat) (w:World) (g n cap c:Nat) (hr:rowF w g (n*3)) (hcp:n≤cap) (hn:n≤1048576) (hc:c≤1000) (hB:B≤g) :
  Calls Tp 86 #[sL (some ⟨g,0,none⟩) n cap,I J (c:Int)] w fun o w'=>o = rT (I J ((c+3*n:Nat):Int))∧(∀ j,j<n→at3 w' g (j*3) (mkF (c+3*j)))∧(∀ x N,rowF w x N→rowF w' x N)∧(∀ b,b≠g→w'.heap[b]?=w.heap[b]?)∧w'.heap.size=w.heap.size∧Below B w w':=by
 have HR:Hid (rowF w g (n*3)):=hr
 clear hr;go_enter Tryz.func86,Tryz.ntmps86
 go_wp2
 go_loopw [1,5] (fun kk i wr=>∃ k:Nat,k≤n∧i = I J (k:Int)∧kk = I J ((c+3*k:Nat):Int)∧(∀ j,j<k→at3 wr g (j*3) (mkF (c+3*j)))∧(∀ x N,rowF w x N→rowF wr x N)∧(∀ b,b≠g→wr.heap[b]?=w.heap[b]?)∧wr.heap.size=w.heap.size∧Below B w wr) (fun _ i _=>n-(intOf i).toNat)
 case atStart=>exact⟨0,Nat.zero_le _,rfl,by go_num,fun j hj=>absurd hj (Nat.not_lt_zero _),fun _ _ h=>h,fun _ _=>rfl,rfl,Below.refl _ _⟩
 case round=>
  obtain⟨k,hk,rfl,rfl,hdone,hrow,hoth,hsz,hb⟩:=hrel
  by_cases hlt:k<n
  ·have hrw:=hrow g (n*3) HR.out
   obtain⟨⟨v0,z0⟩,f0⟩:=hrw (k*3) (by omega)
   obtain⟨⟨v1,z1⟩,f1⟩:=hrw (k*3+1) (by omega)
   obtain⟨⟨v2,z2⟩,f2⟩:=hrw (k*3+2) (by omega)
   have HD:Hid ((∀ j,j<k→at3 wr g (j*3) (mkF (c+3*j)))∧(∀ x N,rowF w x N→rowF wr x N)∧(∀ b,b≠g→wr.heap[b]?=w.heap[b]?)∧wr.heap.size=w.heap.size∧Below B w wr∧rowF wr g (n*3)):=⟨hdone,hrow,hoth,hsz,hb,hrw⟩
   clear hdone hrow hoth hsz hb hrw;generalize hC:c+3*k=C at *;have HC:Hid (c+3*k=C):=hC
   have hC1:C≤4000000:=by omega
   clear hC;have e3:(C:Int).tmod 3=((C % 3:Nat):Int):=by rw[Int.tmod_eq_emod_of_nonneg (by omega)];omega
   go_wp2
   obtain⟨r1,r2,r3,r4,r5,r6⟩:=HD.out
   have hC:=HC.out
   refine⟨⟨k+1,by omega,by go_num,by rw[← hC];go_num,fun j hj=>?_,fun x N h=>(r2 x N h).setRow g [Value.bool ((C:Int) % 3 == 0),I .u32 ((C:Int)+1),I .u32 ((C:Int)+1+1)] wr (k*3),fun b hb=>(setRow_block g b hb [Value.bool ((C:Int) % 3 == 0),I .u32 ((C:Int)+1),I .u32 ((C:Int)+1+1)] wr (k*3)).trans (r3 b hb),(setRow_size g [Value.bool ((C:Int) % 3 == 0),I .u32 ((C:Int)+1),I .u32 ((C:Int)+1+1)] wr (k*3)).trans r4,setRow_below g B hB w [Value.bool ((C:Int) % 3 == 0),I .u32 ((C:Int)+1),I .u32 ((C:Int)+1+1)] wr (k*3) r5⟩,by simp[intOf];omega⟩
   by_cases e:j=k
   ·subst e;have:=at3.newF r6 (j*3) (by omega) (mkF C)
    rw[← mkF_row] at this
    rw[hC]
    exact this
   ·exact (r1 j (by omega)).keep [Value.bool ((C:Int) % 3 == 0),I .u32 ((C:Int)+1),I .u32 ((C:Int)+1+1)] (k*3) (by simp;omega)
  ·have hkn:k=n:=by omega
   subst hkn;go_wp2
   go_ret;exact⟨rfl,hdone,hrow,hoth,hsz,hb⟩
theorem nil98 (w:World) (c:Nat):Calls Tp 88 #[sL none 0 0,I J (c:Int)] w fun o w'=>o = rT (I J (c:Int))∧w'=w:=by
 go_enter Tryz.func88,Tryz.ntmps88
 go_wp2
 go_loopw [1,5] (fun kk i wr=>i = I J 0∧kk = I J (c:Int)∧wr=w) (fun _ _ _=>0)
 case atStart=>exact⟨rfl,rfl,rfl⟩
 case round=>
  obtain⟨rfl,rfl,rfl⟩:=hrel
  go_wp2
  go_ret;exact⟨rfl,rfl⟩
theorem nil40 (w:World) (c:Nat):Calls Tp 89 #[sL none 0 0,I J (c:Int)] w fun o w'=>o = rT (I J (c:Int))∧w'=w:=by
 go_enter Tryz.func89,Tryz.ntmps89
 go_wp2
 go_loopw [1,5] (fun kk i wr=>i = I J 0∧kk = I J (c:Int)∧wr=w) (fun _ _ _=>0)
 case atStart=>exact⟨rfl,rfl,rfl⟩
 case round=>
  obtain⟨rfl,rfl,rfl⟩:=hrel
  go_wp2
  go_ret;exact⟨rfl,rfl⟩
theorem nil102 (w:World) (c:Nat):Calls Tp 92 #[sL none 0 0,I J (c:Int)] w fun o w'=>o = rT (I J (c:Int))∧w'=w:=by
 go_enter Tryz.func92,Tryz.ntmps92
 go_wp2
 go_loopw [1,5] (fun kk i wr=>i = I J 0∧kk = I J (c:Int)∧wr=w) (fun _ _ _=>0)
 case atStart=>exact⟨rfl,rfl,rfl⟩
 case round=>
  obtain⟨rfl,rfl,rfl⟩:=hrel
  go_wp2
  go_ret;exact⟨rfl,rfl⟩
theorem nil42 (w:World) (c:Nat):Calls Tp 93 #[sL none 0 0,I J (c:Int)] w fun o w'=>o = rT (I J (c:Int))∧w'=w:=by
 go_enter Tryz.func93,Tryz.ntmps93
 go_wp2
 go_loopw [1,5] (fun kk i wr=>i = I J 0∧kk = I J (c:Int)∧wr=w) (fun _ _ _=>0)
 case atStart=>exact⟨rfl,rfl,rfl⟩
 case round=>
  obtain⟨rfl,rfl,rfl⟩:=hrel
  go_wp2
  go_ret;exact⟨rfl,rfl⟩
def ft (a:Option Addr) (n:Nat) (hs:Nat→Hd) (x:Nat):Prop:=a=some ⟨x,0,none⟩∨∃ j,j<n∧(hs j).1=some ⟨x,0,none⟩
def inn (B T:Nat) (a:Option Addr) (n:Nat) (hs:Nat→Hd):Prop:=∀ x,ft a n hs x→B≤x∧x<T
def sx8 (W:World) (a:Option Addr) (n cap:Nat) (hs:Nat→Hd):Prop:=(a=none∧n=0∧cap=0)∨∃ g,a=some ⟨g,0,none⟩∧sh8 W g n hs∧n≤cap
def sx5 (W:World) (a:Option Addr) (n cap:Nat) (hs:Nat→Hd):Prop:=(a=none∧n=0∧cap=0)∨∃ g,a=some ⟨g,0,none⟩∧sh5 W g n hs∧n≤cap
def mks8 (W:World) (a:Option Addr) (n c:Nat) (hs:Nat→Hd):Prop:=∀ g,a=some ⟨g,0,none⟩→∀ j,j<n→mk8 W g (j*8) (cn8 c hs j) (hs j)
def mks5 (W:World) (a:Option Addr) (n c:Nat) (hs:Nat→Hd):Prop:=∀ g,a=some ⟨g,0,none⟩→∀ j,j<n→mk5 W g (j*5) (cn5 c hs j) (hs j)
theorem mks8.up {W W':World} {a:Option Addr} {n c:Nat} {hs:Nat→Hd} (h:mks8 W a n c hs) (he:∀ x,ft a n hs x→W'.heap[x]?=W.heap[x]?):mks8 W' a n c hs:=fun g e j hj=>(h g e j hj).up (he g (Or.inl e)) (fun b hb=>he b (Or.inr ⟨j,hj,hb⟩))
theorem mks5.up {W W':World} {a:Option Addr} {n c:Nat} {hs:Nat→Hd} (h:mks5 W a n c hs) (he:∀ x,ft a n hs x→W'.heap[x]?=W.heap[x]?):mks5 W' a n c hs:=fun g e j hj=>(h g e j hj).up (he g (Or.inl e)) (fun b hb=>he b (Or.inr ⟨j,hj,hb⟩))
theorem hd.same {W W':World} {g:Nat} {h:Hd} (H:hd W g h) (he:∀ b,h.1=some ⟨b,0,none⟩→W'.heap[b]?=W.heap[b]?):hd W' g h:=by
 obtain⟨h1,h2,h3⟩:=H
 refine⟨h1,h2,?_⟩
 rcases h3 with h3|⟨b,e,hn,hf⟩
 ·exact Or.inl h3
 ·exact Or.inr ⟨b,e,hn,hf.up (he b e)⟩
theorem sh8.same {W W':World} {g n:Nat} {hs:Nat→Hd} (h:sh8 W g n hs) (he:∀ x,ft (some ⟨g,0,none⟩) n hs x→W'.heap[x]?=W.heap[x]?):sh8 W' g n hs:=
 ⟨h.row.up (he g (Or.inl rfl)),fun j hj=>⟨cell_up (h.dat j hj).1 (he g (Or.inl rfl)),(h.dat j hj).2.same fun b hb=>he b (Or.inr ⟨j,hj,hb⟩)⟩⟩
theorem sh5.same {W W':World} {g n:Nat} {hs:Nat→Hd} (h:sh5 W g n hs) (he:∀ x,ft (some ⟨g,0,none⟩) n hs x→W'.heap[x]?=W.heap[x]?):sh5 W' g n hs:=
 ⟨h.row.up (he g (Or.inl rfl)),fun j hj=>⟨cell_up (h.dat j hj).1 (he g (Or.inl rfl)),(h.dat j hj).2.same fun b hb=>he b (Or.inr ⟨j,hj,hb⟩)⟩⟩
theorem sx8.same {W W':World} {a:Option Addr} {n cap:Nat} {hs:Nat→Hd} (h:sx8 W a n cap hs) (he:∀ x,ft a n hs x→W'.heap[x]?=W.heap[x]?):sx8 W' a n cap hs:=by
 rcases h with h|⟨g,e,h1,h2⟩
 ·exact Or.inl h
 ·subst e;exact Or.inr ⟨g,rfl,h1.same he,h2⟩
theorem sx5.same {W W':World} {a:Option Addr} {n cap:Nat} {hs:Nat→Hd} (h:sx5 W a n cap hs) (he:∀ x,ft a n hs x→W'.heap[x]?=W.heap[x]?):sx5 W' a n cap hs:=by
 rcases h with h|⟨g,e,h1,h2⟩
 ·exact Or.inl h
 ·subst e;exact Or.inr ⟨g,rfl,h1.same he,h2⟩
theorem not_ft {a:Option Addr} {n:Nat} {hs:Nat→Hd} {g x:Nat} (ha:a=some ⟨g,0,none⟩) (h:¬ ft a n hs x):x≠g∧∀ j,j<n→(hs j).1≠some ⟨x,0,none⟩:=⟨fun e=>h (Or.inl (by rw[ha,e])),fun j hj e=>h (Or.inr ⟨j,hj,e⟩)⟩
theorem nil97 (w:World) (c:Nat):Calls Tp 87 #[sL none 0 0,I J (c:Int)] w fun o w'=>o = rT (I J (c:Int))∧w'=w:=by
 go_enter Tryz.func87,Tryz.ntmps87
 go_wp2
 go_loopw [1,5] (fun kk i wr=>i = I J 0∧kk = I J (c:Int)∧wr=w) (fun _ _ _=>0)
 case atStart=>exact⟨rfl,rfl,rfl⟩
 case round=>
  obtain⟨rfl,rfl,rfl⟩:=hrel
  go_wp2
  go_ret;exact⟨rfl,rfl⟩
theorem nil101 (w:World) (c:Nat):Calls Tp 91 #[sL none 0 0,I J (c:Int)] w fun o w'=>o = rT (I J (c:Int))∧w'=w:=by
 go_enter Tryz.func91,Tryz.ntmps91
 go_wp2
 go_loopw [1,5] (fun kk i wr=>i = I J 0∧kk = I J (c:Int)∧wr=w) (fun _ _ _=>0)
 case atStart=>exact⟨rfl,rfl,rfl⟩
 case round=>
  obtain⟨rfl,rfl,rfl⟩:=hrel
  go_wp2
  go_ret;exact⟨rfl,rfl⟩
theorem markB_x (B T:Nat) (w:World) (p:Nat) (a:Option Addr) (n cap c:Nat) (hs:Nat→Hd) (h:sx8 w a n cap hs) (hi:inn B T a n hs) (hp:T≤p) (hn:n≤1048576) (hc:c≤20000000000000) :
  Calls Tp 87 #[sL a n cap,I J (c:Int)] w fun o w'=>o = rT (I J (cn8 c hs n:Int))∧(∀ o,w'.cell? ⟨p,o,none⟩=w.cell? ⟨p,o,none⟩)∧(dst hs n→mks8 w' a n c hs)∧(∀ x N,rowF w x N→rowF w' x N)∧(∀ x,¬ ft a n hs x→w'.heap[x]?=w.heap[x]?)∧sx8 w' a n cap hs∧w'.heap.size=w.heap.size∧Below B w w':=by
 have hpf:¬ ft a n hs p:=fun e=>absurd (hi p e).2 (by omega)
 rcases h with⟨ha,hn0,hcp0⟩|⟨g,rfl,h,hcp⟩
 ·subst ha hn0 hcp0;refine (nil97 w c).mono ?_
  rintro o w' ⟨rfl,rfl⟩;exact⟨rfl,fun _=>rfl,fun _ g e=>absurd e (by simp),fun _ _ h=>h,fun _ _=>rfl,Or.inl ⟨rfl,rfl,rfl⟩,rfl,Below.refl _ _⟩
 ·refine (markBoxS_gen B w g n cap c hs h hcp hn hc (hi g (Or.inl rfl)).1 (fun j hj b hb=>(hi b (Or.inr ⟨j,hj,hb⟩)).1)).mono ?_
  rintro o w' ⟨rfl,q1,q2,q3,q4,q5,q6⟩;have q4':∀ x,¬ ft (some ⟨g,0,none⟩) n hs x→w'.heap[x]?=w.heap[x]?:=fun x hx=>q4 x (not_ft rfl hx).1 (not_ft rfl hx).2
  exact⟨rfl,fun o=>by simp only[World.cell?,q4' p hpf],fun hd g' e j hj=>by cases e;exact q1 hd j hj,q3,q4',Or.inr ⟨g,rfl,q2,hcp⟩,q5,q6⟩
theorem markF_x (B T:Nat) (w:World) (p:Nat) (a:Option Addr) (n cap c:Nat) (hs:Nat→Hd) (h:sx5 w a n cap hs) (hi:inn B T a n hs) (hp:T≤p) (hn:n≤1048576) (hc:c≤20000000000000) :
  Calls Tp 88 #[sL a n cap,I J (c:Int)] w fun o w'=>o = rT (I J (cn5 c hs n:Int))∧(∀ o,w'.cell? ⟨p,o,none⟩=w.cell? ⟨p,o,none⟩)∧(dst hs n→mks5 w' a n c hs)∧(∀ x N,rowF w x N→rowF w' x N)∧(∀ x,¬ ft a n hs x→w'.heap[x]?=w.heap[x]?)∧sx5 w' a n cap hs∧w'.heap.size=w.heap.size∧Below B w w':=by
 have hpf:¬ ft a n hs p:=fun e=>absurd (hi p e).2 (by omega)
 rcases h with⟨ha,hn0,hcp0⟩|⟨g,rfl,h,hcp⟩
 ·subst ha hn0 hcp0;refine (nil98 w c).mono ?_
  rintro o w' ⟨rfl,rfl⟩;exact⟨rfl,fun _=>rfl,fun _ g e=>absurd e (by simp),fun _ _ h=>h,fun _ _=>rfl,Or.inl ⟨rfl,rfl,rfl⟩,rfl,Below.refl _ _⟩
 ·refine (markFrameS_gen B w g n cap c hs h hcp hn hc (hi g (Or.inl rfl)).1 (fun j hj b hb=>(hi b (Or.inr ⟨j,hj,hb⟩)).1)).mono ?_
  rintro o w' ⟨rfl,q1,q2,q3,q4,q5,q6⟩;have q4':∀ x,¬ ft (some ⟨g,0,none⟩) n hs x→w'.heap[x]?=w.heap[x]?:=fun x hx=>q4 x (not_ft rfl hx).1 (not_ft rfl hx).2
  exact⟨rfl,fun o=>by simp only[World.cell?,q4' p hpf],fun hd g' e j hj=>by cases e;exact q1 hd j hj,q3,q4',Or.inr ⟨g,rfl,q2,hcp⟩,q5,q6⟩
theorem markE_x (B T:Nat) (w:World) (p:Nat) (a:Option Addr) (n cap c:Nat) (hs:Nat→Hd) (h:sx8 w a n cap hs) (hi:inn B T a n hs) (hp:T≤p) (hn:n≤1048576) (hc:c≤20000000000000) :
  Calls Tp 89 #[sL a n cap,I J (c:Int)] w fun o w'=>o = rT (I J (cn8 c hs n:Int))∧(∀ o,w'.cell? ⟨p,o,none⟩=w.cell? ⟨p,o,none⟩)∧(dst hs n→mks8 w' a n c hs)∧(∀ x N,rowF w x N→rowF w' x N)∧(∀ x,¬ ft a n hs x→w'.heap[x]?=w.heap[x]?)∧sx8 w' a n cap hs∧w'.heap.size=w.heap.size∧Below B w w':=by
 have hpf:¬ ft a n hs p:=fun e=>absurd (hi p e).2 (by omega)
 rcases h with⟨ha,hn0,hcp0⟩|⟨g,rfl,h,hcp⟩
 ·subst ha hn0 hcp0;refine (nil40 w c).mono ?_
  rintro o w' ⟨rfl,rfl⟩;exact⟨rfl,fun _=>rfl,fun _ g e=>absurd e (by simp),fun _ _ h=>h,fun _ _=>rfl,Or.inl ⟨rfl,rfl,rfl⟩,rfl,Below.refl _ _⟩
 ·refine (markEventS_gen B w g n cap c hs h hcp hn hc (hi g (Or.inl rfl)).1 (fun j hj b hb=>(hi b (Or.inr ⟨j,hj,hb⟩)).1)).mono ?_
  rintro o w' ⟨rfl,q1,q2,q3,q4,q5,q6⟩;have q4':∀ x,¬ ft (some ⟨g,0,none⟩) n hs x→w'.heap[x]?=w.heap[x]?:=fun x hx=>q4 x (not_ft rfl hx).1 (not_ft rfl hx).2
  exact⟨rfl,fun o=>by simp only[World.cell?,q4' p hpf],fun hd g' e j hj=>by cases e;exact q1 hd j hj,q3,q4',Or.inr ⟨g,rfl,q2,hcp⟩,q5,q6⟩
theorem heldB_x (w:World) (a:Option Addr) (n cap c:Nat) (hs:Nat→Hd) (h:sx8 w a n cap hs) (hm:mks8 w a n c hs) (hn:n≤1048576) (hc:c≤20000000000000) :
  Calls Tp 91 #[sL a n cap,I J (c:Int)] w fun o w'=>o = rT (I J (cn8 c hs n:Int))∧w'=w:=by
 rcases h with⟨ha,hn0,hcp0⟩|⟨g,rfl,h,hcp⟩
 ·subst ha hn0 hcp0;exact nil101 w c
 ·exact heldBoxS_gen w g n cap c hs h (hm g rfl) hcp hn hc
theorem heldF_x (w:World) (a:Option Addr) (n cap c:Nat) (hs:Nat→Hd) (h:sx5 w a n cap hs) (hm:mks5 w a n c hs) (hn:n≤1048576) (hc:c≤20000000000000) :
  Calls Tp 92 #[sL a n cap,I J (c:Int)] w fun o w'=>o = rT (I J (cn5 c hs n:Int))∧w'=w:=by
 rcases h with⟨ha,hn0,hcp0⟩|⟨g,rfl,h,hcp⟩
 ·subst ha hn0 hcp0;exact nil102 w c
 ·exact heldFrameS_gen w g n cap c hs h (hm g rfl) hcp hn hc
theorem heldE_x (w:World) (a:Option Addr) (n cap c:Nat) (hs:Nat→Hd) (h:sx8 w a n cap hs) (hm:mks8 w a n c hs) (hn:n≤1048576) (hc:c≤20000000000000) :
  Calls Tp 93 #[sL a n cap,I J (c:Int)] w fun o w'=>o = rT (I J (cn8 c hs n:Int))∧w'=w:=by
 rcases h with⟨ha,hn0,hcp0⟩|⟨g,rfl,h,hcp⟩
 ·subst ha hn0 hcp0;exact nil42 w c
 ·exact heldEventS_gen w g n cap c hs h (hm g rfl) hcp hn hc
end Go.Proofs.YtbllefckefhpoaaGreat
