import Derived.Test.YtaamahohdnbpiaaGreatG08
import Derived.Test.YtaamahohdnbpiaaGreatG10
namespace Go.Proofs.YtaamahohdnbpiaaGreat
open Go.RowKit
set_option linter.unusedVariables false
set_option maxHeartbeats 16000000 in
set_option maxRecDepth 20000 in
theorem validHost_any (w:World) (H:Ho) (s:Sl) (h:isHo w H s) (hn:H.le 1048576) :
  Calls Tryz.prog 60 #[hoV H s] w fun o w'=>retB o (okHo H)∧Below w.heap.size w w':=by
 have H0:Hid (obS w H s (w.alloc (.cells (hoL H s).toArray 35))):=⟨blk.new w _ 35,(Below.refl _ _).alloc (Nat.le_refl _) _⟩
 have hl2:=h.bx.len
 have hl3:=h.ff.len
 have hl4:=h.qu.len
 have HCF0:=fun W=>validConfig_any W H.c0 H.c1 H.c2 H.c3
 have HFS0:=fun W (hW:Below w.heap.size w W)=>validFilters_any W _ _ _ _ (h.fs.below hW) (by rw[h.fs.len];exact hn.fs)
 have HFF:Hid (∀ W,Below w.heap.size w W→Calls Tryz.prog 125 #[.slice s.a3 s.n3 s.k3,.func (.func 126) #[] #[]] W fun o w'=>o = .returned (.bool (!H.ff.all okFr))∧Below W.heap.size W w'):=fun W hW=>containsFrame_any W _ _ _ _ (h.ff.below hW) (by rw[h.ff.len];exact hn.ff)
 have HQU:Hid (∀ W,Below w.heap.size w W→Calls Tryz.prog 127 #[.slice s.a4 s.n4 s.k4,.func (.func 128) #[] #[]] W fun o w'=>o = .returned (.bool (!H.qu.all okEv))∧Below W.heap.size W w'):=fun W hW=>containsEvent_any W _ _ _ _ (h.qu.below hW) (by rw[h.qu.len];exact hn.qu)
 have HBX:Hid (s.n2≤8→0≤H.st∧H.st≤1000000→∀ W,Below w.heap.size w W→Calls Tryz.prog 124 #[.slice s.a2 s.n2 s.k2,.int .i64 H.st] W fun o w'=>retB o (okBxs H.st H.bx)∧Below W.heap.size W w'):=fun h8 hst W hW=>validBoxes_any W _ _ _ _ _ (h.bx.below hW) h8 hst
 clear h hn;obtain⟨c0,c1,c2,c3,fs,bx,ff,qu,lo,st⟩:=H
 obtain⟨a1,n1,k1,a2,n2,k2,a3,n3,k3,a4,n4,k4⟩:=s
 simp only[] at HCF0 HFS0 hl2 hl3 hl4 HBX HFF HQU ⊢
 have HIR:Hid (∀ (W:World) (v l m:Int) (bb:Bool),decide (l≤v∧v≤m)=bb→Calls Tryz.prog 115 #[.int .i64 v,.int .i64 l,.int .i64 m] W fun o w'=>o = .returned (.bool bb)∧W=w'):=fun W v l m bb hbb=>hbb ▸ inRange_any W v l m
 have hmf:∀ (fn:Fn) (first cap:Array Value) (w:World),(Instr.makeFunc fn first cap).run Tryz.prog w = .ok (.func fn first cap) w:=fun _ _ _ _=>rfl
 cases hcf:okCf c0 c1 c2 c3
 ·have HBAD:Hid (¬ okHo ⟨c0,c1,c2,c3,fs,bx,ff,qu,lo,st⟩):=fun h=>by have:=h.cf;simp only[] at this;rw[hcf] at this;cases this
  have HCF:Hid (∀ W,Calls Tryz.prog 53 #[cfV c0 c1 c2 c3] W fun o w'=>o = .returned (.bool false)∧Below W.heap.size W w'):=fun W=>hcf ▸ HCF0 W
  clear hl2 hl3 hl4 HCF0 HFS0 hcf;go_enter Tryz.func60,Tryz.ntmps60
  go_wp2_with (first
   | (go_at_call 53;refine (HCF.out _).mono ?_;rintro o w1 ⟨rfl,hb1⟩;have O1:Hid (obS w ⟨c0,c1,c2,c3,fs,bx,ff,qu,lo,st⟩ ⟨a1,n1,k1,a2,n2,k2,a3,n3,k3,a4,n4,k4⟩ w1):=H0.out.below hb1;have q0:=O1.out.p.cell 0 _ rfl;have q1:=O1.out.p.cell 1 _ rfl;have q3:=O1.out.p.cell 3 _ rfl;have q4:=O1.out.p.cell 4 _ rfl;have q5:=O1.out.p.cell 5 _ rfl;have q6:=O1.out.p.cell 6 _ rfl;have q7:=O1.out.p.cell 7 _ rfl;have q8:=O1.out.p.cell 8 _ rfl;have q9:=O1.out.p.cell 9 _ rfl;clear hb1))
  go_ret;exact⟨⟨false,rfl,by simpa using HBAD.out⟩,O1.out.b⟩
 have HCF:Hid (∀ W,Calls Tryz.prog 53 #[cfV c0 c1 c2 c3] W fun o w'=>o = .returned (.bool true)∧Below W.heap.size W w'):=fun W=>hcf ▸ HCF0 W
 have HCB:Hid (1≤c0∧c0≤8∧1≤c1∧c1≤16∧0≤c2∧c2≤1∧1≤c3∧c3≤32):=(of_decide_eq_true hcf:1≤c0∧c0≤8∧1≤c1∧c1≤16∧0≤c2∧c2≤1∧1≤c3∧c3≤32)
 have HCT:Hid (okCf c0 c1 c2 c3=true):=hcf
 clear HCF0 hcf;cases hfs:okFs fs
 ·have HBAD:Hid (¬ okHo ⟨c0,c1,c2,c3,fs,bx,ff,qu,lo,st⟩):=fun h=>by have:=h.fs;simp only[] at this;rw[hfs] at this;cases this
  have HFS:Hid (∀ W,Below w.heap.size w W→Calls Tryz.prog 54 #[.slice a1 n1 k1] W fun o w'=>o = .returned (.bool false)∧Below W.heap.size W w'):=fun W hW=>hfs ▸ HFS0 W hW
  clear hl2 hl3 hl4 HFS0 hfs;go_enter Tryz.func60,Tryz.ntmps60
  go_wp2_with (first
   | (go_at_call 53;refine (HCF.out _).mono ?_;rintro o w1 ⟨rfl,hb1⟩;have O1:Hid (obS w ⟨c0,c1,c2,c3,fs,bx,ff,qu,lo,st⟩ ⟨a1,n1,k1,a2,n2,k2,a3,n3,k3,a4,n4,k4⟩ w1):=H0.out.below hb1;have q0:=O1.out.p.cell 0 _ rfl;have q1:=O1.out.p.cell 1 _ rfl;have q3:=O1.out.p.cell 3 _ rfl;have q4:=O1.out.p.cell 4 _ rfl;have q5:=O1.out.p.cell 5 _ rfl;have q6:=O1.out.p.cell 6 _ rfl;have q7:=O1.out.p.cell 7 _ rfl;have q8:=O1.out.p.cell 8 _ rfl;have q9:=O1.out.p.cell 9 _ rfl;clear hb1)
   | (go_at_call 54;refine (HFS.out _ O1.out.b).mono ?_;rintro o w2 ⟨rfl,hb2⟩;have O2:Hid (obS w ⟨c0,c1,c2,c3,fs,bx,ff,qu,lo,st⟩ ⟨a1,n1,k1,a2,n2,k2,a3,n3,k3,a4,n4,k4⟩ w2):=O1.out.below hb2;clear q0 q1 q3 q4 q5 q6 q7 q8 q9;have q0:=O2.out.p.cell 0 _ rfl;have q1:=O2.out.p.cell 1 _ rfl;have q3:=O2.out.p.cell 3 _ rfl;have q4:=O2.out.p.cell 4 _ rfl;have q5:=O2.out.p.cell 5 _ rfl;have q6:=O2.out.p.cell 6 _ rfl;have q7:=O2.out.p.cell 7 _ rfl;have q8:=O2.out.p.cell 8 _ rfl;have q9:=O2.out.p.cell 9 _ rfl;clear hb2))
  go_ret;exact⟨⟨false,rfl,by simpa using HBAD.out⟩,O2.out.b⟩
 have HFS:Hid (∀ W,Below w.heap.size w W→Calls Tryz.prog 54 #[.slice a1 n1 k1] W fun o w'=>o = .returned (.bool true)∧Below W.heap.size W w'):=fun W hW=>hfs ▸ HFS0 W hW
 have HFT:Hid (okFs fs=true):=hfs
 clear HFS0 hfs;by_cases h1:¬ (0≤lo∧lo≤100000)
 ·have HBAD:Hid (¬ okHo ⟨c0,c1,c2,c3,fs,bx,ff,qu,lo,st⟩):=fun h=>h1 ⟨h.l0,h.l1⟩
  have J1:Hid (∀ W,Calls Tryz.prog 115 #[.int .i64 lo,.int .i64 0,.int .i64 100000] W fun o w'=>o = .returned (.bool false)∧W=w'):=fun W=>HIR.out W _ _ _ false (decide_eq_false h1)
  clear hl2 hl3 hl4 h1 HIR;go_enter Tryz.func60,Tryz.ntmps60
  go_wp2_with (first
   | (go_at_call 53;refine (HCF.out _).mono ?_;rintro o w1 ⟨rfl,hb1⟩;have O1:Hid (obS w ⟨c0,c1,c2,c3,fs,bx,ff,qu,lo,st⟩ ⟨a1,n1,k1,a2,n2,k2,a3,n3,k3,a4,n4,k4⟩ w1):=H0.out.below hb1;have q0:=O1.out.p.cell 0 _ rfl;have q1:=O1.out.p.cell 1 _ rfl;have q3:=O1.out.p.cell 3 _ rfl;have q4:=O1.out.p.cell 4 _ rfl;have q5:=O1.out.p.cell 5 _ rfl;have q6:=O1.out.p.cell 6 _ rfl;have q7:=O1.out.p.cell 7 _ rfl;have q8:=O1.out.p.cell 8 _ rfl;have q9:=O1.out.p.cell 9 _ rfl;clear hb1)
   | (go_at_call 54;refine (HFS.out _ O1.out.b).mono ?_;rintro o w2 ⟨rfl,hb2⟩;have O2:Hid (obS w ⟨c0,c1,c2,c3,fs,bx,ff,qu,lo,st⟩ ⟨a1,n1,k1,a2,n2,k2,a3,n3,k3,a4,n4,k4⟩ w2):=O1.out.below hb2;clear q0 q1 q3 q4 q5 q6 q7 q8 q9;have q0:=O2.out.p.cell 0 _ rfl;have q1:=O2.out.p.cell 1 _ rfl;have q3:=O2.out.p.cell 3 _ rfl;have q4:=O2.out.p.cell 4 _ rfl;have q5:=O2.out.p.cell 5 _ rfl;have q6:=O2.out.p.cell 6 _ rfl;have q7:=O2.out.p.cell 7 _ rfl;have q8:=O2.out.p.cell 8 _ rfl;have q9:=O2.out.p.cell 9 _ rfl;clear hb2)
   | (go_at_call 115;refine (J1.out _).mono ?_;rintro o wI ⟨rfl,rfl⟩;clear J1))
  go_ret;exact⟨⟨false,rfl,by simpa using HBAD.out⟩,O2.out.b⟩
 have h1:0≤lo∧lo≤100000:=Classical.not_not.1 h1
 have J1:Hid (∀ W,Calls Tryz.prog 115 #[.int .i64 lo,.int .i64 0,.int .i64 100000] W fun o w'=>o = .returned (.bool true)∧W=w'):=fun W=>HIR.out W _ _ _ true (decide_eq_true h1)
 have HLO:Hid (0≤lo∧lo≤100000):=h1
 clear h1;by_cases h2:¬ (0≤st∧st≤1000000)
 ·have HBAD:Hid (¬ okHo ⟨c0,c1,c2,c3,fs,bx,ff,qu,lo,st⟩):=fun h=>h2 ⟨h.s0,h.s1⟩
  have J2:Hid (∀ W,Calls Tryz.prog 115 #[.int .i64 st,.int .i64 0,.int .i64 1000000] W fun o w'=>o = .returned (.bool false)∧W=w'):=fun W=>HIR.out W _ _ _ false (decide_eq_false h2)
  clear hl2 hl3 hl4 h2 HIR;go_enter Tryz.func60,Tryz.ntmps60
  go_wp2_with (first
   | (go_at_call 53;refine (HCF.out _).mono ?_;rintro o w1 ⟨rfl,hb1⟩;have O1:Hid (obS w ⟨c0,c1,c2,c3,fs,bx,ff,qu,lo,st⟩ ⟨a1,n1,k1,a2,n2,k2,a3,n3,k3,a4,n4,k4⟩ w1):=H0.out.below hb1;have q0:=O1.out.p.cell 0 _ rfl;have q1:=O1.out.p.cell 1 _ rfl;have q3:=O1.out.p.cell 3 _ rfl;have q4:=O1.out.p.cell 4 _ rfl;have q5:=O1.out.p.cell 5 _ rfl;have q6:=O1.out.p.cell 6 _ rfl;have q7:=O1.out.p.cell 7 _ rfl;have q8:=O1.out.p.cell 8 _ rfl;have q9:=O1.out.p.cell 9 _ rfl;clear hb1)
   | (go_at_call 54;refine (HFS.out _ O1.out.b).mono ?_;rintro o w2 ⟨rfl,hb2⟩;have O2:Hid (obS w ⟨c0,c1,c2,c3,fs,bx,ff,qu,lo,st⟩ ⟨a1,n1,k1,a2,n2,k2,a3,n3,k3,a4,n4,k4⟩ w2):=O1.out.below hb2;clear q0 q1 q3 q4 q5 q6 q7 q8 q9;have q0:=O2.out.p.cell 0 _ rfl;have q1:=O2.out.p.cell 1 _ rfl;have q3:=O2.out.p.cell 3 _ rfl;have q4:=O2.out.p.cell 4 _ rfl;have q5:=O2.out.p.cell 5 _ rfl;have q6:=O2.out.p.cell 6 _ rfl;have q7:=O2.out.p.cell 7 _ rfl;have q8:=O2.out.p.cell 8 _ rfl;have q9:=O2.out.p.cell 9 _ rfl;clear hb2)
   | (go_at_call 115;first | (refine (J1.out _).mono ?_;rintro o wI ⟨rfl,rfl⟩;clear J1) | (refine (J2.out _).mono ?_;rintro o wJ ⟨rfl,rfl⟩;clear J2)))
  go_ret;exact⟨⟨false,rfl,by simpa using HBAD.out⟩,O2.out.b⟩
 have h2:0≤st∧st≤1000000:=Classical.not_not.1 h2
 have J2:Hid (∀ W,Calls Tryz.prog 115 #[.int .i64 st,.int .i64 0,.int .i64 1000000] W fun o w'=>o = .returned (.bool true)∧W=w'):=fun W=>HIR.out W _ _ _ true (decide_eq_true h2)
 have HSTR:Hid (0≤st∧st≤1000000):=h2
 clear h2 HIR;by_cases hb:¬ (n2:Int)=c0
 ·have HBAD:Hid (¬ okHo ⟨c0,c1,c2,c3,fs,bx,ff,qu,lo,st⟩):=fun h=>hb (by have:=h.nb;simp only[] at this;omega)
  have hb':((n2:Int) != c0)=true:=by simpa using hb
  clear hl2 hl3 hl4 hb;go_enter Tryz.func60,Tryz.ntmps60
  go_wp2_with (first
   | (go_at_call 53;refine (HCF.out _).mono ?_;rintro o w1 ⟨rfl,hb1⟩;have O1:Hid (obS w ⟨c0,c1,c2,c3,fs,bx,ff,qu,lo,st⟩ ⟨a1,n1,k1,a2,n2,k2,a3,n3,k3,a4,n4,k4⟩ w1):=H0.out.below hb1;have q0:=O1.out.p.cell 0 _ rfl;have q1:=O1.out.p.cell 1 _ rfl;have q3:=O1.out.p.cell 3 _ rfl;have q4:=O1.out.p.cell 4 _ rfl;have q5:=O1.out.p.cell 5 _ rfl;have q6:=O1.out.p.cell 6 _ rfl;have q7:=O1.out.p.cell 7 _ rfl;have q8:=O1.out.p.cell 8 _ rfl;have q9:=O1.out.p.cell 9 _ rfl;clear hb1)
   | (go_at_call 54;refine (HFS.out _ O1.out.b).mono ?_;rintro o w2 ⟨rfl,hb2⟩;have O2:Hid (obS w ⟨c0,c1,c2,c3,fs,bx,ff,qu,lo,st⟩ ⟨a1,n1,k1,a2,n2,k2,a3,n3,k3,a4,n4,k4⟩ w2):=O1.out.below hb2;clear q0 q1 q3 q4 q5 q6 q7 q8 q9;have q0:=O2.out.p.cell 0 _ rfl;have q1:=O2.out.p.cell 1 _ rfl;have q3:=O2.out.p.cell 3 _ rfl;have q4:=O2.out.p.cell 4 _ rfl;have q5:=O2.out.p.cell 5 _ rfl;have q6:=O2.out.p.cell 6 _ rfl;have q7:=O2.out.p.cell 7 _ rfl;have q8:=O2.out.p.cell 8 _ rfl;have q9:=O2.out.p.cell 9 _ rfl;clear hb2)
   | (go_at_call 115;first | (refine (J1.out _).mono ?_;rintro o wI ⟨rfl,rfl⟩;clear J1) | (refine (J2.out _).mono ?_;rintro o wJ ⟨rfl,rfl⟩;clear J2)))
  go_ret;exact⟨⟨false,rfl,by simpa using HBAD.out⟩,O2.out.b⟩
 have hb':((n2:Int) != c0)=false:=by simpa using hb
 have hb:(n2:Int)=c0:=Classical.not_not.1 hb
 have HB8:Hid (n2≤8∧(bx.length:Int)=c0):=by have:=HCB.out;exact⟨by omega,by omega⟩
 clear hb;by_cases hf:c1<(n3:Int)
 ·have HBAD:Hid (¬ okHo ⟨c0,c1,c2,c3,fs,bx,ff,qu,lo,st⟩):=fun h=>by have:=h.nf;simp only[] at this;omega
  clear hl2 hl3 hl4;go_enter Tryz.func60,Tryz.ntmps60
  go_wp2_with (first
   | (go_at_call 53;refine (HCF.out _).mono ?_;rintro o w1 ⟨rfl,hb1⟩;have O1:Hid (obS w ⟨c0,c1,c2,c3,fs,bx,ff,qu,lo,st⟩ ⟨a1,n1,k1,a2,n2,k2,a3,n3,k3,a4,n4,k4⟩ w1):=H0.out.below hb1;have q0:=O1.out.p.cell 0 _ rfl;have q1:=O1.out.p.cell 1 _ rfl;have q3:=O1.out.p.cell 3 _ rfl;have q4:=O1.out.p.cell 4 _ rfl;have q5:=O1.out.p.cell 5 _ rfl;have q6:=O1.out.p.cell 6 _ rfl;have q7:=O1.out.p.cell 7 _ rfl;have q8:=O1.out.p.cell 8 _ rfl;have q9:=O1.out.p.cell 9 _ rfl;clear hb1)
   | (go_at_call 54;refine (HFS.out _ O1.out.b).mono ?_;rintro o w2 ⟨rfl,hb2⟩;have O2:Hid (obS w ⟨c0,c1,c2,c3,fs,bx,ff,qu,lo,st⟩ ⟨a1,n1,k1,a2,n2,k2,a3,n3,k3,a4,n4,k4⟩ w2):=O1.out.below hb2;clear q0 q1 q3 q4 q5 q6 q7 q8 q9;have q0:=O2.out.p.cell 0 _ rfl;have q1:=O2.out.p.cell 1 _ rfl;have q3:=O2.out.p.cell 3 _ rfl;have q4:=O2.out.p.cell 4 _ rfl;have q5:=O2.out.p.cell 5 _ rfl;have q6:=O2.out.p.cell 6 _ rfl;have q7:=O2.out.p.cell 7 _ rfl;have q8:=O2.out.p.cell 8 _ rfl;have q9:=O2.out.p.cell 9 _ rfl;clear hb2)
   | (go_at_call 115;first | (refine (J1.out _).mono ?_;rintro o wI ⟨rfl,rfl⟩;clear J1) | (refine (J2.out _).mono ?_;rintro o wJ ⟨rfl,rfl⟩;clear J2)))
  go_ret;exact⟨⟨false,rfl,by simpa using HBAD.out⟩,O2.out.b⟩
 by_cases hq:c3<(n4:Int)
 ·have HBAD:Hid (¬ okHo ⟨c0,c1,c2,c3,fs,bx,ff,qu,lo,st⟩):=fun h=>by have:=h.nq;simp only[] at this;omega
  clear hl2 hl3 hl4;go_enter Tryz.func60,Tryz.ntmps60
  go_wp2_with (first
   | (go_at_call 53;refine (HCF.out _).mono ?_;rintro o w1 ⟨rfl,hb1⟩;have O1:Hid (obS w ⟨c0,c1,c2,c3,fs,bx,ff,qu,lo,st⟩ ⟨a1,n1,k1,a2,n2,k2,a3,n3,k3,a4,n4,k4⟩ w1):=H0.out.below hb1;have q0:=O1.out.p.cell 0 _ rfl;have q1:=O1.out.p.cell 1 _ rfl;have q3:=O1.out.p.cell 3 _ rfl;have q4:=O1.out.p.cell 4 _ rfl;have q5:=O1.out.p.cell 5 _ rfl;have q6:=O1.out.p.cell 6 _ rfl;have q7:=O1.out.p.cell 7 _ rfl;have q8:=O1.out.p.cell 8 _ rfl;have q9:=O1.out.p.cell 9 _ rfl;clear hb1)
   | (go_at_call 54;refine (HFS.out _ O1.out.b).mono ?_;rintro o w2 ⟨rfl,hb2⟩;have O2:Hid (obS w ⟨c0,c1,c2,c3,fs,bx,ff,qu,lo,st⟩ ⟨a1,n1,k1,a2,n2,k2,a3,n3,k3,a4,n4,k4⟩ w2):=O1.out.below hb2;clear q0 q1 q3 q4 q5 q6 q7 q8 q9;have q0:=O2.out.p.cell 0 _ rfl;have q1:=O2.out.p.cell 1 _ rfl;have q3:=O2.out.p.cell 3 _ rfl;have q4:=O2.out.p.cell 4 _ rfl;have q5:=O2.out.p.cell 5 _ rfl;have q6:=O2.out.p.cell 6 _ rfl;have q7:=O2.out.p.cell 7 _ rfl;have q8:=O2.out.p.cell 8 _ rfl;have q9:=O2.out.p.cell 9 _ rfl;clear hb2)
   | (go_at_call 115;first | (refine (J1.out _).mono ?_;rintro o wI ⟨rfl,rfl⟩;clear J1) | (refine (J2.out _).mono ?_;rintro o wJ ⟨rfl,rfl⟩;clear J2)))
  go_ret;exact⟨⟨false,rfl,by simpa using HBAD.out⟩,O2.out.b⟩
 have HNUM:Hid ((ff.length:Int)≤c1∧(qu.length:Int)≤c3):=⟨by omega,by omega⟩
 clear hl2 hl3 hl4;go_enter Tryz.func60,Tryz.ntmps60
 go_wp2_with (first
  | (go_at_call 53;refine (HCF.out _).mono ?_;rintro o w1 ⟨rfl,hb1⟩;have O1:Hid (obS w ⟨c0,c1,c2,c3,fs,bx,ff,qu,lo,st⟩ ⟨a1,n1,k1,a2,n2,k2,a3,n3,k3,a4,n4,k4⟩ w1):=H0.out.below hb1;have q0:=O1.out.p.cell 0 _ rfl;have q1:=O1.out.p.cell 1 _ rfl;have q3:=O1.out.p.cell 3 _ rfl;have q4:=O1.out.p.cell 4 _ rfl;have q5:=O1.out.p.cell 5 _ rfl;have q6:=O1.out.p.cell 6 _ rfl;have q7:=O1.out.p.cell 7 _ rfl;have q8:=O1.out.p.cell 8 _ rfl;have q9:=O1.out.p.cell 9 _ rfl;clear hb1)
  | (go_at_call 54;refine (HFS.out _ O1.out.b).mono ?_;rintro o w2 ⟨rfl,hb2⟩;have O2:Hid (obS w ⟨c0,c1,c2,c3,fs,bx,ff,qu,lo,st⟩ ⟨a1,n1,k1,a2,n2,k2,a3,n3,k3,a4,n4,k4⟩ w2):=O1.out.below hb2;clear q0 q1 q3 q4 q5 q6 q7 q8 q9;have q0:=O2.out.p.cell 0 _ rfl;have q1:=O2.out.p.cell 1 _ rfl;have q3:=O2.out.p.cell 3 _ rfl;have q4:=O2.out.p.cell 4 _ rfl;have q5:=O2.out.p.cell 5 _ rfl;have q6:=O2.out.p.cell 6 _ rfl;have q7:=O2.out.p.cell 7 _ rfl;have q8:=O2.out.p.cell 8 _ rfl;have q9:=O2.out.p.cell 9 _ rfl;clear hb2)
  | (go_at_call 115;first | (refine (J1.out _).mono ?_;rintro o wI ⟨rfl,rfl⟩;clear J1) | (refine (J2.out _).mono ?_;rintro o wJ ⟨rfl,rfl⟩;clear J2)))
 refine (HBX.out HB8.out.1 HSTR.out _ O2.out.b).mono ?_
 rintro o w3 ⟨⟨b3,rfl,h3⟩,hb3⟩;have O3:Hid (obS w ⟨c0,c1,c2,c3,fs,bx,ff,qu,lo,st⟩ ⟨a1,n1,k1,a2,n2,k2,a3,n3,k3,a4,n4,k4⟩ w3):=O2.out.below hb3
 have HI3:Hid (b3=true↔okBxs st bx):=h3
 clear q0 q1 q3 q4 q5 q6 q7 q8 q9;have q6:=O3.out.p.cell 6 _ rfl
 clear h3 hb3;cases b3
 ·have HBAD:Hid (¬ okHo ⟨c0,c1,c2,c3,fs,bx,ff,qu,lo,st⟩):=fun h=>by have:=HI3.out.2 h.bx;cases this
  go_wp2_with fail;go_ret;exact⟨⟨false,rfl,by simpa using HBAD.out⟩,O3.out.b⟩
 ·have HBX3:Hid (okBxs st bx):=HI3.out.1 rfl
  clear HI3;cases hff:ff.all okFr
  ·have HBAD:Hid (¬ okHo ⟨c0,c1,c2,c3,fs,bx,ff,qu,lo,st⟩):=fun h=>by have:=h.ff;simp only[] at this;rw[hff] at this;cases this
   rw[hff] at HFF
   clear hff;go_wp2_with (first
    | (go_at_call 125;refine (HFF.out _ O3.out.b).mono ?_;rintro o w4 ⟨rfl,hb4⟩))
   go_ret;exact⟨⟨false,rfl,by simpa using HBAD.out⟩,(O3.out.below hb4).b⟩
  ·have HFT3:Hid (ff.all okFr=true):=hff
   rw[hff] at HFF
   clear hff;cases hqu:qu.all okEv
   ·have HBAD:Hid (¬ okHo ⟨c0,c1,c2,c3,fs,bx,ff,qu,lo,st⟩):=fun h=>by have:=h.qu;simp only[] at this;rw[hqu] at this;cases this
    rw[hqu] at HQU
    clear hqu;go_wp2_with (first
     | (go_at_call 125;refine (HFF.out _ O3.out.b).mono ?_;rintro o w4 ⟨rfl,hb4⟩;have O4:Hid (obS w ⟨c0,c1,c2,c3,fs,bx,ff,qu,lo,st⟩ ⟨a1,n1,k1,a2,n2,k2,a3,n3,k3,a4,n4,k4⟩ w4):=O3.out.below hb4;have q7:=O4.out.p.cell 7 _ rfl;clear hb4)
     | (go_at_call 127;refine (HQU.out _ O4.out.b).mono ?_;rintro o w5 ⟨rfl,hb5⟩))
    go_ret;exact⟨⟨false,rfl,by simpa using HBAD.out⟩,(O4.out.below hb5).b⟩
   ·have HGO:Hid (okHo ⟨c0,c1,c2,c3,fs,bx,ff,qu,lo,st⟩):=⟨HCT.out,HFT.out,HB8.out.2,HNUM.out.1,HNUM.out.2,HLO.out.1,HLO.out.2,HSTR.out.1,HSTR.out.2,HFT3.out,hqu,HBX3.out⟩
    rw[hqu] at HQU
    clear hqu;go_wp2_with (first
     | (go_at_call 125;refine (HFF.out _ O3.out.b).mono ?_;rintro o w4 ⟨rfl,hb4⟩;have O4:Hid (obS w ⟨c0,c1,c2,c3,fs,bx,ff,qu,lo,st⟩ ⟨a1,n1,k1,a2,n2,k2,a3,n3,k3,a4,n4,k4⟩ w4):=O3.out.below hb4;have q7:=O4.out.p.cell 7 _ rfl;clear hb4)
     | (go_at_call 127;refine (HQU.out _ O4.out.b).mono ?_;rintro o w5 ⟨rfl,hb5⟩))
    go_ret;exact⟨⟨true,rfl,by simpa using HGO.out⟩,(O4.out.below hb5).b⟩
end Go.Proofs.YtaamahohdnbpiaaGreat
namespace Go.Proofs.YtaamahohdnbpiaaGreat
open Go.Shelf Go.RowKit
set_option linter.unusedVariables false
def Tryz.laysE160_ren:Go.Shelf.Ren:=⟨fun | 41=>160 | n=>n,fun | 22=>31 | 23=>97 | n=>n,fun | n=>n⟩
theorem Tryz.laysE160:Go.Proofs.SlLaysE0.n41 Tryz.prog Tryz.laysE160_ren:={
 mixed:=by kernel_rfl
 f41:=⟨Tryz.f160.name,by kernel_rfl,Tryz.func160.trans (congrArg some (by kernel_rfl))⟩
 t4:=Tryz.underlying4
 a4:=Tryz.isAgg4
 z4:=Tryz.sizeOf4
 v4:=Tryz.zeroValue4
 t22:=Tryz.underlying31
 a22:=Tryz.isAgg31
 z22:=Tryz.sizeOf31
 v22:=Tryz.zeroValue31 }
abbrev X8:=R8 × Option Addr × Nat × Nat
def x8 (t:X8):List Value:=[.int .i64 t.1.x,.int .i64 t.1.y,.int .i64 t.1.z,.bool t.1.e,.int .u32 (t.1.i:Int),.bool t.1.r,.int .i64 t.1.d,.slice t.2.1 t.2.2.1 t.2.2.2]
def c8 (bs:List X8):List Value:=bs.flatMap x8
theorem c8_len (bs:List X8):(c8 bs).length=bs.length*8:=by
 induction bs with
 | nil=>rfl
 | cons b bs ih=>simp only[c8,List.flatMap_cons,List.length_append] at ih ⊢;rw[ih];simp only[x8,List.length_cons,List.length_nil];omega
theorem c8_at (bs:List X8):∀ j (h:j<bs.length) t,t<8→(c8 bs)[j*8+t]?=(x8 bs[j])[t]?:=by
 induction bs with
 | nil=>intro j h;exact absurd h (Nat.not_lt_zero _)
 | cons b bs ih=>
  intro j h t ht;cases j with
  | zero=>
   simp only[c8,List.flatMap_cons,Nat.zero_mul,Nat.zero_add]
   rw[List.getElem?_append_left (by simpa[x8] using ht)]
   rfl
  | succ j=>
   have e:(j+1)*8+t=8+(j*8+t):=by omega
   rw[e]
   simp only[c8,List.flatMap_cons]
   rw[List.getElem?_append_right (by simp[x8])]
   have:=ih j (by simpa using h) t ht
   simp only[c8] at this
   simpa[x8] using this
theorem rows8 {w:World} {g off n cap:Nat} {bx:List R8} (h:isR8s w (some ⟨g,off,none⟩) n cap bx):∃ bs:List X8,bs.map (·.1)=bx∧∀ j (hj:j<bs.length),at8 w g (off+j*8) bs[j].1 bs[j].2.1 bs[j].2.2.1 bs[j].2.2.2:=by
 have hc:∀ j (hj:j<bx.length),∃ ao m c,at8 w g (off+j*8) bx[j] ao m c:=by
  intro j hj;obtain⟨g',off',ha,hc⟩:=h.cells (by intro e;subst e;cases hj)
  cases ha
  exact hc j hj
 clear h;induction bx generalizing off with
 | nil=>exact⟨[],rfl,fun j hj=>absurd hj (Nat.not_lt_zero _)⟩
 | cons b bx ih=>
  obtain⟨ao,m,c,h0⟩:=hc 0 (by simp)
  obtain⟨bs,hm,hs⟩:=ih (off:=off+8) (fun j hj=>by
   have:=hc (j+1) (by simpa using hj)
   have e:off+(j+1)*8=off+8+j*8:=by omega
   rw[e] at this
   simpa using this)
  refine⟨(b,ao,m,c) :: bs,by simp[hm],fun j hj=>?_⟩
  cases j with
  | zero=>exact h0
  | succ j=>
   have:=hs j (by simpa using hj)
   have e:off+(j+1)*8=off+8+j*8:=by omega
   rw[e]
   exact this
theorem c8_cell {w:World} {g off:Nat} {bs:List X8} (h:∀ j (hj:j<bs.length),at8 w g (off+j*8) bs[j].1 bs[j].2.1 bs[j].2.2.1 bs[j].2.2.2) (t:Nat) (u:Value) (hu:(c8 bs)[t]?=some u):w.cell? ⟨g,off+t,none⟩=some u:=by
 have ht:t<bs.length*8:=by
  have:=(List.getElem?_eq_some_iff.mp hu).1
  rwa [c8_len] at this
 have hj:t / 8<bs.length:=by omega
 have e:t=t / 8*8+t % 8:=by omega
 rw[e,c8_at bs (t / 8) hj (t % 8) (by omega)] at hu
 have:=(h (t / 8) hj).range (t % 8) u hu
 rw[e,← Nat.add_assoc]
 exact this
theorem c8_one (bs:List X8):∀ u ∈ c8 bs,u.oneCell'=true:=by
 intro u hu;simp only[c8,x8,List.mem_flatMap,List.mem_cons,List.not_mem_nil,or_false] at hu
 obtain⟨b,_,rfl | rfl | rfl | rfl | rfl | rfl | rfl | rfl⟩:=hu <;> rfl
end Go.Proofs.YtaamahohdnbpiaaGreat
