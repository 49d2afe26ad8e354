import Derived.Test.YtbllefckefhpoaaGreatK22
import Derived.Test.YtbllefckefhpoaaGreatK21
import Derived.Test.YtbllefckefhpoaaGreatK04
import Derived.Test.YtbllefckefhpoaaGreatK13
namespace Go.Proofs.YtbllefckefhpoaaGreat
open Go.RowKit
set_option linter.unusedVariables false
set_option maxHeartbeats 16000000
open Go.Value renaming int→I,slice→sL,bool→bO,pointer→pT,agg→aG
open Go.IntKind renaming i64→J
open Go.Ending renaming returned→rT
open Go.Proofs.Tryz renaming prog→Tp
set_option maxRecDepth 20000 in
theorem validHost_any (w:World) (H:Ho) (s:Sl) (h:isHo w H s) (hn:H.le 1048576) :
  Calls Tp 67 #[hoV H s] w fun o w'=>retB o (okHo H)∧Below w.heap.size w w':=by
 have H0:Hid (obS w H s (w.alloc (.cells (hoL H s).toArray 41))):=⟨blk.new w _ 41,(Below.refl _ _).alloc (Nat.le_refl _) _⟩
 have hl2:=h.bx.len
 have hl3:=h.ff.len
 have hl4:=h.qu.len
 have HCF0:=fun W=>validConfig_any W H.c0 H.c1 H.c2 H.c3
 have HFS0:=fun W (hW:Below w.heap.size w W)=>validFilters_any W _ _ _ _ (h.fs.below hW) (by rw[h.fs.len];exact hn.fs)
 have HFF:Hid (∀ W,Below w.heap.size w W→Calls Tp 115 #[sL s.a3 s.n3 s.k3,.func (.func 116) #[] #[]] W fun o w'=>o = rT (bO (!H.ff.all okFr))∧Below W.heap.size W w'):=fun W hW=>containsFrame_any W _ _ _ _ (h.ff.below hW) (by rw[h.ff.len];exact hn.ff)
 have HQU:Hid (∀ W,Below w.heap.size w W→Calls Tp 117 #[sL s.a4 s.n4 s.k4,.func (.func 118) #[] #[]] W fun o w'=>o = rT (bO (!H.qu.all okEv))∧Below W.heap.size W w'):=fun W hW=>containsEvent_any W _ _ _ _ (h.qu.below hW) (by rw[h.qu.len];exact hn.qu)
 have HBX:Hid (s.n2≤8→0≤H.st∧H.st≤1000000→∀ W,Below w.heap.size w W→Calls Tp 114 #[sL s.a2 s.n2 s.k2,I J H.st] W fun o w'=>retB o (okBxs H.st H.bx)∧Below W.heap.size W w'):=fun h8 hst W hW=>validBoxes_any W _ _ _ _ _ (h.bx.below hW) h8 hst
 clear h hn;obtain⟨c0,c1,c2,c3,fs,bx,ff,qu,lo,st⟩:=H
 obtain⟨a1,n1,k1,a2,n2,k2,a3,n3,k3,a4,n4,k4⟩:=s
 simp only[] at HCF0 HFS0 hl2 hl3 hl4 HBX HFF HQU ⊢
 have HIR:Hid (∀ (W:World) (v l m:Int) (bb:Bool),decide (l≤v∧v≤m)=bb→Calls Tp 66 #[I J v,I J l,I J m] W fun o w'=>o = rT (bO bb)∧W=w'):=fun W v l m bb hbb=>hbb ▸ inRange_any W v l m
 have hmf:∀ (fn:Fn) (first cap:Array Value) (w:World),(Instr.makeFunc fn first cap).run Tp w = .ok (.func fn first cap) w:=fun _ _ _ _=>rfl
 cases hcf:okCf c0 c1 c2 c3
 ·have HBAD:Hid (¬ okHo ⟨c0,c1,c2,c3,fs,bx,ff,qu,lo,st⟩):=fun h=>by have:=h.cf;simp only[] at this;rw[hcf] at this;cases this
  have HCF:Hid (∀ W,Calls Tp 112 #[cfV c0 c1 c2 c3] W fun o w'=>o = rT (bO false)∧Below W.heap.size W w'):=fun W=>hcf ▸ HCF0 W
  clear hl2 hl3 hl4 HCF0 HFS0 hcf;go_enter Tryz.func67,Tryz.ntmps67
  go_wp2_with (first
   | (go_at_call 112;refine (HCF.out _).mono ?_;rintro o w1 ⟨rfl,hb1⟩;have O1:Hid (obS w ⟨c0,c1,c2,c3,fs,bx,ff,qu,lo,st⟩ ⟨a1,n1,k1,a2,n2,k2,a3,n3,k3,a4,n4,k4⟩ w1):=H0.out.below hb1;have q0:=O1.out.p.cell 0 _ rfl;have q1:=O1.out.p.cell 1 _ rfl;have q3:=O1.out.p.cell 3 _ rfl;have q4:=O1.out.p.cell 4 _ rfl;have q5:=O1.out.p.cell 5 _ rfl;have q6:=O1.out.p.cell 6 _ rfl;have q7:=O1.out.p.cell 7 _ rfl;have q8:=O1.out.p.cell 8 _ rfl;have q9:=O1.out.p.cell 9 _ rfl;clear hb1))
  go_ret;exact⟨⟨false,rfl,by simpa using HBAD.out⟩,O1.out.b⟩
 have HCF:Hid (∀ W,Calls Tp 112 #[cfV c0 c1 c2 c3] W fun o w'=>o = rT (bO true)∧Below W.heap.size W w'):=fun W=>hcf ▸ HCF0 W
 have HCB:Hid (1≤c0∧c0≤8∧1≤c1∧c1≤16∧0≤c2∧c2≤1∧1≤c3∧c3≤32):=(of_decide_eq_true hcf:1≤c0∧c0≤8∧1≤c1∧c1≤16∧0≤c2∧c2≤1∧1≤c3∧c3≤32)
 have HCT:Hid (okCf c0 c1 c2 c3=true):=hcf
 clear HCF0 hcf;cases hfs:okFs fs
 ·have HBAD:Hid (¬ okHo ⟨c0,c1,c2,c3,fs,bx,ff,qu,lo,st⟩):=fun h=>by have:=h.fs;simp only[] at this;rw[hfs] at this;cases this
  have HFS:Hid (∀ W,Below w.heap.size w W→Calls Tp 113 #[sL a1 n1 k1] W fun o w'=>o = rT (bO false)∧Below W.heap.size W w'):=fun W hW=>hfs ▸ HFS0 W hW
  clear hl2 hl3 hl4 HFS0 hfs;go_enter Tryz.func67,Tryz.ntmps67
  go_wp2_with (first
   | (go_at_call 112;refine (HCF.out _).mono ?_;rintro o w1 ⟨rfl,hb1⟩;have O1:Hid (obS w ⟨c0,c1,c2,c3,fs,bx,ff,qu,lo,st⟩ ⟨a1,n1,k1,a2,n2,k2,a3,n3,k3,a4,n4,k4⟩ w1):=H0.out.below hb1;have q0:=O1.out.p.cell 0 _ rfl;have q1:=O1.out.p.cell 1 _ rfl;have q3:=O1.out.p.cell 3 _ rfl;have q4:=O1.out.p.cell 4 _ rfl;have q5:=O1.out.p.cell 5 _ rfl;have q6:=O1.out.p.cell 6 _ rfl;have q7:=O1.out.p.cell 7 _ rfl;have q8:=O1.out.p.cell 8 _ rfl;have q9:=O1.out.p.cell 9 _ rfl;clear hb1)
   | (go_at_call 113;refine (HFS.out _ O1.out.b).mono ?_;rintro o w2 ⟨rfl,hb2⟩;have O2:Hid (obS w ⟨c0,c1,c2,c3,fs,bx,ff,qu,lo,st⟩ ⟨a1,n1,k1,a2,n2,k2,a3,n3,k3,a4,n4,k4⟩ w2):=O1.out.below hb2;clear q0 q1 q3 q4 q5 q6 q7 q8 q9;have q0:=O2.out.p.cell 0 _ rfl;have q1:=O2.out.p.cell 1 _ rfl;have q3:=O2.out.p.cell 3 _ rfl;have q4:=O2.out.p.cell 4 _ rfl;have q5:=O2.out.p.cell 5 _ rfl;have q6:=O2.out.p.cell 6 _ rfl;have q7:=O2.out.p.cell 7 _ rfl;have q8:=O2.out.p.cell 8 _ rfl;have q9:=O2.out.p.cell 9 _ rfl;clear hb2))
  go_ret;exact⟨⟨false,rfl,by simpa using HBAD.out⟩,O2.out.b⟩
 have HFS:Hid (∀ W,Below w.heap.size w W→Calls Tp 113 #[sL a1 n1 k1] W fun o w'=>o = rT (bO true)∧Below W.heap.size W w'):=fun W hW=>hfs ▸ HFS0 W hW
 have HFT:Hid (okFs fs=true):=hfs
 clear HFS0 hfs;by_cases h1:¬ (0≤lo∧lo≤100000)
 ·have HBAD:Hid (¬ okHo ⟨c0,c1,c2,c3,fs,bx,ff,qu,lo,st⟩):=fun h=>h1 ⟨h.l0,h.l1⟩
  have J1:Hid (∀ W,Calls Tp 66 #[I J lo,I J 0,I J 100000] W fun o w'=>o = rT (bO false)∧W=w'):=fun W=>HIR.out W _ _ _ false (decide_eq_false h1)
  clear hl2 hl3 hl4 h1 HIR;go_enter Tryz.func67,Tryz.ntmps67
  go_wp2_with (first
   | (go_at_call 112;refine (HCF.out _).mono ?_;rintro o w1 ⟨rfl,hb1⟩;have O1:Hid (obS w ⟨c0,c1,c2,c3,fs,bx,ff,qu,lo,st⟩ ⟨a1,n1,k1,a2,n2,k2,a3,n3,k3,a4,n4,k4⟩ w1):=H0.out.below hb1;have q0:=O1.out.p.cell 0 _ rfl;have q1:=O1.out.p.cell 1 _ rfl;have q3:=O1.out.p.cell 3 _ rfl;have q4:=O1.out.p.cell 4 _ rfl;have q5:=O1.out.p.cell 5 _ rfl;have q6:=O1.out.p.cell 6 _ rfl;have q7:=O1.out.p.cell 7 _ rfl;have q8:=O1.out.p.cell 8 _ rfl;have q9:=O1.out.p.cell 9 _ rfl;clear hb1)
   | (go_at_call 113;refine (HFS.out _ O1.out.b).mono ?_;rintro o w2 ⟨rfl,hb2⟩;have O2:Hid (obS w ⟨c0,c1,c2,c3,fs,bx,ff,qu,lo,st⟩ ⟨a1,n1,k1,a2,n2,k2,a3,n3,k3,a4,n4,k4⟩ w2):=O1.out.below hb2;clear q0 q1 q3 q4 q5 q6 q7 q8 q9;have q0:=O2.out.p.cell 0 _ rfl;have q1:=O2.out.p.cell 1 _ rfl;have q3:=O2.out.p.cell 3 _ rfl;have q4:=O2.out.p.cell 4 _ rfl;have q5:=O2.out.p.cell 5 _ rfl;have q6:=O2.out.p.cell 6 _ rfl;have q7:=O2.out.p.cell 7 _ rfl;have q8:=O2.out.p.cell 8 _ rfl;have q9:=O2.out.p.cell 9 _ rfl;clear hb2)
   | (go_at_call 66;refine (J1.out _).mono ?_;rintro o wI ⟨rfl,rfl⟩;clear J1))
  go_ret;exact⟨⟨false,rfl,by simpa using HBAD.out⟩,O2.out.b⟩
 have h1:0≤lo∧lo≤100000:=Classical.not_not.1 h1
 have J1:Hid (∀ W,Calls Tp 66 #[I J lo,I J 0,I J 100000] W fun o w'=>o = rT (bO true)∧W=w'):=fun W=>HIR.out W _ _ _ true (decide_eq_true h1)
 have HLO:Hid (0≤lo∧lo≤100000):=h1
 clear h1;by_cases h2:¬ (0≤st∧st≤1000000)
 ·have HBAD:Hid (¬ okHo ⟨c0,c1,c2,c3,fs,bx,ff,qu,lo,st⟩):=fun h=>h2 ⟨h.s0,h.s1⟩
  have J2:Hid (∀ W,Calls Tp 66 #[I J st,I J 0,I J 1000000] W fun o w'=>o = rT (bO false)∧W=w'):=fun W=>HIR.out W _ _ _ false (decide_eq_false h2)
  clear hl2 hl3 hl4 h2 HIR;go_enter Tryz.func67,Tryz.ntmps67
  go_wp2_with (first
   | (go_at_call 112;refine (HCF.out _).mono ?_;rintro o w1 ⟨rfl,hb1⟩;have O1:Hid (obS w ⟨c0,c1,c2,c3,fs,bx,ff,qu,lo,st⟩ ⟨a1,n1,k1,a2,n2,k2,a3,n3,k3,a4,n4,k4⟩ w1):=H0.out.below hb1;have q0:=O1.out.p.cell 0 _ rfl;have q1:=O1.out.p.cell 1 _ rfl;have q3:=O1.out.p.cell 3 _ rfl;have q4:=O1.out.p.cell 4 _ rfl;have q5:=O1.out.p.cell 5 _ rfl;have q6:=O1.out.p.cell 6 _ rfl;have q7:=O1.out.p.cell 7 _ rfl;have q8:=O1.out.p.cell 8 _ rfl;have q9:=O1.out.p.cell 9 _ rfl;clear hb1)
   | (go_at_call 113;refine (HFS.out _ O1.out.b).mono ?_;rintro o w2 ⟨rfl,hb2⟩;have O2:Hid (obS w ⟨c0,c1,c2,c3,fs,bx,ff,qu,lo,st⟩ ⟨a1,n1,k1,a2,n2,k2,a3,n3,k3,a4,n4,k4⟩ w2):=O1.out.below hb2;clear q0 q1 q3 q4 q5 q6 q7 q8 q9;have q0:=O2.out.p.cell 0 _ rfl;have q1:=O2.out.p.cell 1 _ rfl;have q3:=O2.out.p.cell 3 _ rfl;have q4:=O2.out.p.cell 4 _ rfl;have q5:=O2.out.p.cell 5 _ rfl;have q6:=O2.out.p.cell 6 _ rfl;have q7:=O2.out.p.cell 7 _ rfl;have q8:=O2.out.p.cell 8 _ rfl;have q9:=O2.out.p.cell 9 _ rfl;clear hb2)
   | (go_at_call 66;first | (refine (J1.out _).mono ?_;rintro o wI ⟨rfl,rfl⟩;clear J1) | (refine (J2.out _).mono ?_;rintro o wJ ⟨rfl,rfl⟩;clear J2)))
  go_ret;exact⟨⟨false,rfl,by simpa using HBAD.out⟩,O2.out.b⟩
 have h2:0≤st∧st≤1000000:=Classical.not_not.1 h2
 have J2:Hid (∀ W,Calls Tp 66 #[I J st,I J 0,I J 1000000] W fun o w'=>o = rT (bO true)∧W=w'):=fun W=>HIR.out W _ _ _ true (decide_eq_true h2)
 have HSTR:Hid (0≤st∧st≤1000000):=h2
 clear h2 HIR;by_cases hb:¬ (n2:Int)=c0
 ·have HBAD:Hid (¬ okHo ⟨c0,c1,c2,c3,fs,bx,ff,qu,lo,st⟩):=fun h=>hb (by have:=h.nb;simp only[] at this;omega)
  have hb':((n2:Int) != c0)=true:=by simpa using hb
  clear hl2 hl3 hl4 hb;go_enter Tryz.func67,Tryz.ntmps67
  go_wp2_with (first
   | (go_at_call 112;refine (HCF.out _).mono ?_;rintro o w1 ⟨rfl,hb1⟩;have O1:Hid (obS w ⟨c0,c1,c2,c3,fs,bx,ff,qu,lo,st⟩ ⟨a1,n1,k1,a2,n2,k2,a3,n3,k3,a4,n4,k4⟩ w1):=H0.out.below hb1;have q0:=O1.out.p.cell 0 _ rfl;have q1:=O1.out.p.cell 1 _ rfl;have q3:=O1.out.p.cell 3 _ rfl;have q4:=O1.out.p.cell 4 _ rfl;have q5:=O1.out.p.cell 5 _ rfl;have q6:=O1.out.p.cell 6 _ rfl;have q7:=O1.out.p.cell 7 _ rfl;have q8:=O1.out.p.cell 8 _ rfl;have q9:=O1.out.p.cell 9 _ rfl;clear hb1)
   | (go_at_call 113;refine (HFS.out _ O1.out.b).mono ?_;rintro o w2 ⟨rfl,hb2⟩;have O2:Hid (obS w ⟨c0,c1,c2,c3,fs,bx,ff,qu,lo,st⟩ ⟨a1,n1,k1,a2,n2,k2,a3,n3,k3,a4,n4,k4⟩ w2):=O1.out.below hb2;clear q0 q1 q3 q4 q5 q6 q7 q8 q9;have q0:=O2.out.p.cell 0 _ rfl;have q1:=O2.out.p.cell 1 _ rfl;have q3:=O2.out.p.cell 3 _ rfl;have q4:=O2.out.p.cell 4 _ rfl;have q5:=O2.out.p.cell 5 _ rfl;have q6:=O2.out.p.cell 6 _ rfl;have q7:=O2.out.p.cell 7 _ rfl;have q8:=O2.out.p.cell 8 _ rfl;have q9:=O2.out.p.cell 9 _ rfl;clear hb2)
   | (go_at_call 66;first | (refine (J1.out _).mono ?_;rintro o wI ⟨rfl,rfl⟩;clear J1) | (refine (J2.out _).mono ?_;rintro o wJ ⟨rfl,rfl⟩;clear J2)))
  go_ret;exact⟨⟨false,rfl,by simpa using HBAD.out⟩,O2.out.b⟩
 have hb':((n2:Int) != c0)=false:=by simpa using hb
 have hb:(n2:Int)=c0:=Classical.not_not.1 hb
 have HB8:Hid (n2≤8∧(bx.length:Int)=c0):=by have:=HCB.out;exact⟨by omega,by omega⟩
 clear hb;by_cases hf:c1<(n3:Int)
 ·have HBAD:Hid (¬ okHo ⟨c0,c1,c2,c3,fs,bx,ff,qu,lo,st⟩):=fun h=>by have:=h.nf;simp only[] at this;omega
  clear hl2 hl3 hl4;go_enter Tryz.func67,Tryz.ntmps67
  go_wp2_with (first
   | (go_at_call 112;refine (HCF.out _).mono ?_;rintro o w1 ⟨rfl,hb1⟩;have O1:Hid (obS w ⟨c0,c1,c2,c3,fs,bx,ff,qu,lo,st⟩ ⟨a1,n1,k1,a2,n2,k2,a3,n3,k3,a4,n4,k4⟩ w1):=H0.out.below hb1;have q0:=O1.out.p.cell 0 _ rfl;have q1:=O1.out.p.cell 1 _ rfl;have q3:=O1.out.p.cell 3 _ rfl;have q4:=O1.out.p.cell 4 _ rfl;have q5:=O1.out.p.cell 5 _ rfl;have q6:=O1.out.p.cell 6 _ rfl;have q7:=O1.out.p.cell 7 _ rfl;have q8:=O1.out.p.cell 8 _ rfl;have q9:=O1.out.p.cell 9 _ rfl;clear hb1)
   | (go_at_call 113;refine (HFS.out _ O1.out.b).mono ?_;rintro o w2 ⟨rfl,hb2⟩;have O2:Hid (obS w ⟨c0,c1,c2,c3,fs,bx,ff,qu,lo,st⟩ ⟨a1,n1,k1,a2,n2,k2,a3,n3,k3,a4,n4,k4⟩ w2):=O1.out.below hb2;clear q0 q1 q3 q4 q5 q6 q7 q8 q9;have q0:=O2.out.p.cell 0 _ rfl;have q1:=O2.out.p.cell 1 _ rfl;have q3:=O2.out.p.cell 3 _ rfl;have q4:=O2.out.p.cell 4 _ rfl;have q5:=O2.out.p.cell 5 _ rfl;have q6:=O2.out.p.cell 6 _ rfl;have q7:=O2.out.p.cell 7 _ rfl;have q8:=O2.out.p.cell 8 _ rfl;have q9:=O2.out.p.cell 9 _ rfl;clear hb2)
   | (go_at_call 66;first | (refine (J1.out _).mono ?_;rintro o wI ⟨rfl,rfl⟩;clear J1) | (refine (J2.out _).mono ?_;rintro o wJ ⟨rfl,rfl⟩;clear J2)))
  go_ret;exact⟨⟨false,rfl,by simpa using HBAD.out⟩,O2.out.b⟩
 by_cases hq:c3<(n4:Int)
 ·have HBAD:Hid (¬ okHo ⟨c0,c1,c2,c3,fs,bx,ff,qu,lo,st⟩):=fun h=>by have:=h.nq;simp only[] at this;omega
  clear hl2 hl3 hl4;go_enter Tryz.func67,Tryz.ntmps67
  go_wp2_with (first
   | (go_at_call 112;refine (HCF.out _).mono ?_;rintro o w1 ⟨rfl,hb1⟩;have O1:Hid (obS w ⟨c0,c1,c2,c3,fs,bx,ff,qu,lo,st⟩ ⟨a1,n1,k1,a2,n2,k2,a3,n3,k3,a4,n4,k4⟩ w1):=H0.out.below hb1;have q0:=O1.out.p.cell 0 _ rfl;have q1:=O1.out.p.cell 1 _ rfl;have q3:=O1.out.p.cell 3 _ rfl;have q4:=O1.out.p.cell 4 _ rfl;have q5:=O1.out.p.cell 5 _ rfl;have q6:=O1.out.p.cell 6 _ rfl;have q7:=O1.out.p.cell 7 _ rfl;have q8:=O1.out.p.cell 8 _ rfl;have q9:=O1.out.p.cell 9 _ rfl;clear hb1)
   | (go_at_call 113;refine (HFS.out _ O1.out.b).mono ?_;rintro o w2 ⟨rfl,hb2⟩;have O2:Hid (obS w ⟨c0,c1,c2,c3,fs,bx,ff,qu,lo,st⟩ ⟨a1,n1,k1,a2,n2,k2,a3,n3,k3,a4,n4,k4⟩ w2):=O1.out.below hb2;clear q0 q1 q3 q4 q5 q6 q7 q8 q9;have q0:=O2.out.p.cell 0 _ rfl;have q1:=O2.out.p.cell 1 _ rfl;have q3:=O2.out.p.cell 3 _ rfl;have q4:=O2.out.p.cell 4 _ rfl;have q5:=O2.out.p.cell 5 _ rfl;have q6:=O2.out.p.cell 6 _ rfl;have q7:=O2.out.p.cell 7 _ rfl;have q8:=O2.out.p.cell 8 _ rfl;have q9:=O2.out.p.cell 9 _ rfl;clear hb2)
   | (go_at_call 66;first | (refine (J1.out _).mono ?_;rintro o wI ⟨rfl,rfl⟩;clear J1) | (refine (J2.out _).mono ?_;rintro o wJ ⟨rfl,rfl⟩;clear J2)))
  go_ret;exact⟨⟨false,rfl,by simpa using HBAD.out⟩,O2.out.b⟩
 have HNUM:Hid ((ff.length:Int)≤c1∧(qu.length:Int)≤c3):=⟨by omega,by omega⟩
 clear hl2 hl3 hl4;go_enter Tryz.func67,Tryz.ntmps67
 go_wp2_with (first
  | (go_at_call 112;refine (HCF.out _).mono ?_;rintro o w1 ⟨rfl,hb1⟩;have O1:Hid (obS w ⟨c0,c1,c2,c3,fs,bx,ff,qu,lo,st⟩ ⟨a1,n1,k1,a2,n2,k2,a3,n3,k3,a4,n4,k4⟩ w1):=H0.out.below hb1;have q0:=O1.out.p.cell 0 _ rfl;have q1:=O1.out.p.cell 1 _ rfl;have q3:=O1.out.p.cell 3 _ rfl;have q4:=O1.out.p.cell 4 _ rfl;have q5:=O1.out.p.cell 5 _ rfl;have q6:=O1.out.p.cell 6 _ rfl;have q7:=O1.out.p.cell 7 _ rfl;have q8:=O1.out.p.cell 8 _ rfl;have q9:=O1.out.p.cell 9 _ rfl;clear hb1)
  | (go_at_call 113;refine (HFS.out _ O1.out.b).mono ?_;rintro o w2 ⟨rfl,hb2⟩;have O2:Hid (obS w ⟨c0,c1,c2,c3,fs,bx,ff,qu,lo,st⟩ ⟨a1,n1,k1,a2,n2,k2,a3,n3,k3,a4,n4,k4⟩ w2):=O1.out.below hb2;clear q0 q1 q3 q4 q5 q6 q7 q8 q9;have q0:=O2.out.p.cell 0 _ rfl;have q1:=O2.out.p.cell 1 _ rfl;have q3:=O2.out.p.cell 3 _ rfl;have q4:=O2.out.p.cell 4 _ rfl;have q5:=O2.out.p.cell 5 _ rfl;have q6:=O2.out.p.cell 6 _ rfl;have q7:=O2.out.p.cell 7 _ rfl;have q8:=O2.out.p.cell 8 _ rfl;have q9:=O2.out.p.cell 9 _ rfl;clear hb2)
  | (go_at_call 66;first | (refine (J1.out _).mono ?_;rintro o wI ⟨rfl,rfl⟩;clear J1) | (refine (J2.out _).mono ?_;rintro o wJ ⟨rfl,rfl⟩;clear J2)))
 refine (HBX.out HB8.out.1 HSTR.out _ O2.out.b).mono ?_
 rintro o w3 ⟨⟨b3,rfl,h3⟩,hb3⟩;have O3:Hid (obS w ⟨c0,c1,c2,c3,fs,bx,ff,qu,lo,st⟩ ⟨a1,n1,k1,a2,n2,k2,a3,n3,k3,a4,n4,k4⟩ w3):=O2.out.below hb3
 have HI3:Hid (b3=true↔okBxs st bx):=h3
 clear q0 q1 q3 q4 q5 q6 q7 q8 q9;have q6:=O3.out.p.cell 6 _ rfl
 clear h3 hb3;cases b3
 ·have HBAD:Hid (¬ okHo ⟨c0,c1,c2,c3,fs,bx,ff,qu,lo,st⟩):=fun h=>by have:=HI3.out.2 h.bx;cases this
  go_wp2_with fail;go_ret;exact⟨⟨false,rfl,by simpa using HBAD.out⟩,O3.out.b⟩
 ·have HBX3:Hid (okBxs st bx):=HI3.out.1 rfl
  clear HI3;cases hff:ff.all okFr
  ·have HBAD:Hid (¬ okHo ⟨c0,c1,c2,c3,fs,bx,ff,qu,lo,st⟩):=fun h=>by have:=h.ff;simp only[] at this;rw[hff] at this;cases this
   rw[hff] at HFF
   clear hff;go_wp2_with (first
    | (go_at_call 115;refine (HFF.out _ O3.out.b).mono ?_;rintro o w4 ⟨rfl,hb4⟩))
   go_ret;exact⟨⟨false,rfl,by simpa using HBAD.out⟩,(O3.out.below hb4).b⟩
  ·have HFT3:Hid (ff.all okFr=true):=hff
   rw[hff] at HFF
   clear hff;cases hqu:qu.all okEv
   ·have HBAD:Hid (¬ okHo ⟨c0,c1,c2,c3,fs,bx,ff,qu,lo,st⟩):=fun h=>by have:=h.qu;simp only[] at this;rw[hqu] at this;cases this
    rw[hqu] at HQU
    clear hqu;go_wp2_with (first
     | (go_at_call 115;refine (HFF.out _ O3.out.b).mono ?_;rintro o w4 ⟨rfl,hb4⟩;have O4:Hid (obS w ⟨c0,c1,c2,c3,fs,bx,ff,qu,lo,st⟩ ⟨a1,n1,k1,a2,n2,k2,a3,n3,k3,a4,n4,k4⟩ w4):=O3.out.below hb4;have q7:=O4.out.p.cell 7 _ rfl;clear hb4)
     | (go_at_call 117;refine (HQU.out _ O4.out.b).mono ?_;rintro o w5 ⟨rfl,hb5⟩))
    go_ret;exact⟨⟨false,rfl,by simpa using HBAD.out⟩,(O4.out.below hb5).b⟩
   ·have HGO:Hid (okHo ⟨c0,c1,c2,c3,fs,bx,ff,qu,lo,st⟩):=⟨HCT.out,HFT.out,HB8.out.2,HNUM.out.1,HNUM.out.2,HLO.out.1,HLO.out.2,HSTR.out.1,HSTR.out.2,HFT3.out,hqu,HBX3.out⟩
    rw[hqu] at HQU
    clear hqu;go_wp2_with (first
     | (go_at_call 115;refine (HFF.out _ O3.out.b).mono ?_;rintro o w4 ⟨rfl,hb4⟩;have O4:Hid (obS w ⟨c0,c1,c2,c3,fs,bx,ff,qu,lo,st⟩ ⟨a1,n1,k1,a2,n2,k2,a3,n3,k3,a4,n4,k4⟩ w4):=O3.out.below hb4;have q7:=O4.out.p.cell 7 _ rfl;clear hb4)
     | (go_at_call 117;refine (HQU.out _ O4.out.b).mono ?_;rintro o w5 ⟨rfl,hb5⟩))
    go_ret;exact⟨⟨true,rfl,by simpa using HGO.out⟩,(O4.out.below hb5).b⟩
end Go.Proofs.YtbllefckefhpoaaGreat
namespace Go.Proofs.YtbllefckefhpoaaGreat
open Go.Shelf Go.RowKit
set_option linter.unusedVariables false
open Go.Value renaming int→I,slice→sL,bool→bO,pointer→pT,agg→aG
open Go.IntKind renaming i64→J
open Go.Ending renaming returned→rT
open Go.Proofs.Tryz renaming prog→Tp
def Tryz.laysE160_ren:Go.Shelf.Ren:=⟨fun | 41=>156 | n=>n,fun | 22=>37 | 23=>116 | n=>n,fun | n=>n⟩
theorem Tryz.laysE160:Go.Proofs.SlLaysE0.n41 Tp Tryz.laysE160_ren:={
 mixed:=by kernel_rfl
 f41:=⟨Tryz.f156.name,by kernel_rfl,Tryz.func156.trans (congrArg some (by kernel_rfl))⟩
 t4:=Tryz.underlying4
 a4:=Tryz.isAgg4
 z4:=Tryz.sizeOf4
 v4:=Tryz.zeroValue4
 t22:=Tryz.underlying37
 a22:=Tryz.isAgg37
 z22:=Tryz.sizeOf37
 v22:=Tryz.zeroValue37 }
abbrev X8:=R8 × Option Addr × Nat × Nat
def x8 (t:X8):List Value:=[I J t.1.x,I J t.1.y,I J t.1.z,bO t.1.e,I .u32 (t.1.i:Int),bO t.1.r,I J t.1.d,sL t.2.1 t.2.2.1 t.2.2.2]
def c8 (bs:List X8):List Value:=bs.flatMap x8
theorem c8_len (bs:List X8):(c8 bs).length=bs.length*8:=by
 induction bs with
 | nil=>rfl
 | cons b bs ih=>simp only[c8,List.flatMap_cons,List.length_append] at ih ⊢;rw[ih];simp only[x8,List.length_cons,List.length_nil];omega
theorem c8_at (bs:List X8):∀ j (h:j<bs.length) t,t<8→(c8 bs)[j*8+t]?=(x8 bs[j])[t]?:=by
 induction bs with
 | nil=>intro j h;exact absurd h (Nat.not_lt_zero _)
 | cons b bs ih=>
  intro j h t ht;cases j with
  | zero=>
   simp only[c8,List.flatMap_cons,Nat.zero_mul,Nat.zero_add]
   rw[List.getElem?_append_left (by simpa[x8] using ht)]
   rfl
  | succ j=>
   have e:(j+1)*8+t=8+(j*8+t):=by omega
   rw[e]
   simp only[c8,List.flatMap_cons]
   rw[List.getElem?_append_right (by simp[x8])]
   have:=ih j (by simpa using h) t ht
   simp only[c8] at this
   simpa[x8] using this
theorem rows8 {w:World} {g off n cap:Nat} {bx:List R8} (h:isR8s w (some ⟨g,off,none⟩) n cap bx):∃ bs:List X8,bs.map (·.1)=bx∧∀ j (hj:j<bs.length),at8 w g (off+j*8) bs[j].1 bs[j].2.1 bs[j].2.2.1 bs[j].2.2.2:=by
 have hc:∀ j (hj:j<bx.length),∃ ao m c,at8 w g (off+j*8) bx[j] ao m c:=by
  intro j hj;obtain⟨g',off',ha,hc⟩:=h.cells (by intro e;subst e;cases hj)
  cases ha
  exact hc j hj
 clear h;induction bx generalizing off with
 | nil=>exact⟨[],rfl,fun j hj=>absurd hj (Nat.not_lt_zero _)⟩
 | cons b bx ih=>
  obtain⟨ao,m,c,h0⟩:=hc 0 (by simp)
  obtain⟨bs,hm,hs⟩:=ih (off:=off+8) (fun j hj=>by
   have:=hc (j+1) (by simpa using hj)
   have e:off+(j+1)*8=off+8+j*8:=by omega
   rw[e] at this
   simpa using this)
  refine⟨(b,ao,m,c) :: bs,by simp[hm],fun j hj=>?_⟩
  cases j with
  | zero=>exact h0
  | succ j=>
   have:=hs j (by simpa using hj)
   have e:off+(j+1)*8=off+8+j*8:=by omega
   rw[e]
   exact this
theorem c8_cell {w:World} {g off:Nat} {bs:List X8} (h:∀ j (hj:j<bs.length),at8 w g (off+j*8) bs[j].1 bs[j].2.1 bs[j].2.2.1 bs[j].2.2.2) (t:Nat) (u:Value) (hu:(c8 bs)[t]?=some u):w.cell? ⟨g,off+t,none⟩=some u:=by
 have ht:t<bs.length*8:=by
  have:=(List.getElem?_eq_some_iff.mp hu).1
  rwa [c8_len] at this
 have hj:t / 8<bs.length:=by omega
 have e:t=t / 8*8+t % 8:=by omega
 rw[e,c8_at bs (t / 8) hj (t % 8) (by omega)] at hu
 have:=(h (t / 8) hj).range (t % 8) u hu
 rw[e,← Nat.add_assoc]
 exact this
theorem c8_one (bs:List X8):∀ u ∈ c8 bs,u.oneCell'=true:=by
 intro u hu;simp only[c8,x8,List.mem_flatMap,List.mem_cons,List.not_mem_nil,or_false] at hu
 obtain⟨b,_,rfl | rfl | rfl | rfl | rfl | rfl | rfl | rfl⟩:=hu <;> rfl
theorem ownsRow_split {W:World} {B:Nat} {T:TypeId} {sz:Nat} {v:Value} {n:Nat} {xs:List Value} (ho:W.ownsRow B T sz v n xs):(v = sL none 0 0∧n=0)∨∃ g cap,v = sL (some ⟨g,0,none⟩) n cap∧B≤g∧g<W.heap.size∧n≤cap∧rowF W g (n*sz)∧W.rangeAt g 0 xs:=by
 have ho':=ho
 rcases ho.2 with⟨e,e2⟩|⟨g',cap',cur,hv',hb,hg,hcp,hmx,hsz,htk⟩
 ·exact Or.inl ⟨e,by simpa using e2⟩
 ·right
  have hl:=ho.1
  have hcur:∀ t,t<n*sz→cur[t]?=xs[t]?:=by
   intro t ht;rw[← htk,List.getElem?_take_of_lt ht,Array.getElem?_toList]
  have hcell:∀ t,t<n*sz→W.cell? ⟨g',t,none⟩=xs[t]?:=by
   intro t ht;rw[← hcur t ht]
   simp[World.cell?,hg]
  refine⟨g',cap',hv',hb,lt_of_some hg,hcp,fun t ht=>⟨?_,?_⟩,fun j u hu=>?_⟩
  ·rw[hcell t ht]
   exact⟨_,List.getElem?_eq_getElem (by omega)⟩
  ·subst hv';exact World.ownsRow.frozenAt ho' t
  ·have hj:j<xs.length:=(List.getElem?_eq_some_iff.mp hu).1
   rw[Nat.zero_add,hcell j (by omega)]
   exact hu
theorem rangeAt.up {W W':World} {g o:Nat} {l:List Value} (h:W.rangeAt g o l) (he:W'.heap[g]?=W.heap[g]?):W'.rangeAt g o l:=fun j v hv=>cell_up (h j v hv) he
structure dr8 (b0:World) (U g n:Nat) (bx:List R8) (hs:Nat→Hd) (k:Nat) (W:World):Prop where
 len:n=bx.length
 row:rowF W g (n*8)
 rng:∀ j (h:j<bx.length),W.rangeAt g (j*8) (x8 (bx[j],hs j))
 old:∀ j (h:j<bx.length),k≤j→isBytes b0 (hs j).1 (hs j).2.1 (hs j).2.2 bx[j].l
 new:∀ j (h:j<bx.length),j<k→isBytes W (hs j).1 (hs j).2.1 (hs j).2.2 bx[j].l∧(((hs j).1=none∧(hs j).2.1=0)∨∃ b,(hs j).1=some ⟨b,0,none⟩∧U≤b∧b<W.heap.size∧rowF W b (hs j).2.1)
 dst:dst hs k
 lo:b0.heap.size≤g
 hi:g<W.heap.size
 bel:Below b0.heap.size b0 W
 sm:∀ j (h:j<bx.length),bx[j].l.length≤1048576
theorem dr8.same {b0 W W':World} {U g n:Nat} {bx:List R8} {hs:Nat→Hd} {k:Nat} (h:dr8 b0 U g n bx hs k W) (he:∀ x,x=g∨U≤x→x<W.heap.size→W'.heap[x]?=W.heap[x]?) (hz:W.heap.size≤W'.heap.size) (hb:Below b0.heap.size b0 W'):dr8 b0 U g n bx hs k W':=
 ⟨h.len,h.row.up (he g (Or.inl rfl) h.hi),fun j hj=>(rangeAt.up (h.rng j hj) (he g (Or.inl rfl) h.hi)),h.old,fun j hj hk=>by
  obtain⟨h1,h2⟩:=h.new j hj hk
  rcases h2 with⟨e1,e2⟩|⟨b,e1,e2,e3,e4⟩
  ·refine⟨⟨h1.len,h1.cap,h1.small,fun hne=>?_⟩,Or.inl ⟨e1,e2⟩⟩
   exact absurd (List.length_pos_iff.2 hne) (by have:=h1.len;omega)
  ·rw[e1] at h1 ⊢
   exact⟨h1.other (he b (Or.inr e2) e3),Or.inr ⟨b,rfl,e2,Nat.lt_of_lt_of_le e3 hz,e4.up (he b (Or.inr e2) e3)⟩⟩,h.dst,h.lo,Nat.lt_of_lt_of_le h.hi hz,hb,h.sm⟩
theorem dr8.below {b0 W W':World} {U g n:Nat} {bx:List R8} {hs:Nat→Hd} {k:Nat} (h:dr8 b0 U g n bx hs k W) (hb:Below W.heap.size W W'):dr8 b0 U g n bx hs k W':=
 h.same (fun x _ hx=>hb.block x hx) hb.size (h.bel.trans (hb.mono h.bel.size))
theorem dr8.start {b0 W:World} {B U g n:Nat} {L:List R8} (bs:List X8) (hm:bs.map (·.1)=L) (hby:∀ j (hj:j<bs.length),isBytes b0 bs[j].2.1 bs[j].2.2.1 bs[j].2.2.2 bs[j].1.l) (hn:n=L.length) (hr:rowF W g (n*8)) (hg:W.rangeAt g 0 (c8 bs)) (hlo:b0.heap.size≤g) (hhi:g<W.heap.size) (hb:Below b0.heap.size b0 W) (hsm:∀ j (h:j<L.length),L[j].l.length≤1048576):dr8 b0 U g n L (fun j=>(bs.getD j (⟨0,0,0,false,0,false,0,[]⟩,none,0,0)).2) 0 W:=by
 subst hm;have hl:(bs.map (·.1)).length=bs.length:=by simp
 refine⟨hn,hr,fun j hj=>?_,fun j hj _=>?_,fun j hj hk=>absurd hk (Nat.not_lt_zero _),fun i j _ hj=>absurd hj (Nat.not_lt_zero _),hlo,hhi,hb,hsm⟩
 ·have hj':j<bs.length:=by omega
  have e:((bs.map (·.1))[j],(bs.getD j (⟨0,0,0,false,0,false,0,[]⟩,none,0,0)).2)=bs[j]:=by simp[List.getD,hj']
  rw[e]
  intro t u hu;have ht:t<8:=by have:=(List.getElem?_eq_some_iff.mp hu).1;simpa[x8] using this
  rw[← c8_at bs j hj' t ht] at hu
  have:=hg _ _ hu
  rw[Nat.zero_add] at this
  exact this
 ·have hj':j<bs.length:=by omega
  have:=hby j hj'
  simpa[List.getD,hj'] using this
theorem dr8.at_ {b0 W:World} {U g n:Nat} {bx:List R8} {hs:Nat→Hd} {k:Nat} (h:dr8 b0 U g n bx hs k W) (j:Nat) (hj:j<bx.length):at8 W g (j*8) bx[j] (hs j).1 (hs j).2.1 (hs j).2.2:=by
 have hr:=h.rng j hj
 refine⟨hr 0 _ rfl,hr 1 _ rfl,hr 2 _ rfl,hr 3 _ rfl,hr 4 _ rfl,hr 5 _ rfl,hr 6 _ rfl,hr 7 _ rfl,?_⟩
 by_cases hk:j<k
 ·exact (h.new j hj hk).1
 ·exact (h.old j hj (by omega)).below h.bel
theorem dr8.is {b0 W:World} {U g n:Nat} {bx:List R8} {hs:Nat→Hd} {k cap:Nat} (h:dr8 b0 U g n bx hs k W) (hc:n≤cap):isR8s W (some ⟨g,0,none⟩) n cap bx:=
 ⟨h.len,hc,fun _=>⟨g,0,rfl,fun j hj=>⟨_,_,_,by rw[Nat.zero_add];exact h.at_ j hj⟩⟩⟩
theorem clone8_dr (b0 w:World) (g off n cap:Nat) (bx:List R8) (h:isR8s b0 (some ⟨g,off,none⟩) n cap bx) (hb0:Below b0.heap.size b0 w) (hn:n≤1048576) (hsm:∀ j (h:j<bx.length),bx[j].l.length≤1048576) :
  Calls Tp 156 #[sL (some ⟨g,off,none⟩) n cap] w fun e w'=>∃ g' cap' hs,e = rT (sL (some ⟨g',0,none⟩) n cap')∧w.heap.size≤g'∧n≤cap'∧dr8 b0 0 g' n bx hs 0 w'∧Below w.heap.size w w':=by
 obtain⟨bs,hm,hs⟩:=rows8 h
 have hlen:n=bs.length:=by rw[h.len,← hm];simp
 obtain⟨i0,hi,hz0,hz1,hz2⟩:=info_parts Tryz.info116
 refine (AnyE.slices_Clone Tryz.laysE160 i0 _ 8 72 hi hz0 hz1 hz2 rfl (by omega) Tryz.sizeOf116 g off n cap (c8 bs) w (by rw[c8_len,hlen]) (by unfold maxLen;omega) (by omega) (fun j u hj=>c8_cell (fun j hj=>(hs j hj).below hb0) j u hj) (c8_one bs)).mono ?_
 rintro e w' ⟨v',rfl,ho,hv,hbw⟩;rcases ownsRow_split ho with⟨e,_⟩|⟨g',cap',rfl,hb,hlt,hcp,hrf,hrg⟩
 ·exact absurd e hv
 ·exact⟨g',cap',_,rfl,hb,hcp,dr8.start (B:=0) bs hm (fun j hj=>(hs j hj).dat) h.len hrf hrg (Nat.le_trans hb0.size hb) hlt (hb0.trans (hbw.mono hb0.size)) hsm,hbw⟩
theorem dr8.at0 {b0 W W':World} {U g n:Nat} {bx:List R8} {hs:Nat→Hd} (h:dr8 b0 U g n bx hs 0 W) (he:W'.heap[g]?=W.heap[g]?) (hb:Below b0.heap.size b0 W'):dr8 b0 U g n bx hs 0 W':=by
 refine⟨h.len,h.row.up he,fun j hj=>rangeAt.up (h.rng j hj) he,h.old,fun j hj hk=>absurd hk (Nat.not_lt_zero _),h.dst,h.lo,?_,hb,h.sm⟩
 have h1:=h.hi
 rw[Array.getElem?_eq_getElem h1] at he
 exact lt_of_some he
open Go.RowKit
set_option maxHeartbeats 16000000
def arbA (b:R8):ByteArray:=arbZ b.e b.i b.r b.d b.l.length
def befS (a b:R8):Bool:=if arbA a=arbA b then decide (a.z<b.z) else Op.bytesLess (arbA a).toList (arbA b).toList
theorem at8.frame {w:World} {g o:Nat} {b:R8} {ao:Option Addr} {m c:Nat} (h:at8 w g o b ao m c):w.rangeAt g (o+3) [bO b.e,I .u32 (b.i:Int),bO b.r,I J b.d,sL ao m c]:=by
 intro j v hv;match j,hv with
 | 0,hv=>cases hv;exact h.c3
 | 1,hv=>cases hv;exact h.c4
 | 2,hv=>cases hv;exact h.c5
 | 3,hv=>cases hv;exact h.c6
 | 4,hv=>cases hv;exact h.cs
set_option maxRecDepth 20000 in
theorem l3before_any (w:World) (H:Ho) (s:Sl) (h:isR8s w s.a2 s.n2 s.k2 H.bx) (hn:s.n2≤8) (i j:Nat) (hi:i<H.bx.length) (hj:j<H.bx.length) :
  Calls Tp 54 #[hoV H s,I J i,I J j] w fun o w'=>o = rT (bO (befS H.bx[i] H.bx[j]))∧Below w.heap.size w w':=by
 have hln:=h.len
 have hcp:=h.cap
 have H0:Hid (obS w H s (w.alloc (.cells (hoL H s).toArray 41))):=⟨blk.new w _ 41,(Below.refl _ _).alloc (Nat.le_refl _) _⟩
 obtain⟨c0,c1,c2,c3,fs,bx,ff,qu,lo,st⟩:=H
 obtain⟨a1,n1,k1,a2,n2,k2,a3,n3,k3,a4,n4,k4⟩:=s
 simp only[] at h hln hcp hn hi hj ⊢
 obtain⟨g,off,rfl,hc⟩:=h.cells (by intro e;subst e;cases hi)
 obtain⟨ao,m,c,hx⟩:=hc i hi
 obtain⟨ao',m',c',hx'⟩:=hc j hj
 have hin:i<n2:=by omega
 have hjn:j<n2:=by omega
 clear hc h hln;have e1:=hx.dat.len
 have e2:=hx'.dat.len
 obtain⟨b,hb⟩ : ∃ b,bx[i]=b:=⟨_,rfl⟩
 obtain⟨b',hb'⟩ : ∃ b,bx[j]=b:=⟨_,rfl⟩
 rw[hb] at hx e1
 rw[hb'] at hx' e2
 rw[hb,hb']
 have HBF:Hid (befS b b'=if arbZ b.e b.i b.r b.d m=arbZ b'.e b'.i b'.r b'.d m' then decide (b.z<b'.z) else Op.bytesLess (arbZ b.e b.i b.r b.d m).toList (arbZ b'.e b'.i b'.r b'.d m').toList):=by
  show befS b b'=_
  unfold befS arbA
  rw[e1,e2]
 clear hb hb' e1 e2 hi hj;have HX:Hid (∀ W,obS w ⟨c0,c1,c2,c3,fs,bx,ff,qu,lo,st⟩ ⟨a1,n1,k1,some ⟨g,off,none⟩,n2,k2,a3,n3,k3,a4,n4,k4⟩ W→at8 W g (off+i*8) b ao m c∧at8 W g (off+j*8) b' ao' m' c'):=fun W hW=>⟨hx.below hW.b,hx'.below hW.b⟩
 clear hx hx';obtain⟨x,y,z,e,id,r,d,l⟩:=b
 obtain⟨x',y',z',e',id',r',d',l'⟩:=b'
 simp only[] at HBF HX ⊢
 have p5:=H0.out.p.cell 5 _ rfl
 obtain⟨A,hA⟩ : ∃ A,arbZ e id r d m=A:=⟨_,rfl⟩
 obtain⟨B,hB⟩ : ∃ B,arbZ e' id' r' d' m'=B:=⟨_,rfl⟩
 rw[hA,hB] at HBF
 have HA1:Hid (∀ W,obS w ⟨c0,c1,c2,c3,fs,bx,ff,qu,lo,st⟩ ⟨a1,n1,k1,some ⟨g,off,none⟩,n2,k2,a3,n3,k3,a4,n4,k4⟩ W→Calls Tp 104 #[frV e id r d ao m c] W fun o w'=>o = rT (.string A)∧Below W.heap.size W w'):=fun W hW=>hA ▸ specArb_any W e id r d ao m c l (HX.out _ hW).1.dat
 have HA2:Hid (∀ W,obS w ⟨c0,c1,c2,c3,fs,bx,ff,qu,lo,st⟩ ⟨a1,n1,k1,some ⟨g,off,none⟩,n2,k2,a3,n3,k3,a4,n4,k4⟩ W→Calls Tp 104 #[frV e' id' r' d' ao' m' c'] W fun o w'=>o = rT (.string B)∧Below W.heap.size W w'):=fun W hW=>hB ▸ specArb_any W e' id' r' d' ao' m' c' l' (HX.out _ hW).2.dat
 clear hA hB;by_cases hAB:A=B
 ·have HBF2:Hid (befS ⟨x,y,z,e,id,r,d,l⟩ ⟨x',y',z',e',id',r',d',l'⟩=decide (z<z')):=by have:=HBF.out;rw[if_pos hAB] at this;exact this
  clear HBF;subst hAB;go_enter Tryz.func54,Tryz.ntmps54
  go_wp2_with (first
   | (refine wpList_load_mid (P:=Tp) rfl 67 _ rfl g (off+i*8+3) rfl _ _ (HX.out _ H0.out).1.frame Tryz.underlying67 rfl sz93 ?_)
   | (go_at_call 104;refine (HA1.out _ H0.out).mono ?_;rintro o w1 ⟨rfl,hb1⟩;have H1:Hid (obS w ⟨c0,c1,c2,c3,fs,bx,ff,qu,lo,st⟩ ⟨a1,n1,k1,some ⟨g,off,none⟩,n2,k2,a3,n3,k3,a4,n4,k4⟩ w1):=H0.out.below hb1;have q5:=H1.out.p.cell 5 _ rfl;clear HA1 p5 hb1)
   | (refine wpList_load_mid (P:=Tp) rfl 67 _ rfl g (off+j*8+3) rfl _ _ (HX.out _ H1.out).2.frame Tryz.underlying67 rfl sz93 ?_)
   | (go_at_call 104;refine (HA2.out _ H1.out).mono ?_;rintro o w2 ⟨rfl,hb2⟩;have H2:Hid (obS w ⟨c0,c1,c2,c3,fs,bx,ff,qu,lo,st⟩ ⟨a1,n1,k1,some ⟨g,off,none⟩,n2,k2,a3,n3,k3,a4,n4,k4⟩ w2):=H1.out.below hb2;have r5:=H2.out.p.cell 5 _ rfl;have r2:=(HX.out _ H2.out).1.c2;have s2:=(HX.out _ H2.out).2.c2;clear HA2 q5 hb2))
  refine wp_region_held (S:=(fun W=>W.cell? ⟨w.heap.size,5,none⟩=some (sL (some ⟨g,off,none⟩) n2 k2)∧W.cell? ⟨g,off+i*8+2,none⟩=some (I J z)∧W.cell? ⟨g,off+j*8+2,none⟩=some (I J z')∧Below w.heap.size w W)) (by kernel_rfl) ?_
  have hS:(fun W:World=>W.cell? ⟨w.heap.size,5,none⟩=some (sL (some ⟨g,off,none⟩) n2 k2)∧W.cell? ⟨g,off+i*8+2,none⟩=some (I J z)∧W.cell? ⟨g,off+j*8+2,none⟩=some (I J z')∧Below w.heap.size w W) w2.drew:=⟨(World.cell?_drew _ _).trans r5,(World.cell?_drew _ _).trans r2,(World.cell?_drew _ _).trans s2,H2.out.b.drew⟩
  simp only[] at hS
  refine wV 0 (pT (some ⟨w.heap.size,5,none⟩)) ?_ hS ?_
  ·intro W hSw;clear hS;go_simp
  simp only[Act.put,aA,aB,aC,aD,aE]
  refine wV 1 (sL (some ⟨g,off,none⟩) n2 k2) ?_ hS ?_
  ·intro W hSw;clear hS;go_simp
  simp only[aZ];refine wV 2 (I J (i:Int)) ?_ hS ?_
  ·intro W hSw;clear hS;go_simp
  simp only[aZ];refine wV 3 (pT (some ⟨g,off+i*8,none⟩)) ?_ hS ?_
  ·intro W hSw;clear hS;go_simp
  simp only[aZ];refine wV 4 (pT (some ⟨g,off+i*8+2,none⟩)) ?_ hS ?_
  ·intro W hSw;clear hS;go_simp
  simp only[aZ];refine wV 5 (I J z) ?_ hS ?_
  ·intro W hSw;clear hS;go_simp
  simp only[aZ];refine wV 6 (pT (some ⟨w.heap.size,5,none⟩)) ?_ hS ?_
  ·intro W hSw;clear hS;go_simp
  simp only[aZ];refine wV 7 (sL (some ⟨g,off,none⟩) n2 k2) ?_ hS ?_
  ·intro W hSw;clear hS;go_simp
  simp only[aZ];refine wV 8 (I J (j:Int)) ?_ hS ?_
  ·intro W hSw;clear hS;go_simp
  simp only[aZ];refine wV 9 (pT (some ⟨g,off+j*8,none⟩)) ?_ hS ?_
  ·intro W hSw;clear hS;go_simp
  simp only[aZ];refine wV 10 (pT (some ⟨g,off+j*8+2,none⟩)) ?_ hS ?_
  ·intro W hSw;clear hS;go_simp
  simp only[aZ];refine wV 11 (I J z') ?_ hS ?_
  ·intro W hSw;clear hS;go_simp
  simp only[aZ];refine wV 12 (bO (decide (z<z'))) ?_ hS ?_
  ·intro W hSw;clear hS;go_simp
  simp only[aZ];refine wV 13 (bO (decide (z<z'))) ?_ hS ?_
  ·intro W hSw;clear hS;go_simp
  simp only[aZ];refine wpAnyH_done (by kernel_rfl) ?_ _
  have HBJ:Hid (Below w.heap.size w w2.drew):=hS.2.2.2
  clear hS;go_wp2
  go_ret;exact⟨ret_bool HBF2.out.symm,HBJ.out⟩
 ·have HBF2:Hid (befS ⟨x,y,z,e,id,r,d,l⟩ ⟨x',y',z',e',id',r',d',l'⟩=Op.bytesLess A.toList B.toList):=by have:=HBF.out;rw[if_neg hAB] at this;exact this
  clear HBF;have hne:(A.toList == B.toList)=false:=by
   rw[beq_eq_false_iff_ne,ByteArray.toList_eq,ByteArray.toList_eq]
   exact fun h=>hAB (ByteArray.ext (Array.toList_inj.1 h))
  go_enter Tryz.func54,Tryz.ntmps54
  go_wp2_with (first
   | (refine wpList_load_mid (P:=Tp) rfl 67 _ rfl g (off+i*8+3) rfl _ _ (HX.out _ H0.out).1.frame Tryz.underlying67 rfl sz93 ?_)
   | (go_at_call 104;refine (HA1.out _ H0.out).mono ?_;rintro o w1 ⟨rfl,hb1⟩;have H1:Hid (obS w ⟨c0,c1,c2,c3,fs,bx,ff,qu,lo,st⟩ ⟨a1,n1,k1,some ⟨g,off,none⟩,n2,k2,a3,n3,k3,a4,n4,k4⟩ w1):=H0.out.below hb1;have q5:=H1.out.p.cell 5 _ rfl;clear HA1 p5 hb1)
   | (refine wpList_load_mid (P:=Tp) rfl 67 _ rfl g (off+j*8+3) rfl _ _ (HX.out _ H1.out).2.frame Tryz.underlying67 rfl sz93 ?_)
   | (go_at_call 104;refine (HA2.out _ H1.out).mono ?_;rintro o w2 ⟨rfl,hb2⟩;have H2:Hid (obS w ⟨c0,c1,c2,c3,fs,bx,ff,qu,lo,st⟩ ⟨a1,n1,k1,some ⟨g,off,none⟩,n2,k2,a3,n3,k3,a4,n4,k4⟩ w2):=H1.out.below hb2;clear HA2 q5 hb2))
  go_ret;exact⟨ret_bool HBF2.out.symm,H2.out.b⟩
theorem less_lt (x y:List UInt8):Op.bytesLess x y=decide (x<y):=by
 induction x generalizing y with
 | nil=>cases y <;> simp[Op.bytesLess]
 | cons a x ih=>
  cases y with
  | nil=>simp[Op.bytesLess]
  | cons b y=>
   rw[Op.bytesLess,ih]
   by_cases e:a=b <;> simp[List.cons_lt_cons_iff,e]
theorem cmpB_lt (x y:List UInt8):(Lib.compareBytes x y=0↔x=y)∧(Lib.compareBytes x y<0↔Op.bytesLess x y=true):=by
 induction x generalizing y with
 | nil=>cases y <;> simp[Lib.compareBytes,Op.bytesLess]
 | cons a x ih=>
  cases y with
  | nil=>simp[Lib.compareBytes,Op.bytesLess]
  | cons b y=>
   have h1:=ih y
   rw[Lib.compareBytes,Op.bytesLess]
   by_cases hab:a<b
   ·have hne:a≠b:=fun h=>by subst h;exact absurd hab (UInt8.lt_irrefl a)
    simp[hab,hne]
   ·by_cases hba:b<a
    ·have hne:a≠b:=fun h=>by subst h;exact absurd hba (UInt8.lt_irrefl a)
     simp[hab,hba,hne]
    ·have he:a=b:=UInt8.le_antisymm (UInt8.not_lt.1 hba) (UInt8.not_lt.1 hab)
     subst he;simp[hab,h1.1,h1.2]
theorem cmpI (x y:Int):(Lib.compareInt x y<0↔x<y):=by
 unfold Lib.compareInt
 split
 ·simp_all
 ·split <;> simp_all
theorem befS_asymm {a b:R8} (h:befS a b=true) (h':befS b a=true):False:=by
 unfold befS at h h'
 by_cases e:arbA a=arbA b
 ·rw[if_pos e] at h;rw[if_pos e.symm] at h';simp at h h';omega
 ·rw[if_neg e,less_lt] at h
  rw[if_neg (fun x=>e x.symm),less_lt] at h'
  exact absurd (of_decide_eq_true h') (List.lt_asymm (of_decide_eq_true h))
theorem toList_ext {a b:ByteArray} (h:a.toList=b.toList):a=b:=by
 rw[ByteArray.toList_eq,ByteArray.toList_eq] at h
 exact ByteArray.ext (Array.toList_inj.1 h)
theorem befS_trans {a b c:R8} (h:befS a b=true) (h':befS b c=true):befS a c=true:=by
 unfold befS at h h' ⊢
 by_cases e:arbA a=arbA b
 ·rw[if_pos e] at h
  by_cases e':arbA b=arbA c
  ·rw[if_pos e'] at h';rw[if_pos (e.trans e')];simp at h h' ⊢;omega
  ·rw[if_neg e'] at h';rw[e,if_neg e'];exact h'
 ·rw[if_neg e,less_lt] at h
  by_cases e':arbA b=arbA c
  ·rw[← e',if_neg e,less_lt];exact h
  ·rw[if_neg e',less_lt] at h'
   have h3:=List.lt_trans (of_decide_eq_true h) (of_decide_eq_true h')
   have hne:arbA a≠arbA c:=fun x=>by rw[x] at h3;exact absurd h3 (List.lt_irrefl _)
   rw[if_neg hne,less_lt]
   exact decide_eq_true h3
theorem befS_total {a b:R8} (hz:a.z≠b.z) (h:befS a b=false):befS b a=true:=by
 unfold befS at h ⊢
 by_cases e:arbA a=arbA b
 ·rw[if_pos e] at h;rw[if_pos e.symm];simp at h ⊢;omega
 ·rw[if_neg e,less_lt] at h
  rw[if_neg (fun x=>e x.symm),less_lt]
  have h1:=of_decide_eq_false h
  by_cases h2:(arbA b).toList<(arbA a).toList
  ·exact decide_eq_true h2
  ·exact absurd (toList_ext (List.le_antisymm (List.not_lt.1 h2) (List.not_lt.1 h1))) e
def isBest (bx:List R8) (i:Nat):Prop:=∃ hi:i<bx.length,bx[i].x=1∧∀ j (hj:j<bx.length),j≠i→bx[j].x=1→befS bx[i] bx[j]=true
def bestR (bx:List R8) (r:Int):Prop:=(r = -1∧∀ i,¬ isBest bx i)∨∃ i:Nat,r=i∧isBest bx i
theorem isBest_one {bx:List R8} {i j:Nat} (h:isBest bx i) (h':isBest bx j):i=j:=by
 obtain⟨hi,h1,h2⟩:=h
 obtain⟨hj,h3,h4⟩:=h'
 by_cases e:i=j
 ·exact e
 ·exact absurd (befS_asymm (h2 j hj (fun x=>e x.symm) h3) (h4 i hi e h1)) id
theorem bestR_one {bx:List R8} {r r':Int} (h:bestR bx r) (h':bestR bx r'):r=r':=by
 rcases h with⟨rfl,h⟩|⟨i,rfl,h⟩
 ·rcases h' with⟨rfl,h'⟩|⟨i,rfl,h'⟩
  ·rfl
  ·exact absurd h' (h i)
 ·rcases h' with⟨rfl,h'⟩|⟨j,rfl,h'⟩
  ·exact absurd h (h' i)
  ·rw[isBest_one h h']
def bestK (bx:List R8) (k:Nat) (r:Int):Prop:=(r = -1∧∀ j (hj:j<bx.length),j<k→bx[j].x≠1)∨∃ i:Nat,r=i∧i<k∧∃ hi:i<bx.length,bx[i].x=1∧∀ j (hj:j<bx.length),j<k→j≠i→bx[j].x=1→befS bx[i] bx[j]=true
theorem bestK_end {bx:List R8} {k:Nat} {r:Int} (h:bestK bx k r) (hk:bx.length≤k):bestR bx r:=by
 rcases h with⟨rfl,h⟩|⟨i,rfl,hik,hi,h1,h2⟩
 ·exact Or.inl ⟨rfl,fun i hb=>by obtain⟨hi,h1,_⟩:=hb;exact h i hi (by omega) h1⟩
 ·exact Or.inr ⟨i,rfl,hi,h1,fun j hj hne hw=>h2 j hj (by omega) hne hw⟩
theorem bestK_skip {bx:List R8} {k:Nat} {r:Int} (h:bestK bx k r) (hk:k<bx.length) (hx:bx[k].x≠1):bestK bx (k+1) r:=by
 rcases h with⟨rfl,h⟩|⟨i,rfl,hik,hi,h1,h2⟩
 ·refine Or.inl ⟨rfl,fun j hj hjk=>?_⟩
  by_cases e:j=k
  ·subst e;exact hx
  ·exact h j hj (by omega)
 ·refine Or.inr ⟨i,rfl,by omega,hi,h1,fun j hj hjk hne hw=>?_⟩
  by_cases e:j=k
  ·subst e;exact absurd hw hx
  ·exact h2 j hj (by omega) hne hw
theorem bestK_first {bx:List R8} {k:Nat} (h:bestK bx k (-1)) (hk:k<bx.length) (hx:bx[k].x=1):bestK bx (k+1) k:=by
 rcases h with⟨_,h⟩|⟨i,h0,_⟩
 ·refine Or.inr ⟨k,rfl,by omega,hk,hx,fun j hj hjk hne hw=>absurd hw (h j hj (by omega))⟩
 ·omega
theorem bestK_ahead {bx:List R8} {k i:Nat} (h:bestK bx k (i:Int)) (hk:k<bx.length) (hi:i<bx.length) (hx:bx[k].x=1) (hb:befS bx[k] bx[i]=true):bestK bx (k+1) k:=by
 rcases h with⟨h0,_⟩|⟨i',h0,hik,hi',h1,h2⟩
 ·omega
 ·have:i'=i:=by omega
  subst this;refine Or.inr ⟨k,rfl,by omega,hk,hx,fun j hj hjk hne hw=>?_⟩
  by_cases e:j=i'
  ·subst e;exact hb
  ·exact befS_trans hb (h2 j hj (by omega) e hw)
theorem bestK_behind {st:Int} {bx:List R8} {k i:Nat} (hok:okBxs st bx) (h:bestK bx k (i:Int)) (hk:k<bx.length) (hi:i<bx.length) (hx:bx[k].x=1) (hb:befS bx[k] bx[i]=false):bestK bx (k+1) i:=by
 rcases h with⟨h0,_⟩|⟨i',h0,hik,hi',h1,h2⟩
 ·omega
 ·have:i'=i:=by omega
  subst this;refine Or.inr ⟨i',rfl,by omega,hi,h1,fun j hj hjk hne hw=>?_⟩
  by_cases e:j=k
  ·subst e;exact befS_total (fun hz=>(hok.2.1 i' j hi hj hik (by rw[h1];decide) (by rw[hx];decide)).2 hz.symm) hb
  ·exact h2 j hj (by omega) hne hw
end Go.Proofs.YtbllefckefhpoaaGreat
