import Derived.Test.YtaamahohdnbpiaaGreatJC
namespace Go.Proofs.YtaamahohdnbpiaaGreat
open Go.RowKit
set_option linter.unusedVariables false
structure okHo (H:Ho):Prop where
 cf:okCf H.c0 H.c1 H.c2 H.c3=true
 fs:okFs H.fs=true
 nb:(H.bx.length:Int)=H.c0
 nf:(H.ff.length:Int)≤H.c1
 nq:(H.qu.length:Int)≤H.c3
 l0:0≤H.lo
 l1:H.lo≤100000
 s0:0≤H.st
 s1:H.st≤1000000
 ff:H.ff.all okFr=true
 qu:H.qu.all okEv=true
 bx:okBxs H.st H.bx
theorem zFr_valid {e:Bool} {i:Nat} {r:Bool} {d:Int} {n:Nat} (h:zFr e i r d n):validB e i r d n=true:=by
 obtain⟨rfl,rfl,rfl,rfl,rfl⟩:=h
 decide
set_option maxHeartbeats 16000000 in
set_option maxRecDepth 20000 in
theorem l3ok_any (w:World) (H:Ho) (s:Sl) (h:isHo w H s) (hn:H.le 1048576) :
  Calls Tryz.prog 72 #[hoV H s] w fun o w'=>retB o (okHo H)∧Below w.heap.size w w':=by
 have H0:Hid (obS w H s (w.alloc (.cells (hoL H s).toArray 35))):=⟨blk.new w _ 35,(Below.refl _ _).alloc (Nat.le_refl _) _⟩
 have HH:Hid (isHo w H s):=h
 have HN:Hid (H.le 1048576):=hn
 have hl2:=h.bx.len
 have hl3:=h.ff.len
 have hl4:=h.qu.len
 have HLB:Hid (s.n2=H.bx.length∧s.n3=H.ff.length∧s.n4=H.qu.length∧s.n1=H.fs.length):=⟨h.bx.len,h.ff.len,h.qu.len,h.fs.len⟩
 have HC3:Hid (s.n3≤s.k3∧s.n4≤s.k4):=⟨h.ff.cap,h.qu.cap⟩
 have HCF0:=fun W=>l3okConfig_any W H.c0 H.c1 H.c2 H.c3
 have HFS0:=fun W (hW:Below w.heap.size w W)=>l3okFilters_any W _ _ _ _ (h.fs.below hW) (by rw[h.fs.len];exact hn.fs)
 have HBX:Hid (s.n2≤8→∀ W,Below w.heap.size w W→Calls Tryz.prog 138 #[hoV H s] W fun o w'=>retB o (okBxs H.st H.bx)∧Below W.heap.size W w'):=fun h8 W hW=>l3okBoxes_any W H s (h.bx.below hW) h8
 clear h hn;obtain⟨c0,c1,c2,c3,fs,bx,ff,qu,lo,st⟩:=H
 obtain⟨a1,n1,k1,a2,n2,k2,a3,n3,k3,a4,n4,k4⟩:=s
 simp only[] at HH HLB HCF0 HFS0 hl2 hl3 hl4 HBX HC3 ⊢
 cases hcf:okCf c0 c1 c2 c3
 ·have HBAD:Hid (¬ okHo ⟨c0,c1,c2,c3,fs,bx,ff,qu,lo,st⟩):=fun h=>by have:=h.cf;simp only[] at this;rw[hcf] at this;cases this
  have HCF:Hid (∀ W,Calls Tryz.prog 69 #[cfV c0 c1 c2 c3] W fun o w'=>o = .returned (.bool false)∧Below W.heap.size W w'):=fun W=>hcf ▸ HCF0 W
  clear hl2 hl3 hl4 HCF0 HFS0 hcf;go_enter Tryz.func72,Tryz.ntmps72
  go_wp2_with (first
   | (go_at_call 69;refine (HCF.out _).mono ?_;rintro o w1 ⟨rfl,hb1⟩;have O1:Hid (obS w ⟨c0,c1,c2,c3,fs,bx,ff,qu,lo,st⟩ ⟨a1,n1,k1,a2,n2,k2,a3,n3,k3,a4,n4,k4⟩ w1):=H0.out.below hb1;have q0:=O1.out.p.cell 0 _ rfl;have q1:=O1.out.p.cell 1 _ rfl;have q3:=O1.out.p.cell 3 _ rfl;have q4:=O1.out.p.cell 4 _ rfl;have q5:=O1.out.p.cell 5 _ rfl;have q6:=O1.out.p.cell 6 _ rfl;have q7:=O1.out.p.cell 7 _ rfl;have q8:=O1.out.p.cell 8 _ rfl;have q9:=O1.out.p.cell 9 _ rfl;clear hb1))
  go_ret;exact⟨⟨false,rfl,by simpa using HBAD.out⟩,O1.out.b⟩
 have HCF:Hid (∀ W,Calls Tryz.prog 69 #[cfV c0 c1 c2 c3] W fun o w'=>o = .returned (.bool true)∧Below W.heap.size W w'):=fun W=>hcf ▸ HCF0 W
 have HCB:Hid (1≤c0∧c0≤8∧1≤c1∧c1≤16∧0≤c2∧c2≤1∧1≤c3∧c3≤32):=(of_decide_eq_true hcf:1≤c0∧c0≤8∧1≤c1∧c1≤16∧0≤c2∧c2≤1∧1≤c3∧c3≤32)
 have HCT:Hid (okCf c0 c1 c2 c3=true):=hcf
 clear HCF0 hcf;cases hfs:okFs fs
 ·have HBAD:Hid (¬ okHo ⟨c0,c1,c2,c3,fs,bx,ff,qu,lo,st⟩):=fun h=>by have:=h.fs;simp only[] at this;rw[hfs] at this;cases this
  have HFS:Hid (∀ W,Below w.heap.size w W→Calls Tryz.prog 70 #[.slice a1 n1 k1] W fun o w'=>o = .returned (.bool false)∧Below W.heap.size W w'):=fun W hW=>hfs ▸ HFS0 W hW
  clear hl2 hl3 hl4 HFS0 hfs;go_enter Tryz.func72,Tryz.ntmps72
  go_wp2_with (first
   | (go_at_call 69;refine (HCF.out _).mono ?_;rintro o w1 ⟨rfl,hb1⟩;have O1:Hid (obS w ⟨c0,c1,c2,c3,fs,bx,ff,qu,lo,st⟩ ⟨a1,n1,k1,a2,n2,k2,a3,n3,k3,a4,n4,k4⟩ w1):=H0.out.below hb1;have q0:=O1.out.p.cell 0 _ rfl;have q1:=O1.out.p.cell 1 _ rfl;have q3:=O1.out.p.cell 3 _ rfl;have q4:=O1.out.p.cell 4 _ rfl;have q5:=O1.out.p.cell 5 _ rfl;have q6:=O1.out.p.cell 6 _ rfl;have q7:=O1.out.p.cell 7 _ rfl;have q8:=O1.out.p.cell 8 _ rfl;have q9:=O1.out.p.cell 9 _ rfl;clear hb1)
   | (go_at_call 70;refine (HFS.out _ O1.out.b).mono ?_;rintro o w2 ⟨rfl,hb2⟩;have O2:Hid (obS w ⟨c0,c1,c2,c3,fs,bx,ff,qu,lo,st⟩ ⟨a1,n1,k1,a2,n2,k2,a3,n3,k3,a4,n4,k4⟩ w2):=O1.out.below hb2;clear q0 q1 q3 q4 q5 q6 q7 q8 q9;have q0:=O2.out.p.cell 0 _ rfl;have q1:=O2.out.p.cell 1 _ rfl;have q3:=O2.out.p.cell 3 _ rfl;have q4:=O2.out.p.cell 4 _ rfl;have q5:=O2.out.p.cell 5 _ rfl;have q6:=O2.out.p.cell 6 _ rfl;have q7:=O2.out.p.cell 7 _ rfl;have q8:=O2.out.p.cell 8 _ rfl;have q9:=O2.out.p.cell 9 _ rfl;clear hb2))
  go_ret;exact⟨⟨false,rfl,by simpa using HBAD.out⟩,O2.out.b⟩
 have HFS:Hid (∀ W,Below w.heap.size w W→Calls Tryz.prog 70 #[.slice a1 n1 k1] W fun o w'=>o = .returned (.bool true)∧Below W.heap.size W w'):=fun W hW=>hfs ▸ HFS0 W hW
 have HFT:Hid (okFs fs=true):=hfs
 clear HFS0 hfs;by_cases hb:¬ (n2:Int)=c0
 ·have HBAD:Hid (¬ okHo ⟨c0,c1,c2,c3,fs,bx,ff,qu,lo,st⟩):=fun h=>hb (by have:=h.nb;simp only[] at this;omega)
  have hb':((n2:Int) != c0)=true:=by simpa using hb
  clear hl2 hl3 hl4 hb;go_enter Tryz.func72,Tryz.ntmps72
  go_wp2_with (first
   | (go_at_call 69;refine (HCF.out _).mono ?_;rintro o w1 ⟨rfl,hb1⟩;have O1:Hid (obS w ⟨c0,c1,c2,c3,fs,bx,ff,qu,lo,st⟩ ⟨a1,n1,k1,a2,n2,k2,a3,n3,k3,a4,n4,k4⟩ w1):=H0.out.below hb1;have q0:=O1.out.p.cell 0 _ rfl;have q1:=O1.out.p.cell 1 _ rfl;have q3:=O1.out.p.cell 3 _ rfl;have q4:=O1.out.p.cell 4 _ rfl;have q5:=O1.out.p.cell 5 _ rfl;have q6:=O1.out.p.cell 6 _ rfl;have q7:=O1.out.p.cell 7 _ rfl;have q8:=O1.out.p.cell 8 _ rfl;have q9:=O1.out.p.cell 9 _ rfl;clear hb1)
   | (go_at_call 70;refine (HFS.out _ O1.out.b).mono ?_;rintro o w2 ⟨rfl,hb2⟩;have O2:Hid (obS w ⟨c0,c1,c2,c3,fs,bx,ff,qu,lo,st⟩ ⟨a1,n1,k1,a2,n2,k2,a3,n3,k3,a4,n4,k4⟩ w2):=O1.out.below hb2;clear q0 q1 q3 q4 q5 q6 q7 q8 q9;have q0:=O2.out.p.cell 0 _ rfl;have q1:=O2.out.p.cell 1 _ rfl;have q3:=O2.out.p.cell 3 _ rfl;have q4:=O2.out.p.cell 4 _ rfl;have q5:=O2.out.p.cell 5 _ rfl;have q6:=O2.out.p.cell 6 _ rfl;have q7:=O2.out.p.cell 7 _ rfl;have q8:=O2.out.p.cell 8 _ rfl;have q9:=O2.out.p.cell 9 _ rfl;clear hb2))
  go_ret;exact⟨⟨false,rfl,by simpa using HBAD.out⟩,O2.out.b⟩
 have hb':((n2:Int) != c0)=false:=by simpa using hb
 have hb:(n2:Int)=c0:=by simpa using hb
 have HB8:Hid (n2≤8∧(bx.length:Int)=c0):=by have:=HCB.out;exact⟨by omega,by omega⟩
 clear hb;by_cases hf:c1<(n3:Int)
 ·have HBAD:Hid (¬ okHo ⟨c0,c1,c2,c3,fs,bx,ff,qu,lo,st⟩):=fun h=>by have:=h.nf;simp only[] at this;omega
  clear hl2 hl3 hl4;go_enter Tryz.func72,Tryz.ntmps72
  go_wp2_with (first
   | (go_at_call 69;refine (HCF.out _).mono ?_;rintro o w1 ⟨rfl,hb1⟩;have O1:Hid (obS w ⟨c0,c1,c2,c3,fs,bx,ff,qu,lo,st⟩ ⟨a1,n1,k1,a2,n2,k2,a3,n3,k3,a4,n4,k4⟩ w1):=H0.out.below hb1;have q0:=O1.out.p.cell 0 _ rfl;have q1:=O1.out.p.cell 1 _ rfl;have q3:=O1.out.p.cell 3 _ rfl;have q4:=O1.out.p.cell 4 _ rfl;have q5:=O1.out.p.cell 5 _ rfl;have q6:=O1.out.p.cell 6 _ rfl;have q7:=O1.out.p.cell 7 _ rfl;have q8:=O1.out.p.cell 8 _ rfl;have q9:=O1.out.p.cell 9 _ rfl;clear hb1)
   | (go_at_call 70;refine (HFS.out _ O1.out.b).mono ?_;rintro o w2 ⟨rfl,hb2⟩;have O2:Hid (obS w ⟨c0,c1,c2,c3,fs,bx,ff,qu,lo,st⟩ ⟨a1,n1,k1,a2,n2,k2,a3,n3,k3,a4,n4,k4⟩ w2):=O1.out.below hb2;clear q0 q1 q3 q4 q5 q6 q7 q8 q9;have q0:=O2.out.p.cell 0 _ rfl;have q1:=O2.out.p.cell 1 _ rfl;have q3:=O2.out.p.cell 3 _ rfl;have q4:=O2.out.p.cell 4 _ rfl;have q5:=O2.out.p.cell 5 _ rfl;have q6:=O2.out.p.cell 6 _ rfl;have q7:=O2.out.p.cell 7 _ rfl;have q8:=O2.out.p.cell 8 _ rfl;have q9:=O2.out.p.cell 9 _ rfl;clear hb2))
  go_ret;exact⟨⟨false,rfl,by simpa using HBAD.out⟩,O2.out.b⟩
 by_cases hq:c3<(n4:Int)
 ·have HBAD:Hid (¬ okHo ⟨c0,c1,c2,c3,fs,bx,ff,qu,lo,st⟩):=fun h=>by have:=h.nq;simp only[] at this;omega
  clear hl2 hl3 hl4;go_enter Tryz.func72,Tryz.ntmps72
  go_wp2_with (first
   | (go_at_call 69;refine (HCF.out _).mono ?_;rintro o w1 ⟨rfl,hb1⟩;have O1:Hid (obS w ⟨c0,c1,c2,c3,fs,bx,ff,qu,lo,st⟩ ⟨a1,n1,k1,a2,n2,k2,a3,n3,k3,a4,n4,k4⟩ w1):=H0.out.below hb1;have q0:=O1.out.p.cell 0 _ rfl;have q1:=O1.out.p.cell 1 _ rfl;have q3:=O1.out.p.cell 3 _ rfl;have q4:=O1.out.p.cell 4 _ rfl;have q5:=O1.out.p.cell 5 _ rfl;have q6:=O1.out.p.cell 6 _ rfl;have q7:=O1.out.p.cell 7 _ rfl;have q8:=O1.out.p.cell 8 _ rfl;have q9:=O1.out.p.cell 9 _ rfl;clear hb1)
   | (go_at_call 70;refine (HFS.out _ O1.out.b).mono ?_;rintro o w2 ⟨rfl,hb2⟩;have O2:Hid (obS w ⟨c0,c1,c2,c3,fs,bx,ff,qu,lo,st⟩ ⟨a1,n1,k1,a2,n2,k2,a3,n3,k3,a4,n4,k4⟩ w2):=O1.out.below hb2;clear q0 q1 q3 q4 q5 q6 q7 q8 q9;have q0:=O2.out.p.cell 0 _ rfl;have q1:=O2.out.p.cell 1 _ rfl;have q3:=O2.out.p.cell 3 _ rfl;have q4:=O2.out.p.cell 4 _ rfl;have q5:=O2.out.p.cell 5 _ rfl;have q6:=O2.out.p.cell 6 _ rfl;have q7:=O2.out.p.cell 7 _ rfl;have q8:=O2.out.p.cell 8 _ rfl;have q9:=O2.out.p.cell 9 _ rfl;clear hb2))
  go_ret;exact⟨⟨false,rfl,by simpa using HBAD.out⟩,O2.out.b⟩
 by_cases h1:lo<0
 ·have HBAD:Hid (¬ okHo ⟨c0,c1,c2,c3,fs,bx,ff,qu,lo,st⟩):=fun h=>by have:=h.l0;simp only[] at this;omega
  clear hl2 hl3 hl4;go_enter Tryz.func72,Tryz.ntmps72
  go_wp2_with (first
   | (go_at_call 69;refine (HCF.out _).mono ?_;rintro o w1 ⟨rfl,hb1⟩;have O1:Hid (obS w ⟨c0,c1,c2,c3,fs,bx,ff,qu,lo,st⟩ ⟨a1,n1,k1,a2,n2,k2,a3,n3,k3,a4,n4,k4⟩ w1):=H0.out.below hb1;have q0:=O1.out.p.cell 0 _ rfl;have q1:=O1.out.p.cell 1 _ rfl;have q3:=O1.out.p.cell 3 _ rfl;have q4:=O1.out.p.cell 4 _ rfl;have q5:=O1.out.p.cell 5 _ rfl;have q6:=O1.out.p.cell 6 _ rfl;have q7:=O1.out.p.cell 7 _ rfl;have q8:=O1.out.p.cell 8 _ rfl;have q9:=O1.out.p.cell 9 _ rfl;clear hb1)
   | (go_at_call 70;refine (HFS.out _ O1.out.b).mono ?_;rintro o w2 ⟨rfl,hb2⟩;have O2:Hid (obS w ⟨c0,c1,c2,c3,fs,bx,ff,qu,lo,st⟩ ⟨a1,n1,k1,a2,n2,k2,a3,n3,k3,a4,n4,k4⟩ w2):=O1.out.below hb2;clear q0 q1 q3 q4 q5 q6 q7 q8 q9;have q0:=O2.out.p.cell 0 _ rfl;have q1:=O2.out.p.cell 1 _ rfl;have q3:=O2.out.p.cell 3 _ rfl;have q4:=O2.out.p.cell 4 _ rfl;have q5:=O2.out.p.cell 5 _ rfl;have q6:=O2.out.p.cell 6 _ rfl;have q7:=O2.out.p.cell 7 _ rfl;have q8:=O2.out.p.cell 8 _ rfl;have q9:=O2.out.p.cell 9 _ rfl;clear hb2))
  go_ret;exact⟨⟨false,rfl,by simpa using HBAD.out⟩,O2.out.b⟩
 by_cases h2:100000<lo
 ·have HBAD:Hid (¬ okHo ⟨c0,c1,c2,c3,fs,bx,ff,qu,lo,st⟩):=fun h=>by have:=h.l1;simp only[] at this;omega
  clear hl2 hl3 hl4;go_enter Tryz.func72,Tryz.ntmps72
  go_wp2_with (first
   | (go_at_call 69;refine (HCF.out _).mono ?_;rintro o w1 ⟨rfl,hb1⟩;have O1:Hid (obS w ⟨c0,c1,c2,c3,fs,bx,ff,qu,lo,st⟩ ⟨a1,n1,k1,a2,n2,k2,a3,n3,k3,a4,n4,k4⟩ w1):=H0.out.below hb1;have q0:=O1.out.p.cell 0 _ rfl;have q1:=O1.out.p.cell 1 _ rfl;have q3:=O1.out.p.cell 3 _ rfl;have q4:=O1.out.p.cell 4 _ rfl;have q5:=O1.out.p.cell 5 _ rfl;have q6:=O1.out.p.cell 6 _ rfl;have q7:=O1.out.p.cell 7 _ rfl;have q8:=O1.out.p.cell 8 _ rfl;have q9:=O1.out.p.cell 9 _ rfl;clear hb1)
   | (go_at_call 70;refine (HFS.out _ O1.out.b).mono ?_;rintro o w2 ⟨rfl,hb2⟩;have O2:Hid (obS w ⟨c0,c1,c2,c3,fs,bx,ff,qu,lo,st⟩ ⟨a1,n1,k1,a2,n2,k2,a3,n3,k3,a4,n4,k4⟩ w2):=O1.out.below hb2;clear q0 q1 q3 q4 q5 q6 q7 q8 q9;have q0:=O2.out.p.cell 0 _ rfl;have q1:=O2.out.p.cell 1 _ rfl;have q3:=O2.out.p.cell 3 _ rfl;have q4:=O2.out.p.cell 4 _ rfl;have q5:=O2.out.p.cell 5 _ rfl;have q6:=O2.out.p.cell 6 _ rfl;have q7:=O2.out.p.cell 7 _ rfl;have q8:=O2.out.p.cell 8 _ rfl;have q9:=O2.out.p.cell 9 _ rfl;clear hb2))
  go_ret;exact⟨⟨false,rfl,by simpa using HBAD.out⟩,O2.out.b⟩
 by_cases h3:st<0
 ·have HBAD:Hid (¬ okHo ⟨c0,c1,c2,c3,fs,bx,ff,qu,lo,st⟩):=fun h=>by have:=h.s0;simp only[] at this;omega
  clear hl2 hl3 hl4;go_enter Tryz.func72,Tryz.ntmps72
  go_wp2_with (first
   | (go_at_call 69;refine (HCF.out _).mono ?_;rintro o w1 ⟨rfl,hb1⟩;have O1:Hid (obS w ⟨c0,c1,c2,c3,fs,bx,ff,qu,lo,st⟩ ⟨a1,n1,k1,a2,n2,k2,a3,n3,k3,a4,n4,k4⟩ w1):=H0.out.below hb1;have q0:=O1.out.p.cell 0 _ rfl;have q1:=O1.out.p.cell 1 _ rfl;have q3:=O1.out.p.cell 3 _ rfl;have q4:=O1.out.p.cell 4 _ rfl;have q5:=O1.out.p.cell 5 _ rfl;have q6:=O1.out.p.cell 6 _ rfl;have q7:=O1.out.p.cell 7 _ rfl;have q8:=O1.out.p.cell 8 _ rfl;have q9:=O1.out.p.cell 9 _ rfl;clear hb1)
   | (go_at_call 70;refine (HFS.out _ O1.out.b).mono ?_;rintro o w2 ⟨rfl,hb2⟩;have O2:Hid (obS w ⟨c0,c1,c2,c3,fs,bx,ff,qu,lo,st⟩ ⟨a1,n1,k1,a2,n2,k2,a3,n3,k3,a4,n4,k4⟩ w2):=O1.out.below hb2;clear q0 q1 q3 q4 q5 q6 q7 q8 q9;have q0:=O2.out.p.cell 0 _ rfl;have q1:=O2.out.p.cell 1 _ rfl;have q3:=O2.out.p.cell 3 _ rfl;have q4:=O2.out.p.cell 4 _ rfl;have q5:=O2.out.p.cell 5 _ rfl;have q6:=O2.out.p.cell 6 _ rfl;have q7:=O2.out.p.cell 7 _ rfl;have q8:=O2.out.p.cell 8 _ rfl;have q9:=O2.out.p.cell 9 _ rfl;clear hb2))
  go_ret;exact⟨⟨false,rfl,by simpa using HBAD.out⟩,O2.out.b⟩
 by_cases h4:1000000<st
 ·have HBAD:Hid (¬ okHo ⟨c0,c1,c2,c3,fs,bx,ff,qu,lo,st⟩):=fun h=>by have:=h.s1;simp only[] at this;omega
  clear hl2 hl3 hl4;go_enter Tryz.func72,Tryz.ntmps72
  go_wp2_with (first
   | (go_at_call 69;refine (HCF.out _).mono ?_;rintro o w1 ⟨rfl,hb1⟩;have O1:Hid (obS w ⟨c0,c1,c2,c3,fs,bx,ff,qu,lo,st⟩ ⟨a1,n1,k1,a2,n2,k2,a3,n3,k3,a4,n4,k4⟩ w1):=H0.out.below hb1;have q0:=O1.out.p.cell 0 _ rfl;have q1:=O1.out.p.cell 1 _ rfl;have q3:=O1.out.p.cell 3 _ rfl;have q4:=O1.out.p.cell 4 _ rfl;have q5:=O1.out.p.cell 5 _ rfl;have q6:=O1.out.p.cell 6 _ rfl;have q7:=O1.out.p.cell 7 _ rfl;have q8:=O1.out.p.cell 8 _ rfl;have q9:=O1.out.p.cell 9 _ rfl;clear hb1)
   | (go_at_call 70;refine (HFS.out _ O1.out.b).mono ?_;rintro o w2 ⟨rfl,hb2⟩;have O2:Hid (obS w ⟨c0,c1,c2,c3,fs,bx,ff,qu,lo,st⟩ ⟨a1,n1,k1,a2,n2,k2,a3,n3,k3,a4,n4,k4⟩ w2):=O1.out.below hb2;clear q0 q1 q3 q4 q5 q6 q7 q8 q9;have q0:=O2.out.p.cell 0 _ rfl;have q1:=O2.out.p.cell 1 _ rfl;have q3:=O2.out.p.cell 3 _ rfl;have q4:=O2.out.p.cell 4 _ rfl;have q5:=O2.out.p.cell 5 _ rfl;have q6:=O2.out.p.cell 6 _ rfl;have q7:=O2.out.p.cell 7 _ rfl;have q8:=O2.out.p.cell 8 _ rfl;have q9:=O2.out.p.cell 9 _ rfl;clear hb2))
  go_ret;exact⟨⟨false,rfl,by simpa using HBAD.out⟩,O2.out.b⟩
 have HNUM:Hid ((ff.length:Int)≤c1∧(qu.length:Int)≤c3∧0≤lo∧lo≤100000∧0≤st∧st≤1000000):=⟨by omega,by omega,by omega,by omega,by omega,by omega⟩
 have hn3:n3≤16:=by have:=HCB.out;omega
 have hn4:n4≤32:=by have:=HCB.out;omega
 clear hl2 hl3 hl4;go_enter Tryz.func72,Tryz.ntmps72
 go_wp2_with (first
  | (go_at_call 69;refine (HCF.out _).mono ?_;rintro o w1 ⟨rfl,hb1⟩;have O1:Hid (obS w ⟨c0,c1,c2,c3,fs,bx,ff,qu,lo,st⟩ ⟨a1,n1,k1,a2,n2,k2,a3,n3,k3,a4,n4,k4⟩ w1):=H0.out.below hb1;have q0:=O1.out.p.cell 0 _ rfl;have q1:=O1.out.p.cell 1 _ rfl;have q3:=O1.out.p.cell 3 _ rfl;have q4:=O1.out.p.cell 4 _ rfl;have q5:=O1.out.p.cell 5 _ rfl;have q6:=O1.out.p.cell 6 _ rfl;have q7:=O1.out.p.cell 7 _ rfl;have q8:=O1.out.p.cell 8 _ rfl;have q9:=O1.out.p.cell 9 _ rfl;clear hb1)
  | (go_at_call 70;refine (HFS.out _ O1.out.b).mono ?_;rintro o w2 ⟨rfl,hb2⟩;have O2:Hid (obS w ⟨c0,c1,c2,c3,fs,bx,ff,qu,lo,st⟩ ⟨a1,n1,k1,a2,n2,k2,a3,n3,k3,a4,n4,k4⟩ w2):=O1.out.below hb2;clear q0 q1 q3 q4 q5 q6 q7 q8 q9;have q0:=O2.out.p.cell 0 _ rfl;have q1:=O2.out.p.cell 1 _ rfl;have q3:=O2.out.p.cell 3 _ rfl;have q4:=O2.out.p.cell 4 _ rfl;have q5:=O2.out.p.cell 5 _ rfl;have q6:=O2.out.p.cell 6 _ rfl;have q7:=O2.out.p.cell 7 _ rfl;have q8:=O2.out.p.cell 8 _ rfl;have q9:=O2.out.p.cell 9 _ rfl;clear hb2))
 clear q0 q1 q3 q4 q5 q6 q7 q8 q9 hb' hf hq h1 h2 h3 h4;go_loopw [3] (fun i wr=>∃ k:Nat,k≤n3∧i = .int .i64 (k:Int)∧(∀ j (hj:j<ff.length),j<k→okFr ff[j]=true)∧obS w ⟨c0,c1,c2,c3,fs,bx,ff,qu,lo,st⟩ ⟨a1,n1,k1,a2,n2,k2,a3,n3,k3,a4,n4,k4⟩ wr) (fun i _=>n3-(intOf i).toNat)
 case atStart=>exact⟨0,Nat.zero_le _,rfl,fun j hj h=>absurd h (Nat.not_lt_zero _),O2.out⟩
 case round=>
  obtain⟨k,hk,rfl,hA,hS⟩:=hrel
  have HA:Hid (∀ j (hj:j<ff.length),j<k→okFr ff[j]=true):=hA
  have HS:Hid (obS w ⟨c0,c1,c2,c3,fs,bx,ff,qu,lo,st⟩ ⟨a1,n1,k1,a2,n2,k2,a3,n3,k3,a4,n4,k4⟩ wr):=hS
  have x6:=hS.p.cell 6 _ rfl
  have hwz:=hS.p.lt
  clear hA hS;by_cases hlt:k<n3
  ·have hkl:k<ff.length:=by have:=HLB.out;omega
   obtain⟨g3,o3,rfl,hc⟩:=HH.out.ff.cells (fun e=>by have e':ff=[]:=e;rw[e'] at hkl;cases hkl)
   have hcp:=HC3.out.1
   obtain⟨ao,m,c,hx⟩:=hc k hkl
   have hx':=hx.below HS.out.b
   have hlm:=hx'.dat.len
   have HRG0:=hx'.range
   have HAS:Hid (okFr ff[k]=true→∀ j (hj:j<ff.length),j<k+1→okFr ff[j]=true):=fun h=>all_snocG hkl HA.out h
   have HNO:Hid (okFr ff[k]=false→¬ okHo ⟨c0,c1,c2,c3,fs,bx,ff,qu,lo,st⟩):=fun h hh=>by have:=hh.ff;rw[all_noG hkl h] at this;cases this
   obtain⟨b,hb⟩ : ∃ b,ff[k]=b:=⟨_,rfl⟩
   rw[hb] at HAS HNO HRG0 hlm
   obtain⟨e,i,r,d,l⟩:=b
   have HRG:Hid (wr.rangeAt g3 (o3+k*5) [.bool e,.int .u32 (i:Int),.bool r,.int .i64 d,.slice ao m c]):=HRG0
   have HOK:okFr ⟨e,i,r,d,l⟩=validB e i r d m:=by unfold okFr;rw[hlm]
   rw[HOK] at HAS HNO
   clear hx hx' hb hlm HRG0 HOK hc;cases hv:validB e i r d m
   ·have HBAD:Hid (¬ okHo ⟨c0,c1,c2,c3,fs,bx,ff,qu,lo,st⟩):=HNO.out hv
    have HVF:Hid (∀ W,Calls Tryz.prog 52 #[frV e i r d ao m c] W fun o w'=>o = .returned (.bool false)∧Below W.heap.size W w'):=fun W=>hv ▸ specValid_any W e i r d ao m c
    clear hv HAS HNO;go_wp2_with (first
     | (refine wpList_load_mid (P:=Tryz.prog) rfl 25 _ rfl g3 (o3+k*5) rfl _ _ HRG.out Tryz.underlying25 rfl sz93 ?_)
     | (go_at_call 52;refine (HVF.out _).mono ?_;rintro o w4 ⟨rfl,hb4⟩))
    go_ret;exact⟨⟨false,rfl,by simpa using HBAD.out⟩,(HS.out.below hb4).b⟩
   ·have HAL:Hid (∀ j (hj:j<ff.length),j<k+1→okFr ff[j]=true):=HAS.out hv
    have HVF:Hid (∀ W,Calls Tryz.prog 52 #[frV e i r d ao m c] W fun o w'=>o = .returned (.bool true)∧Below W.heap.size W w'):=fun W=>hv ▸ specValid_any W e i r d ao m c
    clear hv HAS HNO;go_wp2_with (first
     | (refine wpList_load_mid (P:=Tryz.prog) rfl 25 _ rfl g3 (o3+k*5) rfl _ _ HRG.out Tryz.underlying25 rfl sz93 ?_)
     | (go_at_call 52;refine (HVF.out _).mono ?_;rintro o w4 ⟨rfl,hb4⟩))
    go_roundw
    case rel=>exact⟨k+1,by omega,by go_num,HAL.out,HS.out.below hb4⟩
    case measure=>simp[intOf];omega
  ·have HFF:Hid (ff.all okFr=true):=all_yesG (by have:=HLB.out;omega) HA.out
   clear HA;go_wp2_with fail;have HSZ:Hid True:=trivial
   clear x6 hwz;have O3:Hid (obS w ⟨c0,c1,c2,c3,fs,bx,ff,qu,lo,st⟩ ⟨a1,n1,k1,a2,n2,k2,a3,n3,k3,a4,n4,k4⟩ wr):=HS.out
   clear HS;go_loopw [4] (fun i wr=>∃ k:Nat,k≤n4∧i = .int .i64 (k:Int)∧(∀ j (hj:j<qu.length),j<k→okEv qu[j]=true)∧obS w ⟨c0,c1,c2,c3,fs,bx,ff,qu,lo,st⟩ ⟨a1,n1,k1,a2,n2,k2,a3,n3,k3,a4,n4,k4⟩ wr) (fun i _=>n4-(intOf i).toNat)
   case atStart=>exact⟨0,Nat.zero_le _,rfl,fun j hj h=>absurd h (Nat.not_lt_zero _),O3.out⟩
   case round=>
    clear hk hlt;obtain⟨k,hk,rfl,hA,hS⟩:=hrel
    have HA:Hid (∀ j (hj:j<qu.length),j<k→okEv qu[j]=true):=hA
    have HS:Hid (obS w ⟨c0,c1,c2,c3,fs,bx,ff,qu,lo,st⟩ ⟨a1,n1,k1,a2,n2,k2,a3,n3,k3,a4,n4,k4⟩ wr):=hS
    have x7:=hS.p.cell 7 _ rfl
    have hwz:=hS.p.lt
    clear hA hS;by_cases hlt:k<n4
    ·have hkl:k<qu.length:=by have:=HLB.out;omega
     obtain⟨g4,o4,rfl,hc⟩:=HH.out.qu.cells (fun e=>by have e':qu=[]:=e;rw[e'] at hkl;cases hkl)
     have hcp:=HC3.out.2
     obtain⟨ao,m,c,hx⟩:=hc k hkl
     have hx':=hx.below HS.out.b
     have hlm:=hx'.dat.len
     have HRG0:=hx'.range
     have HAS:Hid (okEv qu[k]=true→∀ j (hj:j<qu.length),j<k+1→okEv qu[j]=true):=fun h=>all_snocG hkl HA.out h
     have HNO:Hid (¬ okEv qu[k]=true→¬ okHo ⟨c0,c1,c2,c3,fs,bx,ff,qu,lo,st⟩):=fun h hh=>by have:=hh.qu;rw[all_noG hkl (by simpa using h)] at this;cases this
     obtain⟨b,hb⟩ : ∃ b,qu[k]=b:=⟨_,rfl⟩
     rw[hb] at HAS HNO HRG0 hlm
     obtain⟨x,y,z,e,i,r,d,l⟩:=b
     have HRG:Hid (wr.rangeAt g4 (o4+k*8) [.int .i64 x,.int .i64 y,.int .i64 z,.bool e,.int .u32 (i:Int),.bool r,.int .i64 d,.slice ao m c]):=HRG0
     have HBE:Hid (¬ okEv ⟨x,y,z,e,i,r,d,l⟩=true→¬ okHo ⟨c0,c1,c2,c3,fs,bx,ff,qu,lo,st⟩):=HNO.out
     have HLM:Hid (m=l.length):=hlm
     clear hx hx' hb hlm HRG0 hc HNO;have HW3:Hid (obS w ⟨c0,c1,c2,c3,fs,bx,ff,qu,lo,st⟩ ⟨a1,n1,k1,a2,n2,k2,a3,n3,k3,some ⟨g4,o4,none⟩,n4,k4⟩ (wr.alloc (.cells #[.int .i64 x,.int .i64 y,.int .i64 z,.bool e,.int .u32 (i:Int),.bool r,.int .i64 d,.slice ao m c] 46))):=HS.out.below ((Below.refl _ _).alloc (Nat.le_refl _) _)
     by_cases e1:x<1
     ·have HBAD:Hid (¬ okHo ⟨c0,c1,c2,c3,fs,bx,ff,qu,lo,st⟩):=HBE.out (fun h=>by simp[okEv] at h;omega)
      go_wp2_with (first
       | (refine wpList_load_mid (P:=Tryz.prog) rfl 46 _ rfl g4 (o4+k*8) rfl _ _ HRG.out Tryz.underlying46 rfl sz129 ?_))
      go_ret;exact⟨⟨false,rfl,by simpa using HBAD.out⟩,HW3.out.b⟩
     by_cases e2:12<x
     ·have HBAD:Hid (¬ okHo ⟨c0,c1,c2,c3,fs,bx,ff,qu,lo,st⟩):=HBE.out (fun h=>by simp[okEv] at h;omega)
      go_wp2_with (first
       | (refine wpList_load_mid (P:=Tryz.prog) rfl 46 _ rfl g4 (o4+k*8) rfl _ _ HRG.out Tryz.underlying46 rfl sz129 ?_))
      go_ret;exact⟨⟨false,rfl,by simpa using HBAD.out⟩,HW3.out.b⟩
     by_cases e3:y<0
     ·have HBAD:Hid (¬ okHo ⟨c0,c1,c2,c3,fs,bx,ff,qu,lo,st⟩):=HBE.out (fun h=>by simp[okEv] at h;omega)
      go_wp2_with (first
       | (refine wpList_load_mid (P:=Tryz.prog) rfl 46 _ rfl g4 (o4+k*8) rfl _ _ HRG.out Tryz.underlying46 rfl sz129 ?_))
      go_ret;exact⟨⟨false,rfl,by simpa using HBAD.out⟩,HW3.out.b⟩
     by_cases e4:9999<y
     ·have HBAD:Hid (¬ okHo ⟨c0,c1,c2,c3,fs,bx,ff,qu,lo,st⟩):=HBE.out (fun h=>by simp[okEv] at h;omega)
      go_wp2_with (first
       | (refine wpList_load_mid (P:=Tryz.prog) rfl 46 _ rfl g4 (o4+k*8) rfl _ _ HRG.out Tryz.underlying46 rfl sz129 ?_))
      go_ret;exact⟨⟨false,rfl,by simpa using HBAD.out⟩,HW3.out.b⟩
     by_cases e5:z<0
     ·have HBAD:Hid (¬ okHo ⟨c0,c1,c2,c3,fs,bx,ff,qu,lo,st⟩):=HBE.out (fun h=>by simp[okEv] at h;omega)
      go_wp2_with (first
       | (refine wpList_load_mid (P:=Tryz.prog) rfl 46 _ rfl g4 (o4+k*8) rfl _ _ HRG.out Tryz.underlying46 rfl sz129 ?_))
      go_ret;exact⟨⟨false,rfl,by simpa using HBAD.out⟩,HW3.out.b⟩
     by_cases e6:9<z
     ·have HBAD:Hid (¬ okHo ⟨c0,c1,c2,c3,fs,bx,ff,qu,lo,st⟩):=HBE.out (fun h=>by simp[okEv] at h;omega)
      go_wp2_with (first
       | (refine wpList_load_mid (P:=Tryz.prog) rfl 46 _ rfl g4 (o4+k*8) rfl _ _ HRG.out Tryz.underlying46 rfl sz129 ?_))
      go_ret;exact⟨⟨false,rfl,by simpa using HBAD.out⟩,HW3.out.b⟩
     have HEV:Hid (validB e i r d m=true→okEv ⟨x,y,z,e,i,r,d,l⟩=true):=fun h=>by simp only[okEv,← HLM.out,h];simp;omega
     have HEN:Hid (validB e i r d m=false→¬ okHo ⟨c0,c1,c2,c3,fs,bx,ff,qu,lo,st⟩):=fun h=>HBE.out (by simp only[okEv,← HLM.out,h];simp)
     clear HBE;by_cases hzf:zFr e i r d m
     ·have HAL:Hid (∀ j (hj:j<qu.length),j<k+1→okEv qu[j]=true):=HAS.out (HEV.out (zFr_valid hzf))
      have HZF:Hid (∀ W,Calls Tryz.prog 137 #[frV e i r d ao m c] W fun o w'=>o = .returned (.bool true)∧Below W.heap.size W w'):=fun W=>(l3zeroFrame_any W e i r d ao m c).mono (by rintro o w' ⟨⟨bb,rfl,h1⟩,h2⟩;rw[h1.2 hzf];exact⟨rfl,h2⟩)
      clear hzf HAS;go_wp2_with (first
       | (refine wpList_load_mid (P:=Tryz.prog) rfl 46 _ rfl g4 (o4+k*8) rfl _ _ HRG.out Tryz.underlying46 rfl sz129 ?_)
       | (go_at_call 137;refine (HZF.out _).mono ?_;rintro o w4 ⟨rfl,hb4⟩))
      go_roundw
      case rel=>exact⟨k+1,by omega,by go_num,HAL.out,HW3.out.below hb4⟩
      case measure=>simp[intOf];omega
     ·have HZF:Hid (∀ W,Calls Tryz.prog 137 #[frV e i r d ao m c] W fun o w'=>o = .returned (.bool false)∧Below W.heap.size W w'):=fun W=>(l3zeroFrame_any W e i r d ao m c).mono (by rintro o w' ⟨⟨bb,rfl,h1⟩,h2⟩;cases bb;exact⟨rfl,h2⟩;exact absurd (h1.1 rfl) hzf)
      clear hzf;cases hv:validB e i r d m
      ·have HBAD:Hid (¬ okHo ⟨c0,c1,c2,c3,fs,bx,ff,qu,lo,st⟩):=HEN.out hv
       have HVF:Hid (∀ W,Calls Tryz.prog 52 #[frV e i r d ao m c] W fun o w'=>o = .returned (.bool false)∧Below W.heap.size W w'):=fun W=>hv ▸ specValid_any W e i r d ao m c
       clear hv HAS HEV HEN;go_wp2_with (first
        | (refine wpList_load_mid (P:=Tryz.prog) rfl 46 _ rfl g4 (o4+k*8) rfl _ _ HRG.out Tryz.underlying46 rfl sz129 ?_)
        | (go_at_call 137;refine (HZF.out _).mono ?_;rintro o w4 ⟨rfl,hb4⟩;have HB4:Hid (blk w4 wr.heap.size [.int .i64 x,.int .i64 y,.int .i64 z,.bool e,.int .u32 (i:Int),.bool r,.int .i64 d,.slice ao m c] 46∧obS w ⟨c0,c1,c2,c3,fs,bx,ff,qu,lo,st⟩ ⟨a1,n1,k1,a2,n2,k2,a3,n3,k3,some ⟨g4,o4,none⟩,n4,k4⟩ w4):=⟨(blk.new wr [.int .i64 x,.int .i64 y,.int .i64 z,.bool e,.int .u32 (i:Int),.bool r,.int .i64 d,.slice ao m c] 46).below hb4,HW3.out.below hb4⟩;clear hb4)
        | (refine wpList_load_mid (P:=Tryz.prog) rfl 25 _ rfl wr.heap.size 3 rfl _ _ (HB4.out.1.loadAt [.int .i64 x,.int .i64 y,.int .i64 z] [.bool e,.int .u32 (i:Int),.bool r,.int .i64 d,.slice ao m c] []) Tryz.underlying25 rfl sz93 ?_)
        | (refine wpList_load_midG (by rfl) 25 _ rfl wr.heap.size 3 rfl _ _ (HB4.out.1.loadAt [.int .i64 x,.int .i64 y,.int .i64 z] [.bool e,.int .u32 (i:Int),.bool r,.int .i64 d,.slice ao m c] []) Tryz.underlying25 rfl sz93 ?_)
        | (go_at_call 52;refine (HVF.out _).mono ?_;rintro o w5 ⟨rfl,hb5⟩))
       go_ret;exact⟨⟨false,rfl,by simpa using HBAD.out⟩,(HB4.out.2.below hb5).b⟩
      ·have HAL:Hid (∀ j (hj:j<qu.length),j<k+1→okEv qu[j]=true):=HAS.out (HEV.out hv)
       have HVF:Hid (∀ W,Calls Tryz.prog 52 #[frV e i r d ao m c] W fun o w'=>o = .returned (.bool true)∧Below W.heap.size W w'):=fun W=>hv ▸ specValid_any W e i r d ao m c
       clear hv HAS HEV HEN;go_wp2_with (first
        | (refine wpList_load_mid (P:=Tryz.prog) rfl 46 _ rfl g4 (o4+k*8) rfl _ _ HRG.out Tryz.underlying46 rfl sz129 ?_)
        | (go_at_call 137;refine (HZF.out _).mono ?_;rintro o w4 ⟨rfl,hb4⟩;have HB4:Hid (blk w4 wr.heap.size [.int .i64 x,.int .i64 y,.int .i64 z,.bool e,.int .u32 (i:Int),.bool r,.int .i64 d,.slice ao m c] 46∧obS w ⟨c0,c1,c2,c3,fs,bx,ff,qu,lo,st⟩ ⟨a1,n1,k1,a2,n2,k2,a3,n3,k3,some ⟨g4,o4,none⟩,n4,k4⟩ w4):=⟨(blk.new wr [.int .i64 x,.int .i64 y,.int .i64 z,.bool e,.int .u32 (i:Int),.bool r,.int .i64 d,.slice ao m c] 46).below hb4,HW3.out.below hb4⟩;clear hb4)
        | (refine wpList_load_mid (P:=Tryz.prog) rfl 25 _ rfl wr.heap.size 3 rfl _ _ (HB4.out.1.loadAt [.int .i64 x,.int .i64 y,.int .i64 z] [.bool e,.int .u32 (i:Int),.bool r,.int .i64 d,.slice ao m c] []) Tryz.underlying25 rfl sz93 ?_)
        | (refine wpList_load_midG (by rfl) 25 _ rfl wr.heap.size 3 rfl _ _ (HB4.out.1.loadAt [.int .i64 x,.int .i64 y,.int .i64 z] [.bool e,.int .u32 (i:Int),.bool r,.int .i64 d,.slice ao m c] []) Tryz.underlying25 rfl sz93 ?_)
        | (go_at_call 52;refine (HVF.out _).mono ?_;rintro o w5 ⟨rfl,hb5⟩))
       go_roundw
       case rel=>exact⟨k+1,by omega,by go_num,HAL.out,HB4.out.2.below hb5⟩
       case measure=>simp[intOf];omega
    ·have HQU:Hid (qu.all okEv=true):=all_yesG (by have:=HLB.out;omega) HA.out
     clear HA;go_wp2_with (first
      | (refine wpList_load_mid (P:=Tryz.prog) rfl 35 _ rfl w.heap.size 0 rfl _ _ HS.out.p.load Tryz.underlying35 rfl (sz41L _ _) ?_))
     rw[← hoV_L]
     refine (HBX.out HB8.out.1 _ HS.out.b).mono ?_
     rintro o w5 ⟨⟨bb,rfl,hbb⟩,hb5⟩;have HFIN:Hid (bb=true↔okHo ⟨c0,c1,c2,c3,fs,bx,ff,qu,lo,st⟩):=hbb.trans ⟨fun hx=>⟨HCT.out,HFT.out,HB8.out.2,HNUM.out.1,HNUM.out.2.1,HNUM.out.2.2.1,HNUM.out.2.2.2.1,HNUM.out.2.2.2.2.1,HNUM.out.2.2.2.2.2,HFF.out,HQU.out,hx⟩,fun hx=>hx.bx⟩
     have HB5:Hid (Below w.heap.size w w5):=(HS.out.below hb5).b
     clear hbb hb5;go_wp2_with fail;go_ret;exact⟨⟨bb,rfl,HFIN.out⟩,HB5.out⟩
theorem isOnWire_any (w:World) (b:R8) (a:Option Addr) (n cap:Nat) :
  Calls Tryz.prog 167 #[bxV b.x b.y b.z b.e b.i b.r b.d a n cap] w fun o w'=>o = .returned (.bool (b.x == 2 || b.x == 3))∧Below w.heap.size w w':=by
 obtain⟨x,y,z,e,i,r,d,l⟩:=b
 have HA:Hid (Below w.heap.size w (w.alloc (.cells #[.int .i64 x,.int .i64 y,.int .i64 z,.bool e,.int .u32 (i:Int),.bool r,.int .i64 d,.slice a n cap] 97))):=(Below.refl _ _).alloc (Nat.le_refl _) _
 by_cases h2:x=2
 ·subst h2;go_enter Tryz.func167,Tryz.ntmps167
  go_wp2
  go_ret;exact⟨rfl,HA.out⟩
 ·have h2':(x == 2)=false:=by simpa using h2
  go_enter Tryz.func167,Tryz.ntmps167
  go_wp2
  go_ret;exact⟨ret_bool (by simp[h2']),HA.out⟩
set_option maxHeartbeats 4000000 in
set_option maxRecDepth 20000 in
theorem validBox_any (w:World) (b:R8) (st:Int) (a:Option Addr) (n cap:Nat) (h:isBytes w a n cap b.l) (hst:0≤st∧st≤1000000) :
  Calls Tryz.prog 166 #[bxV b.x b.y b.z b.e b.i b.r b.d a n cap,.int .i64 st] w fun o w'=>retB o (okBx st b)∧Below w.heap.size w w':=by
 have hlen:=h.len
 obtain⟨x,y,z,e,i,r,d,l⟩:=b
 simp only[] at hlen h ⊢
 have HA:Hid (Below w.heap.size w (w.alloc (.cells #[.int .i64 x,.int .i64 y,.int .i64 z,.bool e,.int .u32 (i:Int),.bool r,.int .i64 d,.slice a n cap] 97))):=(Below.refl _ _).alloc (Nat.le_refl _) _
 have HV:Hid (∀ W,Below w.heap.size w W→Calls Tryz.prog 153 #[frV e i r d a n cap] W fun o w'=>o = .returned (.bool (validB e i r d n))∧Below W.heap.size W w'):=fun W hW=>valid_any W e i r d a n cap l (h.below hW)
 have HZ:Hid (∀ W,Below w.heap.size w W→Calls Tryz.prog 178 #[frV e i r d a n cap,frV false 0 false 0 none 0 0] W fun o w'=>o = .returned (.bool ((e == false) && (r == false) && ((i:Int) == ((0:Nat):Int)) && (d == 0) && decide (l=[])))∧Below W.heap.size W w'):=fun W hW=>same_any W e i r d a n cap l (h.below hW) false 0 false 0 none 0 0 [] ⟨rfl,Nat.le_refl _,fun _ hx=>(by cases hx),fun hne=>absurd rfl hne⟩
 have HLN:Hid (n=l.length):=hlen
 clear h hlen;by_cases hx0:x=0
 ·subst hx0;have HOK:Hid (okBx st ⟨0,y,z,e,i,r,d,l⟩↔(y=0∧z=0∧zFr e i r d l.length)):=by show _↔_;unfold okBx;rw[if_pos rfl]
  by_cases hy0:y=0
  ·subst hy0;by_cases hz0:z=0
   ·subst hz0;go_enter Tryz.func166,Tryz.ntmps166
    go_wp2_with (first
     | (go_at_call 178;refine (HZ.out _ HA.out).mono ?_;rintro o w1 ⟨rfl,hb1⟩))
    go_ret;refine⟨⟨_,rfl,?_⟩,HA.out.trans (hb1.mono HA.out.size)⟩
    rw[HOK.out]
    unfold zFr
    simp
    cases e <;> cases r <;> simp
    constructor
    ·rintro⟨⟨h1,h2⟩,h3⟩;exact⟨h1,h2,by rw[h3]⟩
    ·rintro⟨h1,h2,h3⟩;exact⟨⟨h1,h2⟩,by simpa using h3⟩
   ·have hz':(z == 0)=false:=by simpa using hz0
    go_enter Tryz.func166,Tryz.ntmps166
    go_wp2
    go_ret;exact⟨⟨false,rfl,by rw[HOK.out];simp[hz0]⟩,HA.out⟩
  ·have hy':(y == 0)=false:=by simpa using hy0
   go_enter Tryz.func166,Tryz.ntmps166
   go_wp2
   go_ret;exact⟨⟨false,rfl,by rw[HOK.out];simp[hy0]⟩,HA.out⟩
 ·have HOK:Hid (okBx st ⟨x,y,z,e,i,r,d,l⟩↔((1≤x∧x≤3)∧(0≤y∧y≤9999)∧(0≤z∧z<st)∧validB e i r d n=true)):=by show _↔_;unfold okBx;rw[if_neg hx0,HLN.out]
  have hx':(x == 0)=false:=by simpa using hx0
  have HIR:Hid (∀ (W:World) (v l m:Int) (bb:Bool),decide (l≤v∧v≤m)=bb→Calls Tryz.prog 115 #[.int .i64 v,.int .i64 l,.int .i64 m] W fun o w'=>o = .returned (.bool bb)∧W=w'):=fun W v l m bb hbb=>hbb ▸ inRange_any W v l m
  have hs1:IntKind.i64.wrap (st-1)=st-1:=by rw[IntKind.wrap_i64];omega
  clear hx0;by_cases h1:1≤x∧x≤3
  ·have J1:Hid (∀ W,Calls Tryz.prog 115 #[.int .i64 x,.int .i64 1,.int .i64 3] W fun o w'=>o = .returned (.bool true)∧W=w'):=fun W=>HIR.out W x 1 3 true (decide_eq_true h1)
   by_cases h2:0≤y∧y≤9999
   ·have J2:Hid (∀ W,Calls Tryz.prog 115 #[.int .i64 y,.int .i64 0,.int .i64 9999] W fun o w'=>o = .returned (.bool true)∧W=w'):=fun W=>HIR.out W y 0 9999 true (decide_eq_true h2)
    by_cases h3:0≤z∧z≤st-1
    ·have J3:Hid (∀ W,Calls Tryz.prog 115 #[.int .i64 z,.int .i64 0,.int .i64 (st-1)] W fun o w'=>o = .returned (.bool true)∧W=w'):=fun W=>HIR.out W z 0 (st-1) true (decide_eq_true h3)
     have HF:Hid (okBx st ⟨x,y,z,e,i,r,d,l⟩↔validB e i r d n=true):=HOK.out.trans ⟨fun h=>h.2.2.2,fun h=>⟨h1,h2,⟨h3.1,by omega⟩,h⟩⟩
     clear h1 h2 h3 HIR HOK HZ;go_enter Tryz.func166,Tryz.ntmps166
     go_wp2_with (first
      | (go_at_call 115;first | (refine (J1.out _).mono ?_;rintro o w1 ⟨rfl,rfl⟩;clear J1) | (refine (J2.out _).mono ?_;rintro o w1 ⟨rfl,rfl⟩;clear J2) | (refine (J3.out _).mono ?_;rintro o w1 ⟨rfl,rfl⟩;clear J3))
      | (go_at_call 153;refine (HV.out _ HA.out).mono ?_;rintro o w1 ⟨rfl,hb1⟩))
     go_ret;exact⟨⟨_,rfl,HF.out.symm⟩,HA.out.trans (hb1.mono HA.out.size)⟩
    ·have J3:Hid (∀ W,Calls Tryz.prog 115 #[.int .i64 z,.int .i64 0,.int .i64 (st-1)] W fun o w'=>o = .returned (.bool false)∧W=w'):=fun W=>HIR.out W z 0 (st-1) false (decide_eq_false h3)
     have HF:Hid (¬ okBx st ⟨x,y,z,e,i,r,d,l⟩):=fun h=>h3 (by have:=(HOK.out.1 h).2.2.1;omega)
     clear h1 h2 h3 HIR HOK HZ HV;go_enter Tryz.func166,Tryz.ntmps166
     go_wp2_with (first
      | (go_at_call 115;first | (refine (J1.out _).mono ?_;rintro o w1 ⟨rfl,rfl⟩;clear J1) | (refine (J2.out _).mono ?_;rintro o w1 ⟨rfl,rfl⟩;clear J2) | (refine (J3.out _).mono ?_;rintro o w1 ⟨rfl,rfl⟩;clear J3)))
     go_ret;exact⟨⟨false,rfl,by simpa using HF.out⟩,HA.out⟩
   ·have J2:Hid (∀ W,Calls Tryz.prog 115 #[.int .i64 y,.int .i64 0,.int .i64 9999] W fun o w'=>o = .returned (.bool false)∧W=w'):=fun W=>HIR.out W y 0 9999 false (decide_eq_false h2)
    have HF:Hid (¬ okBx st ⟨x,y,z,e,i,r,d,l⟩):=fun h=>h2 (HOK.out.1 h).2.1
    clear h1 h2 HIR HOK HZ HV;go_enter Tryz.func166,Tryz.ntmps166
    go_wp2_with (first
     | (go_at_call 115;first | (refine (J1.out _).mono ?_;rintro o w1 ⟨rfl,rfl⟩;clear J1) | (refine (J2.out _).mono ?_;rintro o w1 ⟨rfl,rfl⟩;clear J2)))
    go_ret;exact⟨⟨false,rfl,by simpa using HF.out⟩,HA.out⟩
  ·have J1:Hid (∀ W,Calls Tryz.prog 115 #[.int .i64 x,.int .i64 1,.int .i64 3] W fun o w'=>o = .returned (.bool false)∧W=w'):=fun W=>HIR.out W x 1 3 false (decide_eq_false h1)
   have HF:Hid (¬ okBx st ⟨x,y,z,e,i,r,d,l⟩):=fun h=>h1 (HOK.out.1 h).1
   clear h1 HIR HOK HZ HV;go_enter Tryz.func166,Tryz.ntmps166
   go_wp2_with (first
    | (go_at_call 115;refine (J1.out _).mono ?_;rintro o w1 ⟨rfl,rfl⟩;clear J1))
   go_ret;exact⟨⟨false,rfl,by simpa using HF.out⟩,HA.out⟩
end Go.Proofs.YtaamahohdnbpiaaGreat
