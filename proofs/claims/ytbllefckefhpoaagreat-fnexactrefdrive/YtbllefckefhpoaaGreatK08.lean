import Derived.Test.YtbllefckefhpoaaGreatK05
namespace Go.Proofs.YtbllefckefhpoaaGreat
open Go.RowKit
set_option linter.unusedVariables false
set_option maxHeartbeats 16000000
open Go.Value renaming int→I,slice→sL,bool→bO,pointer→pT,agg→aG
open Go.IntKind renaming i64→J
open Go.Ending renaming returned→rT
open Go.Proofs.Tryz renaming prog→Tp
structure Wh where
 g1:Nat
 n1:Nat
 k1:Nat
 a2:Option Addr
 n2:Nat
 k2:Nat
 h2:Nat→Hd
 a3:Option Addr
 n3:Nat
 k3:Nat
 h3:Nat→Hd
 a4:Option Addr
 n4:Nat
 k4:Nat
 h4:Nat→Hd
abbrev Wh.sl (s:Wh):Sl:=⟨some ⟨s.g1,0,none⟩,s.n1,s.k1,s.a2,s.n2,s.k2,s.a3,s.n3,s.k3,s.a4,s.n4,s.k4⟩
structure whS (B T:Nat) (W:World) (s:Wh):Prop where
 f:rowF W s.g1 (s.n1*3)
 fc:s.n1≤s.k1
 fb:B≤s.g1∧s.g1<T
 x:sx8 W s.a2 s.n2 s.k2 s.h2
 xb:inn B T s.a2 s.n2 s.h2
 r:sx5 W s.a3 s.n3 s.k3 s.h3
 rb:inn B T s.a3 s.n3 s.h3
 q:sx8 W s.a4 s.n4 s.k4 s.h4
 qb:inn B T s.a4 s.n4 s.h4
 m1:s.n1≤1048576
 m2:s.n2≤1048576
 m3:s.n3≤1048576
 m4:s.n4≤1048576
theorem whS.same {B T:Nat} {W W':World} {s:Wh} (h:whS B T W s) (he:∀ x,B≤x→x<T→W'.heap[x]?=W.heap[x]?):whS B T W' s:=
 ⟨h.f.up (he _ h.fb.1 h.fb.2),h.fc,h.fb,h.x.same (fun x hx=>he x (h.xb x hx).1 (h.xb x hx).2),h.xb,h.r.same (fun x hx=>he x (h.rb x hx).1 (h.rb x hx).2),h.rb,h.q.same (fun x hx=>he x (h.qb x hx).1 (h.qb x hx).2),h.qb,h.m1,h.m2,h.m3,h.m4⟩
structure whD (s:Wh):Prop where
 s12:¬ ft s.a2 s.n2 s.h2 s.g1
 s13:¬ ft s.a3 s.n3 s.h3 s.g1
 s14:¬ ft s.a4 s.n4 s.h4 s.g1
 s23:∀ x,ft s.a2 s.n2 s.h2 x→¬ ft s.a3 s.n3 s.h3 x
 s24:∀ x,ft s.a2 s.n2 s.h2 x→¬ ft s.a4 s.n4 s.h4 x
 s34:∀ x,ft s.a3 s.n3 s.h3 x→¬ ft s.a4 s.n4 s.h4 x
def Wh.c1 (s:Wh) (c:Nat):Nat:=c+3*s.n1
def Wh.c2 (s:Wh) (c:Nat):Nat:=cn8 (s.c1 c) s.h2 s.n2
def Wh.c3 (s:Wh) (c:Nat):Nat:=cn5 (s.c2 c) s.h3 s.n3
def Wh.c4 (s:Wh) (c:Nat):Nat:=cn8 (s.c3 c) s.h4 s.n4
structure whE (s:Wh):Prop where
 d2:dst s.h2 s.n2
 d3:dst s.h3 s.n3
 d4:dst s.h4 s.n4
structure whM (W:World) (s:Wh) (c:Nat):Prop where
 f:∀ j,j<s.n1→at3 W s.g1 (j*3) (mkF (c+3*j))
 x:mks8 W s.a2 s.n2 (s.c1 c) s.h2
 r:mks5 W s.a3 s.n3 (s.c2 c) s.h3
 q:mks8 W s.a4 s.n4 (s.c3 c) s.h4
theorem sx8.bd {W:World} {a:Option Addr} {n cap:Nat} {hs:Nat→Hd} (h:sx8 W a n cap hs):∀ j,j<n→(hs j).2.1≤1048576:=by
 rcases h with⟨_,e,_⟩|⟨g,_,h,_⟩
 ·intro j hj;omega
 ·intro j hj;exact (h.dat j hj).2.1
theorem sx5.bd {W:World} {a:Option Addr} {n cap:Nat} {hs:Nat→Hd} (h:sx5 W a n cap hs):∀ j,j<n→(hs j).2.1≤1048576:=by
 rcases h with⟨_,e,_⟩|⟨g,_,h,_⟩
 ·intro j hj;omega
 ·intro j hj;exact (h.dat j hj).2.1
theorem whS.c1 {B T:Nat} {W:World} {s:Wh} (h:whS B T W s) {c:Nat} (hc:c≤1000):s.c1 c≤4000000:=by have:=h.m1;unfold Wh.c1;omega
theorem whS.c2 {B T:Nat} {W:World} {s:Wh} (h:whS B T W s) {c:Nat} (hc:c≤1000):s.c2 c≤2000000000000:=by
 have h1:=h.c1 hc
 have h2:=cn8_le (s.c1 c) s.n2 s.h2 h.x.bd s.n2 (Nat.le_refl _)
 have h3:=h.m2
 unfold Wh.c2
 omega
theorem whS.c3 {B T:Nat} {W:World} {s:Wh} (h:whS B T W s) {c:Nat} (hc:c≤1000):s.c3 c≤4000000000000:=by
 have h1:=h.c2 hc
 have h2:=cn5_le (s.c2 c) s.n3 s.h3 h.r.bd s.n3 (Nat.le_refl _)
 have h3:=h.m3
 unfold Wh.c3
 omega
theorem whS.c4 {B T:Nat} {W:World} {s:Wh} (h:whS B T W s) {c:Nat} (hc:c≤1000):s.c4 c≤6000000000000:=by
 have h1:=h.c3 hc
 have h2:=cn8_le (s.c3 c) s.n4 s.h4 h.q.bd s.n4 (Nat.le_refl _)
 have h3:=h.m4
 unfold Wh.c4
 omega
theorem mark3_x (B T:Nat) (w:World) (p g n cap c:Nat) (hr:rowF w g (n*3)) (hcp:n≤cap) (hn:n≤1048576) (hc:c≤1000) (hB:B≤g) (hT:g<T) (hp:T≤p) :
  Calls Tp 86 #[sL (some ⟨g,0,none⟩) n cap,I J (c:Int)] w fun o w'=>o = rT (I J ((c+3*n:Nat):Int))∧(∀ o,w'.cell? ⟨p,o,none⟩=w.cell? ⟨p,o,none⟩)∧(∀ j,j<n→at3 w' g (j*3) (mkF (c+3*j)))∧(∀ x N,rowF w x N→rowF w' x N)∧(∀ b,b≠g→w'.heap[b]?=w.heap[b]?)∧w'.heap.size=w.heap.size∧Below B w w':=by
 refine (mark3 B w g n cap c hr hcp hn hc hB).mono ?_
 rintro o w' ⟨rfl,q1,q2,q3,q4,q5⟩;exact⟨rfl,fun o=>by simp only[World.cell?,q3 p (by omega)],q1,q2,q3,q4,q5⟩
set_option maxRecDepth 20000 in
theorem markHost_gen (B T:Nat) (w:World) (c0 c1 c2 c3 lo st:Int) (s:Wh) (c:Nat) (h:whS B T w s) (hd:whD s) (hT:T≤w.heap.size) (hc:c≤1000) :
  Calls Tp 40 #[aG #[I J c0,I J c1,I J c2,I J c3,sL (some ⟨s.g1,0,none⟩) s.n1 s.k1,sL s.a2 s.n2 s.k2,sL s.a3 s.n3 s.k3,sL s.a4 s.n4 s.k4,I J lo,I J st],I J (c:Int)] w fun o w'=>o = rT (I J (s.c4 c:Int))∧(whE s→whM w' s c)∧whS B T w' s∧(∀ x,(x<B∨T≤x)→x<w.heap.size→w'.heap[x]?=w.heap[x]?)∧Below B w w':=by
 have HK:Hid (s.c1 c≤20000000000000∧s.c2 c≤20000000000000∧s.c3 c≤20000000000000):=⟨by have:=h.c1 hc;omega,by have:=h.c2 hc;omega,by have:=h.c3 hc;omega⟩
 have HD:Hid (whD s):=hd
 have HA:Hid (∀ o:Obj,whS B T (w.alloc o) s):=fun o=>h.same fun x _ hx=>Below.heap_alloc w _ x (by omega)
 have HBA:Hid (∀ o:Obj,Below B w (w.alloc o)):=fun o=>(Below.refl _ _).alloc (by have:=h.fb;omega) _
 have HNA:Hid (∀ (o:Obj) x,x<w.heap.size→(w.alloc o).heap[x]?=w.heap[x]?):=fun o x hx=>Below.heap_alloc w _ x hx
 clear h hd;go_enter Tryz.func40,Tryz.ntmps40
 go_wp2_with (first
  | (go_at_call 86;refine (mark3_x B T _ w.heap.size s.g1 s.n1 s.k1 c (HA.out _).f (HA.out (.cells #[] 3)).fc (HA.out (.cells #[] 3)).m1 hc (HA.out (.cells #[] 3)).fb.1 (HA.out (.cells #[] 3)).fb.2 hT).mono ?_;rintro o w1 ⟨rfl,cp1,q1,q2,q3,q4,q5⟩;have HS1:Hid (whS B T w1 s∧Below B w w1∧(∀ j,j<s.n1→at3 w1 s.g1 (j*3) (mkF (c+3*j)))∧(∀ x,(x<B∨T≤x)→x<w.heap.size→w1.heap[x]?=w.heap[x]?)):=⟨⟨q2 _ _ (HA.out _).f,(HA.out (.cells #[] 3)).fc,(HA.out (.cells #[] 3)).fb,(HA.out _).x.same (fun x hx=>q3 x (fun e=>HD.out.s12 (by rw[← e];exact hx))),(HA.out (.cells #[] 3)).xb,(HA.out _).r.same (fun x hx=>q3 x (fun e=>HD.out.s13 (by rw[← e];exact hx))),(HA.out (.cells #[] 3)).rb,(HA.out _).q.same (fun x hx=>q3 x (fun e=>HD.out.s14 (by rw[← e];exact hx))),(HA.out (.cells #[] 3)).qb,(HA.out (.cells #[] 3)).m1,(HA.out (.cells #[] 3)).m2,(HA.out (.cells #[] 3)).m3,(HA.out (.cells #[] 3)).m4⟩,(HBA.out _).trans q5,q1,fun x hx hxl=>(q3 x (by have:=(HA.out (.cells #[] 3)).fb;omega)).trans (HNA.out _ x hxl)⟩;clear q1 q2 q3 q4 q5)
  | (go_at_call 87;refine (markB_x B T w1 w.heap.size s.a2 s.n2 s.k2 (s.c1 c) s.h2 HS1.out.1.x HS1.out.1.xb hT HS1.out.1.m2 HK.out.1).mono ?_;rintro o w2 ⟨rfl,cp2,q1,q2,q3,qs,q4,q5⟩;have HS2:Hid (whS B T w2 s∧Below B w w2∧(whE s→(∀ j,j<s.n1→at3 w2 s.g1 (j*3) (mkF (c+3*j)))∧mks8 w2 s.a2 s.n2 (s.c1 c) s.h2)∧(∀ x,(x<B∨T≤x)→x<w.heap.size→w2.heap[x]?=w.heap[x]?)):=⟨⟨q2 _ _ HS1.out.1.f,HS1.out.1.fc,HS1.out.1.fb,qs,HS1.out.1.xb,HS1.out.1.r.same (fun x hx=>q3 x (fun e=>HD.out.s23 x e hx)),HS1.out.1.rb,HS1.out.1.q.same (fun x hx=>q3 x (fun e=>HD.out.s24 x e hx)),HS1.out.1.qb,HS1.out.1.m1,HS1.out.1.m2,HS1.out.1.m3,HS1.out.1.m4⟩,HS1.out.2.1.trans q5,fun he=>⟨fun j hj=>(HS1.out.2.2.1 j hj).up (q3 _ HD.out.s12),q1 he.d2⟩,fun x hx hxl=>(q3 x (fun e=>by have:=HS1.out.1.xb x e;omega)).trans (HS1.out.2.2.2 x hx hxl)⟩;clear q1 q2 q3 qs q4 q5)
  | (go_at_call 88;refine (markF_x B T w2 w.heap.size s.a3 s.n3 s.k3 (s.c2 c) s.h3 HS2.out.1.r HS2.out.1.rb hT HS2.out.1.m3 HK.out.2.1).mono ?_;rintro o w3 ⟨rfl,cp3,q1,q2,q3,qs,q4,q5⟩;have HS3:Hid (whS B T w3 s∧Below B w w3∧(whE s→(∀ j,j<s.n1→at3 w3 s.g1 (j*3) (mkF (c+3*j)))∧mks8 w3 s.a2 s.n2 (s.c1 c) s.h2∧mks5 w3 s.a3 s.n3 (s.c2 c) s.h3)∧(∀ x,(x<B∨T≤x)→x<w.heap.size→w3.heap[x]?=w.heap[x]?)):=⟨⟨q2 _ _ HS2.out.1.f,HS2.out.1.fc,HS2.out.1.fb,HS2.out.1.x.same (fun x hx=>q3 x (HD.out.s23 x hx)),HS2.out.1.xb,qs,HS2.out.1.rb,HS2.out.1.q.same (fun x hx=>q3 x (fun e=>HD.out.s34 x e hx)),HS2.out.1.qb,HS2.out.1.m1,HS2.out.1.m2,HS2.out.1.m3,HS2.out.1.m4⟩,HS2.out.2.1.trans q5,fun he=>⟨fun j hj=>((HS2.out.2.2.1 he).1 j hj).up (q3 _ HD.out.s13),(HS2.out.2.2.1 he).2.up (fun x hx=>q3 x (HD.out.s23 x hx)),q1 he.d3⟩,fun x hx hxl=>(q3 x (fun e=>by have:=HS2.out.1.rb x e;omega)).trans (HS2.out.2.2.2 x hx hxl)⟩;clear q1 q2 q3 qs q4 q5)
  | (go_at_call 89;refine (markE_x B T w3 w.heap.size s.a4 s.n4 s.k4 (s.c3 c) s.h4 HS3.out.1.q HS3.out.1.qb hT HS3.out.1.m4 HK.out.2.2).mono ?_;rintro o w4 ⟨rfl,cp4,q1,q2,q3,qs,q4,q5⟩;have HS4:Hid (whS B T w4 s∧Below B w w4∧(whE s→(∀ j,j<s.n1→at3 w4 s.g1 (j*3) (mkF (c+3*j)))∧mks8 w4 s.a2 s.n2 (s.c1 c) s.h2∧mks5 w4 s.a3 s.n3 (s.c2 c) s.h3∧mks8 w4 s.a4 s.n4 (s.c3 c) s.h4)∧(∀ x,(x<B∨T≤x)→x<w.heap.size→w4.heap[x]?=w.heap[x]?)):=⟨⟨q2 _ _ HS3.out.1.f,HS3.out.1.fc,HS3.out.1.fb,HS3.out.1.x.same (fun x hx=>q3 x (HD.out.s24 x hx)),HS3.out.1.xb,HS3.out.1.r.same (fun x hx=>q3 x (HD.out.s34 x hx)),HS3.out.1.rb,qs,HS3.out.1.qb,HS3.out.1.m1,HS3.out.1.m2,HS3.out.1.m3,HS3.out.1.m4⟩,HS3.out.2.1.trans q5,fun he=>⟨fun j hj=>((HS3.out.2.2.1 he).1 j hj).up (q3 _ HD.out.s14),(HS3.out.2.2.1 he).2.1.up (fun x hx=>q3 x (HD.out.s24 x hx)),(HS3.out.2.2.1 he).2.2.up (fun x hx=>q3 x (HD.out.s34 x hx)),q1 he.d4⟩,fun x hx hxl=>(q3 x (fun e=>by have:=HS3.out.1.qb x e;omega)).trans (HS3.out.2.2.2 x hx hxl)⟩;clear q1 q2 q3 qs q4 q5))
 go_ret;exact⟨rfl,fun he=>⟨(HS4.out.2.2.1 he).1,(HS4.out.2.2.1 he).2.1,(HS4.out.2.2.1 he).2.2.1,(HS4.out.2.2.1 he).2.2.2⟩,HS4.out.1,HS4.out.2.2.2,HS4.out.2.1⟩
theorem whM.same {B T:Nat} {W W':World} {s:Wh} {c:Nat} (h:whM W s c) (hs:whS B T W s) (he:∀ x,B≤x→x<T→W'.heap[x]?=W.heap[x]?):whM W' s c:=
 ⟨fun j hj=>(h.f j hj).up (he _ hs.fb.1 hs.fb.2),h.x.up (fun x hx=>he x (hs.xb x hx).1 (hs.xb x hx).2),h.r.up (fun x hx=>he x (hs.rb x hx).1 (hs.rb x hx).2),h.q.up (fun x hx=>he x (hs.qb x hx).1 (hs.qb x hx).2)⟩
set_option maxRecDepth 20000 in
theorem heldHost_gen (B T:Nat) (w:World) (c0 c1 c2 c3 lo st:Int) (s:Wh) (c:Nat) (h:whS B T w s) (hm:whM w s c) (hT:T≤w.heap.size) (hc:c≤1000) :
  Calls Tp 41 #[aG #[I J c0,I J c1,I J c2,I J c3,sL (some ⟨s.g1,0,none⟩) s.n1 s.k1,sL s.a2 s.n2 s.k2,sL s.a3 s.n3 s.k3,sL s.a4 s.n4 s.k4,I J lo,I J st],I J (c:Int)] w fun o w'=>o = rT (I J (s.c4 c:Int))∧Below w.heap.size w w':=by
 have HK:Hid (s.c1 c≤20000000000000∧s.c2 c≤20000000000000∧s.c3 c≤20000000000000):=⟨by have:=h.c1 hc;omega,by have:=h.c2 hc;omega,by have:=h.c3 hc;omega⟩
 have HA:Hid (∀ W,Below w.heap.size w W→whS B T W s∧whM W s c):=fun W hW=>⟨h.same fun x _ hx=>hW.block x (by omega),hm.same h fun x _ hx=>hW.block x (by omega)⟩
 have HBA:Hid (∀ o:Obj,Below w.heap.size w (w.alloc o)):=fun o=>(Below.refl _ _).alloc (Nat.le_refl _) _
 clear h hm;go_enter Tryz.func41,Tryz.ntmps41
 go_wp2_with (first
  | (go_at_call 90;refine (heldFilterS_any _ s.g1 s.n1 s.k1 c (HA.out _ (HBA.out _)).2.f (HA.out _ (HBA.out (.cells #[] 3))).1.fc (HA.out _ (HBA.out (.cells #[] 3))).1.m1 hc).mono ?_;rintro o w1 ⟨rfl,q1⟩;have HB1:Hid (Below w.heap.size w w1):=(HBA.out _).trans (q1.mono (by simp));have cp1:=fun o=>q1.cell (p:=⟨w.heap.size,o,none⟩) (by simp);clear q1;have n1:¬ ((s.c1 c:Nat):Int)<0:=by omega)
  | (go_at_call 91;refine (heldB_x _ s.a2 s.n2 s.k2 (s.c1 c) s.h2 (HA.out _ HB1.out).1.x (HA.out _ HB1.out).2.x (HA.out _ HB1.out).1.m2 HK.out.1).mono ?_;rintro o w2 ⟨rfl,rfl⟩;have n2:¬ ((s.c2 c:Nat):Int)<0:=by omega)
  | (go_at_call 92;refine (heldF_x _ s.a3 s.n3 s.k3 (s.c2 c) s.h3 (HA.out _ HB1.out).1.r (HA.out _ HB1.out).2.r (HA.out _ HB1.out).1.m3 HK.out.2.1).mono ?_;rintro o w3 ⟨rfl,rfl⟩;have n3:¬ ((s.c3 c:Nat):Int)<0:=by omega)
  | (go_at_call 93;refine (heldE_x _ s.a4 s.n4 s.k4 (s.c3 c) s.h4 (HA.out _ HB1.out).1.q (HA.out _ HB1.out).2.q (HA.out _ HB1.out).1.m4 HK.out.2.2).mono ?_;rintro o w4 ⟨rfl,rfl⟩;have n4:¬ ((s.c4 c:Nat):Int)<0:=by omega))
 go_ret;exact⟨rfl,HB1.out⟩
theorem callBoxI {w X:World} (hX:Below w.heap.size w X) (hz:w.heap.size+3≤X.heap.size) {a:Option Addr} {n cap:Nat} {bs:List R8} (h:isR8s w a n cap bs) (hn:bs.length≤1048576) (hd:∀ j (h:j<bs.length),bs[j].l.length≤1048576) :
  Calls Tp 63 #[sL a n cap] X fun e w'=>∃ g,e = rT (sL (some ⟨g,0,none⟩) n n)∧St (w.heap.size+3) w' (fun W=>isR8s W (some ⟨g,0,none⟩) n n bs∧wr8 X.heap.size w'.heap.size W g n)∧Below X.heap.size X w'∧Below w.heap.size w w'∧w.heap.size+3≤w'.heap.size∧Keep3 w.heap.size X w':=by
 refine (toBoxS_any X a n cap bs (h.below hX) (by have:=h.len;omega) hd).mono ?_
 rintro e w' ⟨g,rfl,h1,h2⟩;have h1:=h1.mono hz
 exact⟨g,rfl,fun W hW=>⟨(h1 W hW).1,(h1 W hW).2⟩,h2,hX.trans (h2.mono hX.size),Nat.le_trans hz h2.size,keep3 h2 hz⟩
theorem callFrameI {w X:World} (hX:Below w.heap.size w X) (hz:w.heap.size+3≤X.heap.size) {a:Option Addr} {n cap:Nat} {bs:List R5} (h:isR5s w a n cap bs) (hn:bs.length≤1048576) (hd:∀ j (h:j<bs.length),bs[j].l.length≤1048576) :
  Calls Tp 64 #[sL a n cap] X fun e w'=>∃ g,e = rT (sL (some ⟨g,0,none⟩) n n)∧St (w.heap.size+3) w' (fun W=>isR5s W (some ⟨g,0,none⟩) n n bs∧wr5 X.heap.size w'.heap.size W g n)∧Below X.heap.size X w'∧Below w.heap.size w w'∧w.heap.size+3≤w'.heap.size∧Keep3 w.heap.size X w':=by
 refine (toFrameS_any X a n cap bs (h.below hX) (by have:=h.len;omega) hd).mono ?_
 rintro e w' ⟨g,rfl,h1,h2⟩;have h1:=h1.mono hz
 exact⟨g,rfl,fun W hW=>⟨(h1 W hW).1,(h1 W hW).2⟩,h2,hX.trans (h2.mono hX.size),Nat.le_trans hz h2.size,keep3 h2 hz⟩
theorem callEventI {w X:World} (hX:Below w.heap.size w X) (hz:w.heap.size+3≤X.heap.size) {a:Option Addr} {n cap:Nat} {bs:List R8} (h:isR8s w a n cap bs) (hn:bs.length≤1048576) (hd:∀ j (h:j<bs.length),bs[j].l.length≤1048576) :
  Calls Tp 65 #[sL a n cap] X fun e w'=>∃ g,e = rT (sL (some ⟨g,0,none⟩) n n)∧St (w.heap.size+3) w' (fun W=>isR8s W (some ⟨g,0,none⟩) n n bs∧wr8 X.heap.size w'.heap.size W g n)∧Below X.heap.size X w'∧Below w.heap.size w w'∧w.heap.size+3≤w'.heap.size∧Keep3 w.heap.size X w':=by
 refine (toEventS_any X a n cap bs (h.below hX) (by have:=h.len;omega) hd).mono ?_
 rintro e w' ⟨g,rfl,h1,h2⟩;have h1:=h1.mono hz
 exact⟨g,rfl,fun W hW=>⟨(h1 W hW).1,(h1 W hW).2⟩,h2,hX.trans (h2.mono hX.size),Nat.le_trans hz h2.size,keep3 h2 hz⟩
structure ivHo (B T:Nat) (W:World) (s:Sl):Prop where
 e:∃ g1 g2 g3 g4 T1 T2 T3,s=⟨some ⟨g1,0,none⟩,s.n1,s.n1,some ⟨g2,0,none⟩,s.n2,s.n2,some ⟨g3,0,none⟩,s.n3,s.n3,some ⟨g4,0,none⟩,s.n4,s.n4⟩∧rowF W g1 (s.n1*3)∧(B≤g1∧g1<T1)∧(B≤T1∧T1≤T2∧T2≤T3∧T3≤T)∧wr8 T1 T2 W g2 s.n2∧wr5 T2 T3 W g3 s.n3∧wr8 T3 T W g4 s.n4
set_option maxRecDepth 20000 in
theorem toHost_iv (w:World) (H:Ho) (s:Sl) (h:isHo w H s) (hn:H.le 1048576) :
  Calls Tp 34 #[hoV H s] w fun o w'=>∃ s',o = rT (hoV H s')∧St w.heap.size w' (fun W=>isHo W H s'∧ivHo w.heap.size w'.heap.size W s')∧Below w.heap.size w w':=by
 have HH:Hid (isHo w H s):=h
 have HN:Hid (H.le 1048576):=hn
 clear h hn;obtain⟨c0,c1,c2,c3,fs,bx,ff,qu,lo,st⟩:=H
 obtain⟨a1,n1,k1,a2,n2,k2,a3,n3,k3,a4,n4,k4⟩:=s
 go_enter Tryz.func34,Tryz.ntmps34
 go_wp2_with (first | (go_at_call 61;refine (toConfig_any _ _ _ _ _).mono ?_;rintro o w1 ⟨rfl,hb1⟩;obtain⟨cp1,cr1,co1,fr1,fo1⟩:=keep3 (b:=w.heap.size) hb1 (by simp);have HB1:Hid (Below w.heap.size w w1):=((((Below.refl w.heap.size w).alloc (Nat.le_refl _) _).alloc (by simp) _).alloc (by simp;omega) _).trans (hb1.mono (by simp;omega));have HZ1:Hid (w.heap.size+3≤w1.heap.size):=(by have:=hb1.size;simp at this;exact this);clear hb1) | (go_at_call 62;refine (callFilter (by (repeat refine Below.setCell ?_ (by simp;try omega) _);exact HB1.out) (by simpa using HZ1.out) HH.out.fs HN.out.fs).mono ?_;rintro o w2 ⟨g2,rfl,S2,G2,X2,B2,Z2,K2⟩;have HG2:Hid (w.heap.size≤g2∧g2<w2.heap.size):=G2;clear G2;obtain⟨cp2,cr2,co2,fr2,fo2⟩:=K2;have HS2:Hid _:=S2;have HX2:Hid _:=X2;have HB2:Hid (Below w.heap.size w w2):=B2;have HZ2:Hid (w.heap.size+3≤w2.heap.size):=Z2;clear S2 X2 B2 Z2) | (go_at_call 63;refine (callBoxI (by (repeat refine Below.setCell ?_ (by simp;try omega) _);exact HB2.out) (by simpa using HZ2.out) HH.out.bx HN.out.bx HN.out.bd).mono ?_;rintro o w3 ⟨g3,rfl,S3,X3,B3,Z3,K3⟩;obtain⟨cp3,cr3,co3,fr3,fo3⟩:=K3;have HS3:Hid _:=S3;have HX3:Hid _:=X3;have HB3:Hid (Below w.heap.size w w3):=B3;have HZ3:Hid (w.heap.size+3≤w3.heap.size):=Z3;clear S3 X3 B3 Z3) | (go_at_call 64;refine (callFrameI (by (repeat refine Below.setCell ?_ (by simp;try omega) _);exact HB3.out) (by simpa using HZ3.out) HH.out.ff HN.out.ff HN.out.fd).mono ?_;rintro o w4 ⟨g4,rfl,S4,X4,B4,Z4,K4⟩;obtain⟨cp4,cr4,co4,fr4,fo4⟩:=K4;have HS4:Hid _:=S4;have HX4:Hid _:=X4;have HB4:Hid (Below w.heap.size w w4):=B4;have HZ4:Hid (w.heap.size+3≤w4.heap.size):=Z4;clear S4 X4 B4 Z4) | (go_at_call 65;refine (callEventI (by (repeat refine Below.setCell ?_ (by simp;try omega) _);exact HB4.out) (by simpa using HZ4.out) HH.out.qu HN.out.qu HN.out.qd).mono ?_;rintro o w5 ⟨g5,rfl,S5,X5,B5,Z5,K5⟩;obtain⟨cp5,cr5,co5,fr5,fo5⟩:=K5;have HS5:Hid _:=S5;have HX5:Hid _:=X5;have HB5:Hid (Below w.heap.size w w5):=B5;have HZ5:Hid (w.heap.size+3≤w5.heap.size):=Z5;clear S5 X5 B5 Z5))
 refine bodyPost_ret (v:=hoV ⟨c0,c1,c2,c3,fs,bx,ff,qu,lo,st⟩ ⟨some ⟨g2,0,none⟩,n1,n1,some ⟨g3,0,none⟩,n2,n2,some ⟨g4,0,none⟩,n3,n3,some ⟨g5,0,none⟩,n4,n4⟩) (by simp[results,Tryz.results34,go_sem,cr5,cr4,cr3,cr2,cr1]) rfl ?_
 have T2:St (w.heap.size+3) w2 (fun W=>isR3s W (some ⟨g2,0,none⟩) n1 n1 fs∧rowF W g2 (n1*3)):=HS2.out
 have T3:St (w.heap.size+3) w3 (fun W=>isR8s W (some ⟨g3,0,none⟩) n2 n2 bx∧wr8 w2.heap.size w3.heap.size W g3 n2):=by intro W hW;simpa using HS3.out W hW
 have T4:St (w.heap.size+3) w4 (fun W=>isR5s W (some ⟨g4,0,none⟩) n3 n3 ff∧wr5 w3.heap.size w4.heap.size W g4 n3):=by intro W hW;simpa using HS4.out W hW
 have R5:St (w.heap.size+3) w5 (fun W=>isR8s W (some ⟨g5,0,none⟩) n4 n4 qu∧wr8 w4.heap.size w5.heap.size W g5 n4):=by intro W hW;simpa using HS5.out W hW
 have hz2:w.heap.size≤w2.heap.size∧w2.heap.size≤w3.heap.size∧w3.heap.size≤w4.heap.size∧w4.heap.size≤w5.heap.size:=⟨HB2.out.size,by have:=HX3.out.size;simpa using this,by have:=HX4.out.size;simpa using this,by have:=HX5.out.size;simpa using this⟩
 have z3:w2.heap.size≤w3.heap.size:=by have:=HX3.out.size;simpa using this
 have z4:w3.heap.size≤w4.heap.size:=by have:=HX4.out.size;simpa using this
 have z5:w4.heap.size≤w5.heap.size:=by have:=HX5.out.size;simpa using this
 have R2:=(((((T2.set _ 4 (by omega) _).below HX3.out).set _ 5 (by omega) _).below HX4.out).set _ 6 (by omega) _).below HX5.out
 have R3:=(((T3.set _ 5 (by omega) _).below HX4.out).set _ 6 (by omega) _).below HX5.out
 have R4:=(T4.set _ 6 (by omega) _).below HX5.out
 have R:St (w.heap.size+3) w5 (fun W=>isHo W ⟨c0,c1,c2,c3,fs,bx,ff,qu,lo,st⟩ ⟨some ⟨g2,0,none⟩,n1,n1,some ⟨g3,0,none⟩,n2,n2,some ⟨g4,0,none⟩,n3,n3,some ⟨g5,0,none⟩,n4,n4⟩∧ivHo w.heap.size w5.heap.size W ⟨some ⟨g2,0,none⟩,n1,n1,some ⟨g3,0,none⟩,n2,n2,some ⟨g4,0,none⟩,n3,n3,some ⟨g5,0,none⟩,n4,n4⟩):=fun W hW=>⟨⟨(R2 W hW).1,(R3 W hW).1,(R4 W hW).1,(R5 W hW).1⟩,⟨⟨g2,g3,g4,g5,w2.heap.size,w3.heap.size,w4.heap.size,rfl,(R2 W hW).2,HG2.out,hz2,(R3 W hW).2,(R4 W hW).2,(R5 W hW).2⟩⟩⟩
 refine⟨_,rfl,St.mono ?_ (Nat.le_add_right _ 3),?_⟩
 ·repeat refine St.set ?_ _ _ (by omega) _
  simpa using R
 ·repeat refine Below.setCell ?_ (by simp;try omega) _
  exact HB5.out
theorem wr8.sh {B T:Nat} {W:World} {g n:Nat} (h:wr8 B T W g n) (hm:∀ j,j<n→∀ a m c,W.cell? ⟨g,j*8+7,none⟩=some (sL a m c)→m≤1048576):∃ hs:Nat→Hd,sh8 W g n hs∧inn B T (some ⟨g,0,none⟩) n hs:=by
 have key:∀ j,∃ x:Hd,j<n→W.cell? ⟨g,j*8+7,none⟩=some (sL x.1 x.2.1 x.2.2)∧hd W g x∧∀ b,x.1=some ⟨b,0,none⟩→B≤b∧b<T:=by
  intro j;by_cases hj:j<n
  ·obtain⟨gd,m,h1,h2,h3,h4,h5⟩:=h.dat j hj
   exact⟨(some ⟨gd,0,none⟩,m,m),fun _=>⟨h1,⟨hm j hj _ _ _ h1,Nat.le_refl _,Or.inr ⟨gd,rfl,h3,h2⟩⟩,fun b hb=>by cases hb;exact⟨h4,h5⟩⟩⟩
  ·exact⟨(none,0,0),fun e=>absurd e hj⟩
 refine⟨fun j=>Classical.choose (key j),⟨h.row,fun j hj=>⟨(Classical.choose_spec (key j) hj).1,(Classical.choose_spec (key j) hj).2.1⟩⟩,fun x hx=>?_⟩
 rcases hx with e|⟨j,hj,e⟩
 ·cases e;exact⟨h.lo,h.hi⟩
 ·exact (Classical.choose_spec (key j) hj).2.2 x e
theorem isR8s.hdr {W:World} {g n cap:Nat} {bs:List R8} (h:isR8s W (some ⟨g,0,none⟩) n cap bs) (hd:∀ j (h:j<bs.length),bs[j].l.length≤1048576):∀ j,j<n→∀ a m c,W.cell? ⟨g,j*8+7,none⟩=some (sL a m c)→m≤1048576:=by
 intro j hj a m c hc;have hl:=h.len
 obtain⟨g',off,e,hcs⟩:=h.cells (by intro e;subst e;simp at hl;omega)
 cases e
 obtain⟨ao,m',c',hat⟩:=hcs j (by omega)
 have h1:=hat.cs
 rw[Nat.zero_add,hc] at h1
 cases h1
 have h2:=hat.dat.len
 have h3:=hd j (by omega)
 omega
theorem wr5.sh {B T:Nat} {W:World} {g n:Nat} (h:wr5 B T W g n) (hm:∀ j,j<n→∀ a m c,W.cell? ⟨g,j*5+4,none⟩=some (sL a m c)→m≤1048576):∃ hs:Nat→Hd,sh5 W g n hs∧inn B T (some ⟨g,0,none⟩) n hs:=by
 have key:∀ j,∃ x:Hd,j<n→W.cell? ⟨g,j*5+4,none⟩=some (sL x.1 x.2.1 x.2.2)∧hd W g x∧∀ b,x.1=some ⟨b,0,none⟩→B≤b∧b<T:=by
  intro j;by_cases hj:j<n
  ·obtain⟨gd,m,h1,h2,h3,h4,h5⟩:=h.dat j hj
   exact⟨(some ⟨gd,0,none⟩,m,m),fun _=>⟨h1,⟨hm j hj _ _ _ h1,Nat.le_refl _,Or.inr ⟨gd,rfl,h3,h2⟩⟩,fun b hb=>by cases hb;exact⟨h4,h5⟩⟩⟩
  ·exact⟨(none,0,0),fun e=>absurd e hj⟩
 refine⟨fun j=>Classical.choose (key j),⟨h.row,fun j hj=>⟨(Classical.choose_spec (key j) hj).1,(Classical.choose_spec (key j) hj).2.1⟩⟩,fun x hx=>?_⟩
 rcases hx with e|⟨j,hj,e⟩
 ·cases e;exact⟨h.lo,h.hi⟩
 ·exact (Classical.choose_spec (key j) hj).2.2 x e
theorem isR5s.hdr {W:World} {g n cap:Nat} {bs:List R5} (h:isR5s W (some ⟨g,0,none⟩) n cap bs) (hd:∀ j (h:j<bs.length),bs[j].l.length≤1048576):∀ j,j<n→∀ a m c,W.cell? ⟨g,j*5+4,none⟩=some (sL a m c)→m≤1048576:=by
 intro j hj a m c hc;have hl:=h.len
 obtain⟨g',off,e,hcs⟩:=h.cells (by intro e;subst e;simp at hl;omega)
 cases e
 obtain⟨ao,m',c',hat⟩:=hcs j (by omega)
 have h1:=hat.cs
 rw[Nat.zero_add,hc] at h1
 cases h1
 have h2:=hat.dat.len
 have h3:=hd j (by omega)
 omega
theorem inn.mono {B T B' T':Nat} {a:Option Addr} {n:Nat} {hs:Nat→Hd} (h:inn B T a n hs) (hB:B'≤B) (hT:T≤T'):inn B' T' a n hs:=fun x hx=>by have:=h x hx;omega
theorem inn.apart {B T B' T':Nat} {a a':Option Addr} {n n':Nat} {hs hs':Nat→Hd} (h:inn B T a n hs) (h':inn B' T' a' n' hs') (hB:T≤B'):∀ x,ft a n hs x→¬ ft a' n' hs' x:=fun x h1 h2=>by have:=h x h1;have:=h' x h2;omega
theorem inn.out {B T:Nat} {a:Option Addr} {n:Nat} {hs:Nat→Hd} (h:inn B T a n hs) {x:Nat} (hx:x<B∨T≤x):¬ ft a n hs x:=fun h1=>by have:=h x h1;omega
theorem ivHo.wh {B T:Nat} {W:World} {s:Sl} {H:Ho} (h:ivHo B T W s) (hi:isHo W H s) (hn:H.le 1048576):∃ s':Wh,s=s'.sl∧whS B T W s'∧whD s':=by
 obtain⟨g1,g2,g3,g4,T1,T2,T3,e,f1,f2,f3,x2,x3,x4⟩:=h.e
 have ea2:s.a2=some ⟨g2,0,none⟩:=by rw[e]
 have ea3:s.a3=some ⟨g3,0,none⟩:=by rw[e]
 have ea4:s.a4=some ⟨g4,0,none⟩:=by rw[e]
 have m1:s.n1≤1048576:=by have:=hi.fs.len;have:=hn.fs;omega
 have m2:s.n2≤1048576:=by have:=hi.bx.len;have:=hn.bx;omega
 have m3:s.n3≤1048576:=by have:=hi.ff.len;have:=hn.ff;omega
 have m4:s.n4≤1048576:=by have:=hi.qu.len;have:=hn.qu;omega
 have y2:=hi.bx
 have y3:=hi.ff
 have y4:=hi.qu
 rw[ea2] at y2
 rw[ea3] at y3
 rw[ea4] at y4
 obtain⟨h2,s2,i2⟩:=x2.sh (y2.hdr hn.bd)
 obtain⟨h3,s3,i3⟩:=x3.sh (y3.hdr hn.fd)
 obtain⟨h4,s4,i4⟩:=x4.sh (y4.hdr hn.qd)
 refine⟨⟨g1,s.n1,s.n1,some ⟨g2,0,none⟩,s.n2,s.n2,h2,some ⟨g3,0,none⟩,s.n3,s.n3,h3,some ⟨g4,0,none⟩,s.n4,s.n4,h4⟩,e,⟨f1,Nat.le_refl _,⟨f2.1,by simp only;omega⟩,Or.inr ⟨g2,rfl,s2,Nat.le_refl _⟩,i2.mono (by omega) (by omega),Or.inr ⟨g3,rfl,s3,Nat.le_refl _⟩,i3.mono (by omega) (by omega),Or.inr ⟨g4,rfl,s4,Nat.le_refl _⟩,i4.mono (by omega) (by omega),m1,m2,m3,m4⟩,⟨i2.out (Or.inl f2.2),i3.out (Or.inl (by simp only;omega)),i4.out (Or.inl (by simp only;omega)),i2.apart i3 (Nat.le_refl _),i2.apart i4 (by omega),i3.apart i4 (Nat.le_refl _)⟩⟩
def esZ (p t r:Int):Int:=if p=7 then 2 else if 128≤t∨128≤r then 1 else 0
theorem stateOf_any (w:World) (p t r:Int) (b:Bool) (hb:b=decide (p=7)):Calls Tp 213 #[bO b,I J t,I J r] w fun o w'=>o = rT (I J (esZ p t r))∧w=w':=by
 by_cases h:p=7
 ·have HZ:Hid (esZ p t r=2):=by unfold Hid esZ;rw[if_pos h]
  have hd:b=true:=by rw[hb];simpa using h
  subst hd;clear hb h;go_enter Tryz.func213,Tryz.ntmps213
  go_wp2
  go_ret;exact⟨ret_int HZ.out.symm,rfl⟩
 ·have hd:b=false:=by rw[hb];simpa using h
  subst hd;by_cases ht:128≤max t r
  ·have HZ:Hid (esZ p t r=1):=by unfold Hid esZ;rw[if_neg h,if_pos (by omega)]
   clear hb h;have hd1:decide (128≤max t r)=true:=by simpa using ht
   go_enter Tryz.func213,Tryz.ntmps213
   go_wp2
   all_goals
    go_ret;exact⟨ret_int HZ.out.symm,rfl⟩
  ·have HZ:Hid (esZ p t r=0):=by unfold Hid esZ;rw[if_neg h,if_neg (by omega)]
   clear hb h;have hd1:decide (128≤max t r)=false:=by simpa using ht
   go_enter Tryz.func213,Tryz.ntmps213
   go_wp2
   all_goals
    go_ret;exact⟨ret_int HZ.out.symm,rfl⟩
def rLo (p:Int):Int:=if p=4 then 1 else 0
def rHi (p:Int):Int:=if p=2 then 5 else if p=3 then 15 else if p=4 then 7 else if p=5 then 2 else if p=6 then 7 else if p=7 then 10 else 0
theorem l4room_any (w:World) (p:Int):Calls Tp 47 #[I J p] w fun o w'=>o = rT (.tuple #[I J (rLo p),I J (rHi p)])∧w=w':=by
 by_cases h2:p=2
 ·subst h2;go_enter Tryz.func47,Tryz.ntmps47
  go_wp2
  go_ret2
  exact⟨rfl,rfl⟩
 by_cases h3:p=3
 ·subst h3;go_enter Tryz.func47,Tryz.ntmps47
  go_wp2
  go_ret2
  exact⟨rfl,rfl⟩
 by_cases h4:p=4
 ·subst h4;go_enter Tryz.func47,Tryz.ntmps47
  go_wp2
  go_ret2
  exact⟨rfl,rfl⟩
 by_cases h5:p=5
 ·subst h5;go_enter Tryz.func47,Tryz.ntmps47
  go_wp2
  go_ret2
  exact⟨rfl,rfl⟩
 by_cases h6:p=6
 ·subst h6;go_enter Tryz.func47,Tryz.ntmps47
  go_wp2
  go_ret2
  exact⟨rfl,rfl⟩
 by_cases h7:p=7
 ·subst h7;go_enter Tryz.func47,Tryz.ntmps47
  go_wp2
  go_ret2
  exact⟨rfl,rfl⟩
 have HZ:Hid (rLo p=0∧rHi p=0):=by unfold Hid rLo rHi;rw[if_neg h4,if_neg h2,if_neg h3,if_neg h4,if_neg h5,if_neg h6,if_neg h7];exact⟨rfl,rfl⟩
 have e2:(p == 2)=false:=by simpa using h2
 have e3:(p == 3)=false:=by simpa using h3
 have e4:(p == 4)=false:=by simpa using h4
 have e5:(p == 5)=false:=by simpa using h5
 have e6:(p == 6)=false:=by simpa using h6
 have e7:(p == 7)=false:=by simpa using h7
 clear h2 h3 h4 h5 h6 h7;go_enter Tryz.func47,Tryz.ntmps47
 go_wp2
 go_ret2
 exact⟨by rw[HZ.out.1,HZ.out.2];rfl,rfl⟩
end Go.Proofs.YtbllefckefhpoaaGreat
