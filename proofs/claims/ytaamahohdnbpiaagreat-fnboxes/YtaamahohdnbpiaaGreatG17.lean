import Derived.Test.YtaamahohdnbpiaaGreatG12
import Derived.Test.YtaamahohdnbpiaaGreatG01
namespace Go.Proofs.YtaamahohdnbpiaaGreat
open Go.RowKit
set_option linter.unusedVariables false
def ft (a:Option Addr) (n:Nat) (hs:Nat→Hd) (x:Nat):Prop:=a=some ⟨x,0,none⟩∨∃ j,j<n∧(hs j).1=some ⟨x,0,none⟩
def inn (B T:Nat) (a:Option Addr) (n:Nat) (hs:Nat→Hd):Prop:=∀ x,ft a n hs x→B≤x∧x<T
def sx8 (W:World) (a:Option Addr) (n cap:Nat) (hs:Nat→Hd):Prop:=(a=none∧n=0∧cap=0)∨∃ g,a=some ⟨g,0,none⟩∧sh8 W g n hs∧n≤cap
def sx5 (W:World) (a:Option Addr) (n cap:Nat) (hs:Nat→Hd):Prop:=(a=none∧n=0∧cap=0)∨∃ g,a=some ⟨g,0,none⟩∧sh5 W g n hs∧n≤cap
def mks8 (W:World) (a:Option Addr) (n c:Nat) (hs:Nat→Hd):Prop:=∀ g,a=some ⟨g,0,none⟩→∀ j,j<n→mk8 W g (j*8) (cn8 c hs j) (hs j)
def mks5 (W:World) (a:Option Addr) (n c:Nat) (hs:Nat→Hd):Prop:=∀ g,a=some ⟨g,0,none⟩→∀ j,j<n→mk5 W g (j*5) (cn5 c hs j) (hs j)
theorem mks8.up {W W':World} {a:Option Addr} {n c:Nat} {hs:Nat→Hd} (h:mks8 W a n c hs) (he:∀ x,ft a n hs x→W'.heap[x]?=W.heap[x]?):mks8 W' a n c hs:=fun g e j hj=>(h g e j hj).up (he g (Or.inl e)) (fun b hb=>he b (Or.inr ⟨j,hj,hb⟩))
theorem mks5.up {W W':World} {a:Option Addr} {n c:Nat} {hs:Nat→Hd} (h:mks5 W a n c hs) (he:∀ x,ft a n hs x→W'.heap[x]?=W.heap[x]?):mks5 W' a n c hs:=fun g e j hj=>(h g e j hj).up (he g (Or.inl e)) (fun b hb=>he b (Or.inr ⟨j,hj,hb⟩))
theorem hd.same {W W':World} {g:Nat} {h:Hd} (H:hd W g h) (he:∀ b,h.1=some ⟨b,0,none⟩→W'.heap[b]?=W.heap[b]?):hd W' g h:=by
 obtain⟨h1,h2,h3⟩:=H
 refine⟨h1,h2,?_⟩
 rcases h3 with h3|⟨b,e,hn,hf⟩
 ·exact Or.inl h3
 ·exact Or.inr ⟨b,e,hn,hf.up (he b e)⟩
theorem sh8.same {W W':World} {g n:Nat} {hs:Nat→Hd} (h:sh8 W g n hs) (he:∀ x,ft (some ⟨g,0,none⟩) n hs x→W'.heap[x]?=W.heap[x]?):sh8 W' g n hs:=
 ⟨h.row.up (he g (Or.inl rfl)),fun j hj=>⟨cell_up (h.dat j hj).1 (he g (Or.inl rfl)),(h.dat j hj).2.same fun b hb=>he b (Or.inr ⟨j,hj,hb⟩)⟩⟩
theorem sh5.same {W W':World} {g n:Nat} {hs:Nat→Hd} (h:sh5 W g n hs) (he:∀ x,ft (some ⟨g,0,none⟩) n hs x→W'.heap[x]?=W.heap[x]?):sh5 W' g n hs:=
 ⟨h.row.up (he g (Or.inl rfl)),fun j hj=>⟨cell_up (h.dat j hj).1 (he g (Or.inl rfl)),(h.dat j hj).2.same fun b hb=>he b (Or.inr ⟨j,hj,hb⟩)⟩⟩
theorem sx8.same {W W':World} {a:Option Addr} {n cap:Nat} {hs:Nat→Hd} (h:sx8 W a n cap hs) (he:∀ x,ft a n hs x→W'.heap[x]?=W.heap[x]?):sx8 W' a n cap hs:=by
 rcases h with h|⟨g,e,h1,h2⟩
 ·exact Or.inl h
 ·subst e;exact Or.inr ⟨g,rfl,h1.same he,h2⟩
theorem sx5.same {W W':World} {a:Option Addr} {n cap:Nat} {hs:Nat→Hd} (h:sx5 W a n cap hs) (he:∀ x,ft a n hs x→W'.heap[x]?=W.heap[x]?):sx5 W' a n cap hs:=by
 rcases h with h|⟨g,e,h1,h2⟩
 ·exact Or.inl h
 ·subst e;exact Or.inr ⟨g,rfl,h1.same he,h2⟩
structure Wh where
 g1:Nat
 n1:Nat
 k1:Nat
 a2:Option Addr
 n2:Nat
 k2:Nat
 h2:Nat→Hd
 a3:Option Addr
 n3:Nat
 k3:Nat
 h3:Nat→Hd
 a4:Option Addr
 n4:Nat
 k4:Nat
 h4:Nat→Hd
abbrev Wh.sl (s:Wh):Sl:=⟨some ⟨s.g1,0,none⟩,s.n1,s.k1,s.a2,s.n2,s.k2,s.a3,s.n3,s.k3,s.a4,s.n4,s.k4⟩
structure whS (B T:Nat) (W:World) (s:Wh):Prop where
 f:rowF W s.g1 (s.n1*3)
 fc:s.n1≤s.k1
 fb:B≤s.g1∧s.g1<T
 x:sx8 W s.a2 s.n2 s.k2 s.h2
 xb:inn B T s.a2 s.n2 s.h2
 r:sx5 W s.a3 s.n3 s.k3 s.h3
 rb:inn B T s.a3 s.n3 s.h3
 q:sx8 W s.a4 s.n4 s.k4 s.h4
 qb:inn B T s.a4 s.n4 s.h4
 m1:s.n1≤1048576
 m2:s.n2≤1048576
 m3:s.n3≤1048576
 m4:s.n4≤1048576
theorem whS.same {B T:Nat} {W W':World} {s:Wh} (h:whS B T W s) (he:∀ x,B≤x→x<T→W'.heap[x]?=W.heap[x]?):whS B T W' s:=
 ⟨h.f.up (he _ h.fb.1 h.fb.2),h.fc,h.fb,h.x.same (fun x hx=>he x (h.xb x hx).1 (h.xb x hx).2),h.xb,h.r.same (fun x hx=>he x (h.rb x hx).1 (h.rb x hx).2),h.rb,h.q.same (fun x hx=>he x (h.qb x hx).1 (h.qb x hx).2),h.qb,h.m1,h.m2,h.m3,h.m4⟩
structure whD (s:Wh):Prop where
 s12:¬ ft s.a2 s.n2 s.h2 s.g1
 s13:¬ ft s.a3 s.n3 s.h3 s.g1
 s14:¬ ft s.a4 s.n4 s.h4 s.g1
 s23:∀ x,ft s.a2 s.n2 s.h2 x→¬ ft s.a3 s.n3 s.h3 x
 s24:∀ x,ft s.a2 s.n2 s.h2 x→¬ ft s.a4 s.n4 s.h4 x
 s34:∀ x,ft s.a3 s.n3 s.h3 x→¬ ft s.a4 s.n4 s.h4 x
def Wh.c1 (s:Wh) (c:Nat):Nat:=c+3*s.n1
def Wh.c2 (s:Wh) (c:Nat):Nat:=cn8 (s.c1 c) s.h2 s.n2
def Wh.c3 (s:Wh) (c:Nat):Nat:=cn5 (s.c2 c) s.h3 s.n3
def Wh.c4 (s:Wh) (c:Nat):Nat:=cn8 (s.c3 c) s.h4 s.n4
structure whE (s:Wh):Prop where
 d2:dst s.h2 s.n2
 d3:dst s.h3 s.n3
 d4:dst s.h4 s.n4
structure whM (W:World) (s:Wh) (c:Nat):Prop where
 f:∀ j,j<s.n1→at3 W s.g1 (j*3) (mkF (c+3*j))
 x:mks8 W s.a2 s.n2 (s.c1 c) s.h2
 r:mks5 W s.a3 s.n3 (s.c2 c) s.h3
 q:mks8 W s.a4 s.n4 (s.c3 c) s.h4
theorem sx8.bd {W:World} {a:Option Addr} {n cap:Nat} {hs:Nat→Hd} (h:sx8 W a n cap hs):∀ j,j<n→(hs j).2.1≤1048576:=by
 rcases h with⟨_,e,_⟩|⟨g,_,h,_⟩
 ·intro j hj;omega
 ·intro j hj;exact (h.dat j hj).2.1
theorem sx5.bd {W:World} {a:Option Addr} {n cap:Nat} {hs:Nat→Hd} (h:sx5 W a n cap hs):∀ j,j<n→(hs j).2.1≤1048576:=by
 rcases h with⟨_,e,_⟩|⟨g,_,h,_⟩
 ·intro j hj;omega
 ·intro j hj;exact (h.dat j hj).2.1
theorem whS.c1 {B T:Nat} {W:World} {s:Wh} (h:whS B T W s) {c:Nat} (hc:c≤1000):s.c1 c≤4000000:=by have:=h.m1;unfold Wh.c1;omega
theorem whS.c2 {B T:Nat} {W:World} {s:Wh} (h:whS B T W s) {c:Nat} (hc:c≤1000):s.c2 c≤2000000000000:=by
 have h1:=h.c1 hc
 have h2:=cn8_le (s.c1 c) s.n2 s.h2 h.x.bd s.n2 (Nat.le_refl _)
 have h3:=h.m2
 unfold Wh.c2
 omega
theorem whS.c3 {B T:Nat} {W:World} {s:Wh} (h:whS B T W s) {c:Nat} (hc:c≤1000):s.c3 c≤4000000000000:=by
 have h1:=h.c2 hc
 have h2:=cn5_le (s.c2 c) s.n3 s.h3 h.r.bd s.n3 (Nat.le_refl _)
 have h3:=h.m3
 unfold Wh.c3
 omega
theorem whS.c4 {B T:Nat} {W:World} {s:Wh} (h:whS B T W s) {c:Nat} (hc:c≤1000):s.c4 c≤6000000000000:=by
 have h1:=h.c3 hc
 have h2:=cn8_le (s.c3 c) s.n4 s.h4 h.q.bd s.n4 (Nat.le_refl _)
 have h3:=h.m4
 unfold Wh.c4
 omega
theorem whM.same {B T:Nat} {W W':World} {s:Wh} {c:Nat} (h:whM W s c) (hs:whS B T W s) (he:∀ x,B≤x→x<T→W'.heap[x]?=W.heap[x]?):whM W' s c:=
 ⟨fun j hj=>(h.f j hj).up (he _ hs.fb.1 hs.fb.2),h.x.up (fun x hx=>he x (hs.xb x hx).1 (hs.xb x hx).2),h.r.up (fun x hx=>he x (hs.rb x hx).1 (hs.rb x hx).2),h.q.up (fun x hx=>he x (hs.qb x hx).1 (hs.qb x hx).2)⟩
theorem wr8.sh {B T:Nat} {W:World} {g n:Nat} (h:wr8 B T W g n) (hm:∀ j,j<n→∀ a m c,W.cell? ⟨g,j*8+7,none⟩=some (.slice a m c)→m≤1048576):∃ hs:Nat→Hd,sh8 W g n hs∧inn B T (some ⟨g,0,none⟩) n hs:=by
 have key:∀ j,∃ x:Hd,j<n→W.cell? ⟨g,j*8+7,none⟩=some (.slice x.1 x.2.1 x.2.2)∧hd W g x∧∀ b,x.1=some ⟨b,0,none⟩→B≤b∧b<T:=by
  intro j;by_cases hj:j<n
  ·obtain⟨gd,m,h1,h2,h3,h4,h5⟩:=h.dat j hj
   exact⟨(some ⟨gd,0,none⟩,m,m),fun _=>⟨h1,⟨hm j hj _ _ _ h1,Nat.le_refl _,Or.inr ⟨gd,rfl,h3,h2⟩⟩,fun b hb=>by cases hb;exact⟨h4,h5⟩⟩⟩
  ·exact⟨(none,0,0),fun e=>absurd e hj⟩
 refine⟨fun j=>Classical.choose (key j),⟨h.row,fun j hj=>⟨(Classical.choose_spec (key j) hj).1,(Classical.choose_spec (key j) hj).2.1⟩⟩,fun x hx=>?_⟩
 rcases hx with e|⟨j,hj,e⟩
 ·cases e;exact⟨h.lo,h.hi⟩
 ·exact (Classical.choose_spec (key j) hj).2.2 x e
theorem isR8s.hdr {W:World} {g n cap:Nat} {bs:List R8} (h:isR8s W (some ⟨g,0,none⟩) n cap bs) (hd:∀ j (h:j<bs.length),bs[j].l.length≤1048576):∀ j,j<n→∀ a m c,W.cell? ⟨g,j*8+7,none⟩=some (.slice a m c)→m≤1048576:=by
 intro j hj a m c hc;have hl:=h.len
 obtain⟨g',off,e,hcs⟩:=h.cells (by intro e;subst e;simp at hl;omega)
 cases e
 obtain⟨ao,m',c',hat⟩:=hcs j (by omega)
 have h1:=hat.cs
 rw[Nat.zero_add,hc] at h1
 cases h1
 have h2:=hat.dat.len
 have h3:=hd j (by omega)
 omega
theorem wr5.sh {B T:Nat} {W:World} {g n:Nat} (h:wr5 B T W g n) (hm:∀ j,j<n→∀ a m c,W.cell? ⟨g,j*5+4,none⟩=some (.slice a m c)→m≤1048576):∃ hs:Nat→Hd,sh5 W g n hs∧inn B T (some ⟨g,0,none⟩) n hs:=by
 have key:∀ j,∃ x:Hd,j<n→W.cell? ⟨g,j*5+4,none⟩=some (.slice x.1 x.2.1 x.2.2)∧hd W g x∧∀ b,x.1=some ⟨b,0,none⟩→B≤b∧b<T:=by
  intro j;by_cases hj:j<n
  ·obtain⟨gd,m,h1,h2,h3,h4,h5⟩:=h.dat j hj
   exact⟨(some ⟨gd,0,none⟩,m,m),fun _=>⟨h1,⟨hm j hj _ _ _ h1,Nat.le_refl _,Or.inr ⟨gd,rfl,h3,h2⟩⟩,fun b hb=>by cases hb;exact⟨h4,h5⟩⟩⟩
  ·exact⟨(none,0,0),fun e=>absurd e hj⟩
 refine⟨fun j=>Classical.choose (key j),⟨h.row,fun j hj=>⟨(Classical.choose_spec (key j) hj).1,(Classical.choose_spec (key j) hj).2.1⟩⟩,fun x hx=>?_⟩
 rcases hx with e|⟨j,hj,e⟩
 ·cases e;exact⟨h.lo,h.hi⟩
 ·exact (Classical.choose_spec (key j) hj).2.2 x e
theorem isR5s.hdr {W:World} {g n cap:Nat} {bs:List R5} (h:isR5s W (some ⟨g,0,none⟩) n cap bs) (hd:∀ j (h:j<bs.length),bs[j].l.length≤1048576):∀ j,j<n→∀ a m c,W.cell? ⟨g,j*5+4,none⟩=some (.slice a m c)→m≤1048576:=by
 intro j hj a m c hc;have hl:=h.len
 obtain⟨g',off,e,hcs⟩:=h.cells (by intro e;subst e;simp at hl;omega)
 cases e
 obtain⟨ao,m',c',hat⟩:=hcs j (by omega)
 have h1:=hat.cs
 rw[Nat.zero_add,hc] at h1
 cases h1
 have h2:=hat.dat.len
 have h3:=hd j (by omega)
 omega
theorem inn.mono {B T B' T':Nat} {a:Option Addr} {n:Nat} {hs:Nat→Hd} (h:inn B T a n hs) (hB:B'≤B) (hT:T≤T'):inn B' T' a n hs:=fun x hx=>by have:=h x hx;omega
theorem inn.out {B T:Nat} {a:Option Addr} {n:Nat} {hs:Nat→Hd} (h:inn B T a n hs) {x:Nat} (hx:x<B∨T≤x):¬ ft a n hs x:=fun h1=>by have:=h x h1;omega
end Go.Proofs.YtaamahohdnbpiaaGreat
