import Derived.Test.YtkfcfigbgmbaiaaGreatK14
import Derived.Test.YtkfcfigbgmbaiaaGreatK10
namespace Go.Proofs.YtkfcfigbgmbaiaaGreat
set_option maxRecDepth 40000
open Go.RowKit
set_option linter.unusedVariables false
set_option maxHeartbeats 16000000
open Go.Value renaming int→I,slice→sL,bool→bO,pointer→pT,agg→aG
open Go.IntKind renaming i64→J
open Go.Ending renaming returned→rT
open Go.Proofs.Tryz renaming prog→Tp
structure whB (w:World) (T:Ho) (s1 s2:Sl) (W:World):Prop where
 p:blk W w.heap.size (hoL T s1) 39
 q:blk W (w.heap.size+1) (hoL T s2) 39
 b:Below w.heap.size w W
theorem whB.below {w:World} {T:Ho} {s1 s2:Sl} {W W':World} (h:whB w T s1 s2 W) (hb:Below W.heap.size W W'):whB w T s1 s2 W':=⟨h.p.below hb,h.q.below hb,h.b.trans (hb.mono h.b.size)⟩
theorem whB.new (w:World) (T:Ho) (s1 s2:Sl):whB w T s1 s2 ((w.alloc (.cells (hoL T s1).toArray 39)).alloc (.cells (hoL T s2).toArray 39)):=by
 refine⟨(blk.new w _ 39).alloc _,?_,((bW _ _).alloc (nR _) _).alloc (by simp) _⟩
 have:=blk.new (w.alloc (.cells (hoL T s1).toArray 39)) (hoL T s2) 39
 have e:(w.alloc (.cells (hoL T s1).toArray 39)).heap.size=w.heap.size+1:=by simp
 rw[e] at this
 exact this
theorem hoL_cf (T:Ho) (s:Sl):hoL T s=[]++[I J T.c0,I J T.c1,I J T.c2,I J T.c3]++[sL s.a1 s.n1 s.k1,sL s.a2 s.n2 s.k2,sL s.a3 s.n3 s.k3,sL s.a4 s.n4 s.k4,I J T.lo,I J T.st]:=rfl
theorem sz33c:(Tp.info? 33).map (·.size)=some 4:=by kernel_rfl
theorem wHost_same (w:World) (T:Ho) (s1 s2:Sl) (h1:isHo w T s1) (h2:isHo w T s2) (hn:T.le 1048576) :
  Calls Tp 69 #[aG (hoL T s1).toArray,aG (hoL T s2).toArray] w fun o w'=>o = rT (bO true)∧Below w.heap.size w w':=by
 have H0:Hid (whB w T s1 s2 ((w.alloc (.cells (hoL T s1).toArray 39)).alloc (.cells (hoL T s2).toArray 39))):=whB.new w T s1 s2
 have HI:Hid (isHo w T s1∧isHo w T s2∧T.le 1048576):=⟨h1,h2,hn⟩
 have e1:s2.n1=s1.n1:=by have:=h1.fs.len;have:=h2.fs.len;omega
 have e2:s2.n2=s1.n2:=by have:=h1.bx.len;have:=h2.bx.len;omega
 have e3:s2.n3=s1.n3:=by have:=h1.ff.len;have:=h2.ff.len;omega
 have e4:s2.n4=s1.n4:=by have:=h1.qu.len;have:=h2.qu.len;omega
 have HX:Hid (∀ X,whB w T s1 s2 X→(X.cell? ⟨w.heap.size,4,none⟩=some (sL s1.a1 s1.n1 s1.k1)∧X.cell? ⟨w.heap.size+1,4,none⟩=some (sL s2.a1 s1.n1 s2.k1))∧(X.cell? ⟨w.heap.size,5,none⟩=some (sL s1.a2 s1.n2 s1.k2)∧X.cell? ⟨w.heap.size+1,5,none⟩=some (sL s2.a2 s1.n2 s2.k2))∧(X.cell? ⟨w.heap.size,6,none⟩=some (sL s1.a3 s1.n3 s1.k3)∧X.cell? ⟨w.heap.size+1,6,none⟩=some (sL s2.a3 s1.n3 s2.k3))∧X.cell? ⟨w.heap.size,7,none⟩=some (sL s1.a4 s1.n4 s1.k4)∧X.cell? ⟨w.heap.size+1,7,none⟩=some (sL s2.a4 s1.n4 s2.k4)):=fun X hX=>by
  have r:=fun i v h=>hX.p.cell i v h
  have q:=fun i v h=>hX.q.cell i v h
  rw[← e1,← e2,← e3,← e4]
  exact⟨⟨by rw[e1];exact r 4 _ rfl,q 4 _ rfl⟩,⟨by rw[e2];exact r 5 _ rfl,q 5 _ rfl⟩,⟨by rw[e3];exact r 6 _ rfl,q 6 _ rfl⟩,by rw[e4];exact r 7 _ rfl,q 7 _ rfl⟩
 have HR1:Hid (((w.alloc (.cells (hoL T s1).toArray 39)).alloc (.cells (hoL T s2).toArray 39)).rangeAt w.heap.size 0 [I J T.c0,I J T.c1,I J T.c2,I J T.c3]):=blk.loadAt [] [I J T.c0,I J T.c1,I J T.c2,I J T.c3] _ (by rw[← hoL_cf];exact H0.out.p)
 have HR2:Hid (((w.alloc (.cells (hoL T s1).toArray 39)).alloc (.cells (hoL T s2).toArray 39)).rangeAt (w.heap.size+1) 0 [I J T.c0,I J T.c1,I J T.c2,I J T.c3]):=blk.loadAt [] [I J T.c0,I J T.c1,I J T.c2,I J T.c3] _ (by rw[← hoL_cf];exact H0.out.q)
 obtain⟨⟨p4,q4⟩,⟨p5,q5⟩,⟨p6,q6⟩,p7,q7⟩:=HX.out _ H0.out
 have p8:=H0.out.p.cell 8 _ (by unfold hoL;rfl)
 have p9:=H0.out.p.cell 9 _ (by unfold hoL;rfl)
 have q8:=H0.out.q.cell 8 _ (by unfold hoL;rfl)
 have q9:=H0.out.q.cell 9 _ (by unfold hoL;rfl)
 have HK:Hid ((s1.n1=T.fs.length∧s1.n1≤s1.k1∧s1.n1≤s2.k1)∧(s1.n2=T.bx.length∧s1.n2≤s1.k2∧s1.n2≤s2.k2)∧(s1.n3=T.ff.length∧s1.n3≤s1.k3∧s1.n3≤s2.k3)∧s1.n4=T.qu.length∧s1.n4≤s1.k4∧s1.n4≤s2.k4):=by
  have:=h1.fs.len;have:=h1.fs.cap;have:=h2.fs.cap
  have:=h1.bx.len;have:=h1.bx.cap;have:=h2.bx.cap
  have:=h1.ff.len;have:=h1.ff.cap;have:=h2.ff.cap
  have:=h1.qu.len;have:=h1.qu.cap;have:=h2.qu.cap
  exact⟨⟨by omega,by omega,by omega⟩,⟨by omega,by omega,by omega⟩,⟨by omega,by omega,by omega⟩,by omega,by omega,by omega⟩
 clear h1 h2 hn e1 e2 e3 e4;go_enter Tryz.func69,Tryz.ntmps69
 go_wp2_with (first
  | (refine wpList_load_mid (P:=Tp) rfl 33 _ rfl w.heap.size 0 rfl [I J T.c0,I J T.c1,I J T.c2,I J T.c3] _ HR1.out Tryz.underlying33 rfl sz33c ?_)
  | (refine wpList_load_mid (P:=Tp) rfl 33 _ rfl (w.heap.size+1) 0 rfl [I J T.c0,I J T.c1,I J T.c2,I J T.c3] _ HR2.out Tryz.underlying33 rfl sz33c ?_))
 clear HR1 HR2 p4 p5 p6 p7 p8 p9 q4 q5 q6 q7 q8 q9;generalize ((w.alloc (.cells (hoL T s1).toArray 39)).alloc (.cells (hoL T s2).toArray 39))=vA at *;go_loopw [5] (fun t wr=>∃ i:Nat,i≤s1.n1∧t = I J (i:Int)∧whB w T s1 s2 wr) (fun t _=>s1.n1-(intOf t).toNat)
 case atStart=>exact⟨0,nZ _,rfl,H0.out⟩
 case round=>
  clear H0;obtain⟨i,hi,rfl,hB⟩:=hrel
  have HBW:Hid (whB w T s1 s2 wr):=hB
  clear hB;obtain⟨x1,z1⟩:=(HX.out wr HBW.out).1
  by_cases hlt:i<s1.n1
  ·have hil:i<T.fs.length:=by have:=HK.out.1;omega
   obtain⟨g1,o1,ea1,hc1⟩:=HI.out.1.fs.cells (by intro e;rw[e] at hil;exact absurd hil (nN _))
   obtain⟨g2,o2,ea2,hc2⟩:=HI.out.2.1.fs.cells (by intro e;rw[e] at hil;exact absurd hil (nN _))
   obtain⟨c0,c1,c2⟩:=(hc1 i hil).below HBW.out.b
   obtain⟨d0,d1,d2⟩:=(hc2 i hil).below HBW.out.b
   rw[ea1] at x1
   rw[ea2] at z1
   generalize T.fs[i]=b at *;clear hc1 hc2 ea1 ea2;have hk1:=HK.out.1.2.1
   have hk2:=HK.out.1.2.2
   have hm:s1.n1≤1048576:=by have:=HI.out.2.2.fs;have:=HK.out.1.1;omega
   go_wp2
   go_quiet (fail)
   go_wp2_with fail;go_roundw
   case rel=>exact⟨i+1,by omega,by go_num,HBW.out.below (below_drewN (bW _ _) _)⟩
   case measure=>simp[intOf];omega
  ·have hin:i=s1.n1:=by omega
   subst hin;go_wp2_with fail;clear x1 z1 hi hlt;go_loopw [6] (fun t wr=>∃ i:Nat,i≤s1.n2∧t = I J (i:Int)∧whB w T s1 s2 wr) (fun t _=>s1.n2-(intOf t).toNat)
   case atStart=>exact⟨0,nZ _,rfl,HBW.out⟩
   case round=>
    clear HBW;obtain⟨i,hi,rfl,hB⟩:=hrel
    have HBW:Hid (whB w T s1 s2 wr):=hB
    clear hB;obtain⟨x1,z1⟩:=(HX.out wr HBW.out).2.1
    by_cases hlt:i<s1.n2
    ·have hil:i<T.bx.length:=by have:=HK.out.2.1;omega
     obtain⟨g1,o1,ea1,hc1⟩:=HI.out.1.bx.cells (by intro e;rw[e] at hil;exact absurd hil (nN _))
     obtain⟨g2,o2,ea2,hc2⟩:=HI.out.2.1.bx.cells (by intro e;rw[e] at hil;exact absurd hil (nN _))
     obtain⟨a1,m1,k1,hat1⟩:=hc1 i hil
     obtain⟨a2,m2,k2,hat2⟩:=hc2 i hil
     have HLE:Hid (T.bx[i].l.length≤1048576):=HI.out.2.2.bd i hil
     have hm1:=hat1.dat.len
     have hm2:=hat2.dat.len
     rw[ea1] at x1
     have HZ:Hid (∀ X,whB w T s1 s2 X→X.cell? ⟨w.heap.size+1,5,none⟩=some (sL (some ⟨g2,o2,none⟩) s1.n2 s2.k2)):=fun X hX=>by have:=(HX.out X hX).2.1.2;rw[ea2] at this;exact this
     generalize T.bx[i]=b at *;subst hm1 hm2;have HAT:Hid (at8 w g1 (o1+i*8) b a1 b.l.length k1∧at8 w g2 (o2+i*8) b a2 b.l.length k2):=⟨hat1,hat2⟩
     clear hc1 hc2 ea1 ea2 hat1 hat2 z1;have hk1:=HK.out.2.1.2.1
     have hk2:=HK.out.2.1.2.2
     have hm:s1.n2≤1048576:=by have:=HI.out.2.2.bx;have:=HK.out.2.1.1;omega
     have HWF:Hid (∀ X,Below w.heap.size w X→Calls Tp 133 #[frV b.e b.i b.r b.d a1 b.l.length k1,frV b.e b.i b.r b.d a2 b.l.length k2] X fun o w'=>o = rT (bO true)∧Below X.heap.size X w'):=fun X hX=>wFrame_same X _ _ _ _ _ _ _ _ (HAT.out.1.below hX).dat _ _ (HAT.out.2.below hX).dat HLE.out
     obtain⟨c0,c1,c2,c3,c4,c5,c6,c7,_⟩:=HAT.out.1.below HBW.out.b
     go_upto_region 12 with fail
     have HB2:Hid (whB w T s1 s2 (wr.alloc (.cells (l8 b a1 b.l.length k1).toArray 166))):=HBW.out.below ((bW _ _).alloc (nR _) _)
     have HP2:Hid (blk (wr.alloc (.cells (l8 b a1 b.l.length k1).toArray 166)) wr.heap.size (l8 b a1 b.l.length k1) 166):=blk.new wr _ 166
     generalize wr.alloc _=w2 at *;generalize wr.heap.size=P at *;have z1:=HZ.out w2 HB2.out
     obtain⟨d0,d1,d2,d3,d4,d5,d6,d7,_⟩:=HAT.out.2.below HB2.out.b
     clear x1 c0 c1 c2 c3 c4 c5 c6 c7 HBW;go_upto_region 13 with fail
     have HB3:Hid (whB w T s1 s2 (w2.alloc (.cells (l8 b a2 b.l.length k2).toArray 166))):=HB2.out.below ((bW _ _).alloc (nR _) _)
     have HP3:Hid (blk (w2.alloc (.cells (l8 b a2 b.l.length k2).toArray 166)) P (l8 b a1 b.l.length k1) 166∧blk (w2.alloc (.cells (l8 b a2 b.l.length k2).toArray 166)) w2.heap.size (l8 b a2 b.l.length k2) 166):=⟨HP2.out.alloc _,blk.new w2 _ 166⟩
     generalize w2.alloc _=w3 at *;generalize w2.heap.size=P2 at *;have y0:=HP3.out.1.cell 0 _ rfl
     have y1:=HP3.out.1.cell 1 _ rfl
     have y2:=HP3.out.1.cell 2 _ rfl
     have t0:=HP3.out.2.cell 0 _ rfl
     have t1:=HP3.out.2.cell 1 _ rfl
     have t2:=HP3.out.2.cell 2 _ rfl
     have HF1:Hid (w3.rangeAt P 3 [bO b.e,I .u32 (b.i:Int),bO b.r,I J b.d,sL a1 b.l.length k1]):=blk.loadAt [I J b.x,I J b.y,I J b.z] [bO b.e,I .u32 (b.i:Int),bO b.r,I J b.d,sL a1 b.l.length k1] [] HP3.out.1
     have HF2:Hid (w3.rangeAt P2 3 [bO b.e,I .u32 (b.i:Int),bO b.r,I J b.d,sL a2 b.l.length k2]):=blk.loadAt [I J b.x,I J b.y,I J b.z] [bO b.e,I .u32 (b.i:Int),bO b.r,I J b.d,sL a2 b.l.length k2] [] HP3.out.2
     clear z1 d0 d1 d2 d3 d4 d5 d6 d7;go_wp2_with (first
      | (refine wpList_load_midG (by first | rfl | (simp[Region.wanted,yielded];done) | (simp[Region.wanted,yielded];omega)) 55 _ rfl P 3 rfl [bO b.e,I .u32 (b.i:Int),bO b.r,I J b.d,sL a1 b.l.length k1] _ HF1.out Tryz.underlying55 rfl sz93 ?_)
      | (refine wpList_load_midG (by first | rfl | (simp[Region.wanted,yielded];done) | (simp[Region.wanted,yielded];omega)) 55 _ rfl P2 3 rfl [bO b.e,I .u32 (b.i:Int),bO b.r,I J b.d,sL a2 b.l.length k2] _ HF2.out Tryz.underlying55 rfl sz93 ?_))
     refine (HWF.out w3 HB3.out.b).mono ?_
     rintro o w4 ⟨rfl,hb4⟩;have HE4:Hid (whB w T s1 s2 w4):=HB3.out.below hb4
     clear hb4 HB3 HB2 y0 y1 y2 t0 t1 t2 HF1 HF2 HP2 HP3;go_wp2_with fail;go_roundw
     case rel=>exact⟨i+1,by omega,by go_num,HE4.out⟩
     case measure=>simp[intOf];omega
    ·have hin:i=s1.n2:=by omega
     subst hin;go_wp2_with fail;clear x1 z1 hi hlt;go_loopw [9] (fun t wr=>∃ i:Nat,i≤s1.n3∧t = I J (i:Int)∧whB w T s1 s2 wr) (fun t _=>s1.n3-(intOf t).toNat)
     case atStart=>exact⟨0,nZ _,rfl,HBW.out⟩
     case round=>
      clear HBW;obtain⟨i,hi,rfl,hB⟩:=hrel
      have HBW:Hid (whB w T s1 s2 wr):=hB
      clear hB;obtain⟨x1,z1⟩:=(HX.out wr HBW.out).2.2.1
      by_cases hlt:i<s1.n3
      ·have hil:i<T.ff.length:=by have:=HK.out.2.2.1;omega
       obtain⟨g1,o1,ea1,hc1⟩:=HI.out.1.ff.cells (by intro e;rw[e] at hil;exact absurd hil (nN _))
       obtain⟨g2,o2,ea2,hc2⟩:=HI.out.2.1.ff.cells (by intro e;rw[e] at hil;exact absurd hil (nN _))
       obtain⟨a1,m1,k1,hat1⟩:=hc1 i hil
       obtain⟨a2,m2,k2,hat2⟩:=hc2 i hil
       have HLE:Hid (T.ff[i].l.length≤1048576):=HI.out.2.2.fd i hil
       have hm1:=hat1.dat.len
       have hm2:=hat2.dat.len
       have HZ:Hid (∀ X,whB w T s1 s2 X→X.cell? ⟨w.heap.size,6,none⟩=some (sL (some ⟨g1,o1,none⟩) s1.n3 s1.k3)∧X.cell? ⟨w.heap.size+1,6,none⟩=some (sL (some ⟨g2,o2,none⟩) s1.n3 s2.k3)):=fun X hX=>by have:=(HX.out X hX).2.2.1;rw[ea1,ea2] at this;exact this
       rw[ea1] at x1
       generalize T.ff[i]=b at *;subst hm1 hm2;have HAT:Hid (at5 w g1 (o1+i*5) b a1 b.l.length k1∧at5 w g2 (o2+i*5) b a2 b.l.length k2):=⟨hat1,hat2⟩
       clear hc1 hc2 ea1 ea2 hat1 hat2 z1;have hk1:=HK.out.2.2.1.2.1
       have hk2:=HK.out.2.2.1.2.2
       have hm:s1.n3≤1048576:=by have:=HI.out.2.2.ff;have:=HK.out.2.2.1.1;omega
       go_wp2_with fail;refine wp_region_held (S:=fun X=>whB w T s1 s2 X∧at5 X g1 (o1+i*5) b a1 b.l.length k1∧at5 X g2 (o2+i*5) b a2 b.l.length k2) (by kernel_rfl) ?_
       have hS:(fun X=>whB w T s1 s2 X∧at5 X g1 (o1+i*5) b a1 b.l.length k1∧at5 X g2 (o2+i*5) b a2 b.l.length k2) wr.drew:=⟨HBW.out.below (bW _ _).drew,HAT.out.1.below (HBW.out.b.trans ((bW _ _).drew.mono HBW.out.b.size)),HAT.out.2.below (HBW.out.b.trans ((bW _ _).drew.mono HBW.out.b.size))⟩
       refine tk 0 ?_
       refine tk 1 ?_ (hy:=fun W hW=>by (have y:=(HZ.out W hW.1).1;go_simp;try rfl))
       refine tk 2 ?_
       refine tk 3 ?_
       refine wU 4 (aG ([bO b.e,I .u32 (b.i:Int),bO b.r,I J b.d,sL a1 b.l.length k1]).toArray) rfl (yieldsIf_load_mid (by rfl) 55 _ rfl g1 (o1+i*5) rfl ([bO b.e,I .u32 (b.i:Int),bO b.r,I J b.d,sL a1 b.l.length k1]) _ (fun X h=>h.2.1.range) Tryz.underlying55 rfl sz93 ) hS ?_
       simp only[aZ];refine tk 5 ?_
       refine tk 6 ?_ (hy:=fun W hW=>by (have y:=(HZ.out W hW.1).2;go_simp;try rfl))
       refine tk 7 ?_
       refine tk 8 ?_
       refine wU 9 (aG ([bO b.e,I .u32 (b.i:Int),bO b.r,I J b.d,sL a2 b.l.length k2]).toArray) rfl (yieldsIf_load_mid (by rfl) 55 _ rfl g2 (o2+i*5) rfl ([bO b.e,I .u32 (b.i:Int),bO b.r,I J b.d,sL a2 b.l.length k2]) _ (fun X h=>h.2.2.range) Tryz.underlying55 rfl sz93) hS ?_
       simp only[aZ];refine al 10 fun K2 hK2=>?_
       go_simp;refine (wFrame_same _ b.e b.i b.r b.d a1 b.l.length k1 b.l hS.2.1.dat a2 k2 hS.2.2.dat HLE.out).mono ?_
       rintro o v1 ⟨rfl,hb⟩;have hS5:(fun X=>whB w T s1 s2 X∧at5 X g1 (o1+i*5) b a1 b.l.length k1∧at5 X g2 (o2+i*5) b a2 b.l.length k2) v1:=⟨hS.1.below hb,hS.2.1.below hb,hS.2.2.below hb⟩
       clear hb;go_wp2_with fail;refine hK2.out _ _ hS5 (fun hS2=>?_)
       clear hK2 K2 hS hS5;have hS:=hS2
       clear hS2;refine tk 11 ?_
       refine wpAnyH_done (by kernel_rfl) ?_ _
       have HE:Hid (whB w T s1 s2 v1):=hS.1
       clear hS;go_wp2_with fail;go_roundw
       case rel=>exact⟨i+1,by omega,by go_num,HE.out⟩
       case measure=>simp[intOf];omega
      ·have hin:i=s1.n3:=by omega
       subst hin;go_wp2_with fail;clear x1 z1 hi hlt;go_loopw [10] (fun t wr=>∃ i:Nat,i≤s1.n4∧t = I J (i:Int)∧whB w T s1 s2 wr) (fun t _=>s1.n4-(intOf t).toNat)
       case atStart=>exact⟨0,nZ _,rfl,HBW.out⟩
       case round=>
        clear HBW;obtain⟨i,hi,rfl,hB⟩:=hrel
        have HBW:Hid (whB w T s1 s2 wr):=hB
        clear hB;obtain⟨x1,z1⟩:=(HX.out wr HBW.out).2.2.2
        by_cases hlt:i<s1.n4
        ·have hil:i<T.qu.length:=by have:=HK.out.2.2.2;omega
         obtain⟨g1,o1,ea1,hc1⟩:=HI.out.1.qu.cells (by intro e;rw[e] at hil;exact absurd hil (nN _))
         obtain⟨g2,o2,ea2,hc2⟩:=HI.out.2.1.qu.cells (by intro e;rw[e] at hil;exact absurd hil (nN _))
         obtain⟨a1,m1,k1,hat1⟩:=hc1 i hil
         obtain⟨a2,m2,k2,hat2⟩:=hc2 i hil
         have HLE:Hid (T.qu[i].l.length≤1048576):=HI.out.2.2.qd i hil
         have hm1:=hat1.dat.len
         have hm2:=hat2.dat.len
         have HZ:Hid (∀ X,whB w T s1 s2 X→X.cell? ⟨w.heap.size,7,none⟩=some (sL (some ⟨g1,o1,none⟩) s1.n4 s1.k4)∧X.cell? ⟨w.heap.size+1,7,none⟩=some (sL (some ⟨g2,o2,none⟩) s1.n4 s2.k4)):=fun X hX=>by have:=(HX.out X hX).2.2.2;rw[ea1,ea2] at this;exact this
         rw[ea1] at x1
         generalize T.qu[i]=b at *;subst hm1 hm2;have HAT:Hid (at8 w g1 (o1+i*8) b a1 b.l.length k1∧at8 w g2 (o2+i*8) b a2 b.l.length k2):=⟨hat1,hat2⟩
         clear hc1 hc2 ea1 ea2 hat1 hat2 z1;have hk1:=HK.out.2.2.2.2.1
         have hk2:=HK.out.2.2.2.2.2
         have hm:s1.n4≤1048576:=by have:=HI.out.2.2.qu;have:=HK.out.2.2.2.1;omega
         go_wp2_with fail;refine wp_region_held (S:=fun X=>whB w T s1 s2 X∧at8 X g1 (o1+i*8) b a1 b.l.length k1∧at8 X g2 (o2+i*8) b a2 b.l.length k2) (by kernel_rfl) ?_
         have hS:(fun X=>whB w T s1 s2 X∧at8 X g1 (o1+i*8) b a1 b.l.length k1∧at8 X g2 (o2+i*8) b a2 b.l.length k2) wr.drew:=⟨HBW.out.below (bW _ _).drew,HAT.out.1.below (HBW.out.b.trans ((bW _ _).drew.mono HBW.out.b.size)),HAT.out.2.below (HBW.out.b.trans ((bW _ _).drew.mono HBW.out.b.size))⟩
         refine tk 0 ?_
         refine tk 1 ?_ (hy:=fun W hW=>by (have y:=(HZ.out W hW.1).1;go_simp;try rfl))
         refine tk 2 ?_
         refine tk 3 ?_
         refine wU 4 (aG (l8 b a1 b.l.length k1).toArray) rfl (yieldsIf_load_mid (by rfl) 67 _ rfl g1 (o1+i*8) rfl (l8 b a1 b.l.length k1) _ (fun X h=>h.2.1.range) Tryz.underlying67 rfl sz129 ) hS ?_
         simp only[aZ];refine tk 5 ?_
         refine tk 6 ?_ (hy:=fun W hW=>by (have y:=(HZ.out W hW.1).2;go_simp;try rfl))
         refine tk 7 ?_
         refine tk 8 ?_
         refine wU 9 (aG (l8 b a2 b.l.length k2).toArray) rfl (yieldsIf_load_mid (by rfl) 67 _ rfl g2 (o2+i*8) rfl (l8 b a2 b.l.length k2) _ (fun X h=>h.2.2.range) Tryz.underlying67 rfl sz129) hS ?_
         simp only[aZ];refine al 10 fun K2 hK2=>?_
         go_simp;refine (wEvent_same _ b a1 a2 b.l.length k1 k2 hS.2.1.dat hS.2.2.dat HLE.out).mono ?_
         rintro o v1 ⟨rfl,hb⟩;have hS5:(fun X=>whB w T s1 s2 X∧at8 X g1 (o1+i*8) b a1 b.l.length k1∧at8 X g2 (o2+i*8) b a2 b.l.length k2) v1:=⟨hS.1.below hb,hS.2.1.below hb,hS.2.2.below hb⟩
         clear hb;go_wp2_with fail;refine hK2.out _ _ hS5 (fun hS2=>?_)
         clear hK2 K2 hS hS5;have hS:=hS2
         clear hS2;refine tk 11 ?_
         refine wpAnyH_done (by kernel_rfl) ?_ _
         have HE:Hid (whB w T s1 s2 v1):=hS.1
         clear hS;go_wp2_with fail;go_roundw
         case rel=>exact⟨i+1,by omega,by go_num,HE.out⟩
         case measure=>simp[intOf];omega
        ·have hin:i=s1.n4:=by omega
         subst hin;go_wp2_with fail;go_ret;exact⟨rfl,HBW.out.b⟩
theorem wCore_same (w:World) (C:Co) (s1 s2:Sl) (h1:isHo w C.ho s1) (h2:isHo w C.ho s2) (hn:C.ho.le 1048576) :
  Calls Tp 30 #[aG (coL C s1).toArray,aG (coL C s2).toArray] w fun o w'=>o = rT (bO true)∧Below w.heap.size w w':=by
 have HB:Hid (Below w.heap.size w ((w.alloc (.cells (coL C s1).toArray 41)).alloc (.cells (coL C s2).toArray 41))):=((bW _ _).alloc (nR _) _).alloc (by simp) _
 have HP:Hid (blk ((w.alloc (.cells (coL C s1).toArray 41)).alloc (.cells (coL C s2).toArray 41)) w.heap.size (coL C s1) 41∧blk ((w.alloc (.cells (coL C s1).toArray 41)).alloc (.cells (coL C s2).toArray 41)) (w.heap.size+1) (coL C s2) 41):=by
  refine⟨(blk.new w _ 41).alloc _,?_⟩
  have:=blk.new (w.alloc (.cells (coL C s1).toArray 41)) (coL C s2) 41
  have e:(w.alloc (.cells (coL C s1).toArray 41)).heap.size=w.heap.size+1:=by simp
  rw[e] at this
  exact this
 have HW:Hid (∀ X,Below w.heap.size w X→Calls Tp 69 #[aG (hoL C.ho s1).toArray,aG (hoL C.ho s2).toArray] X fun o w'=>o = rT (bO true)∧Below X.heap.size X w'):=fun X hX=>wHost_same X C.ho s1 s2 (h1.below hX) (h2.below hX) hn
 clear h1 h2 hn;go_enter Tryz.func30,Tryz.ntmps30
 go_upto_region 1 with fail
 generalize ((w.alloc (.cells (coL C s1).toArray 41)).alloc (.cells (coL C s2).toArray 41))=vA at *;have y0:=HP.out.1.cell 0 _ (by unfold coL;rfl)
 have z0:=HP.out.2.cell 0 _ (by unfold coL;rfl)
 have y1:=HP.out.1.cell 1 _ (by unfold coL;rfl)
 have z1:=HP.out.2.cell 1 _ (by unfold coL;rfl)
 have y2:=HP.out.1.cell 2 _ (by unfold coL;rfl)
 have z2:=HP.out.2.cell 2 _ (by unfold coL;rfl)
 have y3:=HP.out.1.cell 3 _ (by unfold coL;rfl)
 have z3:=HP.out.2.cell 3 _ (by unfold coL;rfl)
 have y4:=HP.out.1.cell 4 _ (by unfold coL;rfl)
 have z4:=HP.out.2.cell 4 _ (by unfold coL;rfl)
 have y5:=HP.out.1.cell 5 _ (by unfold coL;rfl)
 have z5:=HP.out.2.cell 5 _ (by unfold coL;rfl)
 have y6:=HP.out.1.cell 6 _ (by unfold coL;rfl)
 have z6:=HP.out.2.cell 6 _ (by unfold coL;rfl)
 have y7:=HP.out.1.cell 7 _ (by unfold coL;rfl)
 have z7:=HP.out.2.cell 7 _ (by unfold coL;rfl)
 have y8:=HP.out.1.cell 8 _ (by unfold coL;rfl)
 have z8:=HP.out.2.cell 8 _ (by unfold coL;rfl)
 have y9:=HP.out.1.cell 9 _ (by unfold coL;rfl)
 have z9:=HP.out.2.cell 9 _ (by unfold coL;rfl)
 have y10:=HP.out.1.cell 10 _ (by unfold coL;rfl)
 have z10:=HP.out.2.cell 10 _ (by unfold coL;rfl)
 have HR1:Hid (vA.rangeAt w.heap.size 11 (hoL C.ho s1)):=blk.loadAt (coM C) (hoL C.ho s1) [] (by rw[List.append_nil,← coL_M];exact HP.out.1)
 have HR2:Hid (vA.rangeAt (w.heap.size+1) 11 (hoL C.ho s2)):=blk.loadAt (coM C) (hoL C.ho s2) [] (by rw[List.append_nil,← coL_M];exact HP.out.2)
 go_wp2_with (first
  | (refine wpList_load_mid (P:=Tp) rfl 39 _ rfl w.heap.size 11 rfl (hoL C.ho s1) _ HR1.out Tryz.underlying39 rfl (sz39h _ _) ?_)
  | (refine wpList_load_mid (P:=Tp) rfl 39 _ rfl (w.heap.size+1) 11 rfl (hoL C.ho s2) _ HR2.out Tryz.underlying39 rfl (sz39h _ _) ?_))
 refine (HW.out _ HB.out).mono ?_
 rintro o w2 ⟨rfl,hb2⟩;have HE:Hid (Below w.heap.size w w2):=HB.out.trans (hb2.mono HB.out.size)
 clear hb2 HP HR1 HR2 y0 z0 y1 z1 y2 z2 y3 z3 y4 z4 y5 z5 y6 z6 y7 z7 y8 z8 y9 z9 y10 z10;go_wp2_with fail;go_ret;exact⟨rfl,HE.out⟩
end Go.Proofs.YtkfcfigbgmbaiaaGreat
