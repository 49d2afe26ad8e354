import Derived.Test.YtaamahohdnbpiaaGreatG41
import Derived.Test.YtaamahohdnbpiaaGreatHO
import Derived.Test.YtaamahohdnbpiaaGreatVB
import Derived.Deep.RegionHeld3
import Derived.Deep.AppendLies
import Derived.Deep.RegionLaw
import Derived.Test.YtaamahohdnbpiaaGreatTF
import Derived.Test.YtaamahohdnbpiaaGreatG04
namespace Go.Proofs.YtaamahohdnbpiaaGreat
open Go.RowKit
set_option linter.unusedVariables false
namespace M
def stepN (r b:Nat):Nat:=if b≠r / 16384 then ((2*r) % 32768) ^^^ 17817 else (2*r) % 32768
end M
namespace M
def crcN (l:List Nat):Nat:=l.foldl stepN 0
end M
namespace M
def mb (l:List Nat) (j:Nat):Bool:=l.getD j 0 == 1
end M
namespace M
def V (l:List Nat) (i j:Nat):Bool:=if j<i then false else mb l j ^^ (decide (j<i+15) && (crcN (l.take i)).testBit (14-(j-i)))
end M
theorem ownsB.open {w:World} {B:Nat} {v:Value} {l:List Nat} (h:ownsB w B v l) (hl:l≠[]) :
  ∃ g cap,v = .slice (some ⟨g,0,none⟩) l.length cap∧B≤g∧g<w.heap.size∧l.length≤cap∧cap≤maxLen∧rowB w g l.length (fun t=>l.getD t 0):=by
 have h':=h
 obtain⟨_,h1|⟨g,cap,cur,rfl,hb,hh,hc,hm,hsz,htk⟩⟩:=h
 ·exact absurd (List.length_eq_zero_iff.1 h1.2) hl
 ·refine⟨g,cap,rfl,hb,(World.ownsRow.lt h' g rfl).2,hc,hm,fun t ht=>?_,fun t ht=>?_⟩
  ·rw[World.ownsRow.cellAt h' t (by omega),bv_at l t ht];simp[List.getD,ht]
  ·exact World.ownsRow.frozenAt h' t
theorem stI.ne {w0:World} {B b1 b2:Nat} {s:ByteArray} {k:Nat} {v:Value} {l:List Nat} {r:Nat × Nat} {w:World} (h:stI w0 B b1 b2 s k v l r w):b1≠b2:=by
 intro e;have h1:=h.run
 have h2:=h.it
 rw[← e,h1] at h2
 cases h2
theorem ownsB.otherBlock {w w':World} {B:Nat} {v:Value} {l:List Nat} (h:ownsB w B v l) (hk:∀ g,v.ownBlock=some g→w'.heap[g]?=w.heap[g]?):ownsB w' B v l:=by
 obtain⟨h1,h2|⟨g,cap,cur,rfl,hb,hh,rest⟩⟩:=h
 ·exact⟨h1,.inl h2⟩
 ·exact⟨h1,.inr ⟨g,cap,cur,rfl,hb,(hk g rfl).trans hh,rest⟩⟩
theorem stI.app {w0:World} {B b1 b2:Nat} {s:ByteArray} {k:Nat} {v v':Value} {l l':List Nat} {r:Nat × Nat} {w w':World} (h:stI w0 B b1 b2 s k v l r w) (ho:ownsB w' B v' l') (hb:Below B w0 w') (hk:Lib.OthersKept 5 none w w'):stI w0 B b1 b2 s k v' l' r w':=
 ⟨ho,hk _ _ h.run (by simp) (by intro c fz e;cases e),hk _ _ h.it (by simp) (by intro c fz e;cases e),hb,h.B1,h.B2⟩
theorem isBytes.drew {W:World} {a:Option Addr} {n cap:Nat} {l:List Nat} (h:isBytes W a n cap l):isBytes W.drew a n cap l:=h.below (Below.refl _ _).drew
def srcAt (W:World) (b:Nat) (a:Option Addr) (n cap:Nat) (i s:Nat):Prop:=W.heap[b]?=some (.cells #[.slice a n cap,.int .i64 (i:Int),.int .u64 (s:Int)] 170 (0,0))
theorem srcAt.cells {W:World} {b:Nat} {a:Option Addr} {n cap i s:Nat} (h:srcAt W b a n cap i s) :
  W.cell? ⟨b,0,none⟩=some (.slice a n cap)∧W.cell? ⟨b,1,none⟩=some (.int .i64 (i:Int))∧W.cell? ⟨b,2,none⟩=some (.int .u64 (s:Int))∧W.frozen? ⟨b,1,none⟩=false∧W.frozen? ⟨b,2,none⟩=false:=by
 unfold srcAt at h
 refine⟨?_,?_,?_,?_,?_⟩ <;> simp[World.cell?,World.frozen?,h]
theorem gb_trans {w w1 w2:World} {b:Option Nat} (h:w.grownBy w1 b) (k:w1.grownBy w2 b):w.grownBy w2 b:=
 ⟨k.os.trans h.os,k.tape.trans h.tape,k.output.trans h.output,Nat.le_trans h.size k.size,fun i hi hne=>(k.block i (Nat.lt_of_lt_of_le hi h.size) hne).trans (h.block i hi hne)⟩
theorem gb_below {w w1 w2:World} {b:Option Nat} (h:w.grownBy w1 b) (k:Below w.heap.size w1 w2):w.grownBy w2 b:=
 ⟨k.os.trans h.os,k.tape.trans h.tape,k.output.trans h.output,Nat.le_trans h.size k.size,fun i hi hne=>(k.block i hi).trans (h.block i hi hne)⟩
theorem ownsB.gb {w w1:World} {B:Nat} {v:Value} {l:List Nat} {b:Nat} (h:ownsB w B v l) (hg:w.grownBy w1 (some b)) (hb:b<B):ownsB w1 B v l:=
 h.otherBlock (fun g hgv=>hg.block g ((World.ownsRow.lt h g hgv).2) (fun e=>by cases e;have:=(World.ownsRow.lt h _ hgv).1;omega))
theorem srcAt.below {w w1:World} {B b:Nat} {a:Option Addr} {n cap i s:Nat} (h:srcAt w b a n cap i s) (hb:Below B w w1) (hB:b<B):srcAt w1 b a n cap i s:=(hb.block b hB).trans h
theorem srcAt.lt {w:World} {b:Nat} {a:Option Addr} {n cap i s:Nat} (h:srcAt w b a n cap i s):b<w.heap.size:=lt_of_block h
structure srcI (w0:World) (b:Nat) (a:Option Addr) (n cap:Nat) (l:List Nat) (i:Nat) (w:World):Prop where
 at_:∃ s,srcAt w b a n cap i s
 bel:Below w0.heap.size w0 w
 by_:isBytes w0 a n cap l
 hb:w0.heap.size≤b
theorem srcI.lt {w0 w:World} {b:Nat} {a:Option Addr} {n cap i:Nat} {l:List Nat} (h:srcI w0 b a n cap l i w):b<w.heap.size:=by
 obtain⟨s,hs⟩:=h.at_;exact hs.lt
theorem srcI.step {w0 w w1:World} {b:Nat} {a:Option Addr} {n cap i i':Nat} {l:List Nat} (h:srcI w0 b a n cap l i w) (hs:∃ s',srcAt w1 b a n cap i' s') (hg:w.grownBy w1 (some b)):srcI w0 b a n cap l i' w1:=
 ⟨hs,h.bel.grown hg h.bel.size (fun k e=>by cases e;exact h.hb),h.by_,h.hb⟩
theorem srcI.below {w0 w w1:World} {B b:Nat} {a:Option Addr} {n cap i:Nat} {l:List Nat} (h:srcI w0 b a n cap l i w) (hb:Below B w w1) (hB:b<B):srcI w0 b a n cap l i w1:=by
 obtain⟨s,hs⟩:=h.at_
 exact⟨⟨s,hs.below hb hB⟩,h.bel.trans (hb.mono (by have:=h.hb;omega)),h.by_,h.hb⟩
theorem rowB.gb {w w1:World} {g m:Nat} {f:Nat→Nat} {b:Nat} (h:rowB w g m f) (hg:w.grownBy w1 (some b)) (hz:g<w.heap.size) (hne:g≠b):rowB w1 g m f:=by
 have hk:=hg.block g hz (fun e=>hne (by cases e;rfl))
 exact⟨fun t ht=>(World.cell?_of_block (a:=⟨g,t,none⟩) hk).trans (h.cell t ht),fun t ht=>(World.frozen?_of_block (a:=⟨g,t,none⟩) hk).trans (h.free t ht)⟩
structure gfI (w0 wS:World) (b:Nat) (a:Option Addr) (n cap:Nat) (l:List Nat) (i F R:Nat) (e:Bool) (id:Nat) (r:Bool) (d:Int) (v:Value) (dl:List Nat) (W:World):Prop where
 src:srcI w0 b a n cap l i W
 gb:wS.grownBy W (some b)
 fr:W.heap[F]?=some (.cells #[.bool e,.int .u32 (id:Int),.bool r,.int .i64 d,v] 25 (0,0))
 res:W.heap[R]?=some (.cells #[.bool false,.int .u32 0,.bool false,.int .i64 0,.slice none 0 0] 25 (0,0))
 own:ownsB W wS.heap.size v dl
 ne:v.ownBlock≠some F∧v.ownBlock≠some R
 dis:F≠R∧b<wS.heap.size∧wS.heap.size≤F∧wS.heap.size≤R
theorem gfI.cells {w0 wS:World} {b:Nat} {a:Option Addr} {n cap:Nat} {l:List Nat} {i F R:Nat} {e:Bool} {id:Nat} {r:Bool} {d:Int} {v:Value} {dl:List Nat} {W:World} (h:gfI w0 wS b a n cap l i F R e id r d v dl W) :
  W.cell? ⟨F,0,none⟩=some (.bool e)∧W.cell? ⟨F,1,none⟩=some (.int .u32 (id:Int))∧W.cell? ⟨F,2,none⟩=some (.bool r)∧W.cell? ⟨F,3,none⟩=some (.int .i64 d)∧W.cell? ⟨F,4,none⟩=some v ∧
  W.frozen? ⟨F,0,none⟩=false∧W.frozen? ⟨F,1,none⟩=false∧W.frozen? ⟨F,2,none⟩=false∧W.frozen? ⟨F,3,none⟩=false∧W.frozen? ⟨F,4,none⟩=false:=by
 have hr:=h.fr
 refine⟨?_,?_,?_,?_,?_,?_,?_,?_,?_,?_⟩ <;> simp[World.cell?,World.frozen?,hr]
theorem gfI.step {w0 wS:World} {b:Nat} {a:Option Addr} {n cap:Nat} {l:List Nat} {i i' F R:Nat} {e:Bool} {id:Nat} {r:Bool} {d:Int} {v:Value} {dl:List Nat} {W W':World} (h:gfI w0 wS b a n cap l i F R e id r d v dl W)
  (hs:srcI w0 b a n cap l i' W') (hg:W.grownBy W' (some b)):gfI w0 wS b a n cap l i' F R e id r d v dl W':=by
 obtain⟨d1,d2,d3,d4⟩:=h.dis
 exact⟨hs,gb_trans h.gb hg,(hg.block F (lt_of_block h.fr) (by simp;omega)).trans h.fr,(hg.block R (lt_of_block h.res) (by simp;omega)).trans h.res,h.own.gb hg d2,h.ne,h.dis⟩
theorem gb_setF {w0 W:World} {b F:Nat} (h:w0.grownBy W (some b)) (hF:w0.heap.size≤F) (j:Nat) (x:Value):w0.grownBy (W.setCell ⟨F,j,none⟩ x) (some b):=
 gb_below h ((Below.refl _ _).setCell (by exact hF) x)
theorem gf_own {W:World} {B F:Nat} {v:Value} {l:List Nat} (j:Nat) (x:Value) (h:ownsB W B v l) (hne:v.ownBlock≠some F):ownsB (W.setCell ⟨F,j,none⟩ x) B v l:=by
 refine h.otherBlock (fun i hi=>heap_setCell_other W ⟨F,j,none⟩ i x (fun e=>?_))
 have e':i=F:=e
 exact hne (e' ▸ hi)
theorem gfI.app {w0 wS:World} {b:Nat} {a:Option Addr} {n cap:Nat} {l:List Nat} {i F R:Nat} {e:Bool} {id:Nat} {r:Bool} {d:Int} {v v':Value} {dl dl':List Nat} {W W':World} {o:Obj} (h:gfI w0 wS b a n cap l i F R e id r d v dl W)
  (ho:ownsB W' wS.heap.size v' dl') (hg:(W.alloc o).grownBy W' v.ownBlock) (hk:∀ g,g<W.heap.size→v.ownBlock≠some g→v'.ownBlock≠some g) :
  gfI w0 wS b a n cap l i F R e id r d v' dl' (W'.setCell ⟨F,4,none⟩ v'):=by
 obtain⟨d1,d2,d3,d4⟩:=h.dis
 have hz:W.heap.size≤W'.heap.size:=Nat.le_trans (by simp) hg.size
 have kb:∀ g,g<W.heap.size→v.ownBlock≠some g→W'.heap[g]?=W.heap[g]?:=fun g h1 h2=>(hg.block g (by simp;omega) (fun e=>h2 e.symm)).trans (Below.heap_alloc W _ g h1)
 have hvb:∀ g,g<wS.heap.size→v.ownBlock≠some g:=fun g h1 e=>by have:=(World.ownsRow.lt h.own g e).1;omega
 have hbW:b<W.heap.size:=Nat.lt_of_lt_of_le d2 h.gb.size
 obtain⟨s,hs⟩:=h.src.at_
 have hs':srcAt W' b a n cap i s:=(kb b hbW (hvb b d2)).trans hs
 have hgb:wS.grownBy W' (some b):=⟨hg.os.trans h.gb.os,hg.tape.trans h.gb.tape,hg.output.trans h.gb.output,Nat.le_trans h.gb.size hz,fun k h1 h2=>(kb k (Nat.lt_of_lt_of_le h1 h.gb.size) (hvb k h1)).trans (h.gb.block k h1 h2)⟩
 have hw0:w0.heap.size≤b:=h.src.hb
 have hb0:Below w0.heap.size w0 W':=by
  have e1:Below w0.heap.size w0 (W.alloc o):=h.src.bel.alloc h.src.bel.size _
  exact e1.grown hg (by have:=h.src.bel.size;simp;omega) (fun k e=>by have:=(World.ownsRow.lt h.own k e).1;omega)
 have hs2:srcI w0 b a n cap l i W':=⟨⟨s,hs'⟩,hb0,h.src.by_,hw0⟩
 have kF:=kb F (lt_of_block h.fr) h.ne.1
 have kR:=kb R (lt_of_block h.res) h.ne.2
 refine⟨hs2.below (B:=b+1) ((Below.refl _ _).setCell (p:=⟨F,4,none⟩) (show b+1≤F by omega) v') (by omega),gb_setF hgb d3 4 v',?_,(heap_setCell_other W' ⟨F,4,none⟩ R _ (fun e=>d1 e.symm)).trans (kR.trans h.res),gf_own _ _ ho (hk F (lt_of_block h.fr) h.ne.1),⟨hk F (lt_of_block h.fr) h.ne.1,hk R (lt_of_block h.res) h.ne.2⟩,h.dis⟩
 rw[heap_setCell_same W' F 4 _ _ _ (kF.trans h.fr)];simp
structure grI (w0 wS:World) (b:Nat) (a:Option Addr) (n cap:Nat) (l:List Nat) (i R:Nat) (W:World):Prop where
 src:srcI w0 b a n cap l i W
 gb:wS.grownBy W (some b)
 res:W.heap[R]?=some (.cells #[.bool false,.int .u32 0,.bool false,.int .i64 0,.slice none 0 0] 25 (0,0))
 dis:b<wS.heap.size∧wS.heap.size≤R
theorem grI.step {w0 wS:World} {b:Nat} {a:Option Addr} {n cap:Nat} {l:List Nat} {i i' R:Nat} {W W':World} (h:grI w0 wS b a n cap l i R W) (hs:srcI w0 b a n cap l i' W') (hg:W.grownBy W' (some b)):grI w0 wS b a n cap l i' R W':=by
 obtain⟨d2,d4⟩:=h.dis
 exact⟨hs,gb_trans h.gb hg,(hg.block R (lt_of_block h.res) (by simp;omega)).trans h.res,h.dis⟩
theorem grI.start {w0 w:World} {b:Nat} {a:Option Addr} {n cap:Nat} {l:List Nat} {i:Nat} (h:srcI w0 b a n cap l i w) :
  grI w0 w b a n cap l i w.heap.size (w.alloc (.cells #[.bool false,.int .u32 0,.bool false,.int .i64 0,.slice none 0 0] 25)):=
 ⟨h.below ((Below.refl w.heap.size w).alloc (Nat.le_refl _) _) h.lt,gb_below ⟨rfl,rfl,rfl,Nat.le_refl _,fun _ _ _=>rfl⟩ ((Below.refl w.heap.size w).alloc (Nat.le_refl _) _),heap_alloc_new w _,h.lt,Nat.le_refl _⟩
theorem gfI.start {w0 wS:World} {b:Nat} {a:Option Addr} {n cap:Nat} {l:List Nat} {i R:Nat} {W:World} (h:grI w0 wS b a n cap l i R W) (e r:Bool) (d:Int) :
  gfI w0 wS b a n cap l i (W.heap.size+1) R e 0 r d (.slice (some ⟨W.heap.size,0,none⟩) 0 0) [] ((W.alloc (.cells #[] 5)).alloc (.cells #[.bool e,.int .u32 0,.bool r,.int .i64 d,.slice (some ⟨W.heap.size,0,none⟩) 0 0] 25)):=by
 obtain⟨d2,d4⟩:=h.dis
 have hz:=h.gb.size
 have hR:=lt_of_block h.res
 have hB:Below W.heap.size W ((W.alloc (.cells #[] 5)).alloc (.cells #[.bool e,.int .u32 0,.bool r,.int .i64 d,.slice (some ⟨W.heap.size,0,none⟩) 0 0] 25)):=((Below.refl _ _).alloc (Nat.le_refl _) _).alloc (by simp) _
 have e1:(W.alloc (.cells #[] 5)).heap.size=W.heap.size+1:=by simp
 refine⟨h.src.below hB h.src.lt,gb_below h.gb (hB.mono hz),?_,(hB.block _ hR).trans h.res,World.ownsRow.alloc (own_nil W wS.heap.size hz) _,⟨?_,?_⟩,by omega,by omega,by omega,by omega⟩
 ·have:=heap_alloc_new (W.alloc (.cells #[] 5)) (.cells #[.bool e,.int .u32 0,.bool r,.int .i64 d,.slice (some ⟨W.heap.size,0,none⟩) 0 0] 25)
  rw[e1] at this
  exact this
 ·simp[Value.ownBlock]
 ·simp[Value.ownBlock];omega
theorem gfI.alloc {w0 wS:World} {b:Nat} {a:Option Addr} {n cap:Nat} {l:List Nat} {i F R:Nat} {e:Bool} {id:Nat} {r:Bool} {d:Int} {v:Value} {dl:List Nat} {W:World} (h:gfI w0 wS b a n cap l i F R e id r d v dl W) (o:Obj):gfI w0 wS b a n cap l i F R e id r d v dl (W.alloc o):=by
 have hB:Below W.heap.size W (W.alloc o):=(Below.refl _ _).alloc (Nat.le_refl _) _
 exact⟨h.src.below hB h.src.lt,gb_below h.gb (hB.mono h.gb.size),(hB.block _ (lt_of_block h.fr)).trans h.fr,(hB.block _ (lt_of_block h.res)).trans h.res,World.ownsRow.alloc h.own _,h.ne,h.dis⟩
theorem gfI.drew {w0 wS:World} {b:Nat} {a:Option Addr} {n cap:Nat} {l:List Nat} {i F R:Nat} {e:Bool} {id:Nat} {r:Bool} {d:Int} {v:Value} {dl:List Nat} {W:World} (h:gfI w0 wS b a n cap l i F R e id r d v dl W):gfI w0 wS b a n cap l i F R e id r d v dl W.drew:=by
 have hB:Below W.heap.size W W.drew:=(Below.refl _ _).drew
 exact⟨h.src.below hB h.src.lt,gb_below h.gb (hB.mono h.gb.size),h.fr,h.res,World.ownsRow.drew h.own,h.ne,h.dis⟩
def gfOut (w0 w:World) (b:Nat) (a:Option Addr) (n cap:Nat) (l:List Nat) (i T S:Nat) (D0 D1:Int) (o:Ending) (w':World):Prop:=
 ∃ (e:Bool) (id:Nat) (r:Bool) (d:Int) (ao:Option Addr) (cap' i':Nat) (dl:List Nat),o = .returned (frV e id r d ao dl.length cap')∧id<4294967296∧(D0≤d∧d≤D1)∧dl.length≤S∧(∀ x ∈ dl,x<256)∧i'≤i+T∧srcI w0 b a n cap l i' w'∧ownsB w' w.heap.size (.slice ao dl.length cap') dl∧w.grownBy w' (some b)
theorem gfOut.mk {w0 w:World} {b:Nat} {a:Option Addr} {n cap:Nat} {l:List Nat} {i T S:Nat} {D0 D1:Int} {w':World} (e:Bool) (id:Nat) (r:Bool) (d:Int) (ao:Option Addr) (cap' i':Nat) (dl:List Nat) (h1:id<4294967296) (h2:D0≤d∧d≤D1) (h3:dl.length≤S) (h4:∀ x ∈ dl,x<256) (h5:i'≤i+T) (h6:srcI w0 b a n cap l i' w') (h7:ownsB w' w.heap.size (.slice ao dl.length cap') dl) (h8:w.grownBy w' (some b)):gfOut w0 w b a n cap l i T S D0 D1 (.returned (frV e id r d ao dl.length cap')) w':=
 ⟨e,id,r,d,ao,cap',i',dl,rfl,h1,h2,h3,h4,h5,h6,h7,h8⟩
def drOut (w:World) (o:Ending) (w':World):Prop:=
 ∃ (e:Bool) (id:Nat) (r:Bool) (d:Int) (ao:Option Addr) (cap':Nat) (dl:List Nat),o = .returned (frV e id r d ao dl.length cap')∧id<4294967296∧(-1≤d∧d≤16)∧dl.length≤9∧isBytes w' ao dl.length cap' dl∧Below w.heap.size w w'
theorem drOut.mk {w w':World} (e:Bool) (id:Nat) (r:Bool) (d:Int) (ao:Option Addr) (cap':Nat) (dl:List Nat) (h1:id<4294967296) (h2:-1≤d∧d≤16) (h3:dl.length≤9) (h4:isBytes w' ao dl.length cap' dl) (h5:Below w.heap.size w w'):drOut w (.returned (frV e id r d ao dl.length cap')) w':=
 ⟨e,id,r,d,ao,cap',dl,rfl,h1,h2,h3,h4,h5⟩
set_option maxRecDepth 20000 in
theorem code_open {H:Type} {enc:TypeId × Value→H} {W:World} {r:Reach} {b0:Nat} {v:Value} {d:DataW H} {p:List MemPlace}
  (hv:Value.okWide Tryz.prog W r b0 22 v) (h:DataW.Trod enc Tryz.prog W 0 (fun _=>true) true 22 v d p) :
  ∃ a n cap l,v = .slice a n cap∧isBytes W a n cap l∧n≤maxLen:=by
 obtain⟨a,n,cap,rfl⟩:=Go.WideShapes.okWide_slice Tryz.underlying22 hv
 obtain⟨fuel,hf⟩:=h
 exact bytes_open (v:=.slice a n cap) (by simpa[Value.cells] using hf)
set_option maxHeartbeats 4000000 in
set_option maxRecDepth 20000 in
theorem wFrame_same (w:World) (e:Bool) (i:Nat) (r:Bool) (d:Int) (a:Option Addr) (n cap:Nat) (l:List Nat) (h:isBytes w a n cap l) (a':Option Addr) (cap':Nat) (h':isBytes w a' n cap' l) (hn:n≤1048576) :
  Calls Tryz.prog 21 #[frV e i r d a n cap,frV e i r d a' n cap'] w fun o w'=>o = .returned (.bool true)∧Below w.heap.size w w':=by
 have hE:(e != e)=false:=by simp
 have hR:(r != r)=false:=by simp
 have hD:(d != d)=false:=by simp
 have hI:((i:Int) != (i:Int))=false:=by simp
 have hbl:Below w.heap.size w ((w.alloc (frC e i r d a n cap 25)).alloc (frC e i r d a' n cap' 25)):=((Below.refl _ _).alloc (Nat.le_refl _) _).alloc (by simp) _
 have HB:Hid (Below w.heap.size w ((w.alloc (frC e i r d a n cap 25)).alloc (frC e i r d a' n cap' 25))):=hbl
 have HY:Hid (isBytes ((w.alloc (frC e i r d a n cap 25)).alloc (frC e i r d a' n cap' 25)) a n cap l):=h.below hbl
 have HY':Hid (isBytes ((w.alloc (frC e i r d a n cap 25)).alloc (frC e i r d a' n cap' 25)) a' n cap' l):=h'.below hbl
 clear hbl h h';go_enter Tryz.func21,Tryz.ntmps21
 go_wp2
 go_loopw [5] (fun ii wr=>∃ k:Nat,k≤n∧ii = .int .i64 (k:Int)∧∃ q,wr=((w.alloc (frC e i r d a n cap 25)).alloc (frC e i r d a' n cap' 25)).drewN q) (fun ii _=>n-(intOf ii).toNat)
 case atStart=>exact⟨0,Nat.zero_le _,rfl,0,rfl⟩
 case round=>
  obtain⟨k,hk,rfl,q,rfl⟩:=hrel
  by_cases hlt:k<n
  ·have hl:l≠[]:=by intro e;have:=HY.out.len;rw[e] at this;simp at this;omega
   obtain⟨g1,o1,rfl,k1⟩:=HY.out.cells hl
   obtain⟨g2,o2,rfl,k2⟩:=HY'.out.cells hl
   have hkl:k<l.length:=by have:=HY.out.len;omega
   have c1:=k1 k hkl
   have c2:=k2 k hkl
   have hx:(((l[k]:Nat):Int) != ((l[k]:Nat):Int))=false:=by simp
   have b0:((w.alloc (frC e i r d (some ⟨g1,o1,none⟩) n cap 25)).alloc (frC e i r d (some ⟨g2,o2,none⟩) n cap' 25)).cell? ⟨w.heap.size,4,none⟩=some (.slice (some ⟨g1,o1,none⟩) n cap):=by go_simp
   have b1:((w.alloc (frC e i r d (some ⟨g1,o1,none⟩) n cap 25)).alloc (frC e i r d (some ⟨g2,o2,none⟩) n cap' 25)).cell? ⟨w.heap.size+1,4,none⟩=some (.slice (some ⟨g2,o2,none⟩) n cap'):=by go_simp
   generalize l[k]=x at *;clear k1 k2 hkl hl;generalize (w.alloc (frC e i r d (some ⟨g1,o1,none⟩) n cap 25)).alloc (frC e i r d (some ⟨g2,o2,none⟩) n cap' 25)=W at *;go_wp2
   go_quiet (fail)
   go_wp2
   go_roundw
   case rel=>exact⟨k+1,by omega,by go_num,_,rfl⟩
   case measure=>simp[intOf];omega
  ·go_wp2
   go_ret;exact⟨rfl,below_drewN HB.out q⟩
def frB (W:World) (b:Nat) (e:Bool) (i:Nat) (r:Bool) (d:Int) (v:Value):Prop:=W.heap[b]?=some (.cells #[.bool e,.int .u32 (i:Int),.bool r,.int .i64 d,v] 25 (0,0))
theorem frB.cells {W:World} {b:Nat} {e:Bool} {i:Nat} {r:Bool} {d:Int} {v:Value} (h:frB W b e i r d v) :
  W.cell? ⟨b,0,none⟩=some (.bool e)∧W.cell? ⟨b,1,none⟩=some (.int .u32 (i:Int))∧W.cell? ⟨b,2,none⟩=some (.bool r)∧W.cell? ⟨b,3,none⟩=some (.int .i64 d)∧W.cell? ⟨b,4,none⟩=some v ∧
  W.frozen? ⟨b,0,none⟩=false∧W.frozen? ⟨b,1,none⟩=false∧W.frozen? ⟨b,2,none⟩=false∧W.frozen? ⟨b,3,none⟩=false∧W.frozen? ⟨b,4,none⟩=false:=by
 unfold frB at h
 refine⟨?_,?_,?_,?_,?_,?_,?_,?_,?_,?_⟩ <;> simp[World.cell?,World.frozen?,h]
theorem frB.lt {W:World} {b:Nat} {e:Bool} {i:Nat} {r:Bool} {d:Int} {v:Value} (h:frB W b e i r d v):b<W.heap.size:=lt_of_block h
def setF (W:World) (b:Nat) (e:Bool) (i:Nat) (r:Bool) (d:Int) (v:Value):World:=
 ((((W.setCell ⟨b,0,none⟩ (.bool e)).setCell ⟨b,1,none⟩ (.int .u32 (i:Int))).setCell ⟨b,2,none⟩ (.bool r)).setCell ⟨b,3,none⟩ (.int .i64 d)).setCell ⟨b,4,none⟩ v
theorem setF_other (W:World) (b:Nat) (e:Bool) (i:Nat) (r:Bool) (d:Int) (v:Value) (c:Nat) (h:c≠b):(setF W b e i r d v).heap[c]?=W.heap[c]?:=by
 have n:∀ j,(⟨b,j,none⟩ : Addr).block≠c:=fun j e=>h e.symm
 unfold setF
 rw[heap_setCell_other _ ⟨b,4,none⟩ c _ (by first | exact h | exact n 4),heap_setCell_other _ ⟨b,3,none⟩ c _ (by first | exact h | exact n 3),heap_setCell_other _ ⟨b,2,none⟩ c _ (by first | exact h | exact n 2),heap_setCell_other _ ⟨b,1,none⟩ c _ (by first | exact h | exact n 1),heap_setCell_other _ ⟨b,0,none⟩ c _ (by first | exact h | exact n 0)]
theorem setF_below {B:Nat} {w0 W:World} {b:Nat} (h:Below B w0 W) (hb:B≤b) (e:Bool) (i:Nat) (r:Bool) (d:Int) (v:Value):Below B w0 (setF W b e i r d v):=
 ((((h.setCell (p:=⟨b,0,none⟩) hb _).setCell (p:=⟨b,1,none⟩) hb _).setCell (p:=⟨b,2,none⟩) hb _).setCell (p:=⟨b,3,none⟩) hb _).setCell (p:=⟨b,4,none⟩) hb _
theorem bytes_ne {W:World} {b:Nat} {e:Bool} {i:Nat} {r:Bool} {d:Int} {vo:Option Addr} {vn vc:Nat} {a:Option Addr} {n cap:Nat} {l:List Nat} (h:frB W b e i r d (.slice vo vn vc)) (hy:isBytes W a n cap l) (hl:l≠[]):∀ x,a=some x→x.block≠b:=by
 intro x hx hb;obtain⟨g,off,e',hc⟩:=hy.cells hl
 rw[hx] at e'
 cases e'
 have h0:=hc 0 (List.length_pos_iff.2 hl)
 unfold frB at h
 have hb':g=b:=hb
 subst hb';simp only[World.cell?,h] at h0
 match off,h0 with
 | 0,h0=>simp at h0
 | 1,h0=>simp at h0
 | 2,h0=>simp at h0
 | 3,h0=>simp at h0
 | 4,h0=>simp at h0
 | o+5,h0=>simp at h0
theorem setF_bytes {W:World} {b:Nat} {e:Bool} {i:Nat} {r:Bool} {d:Int} {vo:Option Addr} {vn vc:Nat} {a:Option Addr} {n cap:Nat} {l:List Nat} (h:frB W b e i r d (.slice vo vn vc)) (hy:isBytes W a n cap l) (e':Bool) (i':Nat) (r':Bool) (d':Int) (v':Value):isBytes (setF W b e' i' r' d' v') a n cap l:=by
 refine⟨hy.len,hy.cap,hy.small,fun hl=>?_⟩
 obtain⟨g,off,e0,hc⟩:=hy.cells hl
 have hne:=bytes_ne h hy hl _ e0
 refine⟨g,off,e0,fun j hj=>?_⟩
 have:=hc j hj
 simp only[World.cell?] at this ⊢
 rw[setF_other W b e' i' r' d' v' g hne]
 exact this
structure wpI (w0:World) (F G R1 R2:Nat) (e1:Bool) (i1:Nat) (r1:Bool) (d1:Int) (ao1:Option Addr) (n1 cp1:Nat) (l1:List Nat) (e2:Bool) (i2:Nat) (r2:Bool) (d2:Int) (ao2:Option Addr) (n2 cp2:Nat) (l2:List Nat) (W:World):Prop where
 f:frB W F e1 i1 r1 d1 (.slice ao1 n1 cp1)
 y1:isBytes W ao1 n1 cp1 l1
 g:frB W G e2 i2 r2 d2 (.slice ao2 n2 cp2)
 y2:isBytes W ao2 n2 cp2 l2
 z1:frB W R1 false 0 false 0 (.slice none 0 0)
 z2:frB W R2 false 0 false 0 (.slice none 0 0)
 bel:Below w0.heap.size w0 W
 dis:F≠G∧F≠R1∧F≠R2∧G≠R1∧G≠R2∧R1≠R2∧w0.heap.size≤F∧w0.heap.size≤G∧w0.heap.size≤R1∧w0.heap.size≤R2
theorem wpI.below {w0:World} {F G R1 R2:Nat} {e1:Bool} {i1:Nat} {r1:Bool} {d1:Int} {ao1:Option Addr} {n1 cp1:Nat} {l1:List Nat} {e2:Bool} {i2:Nat} {r2:Bool} {d2:Int} {ao2:Option Addr} {n2 cp2:Nat} {l2:List Nat} {W W':World} (h:wpI w0 F G R1 R2 e1 i1 r1 d1 ao1 n1 cp1 l1 e2 i2 r2 d2 ao2 n2 cp2 l2 W) (hb:Below W.heap.size W W'):wpI w0 F G R1 R2 e1 i1 r1 d1 ao1 n1 cp1 l1 e2 i2 r2 d2 ao2 n2 cp2 l2 W':=
 ⟨(hb.block _ h.f.lt).trans h.f,h.y1.below hb,(hb.block _ h.g.lt).trans h.g,h.y2.below hb,(hb.block _ h.z1.lt).trans h.z1,(hb.block _ h.z2.lt).trans h.z2,h.bel.trans (hb.mono (by have:=h.f.lt;have:=h.dis;omega)),h.dis⟩
theorem wpI.fin {w0:World} {F G R1 R2:Nat} {e1:Bool} {i1:Nat} {r1:Bool} {d1:Int} {ao1:Option Addr} {n1 cp1:Nat} {l1:List Nat} {e2:Bool} {i2:Nat} {r2:Bool} {d2:Int} {ao2:Option Addr} {n2 cp2:Nat} {l2:List Nat} {W:World} (h:wpI w0 F G R1 R2 e1 i1 r1 d1 ao1 n1 cp1 l1 e2 i2 r2 d2 ao2 n2 cp2 l2 W) :
  isBytes (setF (setF W R1 e1 i1 r1 d1 (.slice ao1 n1 cp1)) R2 e2 i2 r2 d2 (.slice ao2 n2 cp2)) ao1 n1 cp1 l1∧isBytes (setF (setF W R1 e1 i1 r1 d1 (.slice ao1 n1 cp1)) R2 e2 i2 r2 d2 (.slice ao2 n2 cp2)) ao2 n2 cp2 l2∧Below w0.heap.size w0 (setF (setF W R1 e1 i1 r1 d1 (.slice ao1 n1 cp1)) R2 e2 i2 r2 d2 (.slice ao2 n2 cp2)):=by
 obtain⟨q1,q2,q3,q4,q5,q6,q7,q8,q9,q10⟩:=h.dis
 have h2:frB (setF W R1 e1 i1 r1 d1 (.slice ao1 n1 cp1)) R2 false 0 false 0 (.slice none 0 0):=(setF_other W R1 _ _ _ _ _ R2 (Ne.symm q6)).trans h.z2
 exact⟨setF_bytes h2 (setF_bytes h.z1 h.y1 _ _ _ _ _) _ _ _ _ _,setF_bytes h2 (setF_bytes h.z1 h.y2 _ _ _ _ _) _ _ _ _ _,setF_below (setF_below h.bel q9 _ _ _ _ _) q10 _ _ _ _ _⟩
def wpOut (w:World) (o:Ending) (w':World):Prop:=
 ∃ (e1:Bool) (i1:Nat) (r1:Bool) (d1:Int) (ao1:Option Addr) (cp1:Nat) (l1:List Nat) (e2:Bool) (i2:Nat) (r2:Bool) (d2:Int) (ao2:Option Addr) (cp2:Nat) (l2:List Nat),
  o = .returned (.tuple #[frV e1 i1 r1 d1 ao1 l1.length cp1,frV e2 i2 r2 d2 ao2 l2.length cp2])∧validB e1 i1 r1 d1 l1.length=true∧validB e2 i2 r2 d2 l2.length=true∧isBytes w' ao1 l1.length cp1 l1∧isBytes w' ao2 l2.length cp2 l2∧Below w.heap.size w w'
theorem wpOut.mk {w w':World} (e1:Bool) (i1:Nat) (r1:Bool) (d1:Int) (ao1:Option Addr) (cp1:Nat) (l1:List Nat) (e2:Bool) (i2:Nat) (r2:Bool) (d2:Int) (ao2:Option Addr) (cp2:Nat) (l2:List Nat) (h1:validB e1 i1 r1 d1 l1.length=true) (h2:validB e2 i2 r2 d2 l2.length=true) (h3:isBytes w' ao1 l1.length cp1 l1∧isBytes w' ao2 l2.length cp2 l2∧Below w.heap.size w w') :
  wpOut w (.returned (.tuple #[frV e1 i1 r1 d1 ao1 l1.length cp1,frV e2 i2 r2 d2 ao2 l2.length cp2])) w':=⟨e1,i1,r1,d1,ao1,cp1,l1,e2,i2,r2,d2,ao2,cp2,l2,rfl,h1,h2,h3.1,h3.2.1,h3.2.2⟩
theorem wpI.start {w w1 w2:World} {e1:Bool} {i1:Nat} {r1:Bool} {d1:Int} {ao1:Option Addr} {n1 cp1:Nat} {l1:List Nat} {e2:Bool} {i2:Nat} {r2:Bool} {d2:Int} {ao2:Option Addr} {n2 cp2:Nat} {l2:List Nat}
  (hb1:Below ((w.alloc (.cells #[.bool false,.int .u32 0,.bool false,.int .i64 0,.slice none 0 0] 25)).alloc (.cells #[.bool false,.int .u32 0,.bool false,.int .i64 0,.slice none 0 0] 25)).heap.size ((w.alloc (.cells #[.bool false,.int .u32 0,.bool false,.int .i64 0,.slice none 0 0] 25)).alloc (.cells #[.bool false,.int .u32 0,.bool false,.int .i64 0,.slice none 0 0] 25)) w1) (hy1:isBytes w1 ao1 n1 cp1 l1)
  (hb2:Below (w1.alloc (.cells #[.bool e1,.int .u32 (i1:Int),.bool r1,.int .i64 d1,.slice ao1 n1 cp1] 25)).heap.size (w1.alloc (.cells #[.bool e1,.int .u32 (i1:Int),.bool r1,.int .i64 d1,.slice ao1 n1 cp1] 25)) w2) (hy2:isBytes w2 ao2 n2 cp2 l2) :
  wpI w w1.heap.size w2.heap.size w.heap.size (w.heap.size+1) e1 i1 r1 d1 ao1 n1 cp1 l1 e2 i2 r2 d2 ao2 n2 cp2 l2 (w2.alloc (.cells #[.bool e2,.int .u32 (i2:Int),.bool r2,.int .i64 d2,.slice ao2 n2 cp2] 25)):=by
 have z0:(w.alloc (.cells #[.bool false,.int .u32 0,.bool false,.int .i64 0,.slice none 0 0] 25)).heap.size=w.heap.size+1:=by simp
 have z00:((w.alloc (.cells #[.bool false,.int .u32 0,.bool false,.int .i64 0,.slice none 0 0] 25)).alloc (.cells #[.bool false,.int .u32 0,.bool false,.int .i64 0,.slice none 0 0] 25)).heap.size=w.heap.size+2:=by simp
 have z1:=hb1.size
 have z2:=hb2.size
 have z3:(w1.alloc (.cells #[.bool e1,.int .u32 (i1:Int),.bool r1,.int .i64 d1,.slice ao1 n1 cp1] 25)).heap.size=w1.heap.size+1:=by simp
 have r10:frB ((w.alloc (.cells #[.bool false,.int .u32 0,.bool false,.int .i64 0,.slice none 0 0] 25)).alloc (.cells #[.bool false,.int .u32 0,.bool false,.int .i64 0,.slice none 0 0] 25)) w.heap.size false 0 false 0 (.slice none 0 0):=(Below.heap_alloc _ _ _ (by omega)).trans (heap_alloc_new w _)
 have r20:frB ((w.alloc (.cells #[.bool false,.int .u32 0,.bool false,.int .i64 0,.slice none 0 0] 25)).alloc (.cells #[.bool false,.int .u32 0,.bool false,.int .i64 0,.slice none 0 0] 25)) (w.heap.size+1) false 0 false 0 (.slice none 0 0):=by
  have:=heap_alloc_new (w.alloc (.cells #[.bool false,.int .u32 0,.bool false,.int .i64 0,.slice none 0 0] 25)) (.cells #[.bool false,.int .u32 0,.bool false,.int .i64 0,.slice none 0 0] 25)
  rw[z0] at this
  exact this
 have hA1:Below w1.heap.size w1 (w1.alloc (.cells #[.bool e1,.int .u32 (i1:Int),.bool r1,.int .i64 d1,.slice ao1 n1 cp1] 25)):=(Below.refl _ _).alloc (Nat.le_refl _) _
 have hA2:Below w2.heap.size w2 (w2.alloc (.cells #[.bool e2,.int .u32 (i2:Int),.bool r2,.int .i64 d2,.slice ao2 n2 cp2] 25)):=(Below.refl _ _).alloc (Nat.le_refl _) _
 have t1:Below w1.heap.size w1 w2:=hA1.trans (hb2.mono (by omega))
 have t2:Below w1.heap.size w1 (w2.alloc (.cells #[.bool e2,.int .u32 (i2:Int),.bool r2,.int .i64 d2,.slice ao2 n2 cp2] 25)):=t1.trans (hA2.mono (by omega))
 have t3:Below (w.heap.size+2) ((w.alloc (.cells #[.bool false,.int .u32 0,.bool false,.int .i64 0,.slice none 0 0] 25)).alloc (.cells #[.bool false,.int .u32 0,.bool false,.int .i64 0,.slice none 0 0] 25)) (w2.alloc (.cells #[.bool e2,.int .u32 (i2:Int),.bool r2,.int .i64 d2,.slice ao2 n2 cp2] 25)):=by
  have:=hb1.trans (t2.mono z1)
  rw[z00] at this
  exact this
 have f1:frB (w1.alloc (.cells #[.bool e1,.int .u32 (i1:Int),.bool r1,.int .i64 d1,.slice ao1 n1 cp1] 25)) w1.heap.size e1 i1 r1 d1 (.slice ao1 n1 cp1):=heap_alloc_new w1 _
 refine⟨(hA2.block _ (by omega)).trans ((hb2.block _ (by omega)).trans f1),hy1.below t2,heap_alloc_new w2 _,hy2.below hA2,(t3.block _ (by omega)).trans r10,(t3.block _ (by omega)).trans r20,?_,⟨by omega,by omega,by omega,by omega,by omega,by omega,by omega,by omega,by omega,by omega⟩⟩
 exact ((((Below.refl w.heap.size w).alloc (Nat.le_refl _) _).alloc (by simp) _).trans (t3.mono (by omega)))
def ownL (W:World) (B g k:Nat) (l:List Int):Prop:=W.ownsRow B 3 1 (.slice (some ⟨g,0,none⟩) l.length k) l.length (l.map (Value.int .i64))
theorem ownL.lt {W:World} {B g k:Nat} {l:List Int} (h:ownL W B g k l):B≤g∧g<W.heap.size∧l.length≤k:=by
 rcases ownsRow_split h with⟨e,_⟩|⟨g',k',e,h1,h2,h3,_⟩
 ·cases e
 ·cases e;exact⟨h1,h2,h3⟩
theorem ownL.at {W:World} {B g k:Nat} {l:List Int} (h:ownL W B g k l) (j:Nat) (hj:j<l.length):W.cell? ⟨g,j,none⟩=some (.int .i64 l[j]):=by
 rcases ownsRow_split h with⟨e,_⟩|⟨g',k',e,_,_,_,_,h5⟩
 ·cases e
 ·cases e
  have:=h5 j (.int .i64 l[j]) (by simp[hj])
  rw[Nat.zero_add] at this
  exact this
theorem ownL.same {W W':World} {B g k:Nat} {l:List Int} (h:ownL W B g k l) (he:W'.heap[g]?=W.heap[g]?):ownL W' B g k l:=ownsRow_kept h he
theorem ownL.below {W W':World} {B g k:Nat} {l:List Int} (h:ownL W B g k l) (hb:Below W.heap.size W W'):ownL W' B g k l:=h.same (hb.block _ h.lt.2.1)
theorem ownL.nil (w:World) (B:Nat) (hB:B≤w.heap.size):ownL (w.alloc (.cells #[] 3)) B w.heap.size 0 []:=World.ownsRow_made w #[] 0 hB (by decide) (by simp)
theorem filter_take_yes {l:List Int} {x:Int} {k:Nat} (hk:k<l.length) (h:l[k]≠x):(l.take (k+1)).filter (· != x)=(l.take k).filter (· != x)++[l[k]]:=by
 rw[List.take_succ_eq_append_getElem hk,List.filter_append]
 simp[h]
theorem filter_take_no {l:List Int} {x:Int} {k:Nat} (hk:k<l.length) (h:l[k]=x):(l.take (k+1)).filter (· != x)=(l.take k).filter (· != x):=by
 rw[List.take_succ_eq_append_getElem hk,List.filter_append]
 simp[h]
set_option maxHeartbeats 4000000 in
set_option maxRecDepth 20000 in
theorem wWithout_any (w:World) (B g k:Nat) (l:List Int) (x:Int) (h:ownL w B g k l) (hl:l.length≤1000) :
  Calls Tryz.prog 33 #[.slice (some ⟨g,0,none⟩) l.length k,.int .i64 x] w fun o w'=>∃ g' k',o = .returned (.slice (some ⟨g',0,none⟩) (l.filter (· != x)).length k')∧ownL w' w.heap.size g' k' (l.filter (· != x))∧Below w.heap.size w w':=by
 have HO:Hid (ownL w B g k l):=h
 have HGL:Hid (g<w.heap.size):=h.lt.2.1
 have hcp:=h.lt.2.2
 obtain⟨n,hn⟩ : ∃ n,n=l.length:=⟨_,rfl⟩
 have HN:Hid (n=l.length):=hn
 rw[← hn] at hl hcp ⊢
 clear h hn;go_enter Tryz.func33,Tryz.ntmps33
 go_wp2_with fail;have hown:=ownL.nil w w.heap.size (Nat.le_refl _)
 go_loopw [5,6] (fun v t wr=>∃ (i g' kc:Nat),i≤n∧v = .slice (some ⟨g',0,none⟩) ((l.take i).filter (· != x)).length kc∧t = .int .i64 (i:Int)∧ownL wr w.heap.size g' kc ((l.take i).filter (· != x))∧Below w.heap.size w wr) (fun _ t _=>n-(intOf t).toNat)
 case atStart=>exact⟨0,_,0,Nat.zero_le _,rfl,rfl,hown,(Below.refl _ _).alloc (Nat.le_refl _) _⟩
 case round=>
  clear hown;obtain⟨i,g',kc,hi,rfl,rfl,ho,hb⟩:=hrel
  have HOW:Hid (ownL wr w.heap.size g' kc ((l.take i).filter (· != x))):=ho
  have HB:Hid (Below w.heap.size w wr):=hb
  clear ho hb;by_cases hlt:i<n
  ·have hil:i<l.length:=by have:=HN.out;omega
   have HC:Hid (∀ W,Below w.heap.size w W→W.cell? ⟨g,i,none⟩=some (.int .i64 l[i])):=fun W hW=>(hW.cell (by exact HGL.out)).trans (HO.out.at i hil)
   have y:=HC.out wr HB.out
   by_cases hx:l[i]=x
   ·rw[hx] at y
    have HF:Hid ((l.take (i+1)).filter (· != x)=(l.take i).filter (· != x)):=filter_take_no hil hx
    go_wp2_with fail;go_roundw
    case rel=>exact⟨i+1,g',kc,by omega,by rw[HF.out],by go_num,by rw[HF.out];exact HOW.out,HB.out⟩
    case measure=>simp[intOf];omega
   ·have HF:Hid ((l.take (i+1)).filter (· != x)=(l.take i).filter (· != x)++[l[i]]):=filter_take_yes hil hx
    have hx':(l[i] == x)=false:=by simpa using hx
    have hx2:(l[i] != x)=true:=by simpa using hx
    generalize l[i]=li at *;obtain⟨fl,hfl⟩ : ∃ fl,(l.take i).filter (· != x)=fl:=⟨_,rfl⟩
    have HFL:Hid ((l.take i).filter (· != x)=fl):=hfl
    rw[hfl] at HOW
    simp only[hfl]
    have HLE:Hid (fl.length≤1000):=by
     have h1:fl.length≤(l.take i).length:=by rw[← hfl];exact List.length_filter_le _ _
     rw[List.length_take] at h1
     show fl.length≤1000
     omega
    clear hfl;have HAL:Hid (ownL (wr.alloc (.cells #[.int .i64 li] 3)) w.heap.size g' kc fl):=HOW.out.below ((Below.refl _ _).alloc (Nat.le_refl _) _)
    have HNW:Hid ((wr.alloc (.cells #[.int .i64 li] 3)).heap[wr.heap.size]?=some (.cells #[.int .i64 li] 3)):=heap_alloc_new wr _
    have HBA:Hid (Below w.heap.size w (wr.alloc (.cells #[.int .i64 li] 3))):=HB.out.alloc HB.out.size _
    go_wp2_with (first
     | (at_builtin;refine app_rec (w:=wr.alloc (.cells #[.int .i64 li] 3)) rfl (.tmp 20) (.tmp 25) 50 3 _ 1 8 Tryz.info3 Tryz.underlying50 rfl (by decide) (by decide) rfl w.heap.size g' fl.length kc (fl.map (Value.int .i64)) rfl HAL.out wr.heap.size [.int .i64 li] rfl rfl HNW.out (by simp[Value.oneCell']) (by have:=HLE.out;omega) (by exact HBA.out.size) ?_;intro g6 k6 w6 ho6 hg6 hg6' hb6))
    go_roundw
    case rel=>
     have e:(l.take (i+1)).filter (· != x)=fl++[li]:=by rw[HF.out,HFL.out]
     refine⟨i+1,g6,k6,by omega,by rw[e,List.length_append];rfl,by go_num,?_,HBA.out.grown hg6 HBA.out.size (fun q hq=>by cases hq;exact HAL.out.lt.1)⟩
     rw[e]
     unfold ownL
     rw[List.length_append,List.map_append]
     exact ho6
    case measure=>simp[intOf];omega
  ·have hin:i=n:=by omega
   subst hin;have e:l.take i=l:=by rw[HN.out];exact List.take_length
   go_wp2_with fail;go_ret;refine⟨g',kc,by rw[e];rfl,?_,HB.out⟩
   have:=HOW.out
   rw[e] at this
   exact this
theorem without_len {l:List Int} (hn:l.Nodup) {x:Int} (hx:x ∈ l):(l.filter (· != x)).length+1=l.length:=by
 rw[← hn.erase_eq_filter x,List.length_erase_of_mem hx]
 have:=List.length_pos_of_mem hx
 omega
set_option maxHeartbeats 4000000 in
set_option maxRecDepth 20000 in
theorem wHolds_any (w:World) (H:Ho) (s:Sl) (B g k:Nat) (l:List Int) (h:isHo w H s) (ho:ownL w B g k l) (hp:l.Perm (nfY H.bx)) (hnd:(nfY H.bx).Nodup) (hl:H.bx.length≤8) :
  Calls Tryz.prog 34 #[.agg (hoL H s).toArray,.slice (some ⟨g,0,none⟩) l.length k] w fun o w'=>o = .returned (.bool true)∧Below w.heap.size w w':=by
 have HB0:Hid (Below w.heap.size w (w.alloc (.cells (hoL H s).toArray 35))):=(Below.refl _ _).alloc (Nat.le_refl _) _
 have HP0:Hid (blk (w.alloc (.cells (hoL H s).toArray 35)) w.heap.size (hoL H s) 35):=blk.new w _ 35
 have HH:Hid (isHo w H s):=h
 have HO:Hid (ownL w B g k l):=ho
 have HPM:Hid (l.Perm (nfY H.bx)∧l.Nodup):=⟨hp,hp.nodup_iff.2 hnd⟩
 have hnl:=h.bx.len
 have hcl:=h.bx.cap
 have HLL:Hid (l.length=(nfY H.bx).length∧l.length≤8):=by
  have h1:=hp.length_eq
  have h2:=(nfY_len H.bx).1
  exact⟨h1,by omega⟩
 have HW:Hid (∀ X x,Below w.heap.size w X→Calls Tryz.prog 33 #[.slice (some ⟨g,0,none⟩) l.length k,.int .i64 x] X fun o w'=>∃ g' k',o = .returned (.slice (some ⟨g',0,none⟩) (l.filter (· != x)).length k')∧Below X.heap.size X w'):=fun X x hX=>(wWithout_any X B g k l x (ho.same (hX.block _ ho.lt.2.1)) (by have:=HLL.out.2;omega)).mono (by rintro o w' ⟨g',k',rfl,_,hb⟩;exact⟨g',k',rfl,hb⟩)
 have HLN:Hid (s.n2=H.bx.length):=hnl
 have hn8:s.n2≤8:=by omega
 clear h ho hp hnd hl hnl;go_enter Tryz.func34,Tryz.ntmps34
 go_wp2_with fail;go_loopw [5,6] (fun v t wr=>∃ (i:Nat),i≤s.n2∧v = .int .i64 ((nfY (H.bx.take i)).length:Int)∧t = .int .i64 (i:Int)∧blk wr w.heap.size (hoL H s) 35∧Below w.heap.size w wr) (fun _ t _=>s.n2-(intOf t).toNat)
 case atStart=>exact⟨0,Nat.zero_le _,rfl,rfl,HP0.out,HB0.out⟩
 case round=>
  obtain⟨i,hi,rfl,rfl,hp,hb⟩:=hrel
  have HPW:Hid (blk wr w.heap.size (hoL H s) 35):=hp
  have HBW:Hid (Below w.heap.size w wr):=hb
  clear hp hb HP0 HB0;have x5:wr.cell? ⟨w.heap.size,5,none⟩=some (.slice s.a2 s.n2 s.k2):=HPW.out.cell 5 _ (by unfold hoL;rfl)
  by_cases hlt:i<s.n2
  ·have hil:i<H.bx.length:=by have:=HLN.out;omega
   obtain⟨g2,o2,e2,hc⟩:=HH.out.bx.cells (by intro e;rw[e] at hil;exact absurd hil (Nat.not_lt_zero _))
   obtain⟨ao,m,c,hat⟩:=hc i hil
   rw[e2] at x5
   have y0:=(hat.below HBW.out).c0
   have y1:=(hat.below HBW.out).c1
   have HT:Hid (nfY (H.bx.take (i+1))=nfY (H.bx.take i)++(if (H.bx[i].x != 0)=true then [H.bx[i].y] else [])):=nfY_take H.bx i hil
   have HTL:Hid ((nfY (H.bx.take i)).length≤i):=by
    have:=(nfY_len (H.bx.take i)).1
    rw[List.length_take] at this
    show _≤i
    omega
   by_cases hx:H.bx[i].x=0
   ·rw[hx] at y0
    go_wp2_with fail;go_roundw
    case rel=>exact⟨i+1,by omega,by rw[HT.out,hx];simp,by go_num,HPW.out,HBW.out⟩
    case measure=>simp[intOf];omega
   ·have hx':(H.bx[i].x != 0)=true:=by simpa using hx
    have HM:Hid ((l.filter (· != H.bx[i].y)).length+1=l.length):=without_len HPM.out.2 (HPM.out.1.mem_iff.2 (by
     unfold nfY
     exact List.mem_map.2 ⟨H.bx[i],List.mem_filter.2 ⟨List.getElem_mem hil,hx'⟩,rfl⟩))
    have HT2:Hid ((nfY (H.bx.take (i+1))).length=(nfY (H.bx.take i)).length+1):=by show _=_;rw[HT.out,if_pos hx',List.length_append];rfl
    have hxe:(H.bx[i].x == 0)=false:=by simpa using hx
    clear hc hat;generalize H.bx[i].y=ty at *;generalize H.bx[i].x=tx at *;generalize hq:(nfY (H.bx.take i)).length=q at *;have hql:=HTL.out
    have hw1:IntKind.i64.wrap ((q:Int)+1)=((q+1:Nat):Int):=by rw[IntKind.wrap_i64];omega
    go_wp2_with fail;refine (HW.out wr ty HBW.out).mono ?_
    rintro o w2 ⟨g',k',rfl,hb2⟩;have HPW2:Hid (blk w2 w.heap.size (hoL H s) 35):=HPW.out.below hb2
    have HBW2:Hid (Below w.heap.size w w2):=HBW.out.trans (hb2.mono HBW.out.size)
    clear hb2 HPW HBW x5 y0 y1;have hm1:=HM.out
    have hl8:=HLL.out.2
    generalize (l.filter (· != ty)).length=fl at *;have hw2:IntKind.i64.wrap ((l.length:Int)-1)=(fl:Int):=by rw[IntKind.wrap_i64];omega
    go_wp2_with fail;go_roundw
    case rel=>exact⟨i+1,by omega,by rw[HT2.out];simp,by go_num,HPW2.out,HBW2.out⟩
    case measure=>simp[intOf];omega
  ·have hin:i=s.n2:=by omega
   have e:H.bx.take i=H.bx:=by rw[hin,HLN.out];exact List.take_length
   rw[e]
   have hle:=HLL.out.1
   have hqe:((nfY H.bx).length:Int)=(l.length:Int):=by omega
   rw[hqe]
   subst hin;go_wp2_with fail;go_ret;exact⟨rfl,HBW.out⟩
end Go.Proofs.YtaamahohdnbpiaaGreat
