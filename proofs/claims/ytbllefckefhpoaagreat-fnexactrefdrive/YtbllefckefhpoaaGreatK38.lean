import Derived.Test.YtbllefckefhpoaaGreatK34
import Derived.Test.YtbllefckefhpoaaGreatK29
import Derived.Deep.RegionHeld3
import Derived.Test.YtbllefckefhpoaaGreatK06
namespace Go.Proofs.YtbllefckefhpoaaGreat
open Go.RowKit
set_option linter.unusedVariables false
open Go.Value renaming int→I,slice→sL,bool→bO,pointer→pT,agg→aG
open Go.IntKind renaming i64→J
open Go.Ending renaming returned→rT
open Go.Proofs.Tryz renaming prog→Tp
def MKQ (B:Nat) (T:Ho) (sg:Sl) (w:World):Prop:=∀ W,(∀ x,B≤x→x<w.heap.size→W.heap[x]?=w.heap[x]?)→w.heap.size≤W.heap.size→Calls Tp 40 #[aG (hoL T sg).toArray,I J 1] W fun o w1=>∃ k:Nat,o = rT (I J (k:Int))∧Below B W w1∧(∀ x,w.heap.size≤x→x<W.heap.size→w1.heap[x]?=W.heap[x]?)∧∀ W2,Below w1.heap.size w1 W2→Calls Tp 41 #[aG (hoL T sg).toArray,I J 1] W2 fun o w2=>o = rT (I J (k:Int))∧Below W2.heap.size W2 w2
theorem whS.mkq {B:Nat} {w:World} {s:Wh} {H:Ho} (h:whS B w.heap.size w s) (hd:whD s) (he:whE s):MKQ B H s.sl w:=by
 intro W hW hz;have hs:whS B w.heap.size W s:=h.same hW
 refine (markHost_gen B w.heap.size W H.c0 H.c1 H.c2 H.c3 H.lo H.st s 1 hs hd hz (by omega)).mono ?_
 rintro o w1 ⟨rfl,hm,hs1,ho,hb⟩;refine⟨s.c4 1,rfl,hb,fun x h1 h2=>ho x (Or.inr h1) h2,fun W2 hW2=>?_⟩
 have hz1:w.heap.size≤w1.heap.size:=Nat.le_trans hz hb.size
 have hs2:whS B w.heap.size W2 s:=hs1.same fun x _ hx=>hW2.block x (by omega)
 have hm2:whM W2 s 1:=(hm he).same hs1 fun x _ hx=>hW2.block x (by omega)
 exact heldHost_gen B w.heap.size W2 H.c0 H.c1 H.c2 H.c3 H.lo H.st s 1 hs2 hm2 (Nat.le_trans hz1 hW2.size) (by omega)
theorem zHo_mkq (B:Nat) (w:World) (hB:B≤w.heap.size):MKQ B zHo zSl w:=by
 intro W hW hz;refine (markHost_nil W 0 0 0 0 0 0 1 (by omega)).mono ?_
 rintro o w1 ⟨rfl,hb⟩;refine⟨1,rfl,hb.mono (by omega),fun x _ h2=>hb.block x h2,fun W2 hW2=>?_⟩
 refine (heldHost_nil W2 0 0 0 0 0 0 1 (by omega)).mono ?_
 rintro o w2 ⟨rfl,hb2⟩;exact⟨rfl,hb2⟩
theorem xMark2 {B T:Nat} {W:World} {sx:Wh} {H:Ho} (h:whS B T W sx) (hd:whD sx) (hT:T≤W.heap.size):Calls Tp 40 #[aG (hoL H sx.sl).toArray,I J 1] W fun o w1=>∃ k:Nat,o = rT (I J (k:Int))∧(∀ x,T≤x→x<W.heap.size→w1.heap[x]?=W.heap[x]?)∧Below B W w1:=by
 refine (markHost_gen B T W H.c0 H.c1 H.c2 H.c3 H.lo H.st sx 1 h hd hT (by omega)).mono ?_
 rintro o w1 ⟨rfl,_,_,q,hb⟩;exact⟨_,rfl,fun x h1 h2=>q x (Or.inr h1) h2,hb⟩
theorem toWh (X:World) (H:Ho) (s:Sl) (h:isHo X H s) (hm:H.le 1048576):Calls Tp 34 #[aG (hoL H s).toArray] X fun o w'=>∃ s':Wh,o = rT (aG (hoL H s'.sl).toArray)∧St X.heap.size w' (fun W=>isHo W H s'.sl)∧whS X.heap.size w'.heap.size w' s'∧whD s'∧slSome s'.sl∧Below X.heap.size X w':=by
 rw[← hoV_L]
 refine (toHost_iv X H s h hm).mono ?_
 rintro o w' ⟨s',rfl,h1,h2⟩;have hs:slSome s':=by
  obtain⟨g1,g2,_,_,_,_,_,e,_⟩:=h1.now.2.e
  rw[e]
  exact⟨⟨g1,rfl⟩,⟨g2,rfl⟩⟩
 obtain⟨s2,rfl,h3,h4⟩:=h1.now.2.wh h1.now.1 hm
 exact⟨s2,by rw[hoV_L],fun W hW=>(h1 W hW).1,h3,h4,hs,h2⟩
structure lwS (w:World) (H:Ho) (s:Sl) (T:Ho) (bw:Nat) (sw:Sl) (W:World):Prop where
 p:blk W w.heap.size (hoL H s) 29
 q:blk W bw (hoL T sw) 41
 t:isHo W T sw
 h:isHo W H s
 b:Below w.heap.size w W
theorem lwS.below {w:World} {H:Ho} {s:Sl} {T:Ho} {bw:Nat} {sw:Sl} {W W':World} (h:lwS w H s T bw sw W) (hb:Below W.heap.size W W'):lwS w H s T bw sw W':=⟨h.p.below hb,h.q.below hb,h.t.below hb,h.h.below hb,h.b.trans (hb.mono h.b.size)⟩
structure lwX (w:World) (H:Ho) (s:Sl) (T:Ho) (bw:Nat) (sw:Sl) (w4:World) (T5 bx:Nat) (sx:Wh) (W:World):Prop where
 l:lwS w H s T bw sw W
 x:blk W bx (hoL H sx.sl) 41
 xh:isHo W H sx.sl
 xw:whS w4.heap.size T5 W sx
 z:bw<w4.heap.size∧w.heap.size<w4.heap.size∧w4.heap.size≤T5∧T5≤bx
 b4:Below w4.heap.size w4 W
theorem lwX.below {w:World} {H:Ho} {s:Sl} {T:Ho} {bw:Nat} {sw:Sl} {w4:World} {T5 bx:Nat} {sx:Wh} {W W':World} (h:lwX w H s T bw sw w4 T5 bx sx W) (hb:Below W.heap.size W W'):lwX w H s T bw sw w4 T5 bx sx W':=⟨h.l.below hb,h.x.below hb,h.xh.below hb,h.xw.same (fun x _ hx=>hb.block x (by have:=h.x.lt;have:=h.z;omega)),h.z,h.b4.trans (hb.mono h.b4.size)⟩
structure lwG (w:World) (H:Ho) (s:Sl) (T:Ho) (bw:Nat) (sw:Sl) (w4:World) (bx B6:Nat) (w7:World) (bg:Nat) (sg:Sl) (W:World):Prop where
 l:lwS w H s T bw sw W
 g:blk W bg (hoL T sg) 41
 k:∀ x,B6≤x→x<w7.heap.size→W.heap[x]?=w7.heap[x]?
 z:bx<B6∧B6≤w7.heap.size∧w7.heap.size≤bg
 y:bw<w4.heap.size∧w.heap.size<w4.heap.size∧w4.heap.size≤bx
 b4:Below w4.heap.size w4 W
theorem lwG.below {w:World} {H:Ho} {s:Sl} {T:Ho} {bw:Nat} {sw:Sl} {w4:World} {bx B6:Nat} {w7:World} {bg:Nat} {sg:Sl} {W W':World} (h:lwG w H s T bw sw w4 bx B6 w7 bg sg W) (hb:Below W.heap.size W W'):lwG w H s T bw sw w4 bx B6 w7 bg sg W':=⟨h.l.below hb,h.g.below hb,fun x h1 h2=>(hb.block x (by have:=h.g.lt;have:=h.z;omega)).trans (h.k x h1 h2),h.z,h.y,h.b4.trans (hb.mono h.b4.size)⟩
theorem lwG.xmark {w:World} {H:Ho} {s:Sl} {T:Ho} {bw:Nat} {sw:Sl} {w4:World} {bx B6:Nat} {w7:World} {bg:Nat} {sg:Sl} {W W':World} (h:lwG w H s T bw sw w4 bx B6 w7 bg sg W) (h4:isHo w4 T sw∧isHo w4 H s) (hb:Below w4.heap.size W W') (ho:∀ x,bx≤x→x<W.heap.size→W'.heap[x]?=W.heap[x]?):lwG w H s T bw sw w4 bx B6 w7 bg sg W':=by
 have hb4:=h.b4.trans hb
 refine⟨⟨h.l.p.kept (hb.block _ h.y.2.1),h.l.q.kept (hb.block _ h.y.1),h4.1.below hb4,h4.2.below hb4,h.l.b.trans (hb.mono (by have:=h.y;omega))⟩,h.g.kept (ho _ (by have:=h.z;omega) h.g.lt),fun x h1 h2=>(ho x (by have:=h.z;omega) (by have:=h.g.lt;have:=h.z;omega)).trans (h.k x h1 h2),h.z,h.y,hb4⟩
theorem lwG.gmark {w:World} {H:Ho} {s:Sl} {T:Ho} {bw:Nat} {sw:Sl} {w4:World} {bx B6:Nat} {w7:World} {bg:Nat} {sg:Sl} {W W':World} (h:lwG w H s T bw sw w4 bx B6 w7 bg sg W) (h4:isHo w4 T sw∧isHo w4 H s) (hb:Below B6 W W'):lwS w H s T bw sw W':=by
 have hz:=h.z
 have hy:=h.y
 have hb4:=h.b4.trans (hb.mono (by omega))
 exact⟨h.l.p.kept (hb.block _ (by omega)),h.l.q.kept (hb.block _ (by omega)),h4.1.below hb4,h4.2.below hb4,h.l.b.trans (hb.mono (by omega))⟩
end Go.Proofs.YtbllefckefhpoaaGreat
