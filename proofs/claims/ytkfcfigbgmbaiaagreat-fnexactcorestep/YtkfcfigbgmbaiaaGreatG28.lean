import Derived.Test.YtkfcfigbgmbaiaaGreatG26
import Derived.Test.YtkfcfigbgmbaiaaGreatMI
namespace Go.Proofs.YtkfcfigbgmbaiaaGreat
open Go.RowKit
set_option linter.unusedVariables false
theorem ring5.base {w0 w W:World} {g room first:Nat} {L:List R5} (h:ring5 w0 W g room first L) (hb:Below w0.heap.size w0 w):ring5 w W g room first L:=fun i hi=>by
 obtain⟨ao,m,c,h1,h2⟩:=h i hi
 exact⟨ao,m,c,h1,h2.below hb⟩
theorem ring8.base {w0 w W:World} {g room first:Nat} {L:List R8} (h:ring8 w0 W g room first L) (hb:Below w0.heap.size w0 w):ring8 w W g room first L:=fun i hi=>by
 obtain⟨ao,m,c,h1,h2⟩:=h i hi
 exact⟨ao,m,c,h1,h2.below hb⟩
def toldQ (w:World) (H:Ho) (e:Ending) (w':World):Prop:=∃ s:Wh,e = .returned (.agg (hoL H s.sl).toArray)∧St w.heap.size w' (fun W=>isHo W H s.sl)∧whS w.heap.size w'.heap.size w' s∧whD s∧whE s∧Below w.heap.size w w'
structure dtS (w:World) (H:Ho) (s:Sl) (W:World):Prop where
 p:blk W w.heap.size (hoL H s) 39
 r:blk W (w.heap.size+1) Z10 39
 b:Below w.heap.size w W
theorem dtS.below {w:World} {H:Ho} {s:Sl} {W W':World} (h:dtS w H s W) (hb:Below W.heap.size W W'):dtS w H s W':=⟨h.p.below hb,h.r.below hb,h.b.trans (hb.mono h.b.size)⟩
theorem dtS.new (w:World) (H:Ho) (s:Sl):dtS w H s ((w.alloc (.cells (hoL H s).toArray 39)).alloc (.cells Z10.toArray 39)):=by
 refine⟨(blk.new w _ 39).alloc _,?_,((Below.refl _ _).alloc (Nat.le_refl _) _).alloc (by simp) _⟩
 have:=blk.new (w.alloc (.cells (hoL H s).toArray 39)) Z10 39
 simpa using this
end Go.Proofs.YtkfcfigbgmbaiaaGreat
