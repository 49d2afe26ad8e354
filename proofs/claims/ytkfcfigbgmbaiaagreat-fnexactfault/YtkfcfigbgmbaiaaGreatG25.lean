import Derived.Test.YtkfcfigbgmbaiaaGreatG16
import Derived.Test.YtkfcfigbgmbaiaaGreatVA
namespace Go.Proofs.YtkfcfigbgmbaiaaGreat
open Go.RowKit
set_option linter.unusedVariables false
theorem at8.frame {w:World} {g o:Nat} {b:R8} {ao:Option Addr} {m c:Nat} (h:at8 w g o b ao m c):w.rangeAt g (o+3) [.bool b.e,.int .u32 (b.i:Int),.bool b.r,.int .i64 b.d,.slice ao m c]:=by
 intro j v hv;match j,hv with
 | 0,hv=>cases hv;exact h.c3
 | 1,hv=>cases hv;exact h.c4
 | 2,hv=>cases hv;exact h.c5
 | 3,hv=>cases hv;exact h.c6
 | 4,hv=>cases hv;exact h.cs
structure gaS (w:World) (L1 L2:List Value) (W:World):Prop where
 p:blk W w.heap.size L1 166
 q:blk W (w.heap.size+1) L2 166
 b:Below w.heap.size w W
theorem gaS.below {w:World} {L1 L2:List Value} {W W':World} (h:gaS w L1 L2 W) (hb:Below W.heap.size W W'):gaS w L1 L2 W':=⟨h.p.below hb,h.q.below hb,h.b.trans (hb.mono h.b.size)⟩
structure beS (w:World) (PB:Nat) (L:List Value) (W:World):Prop where
 p:blk W PB L 166
 b:Below w.heap.size w W
theorem beS.below {w:World} {PB:Nat} {L:List Value} {W W':World} (h:beS w PB L W) (hb:Below W.heap.size W W'):beS w PB L W':=⟨h.p.below hb,h.b.trans (hb.mono h.b.size)⟩
end Go.Proofs.YtkfcfigbgmbaiaaGreat
