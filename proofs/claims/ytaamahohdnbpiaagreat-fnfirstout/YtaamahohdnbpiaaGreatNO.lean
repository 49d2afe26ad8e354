import Derived.Test.YtaamahohdnbpiaaGreatG22
namespace Go.Proofs.YtaamahohdnbpiaaGreat
open Go.RowKit
set_option linter.unusedVariables false
def tagBb (t : Int) (b : R8) : Bool := !(b.x == 0) && b.y == t
def tagIx (bx : List R8) (t : Int) : Nat := bx.findIdx (tagBb t)
end Go.Proofs.YtaamahohdnbpiaaGreat
