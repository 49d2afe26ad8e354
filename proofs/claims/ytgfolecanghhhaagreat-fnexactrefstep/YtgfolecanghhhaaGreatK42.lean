import Derived.Test.YtgfolecanghhhaaGreatK07
import Derived.Deep.DeepCutAuto
import Derived.Test.YtgfolecanghhhaaGreatK11
import Derived.Deep.RegionLaw
namespace Go.Proofs.YtgfolecanghhhaaGreat
open Go.RowKit
set_option linter.all false
open Go.Value renaming int->I,slice->sL,bool->bO,pointer->pT,agg->aG
open Go.IntKind renaming i64->J
open Go.Ending renaming returned->rT
abbrev z5:List Value:=[bO false,I .u32 0,bO false,I J 0,sL none 0 0]
def Hc {w:World} {B B' E sz n:Nat} {v:Value} {xs:List Value} (h:w.ownsRow B E sz v n xs) (hB:B'<=B):w.ownsRow B' E sz v n xs:=⟨h.1,h.2.imp id fun ⟨g,c,cur,h1,h2,h3⟩=>⟨g,c,cur,h1,nT hB h2,h3⟩⟩
end Go.Proofs.YtgfolecanghhhaaGreat
