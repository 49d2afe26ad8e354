import Derived.Test.YtnfmjckkibdcaaaGreatDoorK20
namespace Go.Proofs.YtnfmjckkibdcaaaGreatDoor
open Go.RowKit
set_option linter.all false
open Go.Value renaming int->I,slice->sL,bool->bO,pointer->pT,agg->aG
open Go.IntKind renaming i64->J
open Go.Ending renaming returned->rT
variable {w0 w W:World} {g room first:Nat}
def cE.base {L:List R5} (h:cE w0 W g room first L) (hb:Bl w0 w):cE w W g room first L:=fun i hi=>by
 obtain⟨ao,m,c,h1,h2⟩:=h i hi;exact⟨ao,m,c,h1,h2.below hb⟩
def cw.base {L:List R8} (h:cw w0 W g room first L) (hb:Bl w0 w):cw w W g room first L:=fun i hi=>by
 obtain⟨ao,m,c,h1,h2⟩:=h i hi;exact⟨ao,m,c,h1,h2.below hb⟩
def pn (w:World) (H:Ho) (e:Ending) (w':World):Prop:=∃ s:Wh,e = rT (aG (hoL H s.sl).toArray)/\St w.heap.size w' (fun W=>aK W H s.sl)/\whS w.heap.size w'.heap.size w' s/\whD s/\whE s/\Bl w w'
end Go.Proofs.YtnfmjckkibdcaaaGreatDoor
