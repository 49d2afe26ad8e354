import Derived.Test.YtnfmjckkibdcaaaGreatDoorK41
import Derived.Test.YtnfmjckkibdcaaaGreatDoorK22
import Derived.Test.YtnfmjckkibdcaaaGreatDoorK34
namespace Go.Proofs.YtnfmjckkibdcaaaGreatDoor
open Go.RowKit
set_option linter.all false
def J5 {hd:ByteArray} (h:(bH hd).code=0\/(bH hd).code=1):goL (lt hd):=by
 unfold bH at h;by_cases hk:okT hd 4000=true
 .rw[zc hk] at h;exact⟨gC hk,CC _ _ (by unfold av;simpa using h)⟩
 .rw[zb hk] at h;simp at h
def ya (hd:ByteArray):ae (lt hd)=hd:=by
 have e:(lt hd).map UInt8.ofNat=hd.data.toList:=by
  unfold lt;rw[List.map_map];exact (Qn (fun x _=>by simp)).trans (List.map_id _)
 unfold ae;rw[e]
end Go.Proofs.YtnfmjckkibdcaaaGreatDoor
