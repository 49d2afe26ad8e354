import Derived.Test.YtbbffcolnddcdaaGreatDoorK01
import Derived.Below
import Derived.KernelRfl
namespace Go.RowKit
theorem Hid.o{p:Prop}(h:Hid p):p:=h
end Go.RowKit
namespace Go.Proofs.YtbbffcolnddcdaaGreatDoor
theorem kr{p:Prop}(h:p:=by kernel_rfl):p:=h
abbrev Bl(w w':World):Prop:=Go.RowKit.Below w.heap.size w w'
end Go.Proofs.YtbbffcolnddcdaaGreatDoor
