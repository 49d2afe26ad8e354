import Derived.Test.YtnfmjckkibdcaaaGreatDoorK37
import Derived.Test.YtnfmjckkibdcaaaGreatDoorK36
namespace Go.Proofs.YtnfmjckkibdcaaaGreatDoor
open Go.RowKit
set_option linter.all false
open Go.Value renaming int->I,slice->sL,bool->bO,pointer->pT,agg->aG
open Go.IntKind renaming i64->J
open Go.Ending renaming returned->rT
open Go.Proofs.Tryz renaming prog->Tp
def opn (w:World) (C:Co) (M:Nat) (w':World):Prop:=∃ (w0:World) (G:Lg) (nm:Nat),mx w0 M G 0 0 nm C w'/\Bl w w0/\M<w'.heap.size/\G.gb<w'.heap.size/\Bl w w'
def EJ (w:World) (C:Co) (s:Sl) (h:aK w C.ho s) (hs:dz s) (hok:g9 C) (hm:C.ho.le 1048576):Calls Tp 61 #[aG (coL C s).toArray] w fun o w'=>∃ M,o = rT (pT (some ⟨M,0,none⟩))/\opn w C M w':=by
 refine (oc (R:=fun P w'=>∃ (X:World) (G:Lg) (hd:Nat->Hd),Bl w X/\lh X G C.ho 0 0 hd G.n2 (dQ Unit C.ho.bx G.n2) w'/\P=G.P) ?_ w C s ?_).mono ?_
 .rintro P W W' ⟨X,G,hd,h1,h2,h3⟩ hb;exact⟨X,G,hd,h1,h2.below hb,h3⟩
 .intro W hW;refine (A1 W C.ho s (h.below hW) hs hok.h hm).mono ?_;rintro o w' ⟨G,hd,rfl,h1,_⟩;exact⟨G.P,rfl,⟨W,G,hd,hW,h1,rfl⟩,h1.b⟩
 rintro o w' ⟨P,w5,rfl,rfl,⟨X,G,hd,h1,h2,rfl⟩,h3⟩;have hb5:Bl w5 (w5.alloc (.cells (mcL G.P C).toArray 151)):=(bW _ _).alloc (nR _) _;have a1:=h2.p.lt;have a2:=h2.m.lt;have a3:=h2.hi;have a4:=h2.x.hi;have a5:=h2.b.size;have hmc:mc X w5.heap.size G C 0 0 hd G.n2 (dQ Unit C.ho.bx G.n2) (w5.alloc (.cells (mcL G.P C).toArray 151)):=
  ⟨blk.new w5 _ 151,h2.below hb5,⟨om,om,om,om,om,om,om⟩⟩
 refine⟨w5.heap.size,rfl,X,G,G.n2,⟨hd,_,hmc⟩,h1,pQ,by simp;omega,h3.trans (hb5.mono h3.size)⟩
def eH {w:World} {b:Nat} {C:Co} {s:Sl} {hd:ByteArray} {T:TypeId} (h:blk w b (rfL C s hd) T):w.rangeAt b 0 (coL C s):=by
 have h':blk w b ([]++coL C s++[.string hd]) T:=h;exact h'.loadAt [] (coL C s) [.string hd]
end Go.Proofs.YtnfmjckkibdcaaaGreatDoor
