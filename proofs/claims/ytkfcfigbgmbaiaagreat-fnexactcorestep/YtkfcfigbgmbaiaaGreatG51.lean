import Derived.Test.YtkfcfigbgmbaiaaGreatDI
import Derived.Test.YtkfcfigbgmbaiaaGreatOA
import Derived.Deep.RegionHeld3
import Derived.Test.YtkfcfigbgmbaiaaGreatG43
namespace Go.Proofs.YtkfcfigbgmbaiaaGreat
open Go.RowKit
set_option linter.unusedVariables false
structure lcS (w:World) (C:Co) (s:Sl) (T:Co) (bw:Nat) (sw:Sl) (W:World):Prop where
 p:blk W w.heap.size (coL C s) 31
 q:blk W bw (coL T sw) 41
 t:isHo W T.ho sw
 h:isHo W C.ho s
 b:Below w.heap.size w W
theorem lcS.below {w:World} {C:Co} {s:Sl} {T:Co} {bw:Nat} {sw:Sl} {W W':World} (h:lcS w C s T bw sw W) (hb:Below W.heap.size W W'):lcS w C s T bw sw W':=⟨h.p.below hb,h.q.below hb,h.t.below hb,h.h.below hb,h.b.trans (hb.mono h.b.size)⟩
structure lcX (w:World) (C:Co) (s:Sl) (T:Co) (bw:Nat) (sw:Sl) (w4:World) (T5 bx:Nat) (sx:Wh) (W:World):Prop where
 l:lcS w C s T bw sw W
 x:blk W bx (coL C sx.sl) 41
 xh:isHo W C.ho sx.sl
 xw:whS w4.heap.size T5 W sx
 z:bw<w4.heap.size∧w.heap.size<w4.heap.size∧w4.heap.size≤T5∧T5≤bx
 b4:Below w4.heap.size w4 W
theorem lcX.below {w:World} {C:Co} {s:Sl} {T:Co} {bw:Nat} {sw:Sl} {w4:World} {T5 bx:Nat} {sx:Wh} {W W':World} (h:lcX w C s T bw sw w4 T5 bx sx W) (hb:Below W.heap.size W W'):lcX w C s T bw sw w4 T5 bx sx W':=⟨h.l.below hb,h.x.below hb,h.xh.below hb,h.xw.same (fun x _ hx=>hb.block x (by have:=h.x.lt;have:=h.z;omega)),h.z,h.b4.trans (hb.mono h.b4.size)⟩
structure lcG (w:World) (C:Co) (s:Sl) (T:Co) (bw:Nat) (sw:Sl) (w4:World) (bx B6:Nat) (w7:World) (bg:Nat) (sg:Sl) (W:World):Prop where
 l:lcS w C s T bw sw W
 g:blk W bg (coL T sg) 41
 k:∀ x,B6≤x→x<w7.heap.size→W.heap[x]?=w7.heap[x]?
 z:bx<B6∧B6≤w7.heap.size∧w7.heap.size≤bg
 y:bw<w4.heap.size∧w.heap.size<w4.heap.size∧w4.heap.size≤bx
 b4:Below w4.heap.size w4 W
theorem lcG.below {w:World} {C:Co} {s:Sl} {T:Co} {bw:Nat} {sw:Sl} {w4:World} {bx B6:Nat} {w7:World} {bg:Nat} {sg:Sl} {W W':World} (h:lcG w C s T bw sw w4 bx B6 w7 bg sg W) (hb:Below W.heap.size W W'):lcG w C s T bw sw w4 bx B6 w7 bg sg W':=⟨h.l.below hb,h.g.below hb,fun x h1 h2=>(hb.block x (by have:=h.g.lt;have:=h.z;omega)).trans (h.k x h1 h2),h.z,h.y,h.b4.trans (hb.mono h.b4.size)⟩
theorem lcG.xmark {w:World} {C:Co} {s:Sl} {T:Co} {bw:Nat} {sw:Sl} {w4:World} {bx B6:Nat} {w7:World} {bg:Nat} {sg:Sl} {W W':World} (h:lcG w C s T bw sw w4 bx B6 w7 bg sg W) (h4:isHo w4 T.ho sw∧isHo w4 C.ho s) (hb:Below w4.heap.size W W') (ho:∀ x,bx≤x→x<W.heap.size→W'.heap[x]?=W.heap[x]?):lcG w C s T bw sw w4 bx B6 w7 bg sg W':=by
 have hb4:=h.b4.trans hb
 refine⟨⟨h.l.p.kept (hb.block _ h.y.2.1),h.l.q.kept (hb.block _ h.y.1),h4.1.below hb4,h4.2.below hb4,h.l.b.trans (hb.mono (by have:=h.y;omega))⟩,h.g.kept (ho _ (by have:=h.z;omega) h.g.lt),fun x h1 h2=>(ho x (by have:=h.z;omega) (by have:=h.g.lt;have:=h.z;omega)).trans (h.k x h1 h2),h.z,h.y,hb4⟩
theorem lcG.gmark {w:World} {C:Co} {s:Sl} {T:Co} {bw:Nat} {sw:Sl} {w4:World} {bx B6:Nat} {w7:World} {bg:Nat} {sg:Sl} {W W':World} (h:lcG w C s T bw sw w4 bx B6 w7 bg sg W) (h4:isHo w4 T.ho sw∧isHo w4 C.ho s) (hb:Below B6 W W'):lcS w C s T bw sw W':=by
 have hz:=h.z
 have hy:=h.y
 have hb4:=h.b4.trans (hb.mono (by omega))
 exact⟨h.l.p.kept (hb.block _ (by omega)),h.l.q.kept (hb.block _ (by omega)),h4.1.below hb4,h4.2.below hb4,h.l.b.trans (hb.mono (by omega))⟩
theorem new_coreS {w:World} (l:List Value) (hl:l.length=21):blk (World.setCells (w.alloc (.cells [.int .i64 0,.int .i64 0,.int .i64 0,.bool false,.bool false,.bool false,.bool false,.bool false,.int .i64 0,.int .i64 0,.int .i64 0,.int .i64 0,.int .i64 0,.int .i64 0,.int .i64 0,.slice none 0 0,.slice none 0 0,.slice none 0 0,.slice none 0 0,.int .i64 0,.int .i64 0].toArray 41)) w.heap.size 0 l) w.heap.size l 41∧Below w.heap.size w (World.setCells (w.alloc (.cells [.int .i64 0,.int .i64 0,.int .i64 0,.bool false,.bool false,.bool false,.bool false,.bool false,.int .i64 0,.int .i64 0,.int .i64 0,.int .i64 0,.int .i64 0,.int .i64 0,.int .i64 0,.slice none 0 0,.slice none 0 0,.slice none 0 0,.slice none 0 0,.int .i64 0,.int .i64 0].toArray 41)) w.heap.size 0 l):=by
 refine⟨?_,setCells_below (Nat.le_refl _) 0 l ((Below.refl _ _).alloc (Nat.le_refl _) _)⟩
 have:=blk.put [] [.int .i64 0,.int .i64 0,.int .i64 0,.bool false,.bool false,.bool false,.bool false,.bool false,.int .i64 0,.int .i64 0,.int .i64 0,.int .i64 0,.int .i64 0,.int .i64 0,.int .i64 0,.slice none 0 0,.slice none 0 0,.slice none 0 0,.slice none 0 0,.int .i64 0,.int .i64 0] [] l (w:=w.alloc (.cells [.int .i64 0,.int .i64 0,.int .i64 0,.bool false,.bool false,.bool false,.bool false,.bool false,.int .i64 0,.int .i64 0,.int .i64 0,.int .i64 0,.int .i64 0,.int .i64 0,.int .i64 0,.slice none 0 0,.slice none 0 0,.slice none 0 0,.slice none 0 0,.int .i64 0,.int .i64 0].toArray 41)) (b:=w.heap.size) (T:=41) (by simpa using blk.new w _ 41) (by rw[hl];rfl)
 simpa using this
theorem zCo_le:zCo.ho.le 1048576:=⟨by decide,by decide,by decide,by decide,fun j hj=>(by cases hj),fun j hj=>(by cases hj),fun j hj=>(by cases hj)⟩
theorem addC_ho (C:Co) (b:Bool) (n:Int):(addC C b n).ho=C.ho:=by unfold addC;split <;> rfl
theorem actC_le {C A:Co} (h:A.ho.le 1048576) (hq:A.ho.qu.length≤1000):(actC C A).ho.le 1048576:=by
 have e:(if A.te=256∧A.p≠7 then offC A else A).ho=A.ho:=by split <;> rfl
 unfold actC
 generalize (if A.te=256∧A.p≠7 then offC A else A)=X at *;unfold tellC
 split
 ·rw[e];exact h
 ·show Ho.le (postHo X.ho _) _
  rw[e]
  exact h.post hq (Nat.zero_le _)
end Go.Proofs.YtkfcfigbgmbaiaaGreat
