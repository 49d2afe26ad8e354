import Derived.Test.YtkfcfigbgmbaiaaGreatK36
import Derived.Deep.DeepCutAuto
import Derived.Deep.RegionWith
namespace Go.Proofs.YtkfcfigbgmbaiaaGreat
open Go.RowKit
set_option linter.unusedVariables false
theorem hidX {P:Prop} (h:P):Hid P:=h
variable {w0 : World} {M : Nat} {G : Lg} {f1 f3 nm : Nat} {C : Co} {W : World}
def mx (w0:World) (M:Nat) (G:Lg) (f1 f3 nm:Nat) (C:Co) (W:World):Prop:=∃ hs D,mc w0 M G C f1 f3 hs nm D W
theorem mx.m (h:mx w0 M G f1 f3 nm C W):blk W M (mcL G.P C) 125:=by obtain⟨_,_,h⟩:=h;exact h.m
theorem mx.below (h:mx w0 M G f1 f3 nm C W) {W':World} (hb:Below W.heap.size W W'):mx w0 M G f1 f3 nm C W':=by obtain⟨_,_,h⟩:=h;exact⟨_,_,h.below hb⟩
theorem mx.set (h:mx w0 M G f1 f3 nm C W) (k:Nat) (v:Value) (C':Co) (e:(mcL G.P C).set k v=mcL G.P C') (eh:C'.ho=C.ho):mx w0 M G f1 f3 nm C' (W.setCell ⟨M,k,none⟩ v):=by obtain⟨_,_,h⟩:=h;exact⟨_,_,h.set k v e eh⟩
theorem mx.post (h:mx w0 M G f1 f3 nm C W) (k a b:Int):Calls Tryz.prog 87 #[.pointer (some ⟨G.P,0,none⟩),.agg #[.int .i64 k,.int .i64 a,.int .i64 b,.bool false,.int .u32 0,.bool false,.int .i64 0,.slice none 0 0]] W fun o w'=>o = .returned (.tuple #[])∧mx w0 M G f1 f3 nm { C with ho:=postHo C.ho (ev3 k a b) } w':=by
 obtain⟨_,_,h⟩:=h
 exact (h.post2 k a b).mono fun o w' ⟨h1,h2⟩=>⟨h1,_,_,h2⟩
theorem mx.add (h:mx w0 M G f1 f3 nm C W) (b:Bool) (n:Int) (hn:0≤n∧n≤8) (ht:0≤C.te∧C.te≤256) (hr:0≤C.re∧C.re≤255):Calls Tryz.prog 107 #[.pointer (some ⟨M,0,none⟩),.bool b,.int .i64 n] W fun o w'=>o = .returned (.tuple #[])∧mx w0 M G f1 f3 nm (addC C b n) w':=by
 obtain⟨_,_,h⟩:=h
 exact (add_any h b n hn ht hr).mono fun o w' ⟨h1,h2⟩=>⟨h1,_,_,h2⟩
theorem mx.state (h:mx w0 M G f1 f3 nm C W):Calls Tryz.prog 106 #[.pointer (some ⟨M,0,none⟩)] W fun o w'=>o = .returned (.int .i64 (stZ C.te C.re))∧mx w0 M G f1 f3 nm C w'∧Below W.heap.size W w':=by
 obtain⟨_,_,h⟩:=h
 exact (state_any h).mono fun o w' ⟨h1,h2,h3⟩=>⟨h1,⟨_,_,h2⟩,h3⟩
theorem mx.release (h:mx w0 M G f1 f3 nm C W) (sent:Bool) (hwf:∀ j (hj:j<C.ho.bx.length),(Lit.int .i64 C.ho.bx[j].y).wf=true):Calls Tryz.prog 105 #[.pointer (some ⟨G.P,0,none⟩),.bool sent] W fun o w'=>o = .returned (.tuple #[])∧mx w0 M G f1 f3 nm { C with ho:=relHo C.ho sent } w':=by
 obtain⟨_,_,h⟩:=h
 exact (h.release sent hwf).mono fun o w' ⟨h1,hs',D',h2⟩=>⟨h1,hs',D',h2⟩
theorem eqB (x y:Int):∃ b:Bool,(x == y)=b∧(x != y) = !b∧Hid (b=true↔x=y):=⟨_,rfl,rfl,by show _↔_;simp⟩
def offC (A:Co):Co:=⟨7,0,0,false,false,false,false,false,0,A.te,A.re,A.ho⟩
theorem mc.moment {w0:World} {M:Nat} {G:Lg} {C:Co} {f1 f3:Nat} {hs:Nat→Hd} {nm:Nat} {D:DataW Unit} {W:World} (h:mc w0 M G C f1 f3 hs nm D W):mc w0 M G (offC C) f1 f3 hs nm D (W.setCells M 3 [.int .i64 7,.int .i64 0,.int .i64 0,.bool false,.bool false,.bool false,.bool false,.bool false,.int .i64 0]):=by
 refine⟨?_,?_,h.o⟩
 ·have h':blk W M ([.pointer (some ⟨G.P,0,none⟩),.int .i64 C.te,.int .i64 C.re]++[.int .i64 C.p,.int .i64 C.ct,.int .i64 C.lv,.bool C.wk,.bool C.ov,.bool C.ow,.bool C.tx,.bool C.ak,.int .i64 C.rn]++(sgL++prL)) 125:=h.m
  exact blk.put [.pointer (some ⟨G.P,0,none⟩),.int .i64 C.te,.int .i64 C.re] [.int .i64 C.p,.int .i64 C.ct,.int .i64 C.lv,.bool C.wk,.bool C.ov,.bool C.ow,.bool C.tx,.bool C.ak,.int .i64 C.rn] (sgL++prL) [.int .i64 7,.int .i64 0,.int .i64 0,.bool false,.bool false,.bool false,.bool false,.bool false,.int .i64 0] h' rfl
 ·exact h.h.other M h.o (fun q hq=>setCells_other _ q hq _ _ _) (setCells_size ..) (setCells_below h.o.2.2.2.2.2.2 3 _ h.h.b)
theorem sz116:(Tryz.prog.info? 116).map (·.size)=some 9:=by kernel_rfl
def actC (C A:Co):Co:=tellC (if A.te=256∧A.p≠7 then offC A else A) (stZ C.te C.re)
end Go.Proofs.YtkfcfigbgmbaiaaGreat
