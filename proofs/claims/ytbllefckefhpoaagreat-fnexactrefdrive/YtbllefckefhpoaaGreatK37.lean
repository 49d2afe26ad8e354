import Derived.Test.YtbllefckefhpoaaGreatK36
import Derived.Deep.DeepCutAuto
import Derived.Deep.RegionWith
namespace Go.Proofs.YtbllefckefhpoaaGreat
open Go.RowKit
set_option linter.unusedVariables false
open Go.Value renaming int→I,slice→sL,bool→bO,pointer→pT,agg→aG
open Go.IntKind renaming i64→J
open Go.Ending renaming returned→rT
open Go.Proofs.Tryz renaming prog→Tp
theorem hidX {P:Prop} (h:P):Hid P:=h
variable {w0 : World} {M : Nat} {G : Lg} {f1 f3 nm : Nat} {C : Co} {W : World}
def mx (w0:World) (M:Nat) (G:Lg) (f1 f3 nm:Nat) (C:Co) (W:World):Prop:=∃ hs D,mc w0 M G C f1 f3 hs nm D W
theorem mx.m (h:mx w0 M G f1 f3 nm C W):blk W M (mcL G.P C) 144:=by obtain⟨_,_,h⟩:=h;exact h.m
theorem mx.below (h:mx w0 M G f1 f3 nm C W) {W':World} (hb:Below W.heap.size W W'):mx w0 M G f1 f3 nm C W':=by obtain⟨_,_,h⟩:=h;exact⟨_,_,h.below hb⟩
theorem mx.set (h:mx w0 M G f1 f3 nm C W) (k:Nat) (v:Value) (C':Co) (e:(mcL G.P C).set k v=mcL G.P C') (eh:C'.ho=C.ho):mx w0 M G f1 f3 nm C' (W.setCell ⟨M,k,none⟩ v):=by obtain⟨_,_,h⟩:=h;exact⟨_,_,h.set k v e eh⟩
theorem mx.post (h:mx w0 M G f1 f3 nm C W) (k a b:Int):Calls Tp 190 #[pT (some ⟨G.P,0,none⟩),aG #[I J k,I J a,I J b,bO false,I .u32 0,bO false,I J 0,sL none 0 0]] W fun o w'=>o = rT (.tuple #[])∧mx w0 M G f1 f3 nm { C with ho:=postHo C.ho (ev3 k a b) } w':=by
 obtain⟨_,_,h⟩:=h
 exact (h.post2 k a b).mono fun o w' ⟨h1,h2⟩=>⟨h1,_,_,h2⟩
theorem mx.add (h:mx w0 M G f1 f3 nm C W) (b:Bool) (n:Int) (hn:0≤n∧n≤8) (ht:0≤C.te∧C.te≤256) (hr:0≤C.re∧C.re≤255):Calls Tp 163 #[pT (some ⟨M,0,none⟩),bO b,I J n] W fun o w'=>o = rT (.tuple #[])∧mx w0 M G f1 f3 nm (addC C b n) w':=by
 obtain⟨_,_,h⟩:=h
 exact (add_any h b n hn ht hr).mono fun o w' ⟨h1,h2⟩=>⟨h1,_,_,h2⟩
theorem mx.state (h:mx w0 M G f1 f3 nm C W):Calls Tp 193 #[pT (some ⟨M,0,none⟩)] W fun o w'=>o = rT (I J (stZ C.te C.re))∧mx w0 M G f1 f3 nm C w'∧Below W.heap.size W w':=by
 obtain⟨_,_,h⟩:=h
 exact (state_any h).mono fun o w' ⟨h1,h2,h3⟩=>⟨h1,⟨_,_,h2⟩,h3⟩
def offC (A:Co):Co:=⟨7,0,0,false,false,false,false,false,0,A.te,A.re,A.ho⟩
theorem mc.moment {w0:World} {M:Nat} {G:Lg} {C:Co} {f1 f3:Nat} {hs:Nat→Hd} {nm:Nat} {D:DataW Unit} {W:World} (h:mc w0 M G C f1 f3 hs nm D W):mc w0 M G (offC C) f1 f3 hs nm D (W.setCells M 3 [I J 7,I J 0,I J 0,bO false,bO false,bO false,bO false,bO false,I J 0]):=by
 refine⟨?_,?_,h.o⟩
 ·have h':blk W M ([pT (some ⟨G.P,0,none⟩),I J C.te,I J C.re]++[I J C.p,I J C.ct,I J C.lv,bO C.wk,bO C.ov,bO C.ow,bO C.tx,bO C.ak,I J C.rn]++(sgL++prL)) 144:=h.m
  exact blk.put [pT (some ⟨G.P,0,none⟩),I J C.te,I J C.re] [I J C.p,I J C.ct,I J C.lv,bO C.wk,bO C.ov,bO C.ow,bO C.tx,bO C.ak,I J C.rn] (sgL++prL) [I J 7,I J 0,I J 0,bO false,bO false,bO false,bO false,bO false,I J 0] h' rfl
 ·exact h.h.other M h.o (fun q hq=>setCells_other _ q hq _ _ _) (setCells_size ..) (setCells_below h.o.2.2.2.2.2.2 3 _ h.h.b)
end Go.Proofs.YtbllefckefhpoaaGreat
