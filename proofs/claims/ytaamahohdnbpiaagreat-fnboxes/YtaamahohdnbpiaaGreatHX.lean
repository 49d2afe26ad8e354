import Derived.Test.YtaamahohdnbpiaaGreatG00
import Derived.Deep.RegionHeld3
namespace Go.Proofs.YtaamahohdnbpiaaGreat
open Go.RowKit
theorem setCells_block (b:Nat) (t:TypeId):∀ (vs old pre post:List Value) (w:World),old.length=vs.length→w.heap[b]?=some (.cells (pre++old++post).toArray t (0,0))→(w.setCells b pre.length vs).heap[b]?=some (.cells (pre++vs++post).toArray t (0,0)):=by
 intro vs;induction vs with
 | nil=>
  intro old pre post w hl h;have:old=[]:=List.length_eq_zero_iff.1 hl
  subst this;exact h
 | cons v vs ih=>
  intro old pre post w hl h;match old,hl with
  | o :: old',hl=>
   have h1:=heap_setCell_same w b pre.length _ _ v h
   have e:(pre++o :: old'++post).toArray.setIfInBounds pre.length v=((pre++[v])++old'++post).toArray:=by simp
   have h2:=ih old' (pre++[v]) post (w.setCell ⟨b,pre.length,none⟩ v) (by simpa using hl) (by rw[← e];exact h1)
   rw[List.length_append,List.length_singleton] at h2
   rw[List.append_assoc pre [v] vs] at h2
   exact h2
theorem range_block {w:World} {b:Nat} {l:List Value} {t:TypeId} {fr:Nat × Nat} (h:w.heap[b]?=some (.cells l.toArray t fr)):w.rangeAt b 0 l:=fun j v hv=>by
 simp[World.cell?,h,hv]
theorem there_block {w:World} {b:Nat} {l:List Value} {t:TypeId} (h:w.heap[b]?=some (.cells l.toArray t (0,0))) (o n:Nat) (ho:o+n≤l.length):w.there b o n:=fun j hj=>by
 refine⟨?_,?_⟩
 ·have:o+j<l.length:=by omega
  simp[World.cell?,h,this]
 ·simp[World.frozen?,h]
theorem setCells_other (b k:Nat) (hk:k≠b) (vs:List Value) (w:World) (o:Nat):(w.setCells b o vs).heap[k]?=w.heap[k]?:=by
 rw[setCells_row];exact setRow_block b k hk vs w o
theorem St.setCells {B:Nat} {w:World} {p:World→Prop} (h:St B w p) (b o:Nat) (hb:b<B) (vs:List Value):St B (w.setCells b o vs) p:=fun W hW=>h W fun k h1 h2=>(hW k h1 (by rw[setCells_row,setRow_size];exact h2)).trans (setCells_other b k (by omega) vs w o)
theorem sz41:(Tryz.prog.info? 35).map (·.size)=some 10:=by kernel_rfl
theorem one10 (c0 c1 c2 c3:Int) (b1:Option Addr) (m1 l1:Nat) (b2:Option Addr) (m2 l2:Nat) (b3:Option Addr) (m3 l3:Nat) (b4:Option Addr) (m4 l4:Nat) (lo st:Int):(#[.int .i64 c0,.int .i64 c1,.int .i64 c2,.int .i64 c3,.slice b1 m1 l1,.slice b2 m2 l2,.slice b3 m3 l3,.slice b4 m4 l4,.int .i64 lo,.int .i64 st]:Array Value).all (·.oneCell')=true:=
 all_oneCell_toArray (by simp[Value.oneCell'])
end Go.Proofs.YtaamahohdnbpiaaGreat
