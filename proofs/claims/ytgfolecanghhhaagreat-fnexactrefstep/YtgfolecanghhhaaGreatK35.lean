import Derived.Test.YtgfolecanghhhaaGreatK30
import Derived.Test.YtgfolecanghhhaaGreatK29
namespace Go.Proofs.YtgfolecanghhhaaGreat
open Go.Proofs.Tryz
open Option renaming none->nn,some->sQ
open Go renaming World->Wd
set_option maxRecDepth 20000
open Go.RowKit
set_option linter.all false
set_option maxHeartbeats 16000000
open Go.Value renaming int->I,slice->sL,bool->bO,pointer->pT,agg->aG
open Go.IntKind renaming i64->J
open Go.Ending renaming returned->rT
open Go.Proofs.Tryz renaming prog->Tp
section
variable {κ κ' κ0 : Nat -> Nat} {C C' C2 : Co} {H H' H2 : Ho} {s s0 s' s1 s2 : Sl} {w W W' : Wd} {p r q : Nat} {FL : List Value} {T : TypeId}
def cA (w:Wd) (κ:Nat->Nat) (C':Co) (o:Ending) (w':Wd):Prop:=∃ s' κ',o = rT (aG (coL C' s').toArray)/\Hid (hG κ' C'.ho s' w'/\mvH κ w κ' w')
structure fc (w:Wd) (κ0:Nat->Nat) (vp vr vq:Nat) (FL:List Value) (T:TypeId) (κ:Nat->Nat) (C:Co) (s0:Sl) (H:Ho) (s:Sl) (W:Wd):Prop where
 p:blk W vp (coL C s0) 43
 r:blk W vr Z21 43
 f:blk W vq FL T
 g:hG κ H s W
 m:mvH κ0 w κ W
 z:κ vp=0/\κ vr=0/\κ vq=0/\vp≠vr/\vp≠vq/\w.heap.size<=vp/\w.heap.size<=vr
def fc.call (h:fc w κ0 p r q FL T κ C s0 H s W) (hg:hG κ' H' s' W'/\mvH κ W κ' W'):fc w κ0 p r q FL T κ' C s0 H' s' W':=
 ⟨hg.2.blk h.p h.z.1,hg.2.blk h.r h.z.2.1,hg.2.blk h.f h.z.2.2.1,hg.1,h.m.trans hg.2,by rw[hg.2.c p h.p.lt,hg.2.c r h.r.lt,hg.2.c q h.f.lt];exact h.z⟩
def fc.below (h:fc w κ0 p r q FL T κ C s0 H s W) (hb:Bl W W'):fc w κ0 p r q FL T κ C s0 H s W':=h.call ⟨h.g.below hb,mvH.of hb⟩
def fc.cells (h:fc w κ0 p r q FL T κ C s0 H s W) (o:Nat) (vs:List Value) (hL:blk (W.setCells p o vs) p (coL C' s') 43):fc w κ0 p r q FL T κ C' s' H s (W.setCells p o vs):=
 ⟨hL,h.r.other h.z.2.2.2.1.symm _ _,h.f.other h.z.2.2.2.2.1.symm _ _,h.g.cells h.z.1 _ _,h.m.cells (qr h.z.2.2.2.2.2.1) _ _,h.z⟩
def fc.set (h:fc w κ0 p r q FL T κ C s0 H s W) (i:Nat) (v:Value) (C':Co) (e:(coL C s0).set i v=coL C' s0):fc w κ0 p r q FL T κ C' s0 H s (W.setCell ⟨p,i,nn⟩ v):=h.cells i [v] (by rw[<- e];exact h.p.set i v)
def fc.new2 (h:hG κ C.ho s w):fc w κ w.heap.size (w.heap.size+1) (w.heap.size+1) Z21 43 κ C s C.ho s ((w.alloc (.cells (coL C s).toArray 43)).alloc (.cells Z21.toArray 43)):=by
 have hb:Bl w ((w.alloc (.cells (coL C s).toArray 43)).alloc (.cells Z21.toArray 43)):=Zw.alloc pQ _;have hr:blk ((w.alloc (.cells (coL C s).toArray 43)).alloc (.cells Z21.toArray 43)) (w.heap.size+1) Z21 43:=by simpa using blk.new (w.alloc (.cells (coL C s).toArray 43)) Z21 43
 exact⟨(blk.new w _ 43).alloc _,hr,hr,h.below hb,mvH.of hb,h.no (nR _),h.no (nA _ _),h.no (nA _ _),om,om,om,om⟩
def fc.new3 (h:hG κ C.ho s w) (FL:List Value):fc w κ w.heap.size (w.heap.size+1+1) (w.heap.size+1) FL 67 κ C s C.ho s (((w.alloc (.cells (coL C s).toArray 43)).alloc (.cells FL.toArray 67)).alloc (.cells Z21.toArray 43)):=by
 have hb:Bl w (((w.alloc (.cells (coL C s).toArray 43)).alloc (.cells FL.toArray 67)).alloc (.cells Z21.toArray 43)):=(Zw.alloc pQ _).alloc (by simp;omega) _;have hr:blk (((w.alloc (.cells (coL C s).toArray 43)).alloc (.cells FL.toArray 67)).alloc (.cells Z21.toArray 43)) (w.heap.size+1+1) Z21 43:=by simpa using blk.new ((w.alloc (.cells (coL C s).toArray 43)).alloc (.cells FL.toArray 67)) Z21 43
 have hf:blk ((w.alloc (.cells (coL C s).toArray 43)).alloc (.cells FL.toArray 67)) (w.heap.size+1) FL 67:=by simpa using blk.new (w.alloc (.cells (coL C s).toArray 43)) FL 67
 exact⟨((blk.new w _ 43).alloc _).alloc _,hr,hf.alloc _,h.below hb,mvH.of hb,h.no (nR _),h.no (by rw[Nat.add_assoc];exact nA _ _),h.no (nA _ _),om,om,om,om⟩
abbrev fc2 (w:Wd) (κ0 κ:Nat->Nat) (C:Co) (s0:Sl) (H:Ho) (s:Sl) (W:Wd):Prop:=fc w κ0 w.heap.size (w.heap.size+1) (w.heap.size+1) Z21 43 κ C s0 H s W
section
variable {ops : Array Oper} {rest : List Oper} {op : Oper} {a : Act} {Q : Exit -> Act -> Wd -> Prop} {x y : Operand}
def fc.ld (h:fc w κ0 p r q FL T κ C s0 H s W) (K:wpList Tp ops Q rest (a.put op.dst (aG (coL C s0).toArray)) W) (hgd:op.guard=nn:=by rfl) (ho:op.op = .load 43 x:=by rfl) (hx:a.eval x = pT (sQ ⟨p,0,nn⟩):=by rfl):wpList Tp ops Q (op :: rest) a W:=
 Qz (P:=Tp) hgd 43 x ho p 0 hx (coL C s0) _ h.p.load underlying43 rfl (cy _ _) K
def fc.lh (h:fc w κ0 p r q FL T κ C s0 H s W) (K:wpList Tp ops Q rest (a.put op.dst (aG (hoL C.ho s0).toArray)) W) (hgd:op.guard=nn:=by rfl) (ho:op.op = .load 41 x:=by rfl) (hx:a.eval x = pT (sQ ⟨p,11,nn⟩):=by rfl):wpList Tp ops Q (op :: rest) a W:=
 Qz (P:=Tp) hgd 41 x ho p 11 hx (hoL C.ho s0) _ h.p.hostAt underlying41 rfl (jT _ _) K
def fc.sv (h:fc w κ0 p r q FL T κ C s0 H s W) (K:∀ W8,Hid (fc w κ0 p r q FL T κ C2 s2 H s W8)->wpList Tp ops Q rest (a.put op.dst undef) W8) (hgd:op.guard=nn:=by rfl) (ho:op.op = .store 43 x y:=by rfl) (hx:a.eval x = pT (sQ ⟨p,0,nn⟩):=by rfl) (hy:a.eval y = aG (coL C2 s2).toArray:=by rfl):wpList Tp ops Q (op :: rest) a W:=
 QD (P:=Tp) hgd 43 x y ho p 0 (coL C2 s2).toArray hx hy (h.p.there 0 21 (nR _)) (nO _ _) (cO _ _) (K _ (h.cells 0 _ (h.p.core rfl C2 s2)))
def fc.sh (h:fc w κ0 p r q FL T κ C s0 H s W) (K:∀ W8,Hid (fc w κ0 p r q FL T κ { C with ho:=H2 } s2 H s W8)->wpList Tp ops Q rest (a.put op.dst undef) W8) (hgd:op.guard=nn:=by rfl) (ho:op.op = .store 41 x y:=by rfl) (hx:a.eval x = pT (sQ ⟨p,11,nn⟩):=by rfl) (hy:a.eval y = aG (hoL H2 s2).toArray:=by rfl):wpList Tp ops Q (op :: rest) a W:=
 QD (P:=Tp) hgd 41 x y ho p 11 (hoL H2 s2).toArray hx hy (h.p.there 11 10 (nR _)) (EA _ _) (oC _ _) (K _ (h.cells 11 _ (h.p.host H2 s2)))
def fc.rt (h:fc w κ0 p r q FL T κ C s0 H s W) (K:∀ W8,blk W8 r (coL C2 s2) 43->Hid (hG κ H s W8/\mvH κ0 w κ W8)->wpList Tp ops Q rest (a.put op.dst undef) W8) (hgd:op.guard=nn:=by rfl) (ho:op.op = .store 43 x y:=by rfl) (hx:a.eval x = pT (sQ ⟨r,0,nn⟩):=by rfl) (hy:a.eval y = aG (coL C2 s2).toArray:=by rfl):wpList Tp ops Q (op :: rest) a W:=
 QD (P:=Tp) hgd 43 x y ho r 0 (coL C2 s2).toArray hx hy (h.r.there 0 21 (nR _)) (nO _ _) (cO _ _) (K _ (h.r.core rfl C2 s2) ⟨h.g.cells h.z.2.1 _ _,h.m.cells (qr h.z.2.2.2.2.2.2) _ _⟩)
end
def tW (h:blk W p (coL C s) 43):(loadVar 43 ⟨p,0,nn⟩).run Tp W = .ok (aG (coL C s).toArray) W:=QI (P:=Tp) W p 0 43 _ _ h.load underlying43 rfl (cy C s)
def IL (h:hG κ C.ho s w) (x y z:Int) (hb:bdQ 1000 C.ho) :
  Calls Tp 122 #[aG (coL C s).toArray,I J x,I J y,I J z] w (cA w κ { C with ho:=pH C.ho (ev3 x y z) }):=by
 have F0:Hid _:=fc.new2 h;have HB:=eE hb;clear h hb;go_enter func122,ntmps122;go_wp2_with (refine fc.lh F0.o ?_);refine (L5 F0.o.g x y z HB.o.q HB.o.lo).mono ?_;rintro o w1 ⟨s1,κ1,rfl,G1⟩;have F1:Hid _:=F0.o.call G1.o;go_wp2_with (first | (refine fc.sh F1.o ?_;intro w2 F2) | (refine fc.ld F2.o ?_) | (refine fc.rt F2.o ?_;intro w8 b8 G8));exact bC results122 (tW b8) ⟨s1,κ1,rfl,G8⟩
def Hu (h:hG κ C.ho s w) (old:Int) (hb:bdQ 1000 C.ho) :
  Calls Tp 63 #[aG (coL C s).toArray,I J old] w (cA w κ (tlC C old)):=by
 have F0:Hid _:=fc.new2 h;have HB:=eE hb;have HT:Hid (tlC C old=if esZ C.p C.te C.re=old then C else { C with ho:=pH C.ho (ev3 10 (esZ C.p C.te C.re) 0) }):=rfl;obtain⟨es,ee⟩ : ∃ es,esZ C.p C.te C.re=es:=⟨_,rfl⟩
 have HES:Hid (∀ W,Calls Tp 56 #[aG (coL C s).toArray] W fun o w'=>o = rT (I J es)/\Bl W w'):=fun W=>by rw[<- ee];exact Gm W C s
 rw[ee] at HT;clear h hb ee;go_enter func63,ntmps63;go_wp2_with (refine fc.ld F0.o ?_);refine (HES.o _).mono ?_;rintro o w1 ⟨rfl,hb1⟩;have F1:Hid _:=F0.o.below hb1;clear hb1;by_cases e:es=old
 .have hne:(es != old)=false:=by simp[e]
  have HE:=eE e;clear e;go_wp2_with (first | (refine fc.ld F1.o ?_) | (refine fc.rt F1.o ?_;intro w8 b8 G8));refine bC results63 (tW b8) ?_;rw[HT.o,qc HE.o];exact⟨s,κ,rfl,G8⟩
 .have hne:(es != old)=true:=by simp[e]
  have HE:=eE e;clear e;go_wp2_with (refine fc.ld F1.o ?_);refine (IL F1.o.g 10 es 0 HB.o).mono ?_;rintro o w2 ⟨s2,κ2,rfl,G2⟩;have F2:Hid _:=F1.o.call G2.o;go_wp2_with (refine fc.rt F2.o ?_;intro w8 b8 G8);refine bC results63 (tW b8) ?_;rw[HT.o,qa HE.o];exact⟨s2,κ2,rfl,G8⟩
end
end Go.Proofs.YtgfolecanghhhaaGreat
