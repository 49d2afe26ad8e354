import Derived.Test.YtnfmjckkibdcaaaGreatDoorK19
import Derived.Test.YtnfmjckkibdcaaaGreatDoorK32
namespace Go.Proofs.YtnfmjckkibdcaaaGreatDoor
open Go.RowKit
set_option linter.all false
open Go.Value renaming int->I,slice->sL,bool->bO,pointer->pT,agg->aG
open Go.IntKind renaming i64->J
open Go.Ending renaming returned->rT
open Go.Proofs.Tryz renaming prog->Tp
variable {bx:List R8}
def onI (bx:List R8):Nat:=bx.findIdx (fun b=>b.x == 2 || b.x == 3)
def oU {z:Int} (h:bsy bx z) (hw:wrP bx):z=(onI bx:Int)/\onI bx<bx.length:=by
 rcases h with⟨k,hk,h1,h2,rfl⟩|⟨h1,_⟩
 .have e:onI bx=k:=by
   unfold onI;rw[List.findIdx_eq hk];refine⟨by simpa[onW] using h1,fun j hj=>?_⟩;have:=h2 j om hj;simpa[onW] using this
  exact⟨by rw[e],om⟩
 .exact Qz h1 hw
def dq (C:Co):ByteArray:=(fun b:R8=>eV b.e b.i b.r b.d b.l.length b.l) (C.ho.bx.getD (onI C.ho.bx) bx0)
def jq (C:Co) (h:onI C.ho.bx<C.ho.bx.length):dq C=eV C.ho.bx[onI C.ho.bx].e C.ho.bx[onI C.ho.bx].i C.ho.bx[onI C.ho.bx].r C.ho.bx[onI C.ho.bx].d C.ho.bx[onI C.ho.bx].l.length C.ho.bx[onI C.ho.bx].l:=by
 unfold dq;rw[ql,qA h];rfl
def kC (hw:wrP bx):onI bx<bx.length:=by
 unfold wrP at hw;obtain⟨k,hk⟩:=Classical.not_forall.1 hw;obtain⟨hl,h1⟩:=Classical.not_forall.1 hk;have h1:=Classical.not_not.1 h1;unfold onI;rw[List.findIdx_lt_length];exact⟨bx[k],zh hl,by simpa[onW] using h1⟩
def IJ (w:World) (C:Co) (s:Sl) (h:aK w C.ho s) (hn:s.n2<=8) (hw:wrP C.ho.bx) :
  Calls Tp 54 #[aG (coL C s).toArray] w fun o w'=>∃ (e:Bool) (i:Nat) (r:Bool) (d:Int) (ao:Option Addr) (m c:Nat) (l:Unit),o = rT (frV e i r d ao m c)/\Bl w w'/\Calls Tp 44 #[frV e i r d ao m c] w' fun o w2=>o = rT (.string (dq C))/\Bl w' w2:=by
 have hk:=kC hw;refine (pZ w C s _ hk h hn fun z hz=>(oU hz hw).1).mono ?_;rintro o w' ⟨ao,m,c,rfl,h1,h2⟩;refine⟨_,_,_,_,ao,m,c,(),rfl,h2,?_⟩;rw[jq C hk];generalize C.ho.bx[onI C.ho.bx]=b at *;have:=kM w' b.e b.i b.r b.d ao m c b.l h1;rw[h1.len] at this;rw[h1.len];exact this
open Option renaming none->nn,some->sQ
set_option maxRecDepth 20000
set_option maxHeartbeats 16000000
open Go.IntKind renaming i64->J,u32->zn
def ru {P:Prop} (h:P):Hid P:=h
def jZ (W:World) (P gb n kb:Nat) (bx:List R8) (k:Nat) (hk:k<bx.length) (y5:W.cell? ⟨P,5,nn⟩=sQ (sL (sQ ⟨gb,0,nn⟩) n kb)) (h:aM W (sQ ⟨gb,0,nn⟩) n kb bx) (hn:n<=8) (hz:∀ z,bsy bx z->z=(k:Int)) :
  Calls Tp 67 #[pT (sQ ⟨P,0,nn⟩)] W fun o w'=>∃ ao m c,o = rT (frV bx[k].e bx[k].i bx[k].r bx[k].d ao m c)/\iB w' ao m c bx[k].l/\Bl W w':=by
 have hln:=h.len;have hcp:=h.cap;obtain⟨ao,m,c,q⟩ : ∃ ao m c,at8 W gb (k*8) bx[k] ao m c:=by
  obtain⟨g',off,e,hc⟩:=h.cells (by intro e;rw[e] at hk;cases hk);cases e;have:=hc k hk;rw[zf] at this;exact this
 have HOW:Hid (∀ V,Bl W V->Calls Tp 135 #[pT (sQ ⟨P,0,nn⟩)] V fun o w'=>o = rT (I J (k:Int))/\Bl V w'):=fun V hV=>(sU V P _ n kb bx ((hV.cell (by exact QD W _ y5)).trans y5) (h.below hV) om).mono fun o w' ⟨z,h1,h2,h3⟩=>⟨by rw[h1,hz z h2],h3⟩
 have hkn:k<n:=om;have HA:Hid (Bl W (W.alloc (.cells [bO false,I zn 0,bO false,I J 0,sL nn 0 0].toArray 47))):=qw;have HQ:Hid (∀ V,Bl W V->V.cell? ⟨P,5,nn⟩=sQ (sL (sQ ⟨gb,0,nn⟩) n kb)/\at8 V gb (k*8) bx[k] ao m c):=fun V hV=>⟨(hV.cell (by exact QD W _ y5)).trans y5,q.below hV⟩
 have HR:Hid (blk (W.alloc (.cells [bO false,I zn 0,bO false,I J 0,sL nn 0 0].toArray 47)) W.heap.size [bO false,I zn 0,bO false,I J 0,sL nn 0 0] 47):=blk.new W _ 47;clear h hz hln q y5;generalize bx[k]=b at *;go_enter Tryz.func67,Tryz.ntmps67;have y5:=(HQ.o _ HA.o).1;go_upto_region 1 with fail
 go_region_with (go_at_call 135;refine (HOW.o _ HA.o.drew).mono ?_;rintro o w1 ⟨rfl,hb1⟩;have HB1:Hid (Bl W w1):=HA.o.drew.trans (hb1.mono HA.o.drew.size);have HR1:Hid (blk w1 W.heap.size [bO false,I zn 0,bO false,I J 0,sL nn 0 0] 47):=(HR.o.below (bW _ _).drew).below hb1;have y5':=(HQ.o w1 HB1.o).1;have c3:=(HQ.o w1 HB1.o).2.c3;have c4:=(HQ.o w1 HB1.o).2.c4;have c5:=(HQ.o w1 HB1.o).2.c5;have c6:=(HQ.o w1 HB1.o).2.c6;have c7:=(HQ.o w1 HB1.o).2.cs;have d0:=HR1.o.cell 0 _ rfl;have d1:=HR1.o.cell 1 _ rfl;have d2:=HR1.o.cell 2 _ rfl;have d3:=HR1.o.cell 3 _ rfl;have d4:=HR1.o.cell 4 _ rfl;have z0:=HR1.o.free 0;have z1:=HR1.o.free 1;have z2:=HR1.o.free 2;have z3:=HR1.o.free 3;have z4:=HR1.o.free 4;clear hb1);all_goals
  have HF:=ru (((((HB1.o.setCell (p:=⟨W.heap.size,0,nn⟩) (nR _) (bO b.e)).setCell (p:=⟨W.heap.size,1,nn⟩) (nR _) (I zn (b.i:Int))).setCell (p:=⟨W.heap.size,2,nn⟩) (nR _) (bO b.r)).setCell (p:=⟨W.heap.size,3,nn⟩) (nR _) (I J b.d)).setCell (p:=⟨W.heap.size,4,nn⟩) (nR _) (sL ao m c));have HK:Hid (blk _ W.heap.size [bO b.e,I zn (b.i:Int),bO b.r,I J b.d,sL ao m c] 47):=((((HR1.o.set 0 (bO b.e)).set 1 (I zn (b.i:Int))).set 2 (bO b.r)).set 3 (I J b.d)).set 4 (sL ao m c);go_wp2_with fail;refine bC Tryz.results67 (QJ (P:=Tp) _ W.heap.size 0 47 _ _ HK.o.load Tryz.underlying47 rfl jc) ?_;exact⟨ao,m,c,rfl,(HQ.o _ HF.o).2.dat,HF.o⟩
end Go.Proofs.YtnfmjckkibdcaaaGreatDoor
