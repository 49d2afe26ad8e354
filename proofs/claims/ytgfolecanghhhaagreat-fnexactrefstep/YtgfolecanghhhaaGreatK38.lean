import Derived.Test.YtgfolecanghhhaaGreatK21
import Derived.Test.YtgfolecanghhhaaGreatK37
namespace Go.Proofs.YtgfolecanghhhaaGreat
open Go.Proofs.Tryz
set_option maxRecDepth 20000
open Go.RowKit
set_option linter.all false
set_option maxHeartbeats 16000000
open Go.Value renaming int->I,slice->sL,bool->bO,pointer->pT,agg->aG
open Go.IntKind renaming i64->J
open Go.Ending renaming returned->rT
open Go.Proofs.Tryz renaming prog->Tp
section
variable {bx:List R8}
def onI (bx:List R8):Nat:=bx.findIdx (fun b=>b.x == 2 || b.x == 3)
def oU {z:Int} (h:bsy bx z) (hw:wrP bx):z=(onI bx:Int)/\onI bx<bx.length:=by
 rcases h with⟨k,hk,h1,h2,rfl⟩|⟨h1,_⟩
 .have e:onI bx=k:=by
   unfold onI;rw[List.findIdx_eq hk];refine⟨by simpa[onW] using h1,fun j hj=>?_⟩;have:=h2 j om hj;simpa[onW] using this
  exact⟨by rw[e],om⟩
 .exact Qy h1 hw
def dq (C:Co):ByteArray:=(fun b:R8=>eV b.e b.i b.r b.d b.l.length b.l) (C.ho.bx.getD (onI C.ho.bx) bx0)
def jq (C:Co) (h:onI C.ho.bx<C.ho.bx.length):dq C=eV C.ho.bx[onI C.ho.bx].e C.ho.bx[onI C.ho.bx].i C.ho.bx[onI C.ho.bx].r C.ho.bx[onI C.ho.bx].d C.ho.bx[onI C.ho.bx].l.length C.ho.bx[onI C.ho.bx].l:=by
 unfold dq;rw[ql,qy h];rfl
def kC (hw:wrP bx):onI bx<bx.length:=by
 unfold wrP at hw;obtain⟨k,hk⟩:=Classical.not_forall.1 hw;obtain⟨hl,h1⟩:=Classical.not_forall.1 hk;have h1:=Classical.not_not.1 h1;unfold onI;rw[List.findIdx_lt_length];exact⟨bx[k],qn hl,by simpa[onW] using h1⟩
def m5 (w:World) (C:Co) (s:Sl) (h:aK w C.ho s) (hn:s.n2<=8) (hw:wrP C.ho.bx) :
  Calls Tp 27 #[aG (coL C s).toArray] w fun o w'=>∃ (e:Bool) (i:Nat) (r:Bool) (d:Int) (ao:Option Addr) (m c:Nat) (l:Unit),o = rT (frV e i r d ao m c)/\Bl w w'/\Calls Tp 26 #[frV e i r d ao m c] w' fun o w2=>o = rT (.string (dq C))/\Bl w' w2:=by
 have hk:=kC hw;refine (pZ w C s _ hk h hn fun z hz=>(oU hz hw).1).mono ?_;rintro o w' ⟨ao,m,c,rfl,h1,h2⟩;refine⟨_,_,_,_,ao,m,c,(),rfl,h2,?_⟩;rw[jq C hk];generalize C.ho.bx[onI C.ho.bx]=b at *;have:=kM w' b.e b.i b.r b.d ao m c b.l h1;rw[h1.len] at this;rw[h1.len];exact this
def fZ {w:World} {b:Nat} {C:Co} {s:Sl} {hd:ByteArray} {T:TypeId} (h:blk w b (rfL C s hd) T):w.rangeAt b 0 (coL C s):=by
 have h':blk w b ([]++coL C s++[.string hd]) T:=h;exact h'.loadAt [] (coL C s) [.string hd]
def pY (w:World) (C:Co) (s:Sl) (hd:ByteArray) (p1 tx:Bool) (e1:(C.p == 1)=p1) (et:C.tx=tx) (h:aK w C.ho s) (hn:s.n2<=8) (hw:(p1 && tx)=true->wrP C.ho.bx) :
  Calls Tp 15 #[aG (rfL C s hd).toArray] w fun o w'=>o = rT (.string (if (p1 && tx)=true then dq C else ⟨#[]⟩))/\Bl w w':=by
 have H0:Hid (blk (w.alloc (.cells (rfL C s hd).toArray 45)) w.heap.size (rfL C s hd) 45/\Bl w (w.alloc (.cells (rfL C s hd).toArray 45))):=⟨blk.new w _ 45,Zw⟩
 have HI:Hid ((p1 && tx)=true->∀ V,Bl w V->Calls Tp 27 #[aG (coL C s).toArray] V fun o w'=>∃ (e:Bool) (i:Nat) (r:Bool) (d:Int) (ao:Option Addr) (m c:Nat) (l:Unit),o = rT (frV e i r d ao m c)/\Bl V w'/\Calls Tp 26 #[frV e i r d ao m c] w' fun o w2=>o = rT (.string (dq C))/\Bl w' w2):=fun hp V hV=>m5 V C s (h.below hV) hn (hw hp);obtain⟨v0,hv0⟩ : ∃ v0,v0=w.alloc (.cells (rfL C s hd).toArray 45):=⟨_,rfl⟩
 rw[<- hv0] at H0;have y0:=H0.o.1.cell 0 (I J C.p) rfl;have y6:=H0.o.1.cell 6 (bO C.tx) rfl;rw[et] at y6;clear h hw;go_enter func15,ntmps15;go_upto_region 1 with fail
 rw[<- hv0];clear hv0;cases p1
 .go_wp2_with fail;go_ret;exact⟨rfl,H0.o.2⟩
 .cases tx
  .go_wp2_with fail;go_ret;exact⟨rfl,H0.o.2⟩
  .go_wp2_with (refine ZG 43 (fZ H0.o.1) underlying43 (cy C s) ?_);refine (HI.o rfl _ H0.o.2).mono ?_;rintro o w1 ⟨e,i,r,d,ao,m,c,_,rfl,hb1,hE⟩;have HE:=ah hE;have HB:=ah (H0.o.2.trans (hb1.mono H0.o.2.size));clear hE hb1;go_wp2_with fail;refine HE.o.mono ?_;rintro o w2 ⟨rfl,hb2⟩;have HB2:=ah (HB.o.trans (hb2.mono HB.o.size));clear hb2;go_wp2_with fail;go_ret;exact⟨rfl,HB2.o⟩
end
open Option renaming none->nn,some->sQ
open Go.IntKind renaming i64->J,u32->Zk
def ru {P:Prop} (h:P):Hid P:=h
def jZ (W:World) (P gb n kb:Nat) (bx:List R8) (k:Nat) (hk:k<bx.length) (y5:W.cell? ⟨P,5,nn⟩=sQ (sL (sQ ⟨gb,0,nn⟩) n kb)) (h:aM W (sQ ⟨gb,0,nn⟩) n kb bx) (hn:n<=8) (hz:∀ z,bsy bx z->z=(k:Int)) :
  Calls Tp 89 #[pT (sQ ⟨P,0,nn⟩)] W fun o w'=>∃ ao m c,o = rT (frV bx[k].e bx[k].i bx[k].r bx[k].d ao m c)/\iB w' ao m c bx[k].l/\Bl W w':=by
 have hln:=h.len;have hcp:=h.cap;obtain⟨ao,m,c,q⟩ : ∃ ao m c,at8 W gb (k*8) bx[k] ao m c:=by
  obtain⟨g',off,e,hc⟩:=h.cells (by intro e;rw[e] at hk;cases hk);cases e;have:=hc k hk;rw[qi] at this;exact this
 have HOW:Hid (∀ V,Bl W V->Calls Tp 153 #[pT (sQ ⟨P,0,nn⟩)] V fun o w'=>o = rT (I J (k:Int))/\Bl V w'):=fun V hV=>(sU V P _ n kb bx ((hV.cell (by exact QC W _ y5)).trans y5) (h.below hV) om).mono fun o w' ⟨z,h1,h2,h3⟩=>⟨by rw[h1,hz z h2],h3⟩
 have hkn:k<n:=om;have HA:Hid (Bl W (W.alloc (.cells [bO false,I Zk 0,bO false,I J 0,sL nn 0 0].toArray 67))):=Zw;have HQ:Hid (∀ V,Bl W V->V.cell? ⟨P,5,nn⟩=sQ (sL (sQ ⟨gb,0,nn⟩) n kb)/\at8 V gb (k*8) bx[k] ao m c):=fun V hV=>⟨(hV.cell (by exact QC W _ y5)).trans y5,q.below hV⟩
 have HR:Hid (blk (W.alloc (.cells [bO false,I Zk 0,bO false,I J 0,sL nn 0 0].toArray 67)) W.heap.size [bO false,I Zk 0,bO false,I J 0,sL nn 0 0] 67):=blk.new W _ 67;clear h hz hln q y5;generalize bx[k]=b at *;go_enter func89,ntmps89;have y5:=(HQ.o _ HA.o).1;go_upto_region 1 with fail
 go_region_with (go_at_call 153;refine (HOW.o _ HA.o.drew).mono ?_;rintro o w1 ⟨rfl,hb1⟩;have HB1:Hid (Bl W w1):=HA.o.drew.trans (hb1.mono HA.o.drew.size);have HR1:Hid (blk w1 W.heap.size [bO false,I Zk 0,bO false,I J 0,sL nn 0 0] 67):=(HR.o.below (bW _ _).drew).below hb1;have y5':=(HQ.o w1 HB1.o).1;have c3:=(HQ.o w1 HB1.o).2.c3;have c4:=(HQ.o w1 HB1.o).2.c4;have c5:=(HQ.o w1 HB1.o).2.c5;have c6:=(HQ.o w1 HB1.o).2.c6;have c7:=(HQ.o w1 HB1.o).2.cs;have d0:=HR1.o.cell 0 _ rfl;have d1:=HR1.o.cell 1 _ rfl;have d2:=HR1.o.cell 2 _ rfl;have d3:=HR1.o.cell 3 _ rfl;have d4:=HR1.o.cell 4 _ rfl;have z0:=HR1.o.free 0;have z1:=HR1.o.free 1;have z2:=HR1.o.free 2;have z3:=HR1.o.free 3;have z4:=HR1.o.free 4;clear hb1);all_goals
  have HF:=ru (((((HB1.o.setCell (p:=⟨W.heap.size,0,nn⟩) (nR _) (bO b.e)).setCell (p:=⟨W.heap.size,1,nn⟩) (nR _) (I Zk (b.i:Int))).setCell (p:=⟨W.heap.size,2,nn⟩) (nR _) (bO b.r)).setCell (p:=⟨W.heap.size,3,nn⟩) (nR _) (I J b.d)).setCell (p:=⟨W.heap.size,4,nn⟩) (nR _) (sL ao m c));have HK:Hid (blk _ W.heap.size [bO b.e,I Zk (b.i:Int),bO b.r,I J b.d,sL ao m c] 67):=((((HR1.o.set 0 (bO b.e)).set 1 (I Zk (b.i:Int))).set 2 (bO b.r)).set 3 (I J b.d)).set 4 (sL ao m c);go_wp2_with fail;refine bC results89 (QI (P:=Tp) _ W.heap.size 0 67 _ _ HK.o.load underlying67 rfl jc) ?_;exact⟨ao,m,c,rfl,(HQ.o _ HF.o).2.dat,HF.o⟩
end Go.Proofs.YtgfolecanghhhaaGreat
