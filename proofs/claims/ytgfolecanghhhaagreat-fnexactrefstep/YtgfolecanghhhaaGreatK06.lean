import Derived.Test.YtgfolecanghhhaaGreatK04
import Derived.Deep.RegionHeld3
namespace Go.Proofs.YtgfolecanghhhaaGreat
open Go.Proofs.Tryz
set_option linter.all false
open Option renaming none->nn,some->sQ
set_option maxRecDepth 20000
open Go.RowKit
set_option maxHeartbeats 16000000
open Go.Value renaming int->I,slice->sL,bool->bO,pointer->pT,agg->aG
open Go.IntKind renaming i64->J,u32->Zk
open Go.Ending renaming returned->rT
open Go.Proofs.Tryz renaming prog->Tp
def jn (W W':World) (g1 g2 A B:Nat) (ge:Bool) (gm:Int) (gk:Int) (h:W.cell? ⟨g1,A,nn⟩=sQ (bO ge)/\W.cell? ⟨g1,A+1,nn⟩=sQ (I Zk gm)/\W.cell? ⟨g1,A+2,nn⟩=sQ (I Zk gk)/\W.cell? ⟨g2,B,nn⟩=sQ (bO ge)/\W.cell? ⟨g2,B+1,nn⟩=sQ (I Zk gm)/\W.cell? ⟨g2,B+2,nn⟩=sQ (I Zk gk)/\g1<W.heap.size/\g2<W.heap.size) (hb:Bl W W'):(fun W=>W.cell? ⟨g1,A,nn⟩=sQ (bO ge)/\W.cell? ⟨g1,A+1,nn⟩=sQ (I Zk gm)/\W.cell? ⟨g1,A+2,nn⟩=sQ (I Zk gk)/\W.cell? ⟨g2,B,nn⟩=sQ (bO ge)/\W.cell? ⟨g2,B+1,nn⟩=sQ (I Zk gm)/\W.cell? ⟨g2,B+2,nn⟩=sQ (I Zk gk)/\g1<W.heap.size/\g2<W.heap.size) W':=by
 obtain⟨a0,a1,a2,b0,b1,b2,s1,s2⟩:=h;exact⟨(hb.cell (by exact s1)).trans a0,(hb.cell (by exact s1)).trans a1,(hb.cell (by exact s1)).trans a2,(hb.cell (by exact s2)).trans b0,(hb.cell (by exact s2)).trans b1,(hb.cell (by exact s2)).trans b2,nL s1 hb.size,nL s2 hb.size⟩
def lH (w:World) (a1 a2:Option Addr) (n1 c1 n2 c2:Nat) (bs:List R3) (h1:bj w a1 n1 c1 bs) (h2:bj w a2 n2 c2 bs) (hn:n1<=1048576) :
  Calls Tp 95 #[sL a1 n1 c1,sL a2 n2 c2] w fun o w'=>o = rT (bO true)/\Bl w w':=by
 have e1:=h1.len;have e2:=h2.len;by_cases hl:bs=[]
 .subst hl;have e1':n1=0:=e1;have e2':n2=0:=e2;subst e1' e2';clear e1 e2 h1 h2;go_enter func95,ntmps95;go_wp2;go_loopw [5] (fun i wr=>i = I J 0/\wr=w) (fun _ _=>0);case atStart=>exact⟨rfl,rfl⟩
  case round=>
   obtain⟨rfl,rfl⟩:=hrel;go_wp2;go_ret;exact⟨rfl,bW _ _⟩
 .obtain⟨g1,o1,rfl,k1⟩:=h1.cells hl;obtain⟨g2,o2,rfl,k2⟩:=h2.cells hl;have hnn:n2=n1:=om;subst hnn;have HL:Hid (n2=bs.length):=e2;have HK1:Hid (∀ j (h:j<bs.length),at3 w g1 (o1+j*3) bs[j]):=k1;have HK2:Hid (∀ j (h:j<bs.length),at3 w g2 (o2+j*3) bs[j]):=k2;have hcp1:=h1.cap;have hcp2:=h2.cap;clear e1 e2 h1 h2 k1 k2;go_enter func95,ntmps95;go_wp2;go_loopw [5] (fun i wr=>∃ k:Nat,k<=n2/\i = I J k/\Bl w wr) (fun i _=>n2-(intOf i).toNat);case atStart=>exact⟨0,nZ _,rfl,bW _ _⟩
  case round=>
   obtain⟨k,hk,rfl,hb⟩:=hrel;by_cases hlt:k<n2
   .have hkl:k<bs.length:=by have:=HL.o;omega
    have y1:=HK1.o k hkl;have y2:=HK2.o k hkl;have z1:=QC w _ y1.c0;have z2:=QC w _ y2.c0;have hS0:wr.cell? ⟨g1,o1+k*3,nn⟩=sQ (bO bs[k].e)/\wr.cell? ⟨g1,o1+k*3+1,nn⟩=sQ (I Zk bs[k].m)/\wr.cell? ⟨g1,o1+k*3+2,nn⟩=sQ (I Zk bs[k].k)/\wr.cell? ⟨g2,o2+k*3,nn⟩=sQ (bO bs[k].e)/\wr.cell? ⟨g2,o2+k*3+1,nn⟩=sQ (I Zk bs[k].m)/\wr.cell? ⟨g2,o2+k*3+2,nn⟩=sQ (I Zk bs[k].k)/\g1<wr.heap.size/\g2<wr.heap.size:=⟨(hb.cell (by exact z1)).trans y1.c0,(hb.cell (by exact z1)).trans y1.c1,(hb.cell (by exact z1)).trans y1.c2,(hb.cell (by exact z2)).trans y2.c0,(hb.cell (by exact z2)).trans y2.c1,(hb.cell (by exact z2)).trans y2.c2,nL z1 hb.size,nL z2 hb.size⟩
    have HB:Hid (Bl w wr):=hb;clear hb y1 y2 z1 z2;generalize hBe:bs[k].e=ge at *;generalize hBm:bs[k].m=gm at *;generalize hBk:bs[k].k=gk at *;clear hBe hBm hBk;go_wp2;go_region_held3 (fun W=>W.cell? ⟨g1,o1+k*3,nn⟩=sQ (bO ge)/\W.cell? ⟨g1,o1+k*3+1,nn⟩=sQ (I Zk gm)/\W.cell? ⟨g1,o1+k*3+2,nn⟩=sQ (I Zk gk)/\W.cell? ⟨g2,o2+k*3,nn⟩=sQ (bO ge)/\W.cell? ⟨g2,o2+k*3+1,nn⟩=sQ (I Zk gm)/\W.cell? ⟨g2,o2+k*3+2,nn⟩=sQ (I Zk gk)/\g1<W.heap.size/\g2<W.heap.size) (first | exact jn _ _ _ _ _ _ _ _ _ hS0 (bW _ _).drew | exact jn _ _ _ _ _ _ _ _ _ (by assumption) (by assumption)) (first | (go_at_call 159;refine (mB _ ge gm gk).mono ?_;rintro o w5 ⟨rfl,hb5⟩))
    go_wp2;go_roundw;case rel=>exact⟨k+1,om,by go_num,HB.o.trans (((bW _ _).drew.trans hb5).mono HB.o.size)⟩
    case measure=>simp[intOf];omega
   .go_wp2;go_ret;exact⟨rfl,hb⟩
def j4 (W W':World) (g1 g2 A B:Nat) (ge:Bool) (gi:Nat) (gr:Bool) (gd:Int) (p1 p2:Option Addr) (m1 q1 m2 q2:Nat) (L:List Nat) (h:W.cell? ⟨g1,A,nn⟩=sQ (bO ge)/\W.cell? ⟨g1,A+1,nn⟩=sQ (I Zk (gi:Int))/\W.cell? ⟨g1,A+2,nn⟩=sQ (bO gr)/\W.cell? ⟨g1,A+3,nn⟩=sQ (I J gd)/\W.cell? ⟨g1,A+4,nn⟩=sQ (sL p1 m1 q1)/\W.cell? ⟨g2,B,nn⟩=sQ (bO ge)/\W.cell? ⟨g2,B+1,nn⟩=sQ (I Zk (gi:Int))/\W.cell? ⟨g2,B+2,nn⟩=sQ (bO gr)/\W.cell? ⟨g2,B+3,nn⟩=sQ (I J gd)/\W.cell? ⟨g2,B+4,nn⟩=sQ (sL p2 m2 q2)/\iB W p1 m1 q1 L/\iB W p2 m2 q2 L/\g1<W.heap.size/\g2<W.heap.size) (hb:Bl W W'):(fun W=>W.cell? ⟨g1,A,nn⟩=sQ (bO ge)/\W.cell? ⟨g1,A+1,nn⟩=sQ (I Zk (gi:Int))/\W.cell? ⟨g1,A+2,nn⟩=sQ (bO gr)/\W.cell? ⟨g1,A+3,nn⟩=sQ (I J gd)/\W.cell? ⟨g1,A+4,nn⟩=sQ (sL p1 m1 q1)/\W.cell? ⟨g2,B,nn⟩=sQ (bO ge)/\W.cell? ⟨g2,B+1,nn⟩=sQ (I Zk (gi:Int))/\W.cell? ⟨g2,B+2,nn⟩=sQ (bO gr)/\W.cell? ⟨g2,B+3,nn⟩=sQ (I J gd)/\W.cell? ⟨g2,B+4,nn⟩=sQ (sL p2 m2 q2)/\iB W p1 m1 q1 L/\iB W p2 m2 q2 L/\g1<W.heap.size/\g2<W.heap.size) W':=by
 obtain⟨a0,a1,a2,a3,a4,b0,b1,b2,b3,b4,d1,d2,s1,s2⟩:=h;exact⟨(hb.cell (by exact s1)).trans a0,(hb.cell (by exact s1)).trans a1,(hb.cell (by exact s1)).trans a2,(hb.cell (by exact s1)).trans a3,(hb.cell (by exact s1)).trans a4,(hb.cell (by exact s2)).trans b0,(hb.cell (by exact s2)).trans b1,(hb.cell (by exact s2)).trans b2,(hb.cell (by exact s2)).trans b3,(hb.cell (by exact s2)).trans b4,d1.below hb,d2.below hb,nL s1 hb.size,nL s2 hb.size⟩
def jm {W:World} {g1 g2 A B:Nat} {ge:Bool} {gi:Nat} {gr:Bool} {gd:Int} {p1 p2:Option Addr} {m1 q1 m2 q2:Nat} {L:List Nat} (h:W.cell? ⟨g1,A,nn⟩=sQ (bO ge)/\W.cell? ⟨g1,A+1,nn⟩=sQ (I Zk (gi:Int))/\W.cell? ⟨g1,A+2,nn⟩=sQ (bO gr)/\W.cell? ⟨g1,A+3,nn⟩=sQ (I J gd)/\W.cell? ⟨g1,A+4,nn⟩=sQ (sL p1 m1 q1)/\W.cell? ⟨g2,B,nn⟩=sQ (bO ge)/\W.cell? ⟨g2,B+1,nn⟩=sQ (I Zk (gi:Int))/\W.cell? ⟨g2,B+2,nn⟩=sQ (bO gr)/\W.cell? ⟨g2,B+3,nn⟩=sQ (I J gd)/\W.cell? ⟨g2,B+4,nn⟩=sQ (sL p2 m2 q2)/\iB W p1 m1 q1 L/\iB W p2 m2 q2 L/\g1<W.heap.size/\g2<W.heap.size):iB W p1 m1 q1 L/\iB W p2 m2 q2 L:=⟨h.2.2.2.2.2.2.2.2.2.2.1,h.2.2.2.2.2.2.2.2.2.2.2.1⟩
def mA (w:World) (a1 a2:Option Addr) (n1 c1 n2 c2:Nat) (bs:List R5) (h1:cl w a1 n1 c1 bs) (h2:cl w a2 n2 c2 bs) (hn:n1<=1048576) (hd:∀ j (h:j<bs.length),bs[j].l.length<=1048576) :
  Calls Tp 97 #[sL a1 n1 c1,sL a2 n2 c2] w fun o w'=>o = rT (bO true)/\Bl w w':=by
 have e1:=h1.len;have e2:=h2.len;by_cases hl:bs=[]
 .subst hl;have e1':n1=0:=e1;have e2':n2=0:=e2;subst e1' e2';clear e1 e2 h1 h2 hd;go_enter func97,ntmps97;go_wp2;go_loopw [5] (fun i wr=>i = I J 0/\wr=w) (fun _ _=>0);case atStart=>exact⟨rfl,rfl⟩
  case round=>
   obtain⟨rfl,rfl⟩:=hrel;go_wp2;go_ret;exact⟨rfl,bW _ _⟩
 .obtain⟨g1,o1,rfl,k1⟩:=h1.cells hl;obtain⟨g2,o2,rfl,k2⟩:=h2.cells hl;have hnn:n2=n1:=om;subst hnn;have HL:Hid (n2=bs.length):=e2;have HK1:Hid (∀ j (h:j<bs.length),∃ ao m c,at5 w g1 (o1+j*5) bs[j] ao m c):=k1;have HK2:Hid (∀ j (h:j<bs.length),∃ ao m c,at5 w g2 (o2+j*5) bs[j] ao m c):=k2;have hcp1:=h1.cap;have hcp2:=h2.cap;have HD0:Hid (∀ j (h:j<bs.length),bs[j].l.length<=1048576):=hd;clear hd;clear e1 e2 h1 h2 k1 k2;go_enter func97,ntmps97;go_wp2;go_loopw [5] (fun i wr=>∃ k:Nat,k<=n2/\i = I J k/\Bl w wr) (fun i _=>n2-(intOf i).toNat);case atStart=>exact⟨0,nZ _,rfl,bW _ _⟩
  case round=>
   obtain⟨k,hk,rfl,hb⟩:=hrel;by_cases hlt:k<n2
   .have hkl:k<bs.length:=by have:=HL.o;omega
    obtain⟨p1,m1,q1,y1⟩:=HK1.o k hkl;obtain⟨p2,m2,q2,y2⟩:=HK2.o k hkl;have z1:=QC w _ y1.c0;have z2:=QC w _ y2.c0;have hm:m1<=1048576:=by have:=HD0.o k hkl;have:=y1.dat.len;omega
    have hS0:wr.cell? ⟨g1,o1+k*5,nn⟩=sQ (bO bs[k].e)/\wr.cell? ⟨g1,o1+k*5+1,nn⟩=sQ (I Zk (bs[k].i:Int))/\wr.cell? ⟨g1,o1+k*5+2,nn⟩=sQ (bO bs[k].r)/\wr.cell? ⟨g1,o1+k*5+3,nn⟩=sQ (I J bs[k].d)/\wr.cell? ⟨g1,o1+k*5+4,nn⟩=sQ (sL p1 m1 q1)/\wr.cell? ⟨g2,o2+k*5,nn⟩=sQ (bO bs[k].e)/\wr.cell? ⟨g2,o2+k*5+1,nn⟩=sQ (I Zk (bs[k].i:Int))/\wr.cell? ⟨g2,o2+k*5+2,nn⟩=sQ (bO bs[k].r)/\wr.cell? ⟨g2,o2+k*5+3,nn⟩=sQ (I J bs[k].d)/\wr.cell? ⟨g2,o2+k*5+4,nn⟩=sQ (sL p2 m2 q2)/\iB wr p1 m1 q1 bs[k].l/\iB wr p2 m2 q2 bs[k].l/\g1<wr.heap.size/\g2<wr.heap.size:=⟨(hb.cell (by exact z1)).trans y1.c0,(hb.cell (by exact z1)).trans y1.c1,(hb.cell (by exact z1)).trans y1.c2,(hb.cell (by exact z1)).trans y1.c3,(hb.cell (by exact z1)).trans y1.cs,(hb.cell (by exact z2)).trans y2.c0,(hb.cell (by exact z2)).trans y2.c1,(hb.cell (by exact z2)).trans y2.c2,(hb.cell (by exact z2)).trans y2.c3,(hb.cell (by exact z2)).trans y2.cs,y1.dat.below hb,y2.dat.below hb,nL z1 hb.size,nL z2 hb.size⟩
    have HB:Hid (Bl w wr):=hb;clear hb y1 y2 z1 z2;generalize hBe:bs[k].e=ge at *;generalize hBi:bs[k].i=gi at *;generalize hBr:bs[k].r=gr at *;generalize hBd:bs[k].d=gd at *;generalize hBl:bs[k].l=L at *;clear hBe hBi hBr hBd hBl;go_wp2;go_region_held3 (fun W=>W.cell? ⟨g1,o1+k*5,nn⟩=sQ (bO ge)/\W.cell? ⟨g1,o1+k*5+1,nn⟩=sQ (I Zk (gi:Int))/\W.cell? ⟨g1,o1+k*5+2,nn⟩=sQ (bO gr)/\W.cell? ⟨g1,o1+k*5+3,nn⟩=sQ (I J gd)/\W.cell? ⟨g1,o1+k*5+4,nn⟩=sQ (sL p1 m1 q1)/\W.cell? ⟨g2,o2+k*5,nn⟩=sQ (bO ge)/\W.cell? ⟨g2,o2+k*5+1,nn⟩=sQ (I Zk (gi:Int))/\W.cell? ⟨g2,o2+k*5+2,nn⟩=sQ (bO gr)/\W.cell? ⟨g2,o2+k*5+3,nn⟩=sQ (I J gd)/\W.cell? ⟨g2,o2+k*5+4,nn⟩=sQ (sL p2 m2 q2)/\iB W p1 m1 q1 L/\iB W p2 m2 q2 L/\g1<W.heap.size/\g2<W.heap.size) (first | exact j4 _ _ _ _ _ _ _ _ _ _ _ _ _ _ _ _ _ hS0 (bW _ _).drew | exact j4 _ _ _ _ _ _ _ _ _ _ _ _ _ _ _ _ _ (by assumption) (by assumption)) (first | (go_at_call 161;refine (eU _ ge gi gr gd p1 m1 q1 L (jm (by assumption)).1 p2 m2 q2 (jm (by assumption)).2 hm).mono ?_;rintro o w5 ⟨rfl,hb5⟩))
    go_wp2;go_roundw;case rel=>exact⟨k+1,om,by go_num,HB.o.trans (((bW _ _).drew.trans hb5).mono HB.o.size)⟩
    case measure=>simp[intOf];omega
   .go_wp2;go_ret;exact⟨rfl,hb⟩
def Ng (W W':World) (g1 g2 A B:Nat) (gx:Int) (gy:Int) (gz:Int) (ge:Bool) (gi:Nat) (gr:Bool) (gd:Int) (p1 p2:Option Addr) (m1 q1 m2 q2:Nat) (L:List Nat) (h:W.cell? ⟨g1,A,nn⟩=sQ (I J gx)/\W.cell? ⟨g1,A+1,nn⟩=sQ (I J gy)/\W.cell? ⟨g1,A+2,nn⟩=sQ (I J gz)/\W.cell? ⟨g1,A+3,nn⟩=sQ (bO ge)/\W.cell? ⟨g1,A+4,nn⟩=sQ (I Zk (gi:Int))/\W.cell? ⟨g1,A+5,nn⟩=sQ (bO gr)/\W.cell? ⟨g1,A+6,nn⟩=sQ (I J gd)/\W.cell? ⟨g1,A+7,nn⟩=sQ (sL p1 m1 q1)/\W.cell? ⟨g2,B,nn⟩=sQ (I J gx)/\W.cell? ⟨g2,B+1,nn⟩=sQ (I J gy)/\W.cell? ⟨g2,B+2,nn⟩=sQ (I J gz)/\W.cell? ⟨g2,B+3,nn⟩=sQ (bO ge)/\W.cell? ⟨g2,B+4,nn⟩=sQ (I Zk (gi:Int))/\W.cell? ⟨g2,B+5,nn⟩=sQ (bO gr)/\W.cell? ⟨g2,B+6,nn⟩=sQ (I J gd)/\W.cell? ⟨g2,B+7,nn⟩=sQ (sL p2 m2 q2)/\iB W p1 m1 q1 L/\iB W p2 m2 q2 L/\g1<W.heap.size/\g2<W.heap.size) (hb:Bl W W'):(fun W=>W.cell? ⟨g1,A,nn⟩=sQ (I J gx)/\W.cell? ⟨g1,A+1,nn⟩=sQ (I J gy)/\W.cell? ⟨g1,A+2,nn⟩=sQ (I J gz)/\W.cell? ⟨g1,A+3,nn⟩=sQ (bO ge)/\W.cell? ⟨g1,A+4,nn⟩=sQ (I Zk (gi:Int))/\W.cell? ⟨g1,A+5,nn⟩=sQ (bO gr)/\W.cell? ⟨g1,A+6,nn⟩=sQ (I J gd)/\W.cell? ⟨g1,A+7,nn⟩=sQ (sL p1 m1 q1)/\W.cell? ⟨g2,B,nn⟩=sQ (I J gx)/\W.cell? ⟨g2,B+1,nn⟩=sQ (I J gy)/\W.cell? ⟨g2,B+2,nn⟩=sQ (I J gz)/\W.cell? ⟨g2,B+3,nn⟩=sQ (bO ge)/\W.cell? ⟨g2,B+4,nn⟩=sQ (I Zk (gi:Int))/\W.cell? ⟨g2,B+5,nn⟩=sQ (bO gr)/\W.cell? ⟨g2,B+6,nn⟩=sQ (I J gd)/\W.cell? ⟨g2,B+7,nn⟩=sQ (sL p2 m2 q2)/\iB W p1 m1 q1 L/\iB W p2 m2 q2 L/\g1<W.heap.size/\g2<W.heap.size) W':=by
 obtain⟨a0,a1,a2,a3,a4,a5,a6,a7,b0,b1,b2,b3,b4,b5,b6,b7,d1,d2,s1,s2⟩:=h;exact⟨(hb.cell (by exact s1)).trans a0,(hb.cell (by exact s1)).trans a1,(hb.cell (by exact s1)).trans a2,(hb.cell (by exact s1)).trans a3,(hb.cell (by exact s1)).trans a4,(hb.cell (by exact s1)).trans a5,(hb.cell (by exact s1)).trans a6,(hb.cell (by exact s1)).trans a7,(hb.cell (by exact s2)).trans b0,(hb.cell (by exact s2)).trans b1,(hb.cell (by exact s2)).trans b2,(hb.cell (by exact s2)).trans b3,(hb.cell (by exact s2)).trans b4,(hb.cell (by exact s2)).trans b5,(hb.cell (by exact s2)).trans b6,(hb.cell (by exact s2)).trans b7,d1.below hb,d2.below hb,nL s1 hb.size,nL s2 hb.size⟩
def m8 {W:World} {g1 g2 A B:Nat} {gx:Int} {gy:Int} {gz:Int} {ge:Bool} {gi:Nat} {gr:Bool} {gd:Int} {p1 p2:Option Addr} {m1 q1 m2 q2:Nat} {L:List Nat} (h:W.cell? ⟨g1,A,nn⟩=sQ (I J gx)/\W.cell? ⟨g1,A+1,nn⟩=sQ (I J gy)/\W.cell? ⟨g1,A+2,nn⟩=sQ (I J gz)/\W.cell? ⟨g1,A+3,nn⟩=sQ (bO ge)/\W.cell? ⟨g1,A+4,nn⟩=sQ (I Zk (gi:Int))/\W.cell? ⟨g1,A+5,nn⟩=sQ (bO gr)/\W.cell? ⟨g1,A+6,nn⟩=sQ (I J gd)/\W.cell? ⟨g1,A+7,nn⟩=sQ (sL p1 m1 q1)/\W.cell? ⟨g2,B,nn⟩=sQ (I J gx)/\W.cell? ⟨g2,B+1,nn⟩=sQ (I J gy)/\W.cell? ⟨g2,B+2,nn⟩=sQ (I J gz)/\W.cell? ⟨g2,B+3,nn⟩=sQ (bO ge)/\W.cell? ⟨g2,B+4,nn⟩=sQ (I Zk (gi:Int))/\W.cell? ⟨g2,B+5,nn⟩=sQ (bO gr)/\W.cell? ⟨g2,B+6,nn⟩=sQ (I J gd)/\W.cell? ⟨g2,B+7,nn⟩=sQ (sL p2 m2 q2)/\iB W p1 m1 q1 L/\iB W p2 m2 q2 L/\g1<W.heap.size/\g2<W.heap.size):iB W p1 m1 q1 L/\iB W p2 m2 q2 L:=⟨h.2.2.2.2.2.2.2.2.2.2.2.2.2.2.2.2.1,h.2.2.2.2.2.2.2.2.2.2.2.2.2.2.2.2.2.1⟩
def Ni {F:FuncId} (w:World) (a1 a2:Option Addr) (n1 c1 n2 c2:Nat) (bs:List R8) (h1:aM w a1 n1 c1 bs) (h2:aM w a2 n2 c2 bs) (hn:n1<=1048576) (hd:∀ j (h:j<bs.length),bs[j].l.length<=1048576) (hF:F=96\/F=98:=by decide) :
  Calls Tp F #[sL a1 n1 c1,sL a2 n2 c2] w fun o w'=>o = rT (bO true)/\Bl w w':=by
 rcases hF with rfl|rfl;all_goals
  have e1:=h1.len;have e2:=h2.len;by_cases hl:bs=[]
  .subst hl;have e1':n1=0:=e1;have e2':n2=0:=e2;subst e1' e2';clear e1 e2 h1 h2 hd;first | go_enter func96,ntmps96 | go_enter func98,ntmps98
   go_wp2;go_loopw [5] (fun i wr=>i = I J 0/\wr=w) (fun _ _=>0);case atStart=>exact⟨rfl,rfl⟩
   case round=>
    obtain⟨rfl,rfl⟩:=hrel;go_wp2;go_ret;exact⟨rfl,bW _ _⟩
  .obtain⟨g1,o1,rfl,k1⟩:=h1.cells hl;obtain⟨g2,o2,rfl,k2⟩:=h2.cells hl;have hnn:n2=n1:=om;subst hnn;have HL:Hid (n2=bs.length):=e2;have HK1:Hid (∀ j (h:j<bs.length),∃ ao m c,at8 w g1 (o1+j*8) bs[j] ao m c):=k1;have HK2:Hid (∀ j (h:j<bs.length),∃ ao m c,at8 w g2 (o2+j*8) bs[j] ao m c):=k2;have hcp1:=h1.cap;have hcp2:=h2.cap;have HD0:Hid (∀ j (h:j<bs.length),bs[j].l.length<=1048576):=hd;clear hd;clear e1 e2 h1 h2 k1 k2;first | go_enter func96,ntmps96 | go_enter func98,ntmps98
   go_wp2;go_loopw [5] (fun i wr=>∃ k:Nat,k<=n2/\i = I J k/\Bl w wr) (fun i _=>n2-(intOf i).toNat);case atStart=>exact⟨0,nZ _,rfl,bW _ _⟩
   case round=>
    obtain⟨k,hk,rfl,hb⟩:=hrel;by_cases hlt:k<n2
    .have hkl:k<bs.length:=by have:=HL.o;omega
     obtain⟨p1,m1,q1,y1⟩:=HK1.o k hkl;obtain⟨p2,m2,q2,y2⟩:=HK2.o k hkl;have z1:=QC w _ y1.c0;have z2:=QC w _ y2.c0;have hm:m1<=1048576:=by have:=HD0.o k hkl;have:=y1.dat.len;omega
     have hS0:wr.cell? ⟨g1,o1+k*8,nn⟩=sQ (I J bs[k].x)/\wr.cell? ⟨g1,o1+k*8+1,nn⟩=sQ (I J bs[k].y)/\wr.cell? ⟨g1,o1+k*8+2,nn⟩=sQ (I J bs[k].z)/\wr.cell? ⟨g1,o1+k*8+3,nn⟩=sQ (bO bs[k].e)/\wr.cell? ⟨g1,o1+k*8+4,nn⟩=sQ (I Zk (bs[k].i:Int))/\wr.cell? ⟨g1,o1+k*8+5,nn⟩=sQ (bO bs[k].r)/\wr.cell? ⟨g1,o1+k*8+6,nn⟩=sQ (I J bs[k].d)/\wr.cell? ⟨g1,o1+k*8+7,nn⟩=sQ (sL p1 m1 q1)/\wr.cell? ⟨g2,o2+k*8,nn⟩=sQ (I J bs[k].x)/\wr.cell? ⟨g2,o2+k*8+1,nn⟩=sQ (I J bs[k].y)/\wr.cell? ⟨g2,o2+k*8+2,nn⟩=sQ (I J bs[k].z)/\wr.cell? ⟨g2,o2+k*8+3,nn⟩=sQ (bO bs[k].e)/\wr.cell? ⟨g2,o2+k*8+4,nn⟩=sQ (I Zk (bs[k].i:Int))/\wr.cell? ⟨g2,o2+k*8+5,nn⟩=sQ (bO bs[k].r)/\wr.cell? ⟨g2,o2+k*8+6,nn⟩=sQ (I J bs[k].d)/\wr.cell? ⟨g2,o2+k*8+7,nn⟩=sQ (sL p2 m2 q2)/\iB wr p1 m1 q1 bs[k].l/\iB wr p2 m2 q2 bs[k].l/\g1<wr.heap.size/\g2<wr.heap.size:=⟨(hb.cell (by exact z1)).trans y1.c0,(hb.cell (by exact z1)).trans y1.c1,(hb.cell (by exact z1)).trans y1.c2,(hb.cell (by exact z1)).trans y1.c3,(hb.cell (by exact z1)).trans y1.c4,(hb.cell (by exact z1)).trans y1.c5,(hb.cell (by exact z1)).trans y1.c6,(hb.cell (by exact z1)).trans y1.cs,(hb.cell (by exact z2)).trans y2.c0,(hb.cell (by exact z2)).trans y2.c1,(hb.cell (by exact z2)).trans y2.c2,(hb.cell (by exact z2)).trans y2.c3,(hb.cell (by exact z2)).trans y2.c4,(hb.cell (by exact z2)).trans y2.c5,(hb.cell (by exact z2)).trans y2.c6,(hb.cell (by exact z2)).trans y2.cs,y1.dat.below hb,y2.dat.below hb,nL z1 hb.size,nL z2 hb.size⟩
     have HB:Hid (Bl w wr):=hb;clear hb y1 y2 z1 z2;generalize hBx:bs[k].x=gx at *;generalize hBy:bs[k].y=gy at *;generalize hBz:bs[k].z=gz at *;generalize hBe:bs[k].e=ge at *;generalize hBi:bs[k].i=gi at *;generalize hBr:bs[k].r=gr at *;generalize hBd:bs[k].d=gd at *;generalize hBl:bs[k].l=L at *;clear hBx hBy hBz hBe hBi hBr hBd hBl;go_wp2;go_region_held3 (fun W=>W.cell? ⟨g1,o1+k*8,nn⟩=sQ (I J gx)/\W.cell? ⟨g1,o1+k*8+1,nn⟩=sQ (I J gy)/\W.cell? ⟨g1,o1+k*8+2,nn⟩=sQ (I J gz)/\W.cell? ⟨g1,o1+k*8+3,nn⟩=sQ (bO ge)/\W.cell? ⟨g1,o1+k*8+4,nn⟩=sQ (I Zk (gi:Int))/\W.cell? ⟨g1,o1+k*8+5,nn⟩=sQ (bO gr)/\W.cell? ⟨g1,o1+k*8+6,nn⟩=sQ (I J gd)/\W.cell? ⟨g1,o1+k*8+7,nn⟩=sQ (sL p1 m1 q1)/\W.cell? ⟨g2,o2+k*8,nn⟩=sQ (I J gx)/\W.cell? ⟨g2,o2+k*8+1,nn⟩=sQ (I J gy)/\W.cell? ⟨g2,o2+k*8+2,nn⟩=sQ (I J gz)/\W.cell? ⟨g2,o2+k*8+3,nn⟩=sQ (bO ge)/\W.cell? ⟨g2,o2+k*8+4,nn⟩=sQ (I Zk (gi:Int))/\W.cell? ⟨g2,o2+k*8+5,nn⟩=sQ (bO gr)/\W.cell? ⟨g2,o2+k*8+6,nn⟩=sQ (I J gd)/\W.cell? ⟨g2,o2+k*8+7,nn⟩=sQ (sL p2 m2 q2)/\iB W p1 m1 q1 L/\iB W p2 m2 q2 L/\g1<W.heap.size/\g2<W.heap.size) (first | exact Ng _ _ _ _ _ _ _ _ _ _ _ _ _ _ _ _ _ _ _ _ hS0 (bW _ _).drew | exact Ng _ _ _ _ _ _ _ _ _ _ _ _ _ _ _ _ _ _ _ _ (by assumption) (by assumption)) (first | ((first | go_at_call 160 | go_at_call 162);refine (Nl _ gx gy gz ge gi gr gd p1 m1 q1 L (m8 (by assumption)).1 p2 m2 q2 (m8 (by assumption)).2 hm).mono ?_;rintro o w5 ⟨rfl,hb5⟩))
     go_wp2;go_roundw;case rel=>exact⟨k+1,om,by go_num,HB.o.trans (((bW _ _).drew.trans hb5).mono HB.o.size)⟩
     case measure=>simp[intOf];omega
    .go_wp2;go_ret;exact⟨rfl,hb⟩
open Go.IntKind renaming i64->J
section
variable {X w:World}
structure nz (b:Nat) (X w':World):Prop where
 cp:∀ o,w'.cell? ⟨b,o,none⟩=X.cell? ⟨b,o,none⟩
 cr:∀ o,w'.cell? ⟨b+1,o,none⟩=X.cell? ⟨b+1,o,none⟩
def rl {b:Nat} {w':World} (hb:Bl X w') (hz:b+2<=X.heap.size):nz b X w':=
 ⟨fun o=>hb.cell (p:=⟨b,o,none⟩) (by show b<_;omega),fun o=>hb.cell (p:=⟨b+1,o,none⟩) (by show b+1<_;omega)⟩
def xo (hX:Bl w X) (hz:w.heap.size+2<=X.heap.size) {a a':Option Addr} {n cap n' cap':Nat} {bs:List R3} (h:bj w a n cap bs) (h':bj w a' n' cap' bs) (hn:bs.length<=1048576) :
  Calls Tp 95 #[sL a n cap,sL a' n' cap'] X fun e w'=>e = rT (bO true)/\Bl w w'/\w.heap.size+2<=w'.heap.size/\nz w.heap.size X w':=by
 refine (lH X a a' n cap n' cap' bs (h.below hX) (h'.below hX) (by have:=h.len;omega)).mono ?_;rintro e w' ⟨rfl,h2⟩;exact⟨rfl,hX.trans (h2.mono hX.size),nT hz h2.size,rl h2 hz⟩
def Nq {F:FuncId} (hX:Bl w X) (hz:w.heap.size+2<=X.heap.size) {a a':Option Addr} {n cap n' cap':Nat} {bs:List R8} (h:aM w a n cap bs) (h':aM w a' n' cap' bs) (hn:bs.length<=1048576) (hd:∀ j (h:j<bs.length),bs[j].l.length<=1048576) (hF:F=96\/F=98:=by decide) :
  Calls Tp F #[sL a n cap,sL a' n' cap'] X fun e w'=>e = rT (bO true)/\Bl w w'/\w.heap.size+2<=w'.heap.size/\nz w.heap.size X w':=by
 rcases hF with rfl|rfl;all_goals
  refine (Ni X a a' n cap n' cap' bs (h.below hX) (h'.below hX) (by have:=h.len;omega) hd).mono ?_;rintro e w' ⟨rfl,h2⟩;exact⟨rfl,hX.trans (h2.mono hX.size),nT hz h2.size,rl h2 hz⟩
def Ad (hX:Bl w X) (hz:w.heap.size+2<=X.heap.size) {a a':Option Addr} {n cap n' cap':Nat} {bs:List R5} (h:cl w a n cap bs) (h':cl w a' n' cap' bs) (hn:bs.length<=1048576) (hd:∀ j (h:j<bs.length),bs[j].l.length<=1048576) :
  Calls Tp 97 #[sL a n cap,sL a' n' cap'] X fun e w'=>e = rT (bO true)/\Bl w w'/\w.heap.size+2<=w'.heap.size/\nz w.heap.size X w':=by
 refine (mA X a a' n cap n' cap' bs (h.below hX) (h'.below hX) (by have:=h.len;omega) hd).mono ?_;rintro e w' ⟨rfl,h2⟩;exact⟨rfl,hX.trans (h2.mono hX.size),nT hz h2.size,rl h2 hz⟩
def xp (hX:Bl w X) (hz:w.heap.size+2<=X.heap.size) (a b c d:Int) :
  Calls Tp 94 #[cfV a b c d,cfV a b c d] X fun e w'=>e = rT (bO true)/\Bl w w'/\w.heap.size+2<=w'.heap.size/\nz w.heap.size X w':=by
 refine (mD X a b c d).mono ?_;rintro e w' ⟨rfl,h2⟩;exact⟨rfl,hX.trans (h2.mono hX.size),nT hz h2.size,rl h2 hz⟩
def rI (w:World) (H:Ho) (s s':Sl) (h:aK w H s) (h':aK w H s') (hn:H.le 1048576) :
  Calls Tp 40 #[hoV H s,hoV H s'] w fun o w'=>o = rT (bO true)/\Bl w w':=by
 have HH:Hid (aK w H s):=h;have HH':Hid (aK w H s'):=h';have HN:Hid (H.le 1048576):=hn;clear h h' hn;obtain⟨c0,c1,c2,c3,fs,bx,ff,qu,lo,st⟩:=H;obtain⟨a1,n1,k1,a2,n2,k2,a3,n3,k3,a4,n4,k4⟩:=s;obtain⟨b1,m1,l1,b2,m2,l2,b3,m3,l3,b4,m4,l4⟩:=s';have hlo:(lo != lo)=false:=pQ;have hst:(st != st)=false:=pQ;go_enter func40,ntmps40;go_wp2_with (first | (go_at_call 94;refine (xp (w:=w) (Zw.alloc pQ _) pQ _ _ _ _).mono ?_;rintro o w1 ⟨rfl,B1,Z1,K1⟩;obtain⟨cp1,cr1⟩:=K1;have HB1:Hid (Bl w w1):=B1;have HZ1:Hid (w.heap.size+2<=w1.heap.size):=Z1;clear B1 Z1) | (go_at_call 95;refine (xo HB1.o HZ1.o HH.o.fs HH'.o.fs HN.o.fs).mono ?_;rintro o w2 ⟨rfl,B2,Z2,K2⟩;obtain⟨cp2,cr2⟩:=K2;have HB2:Hid (Bl w w2):=B2;have HZ2:Hid (w.heap.size+2<=w2.heap.size):=Z2;clear B2 Z2) | (go_at_call 96;refine (Nq HB2.o HZ2.o HH.o.bx HH'.o.bx HN.o.bx HN.o.bd).mono ?_;rintro o w3 ⟨rfl,B3,Z3,K3⟩;obtain⟨cp3,cr3⟩:=K3;have HB3:Hid (Bl w w3):=B3;have HZ3:Hid (w.heap.size+2<=w3.heap.size):=Z3;clear B3 Z3) | (go_at_call 97;refine (Ad HB3.o HZ3.o HH.o.ff HH'.o.ff HN.o.ff HN.o.fd).mono ?_;rintro o w4 ⟨rfl,B4,Z4,K4⟩;obtain⟨cp4,cr4⟩:=K4;have HB4:Hid (Bl w w4):=B4;have HZ4:Hid (w.heap.size+2<=w4.heap.size):=Z4;clear B4 Z4) | (go_at_call 98;refine (Nq HB4.o HZ4.o HH.o.qu HH'.o.qu HN.o.qu HN.o.qd).mono ?_;rintro o w5 ⟨rfl,B5,Z5,K5⟩;obtain⟨cp5,cr5⟩:=K5;have HB5:Hid (Bl w w5):=B5;have HZ5:Hid (w.heap.size+2<=w5.heap.size):=Z5;clear B5 Z5));go_ret;exact⟨rfl,HB5.o⟩
end
section
variable {w X:World}
def Np {F:FuncId} (hX:Bl w X) (hz:w.heap.size+1<=X.heap.size) {a:Option Addr} {n cap:Nat} {bs:List R8} (h:aM w a n cap bs) (m:Nat) (hm:m<=1048576) (hn:bs.length<=9223372036854775807) (hd:∀ j (h:j<bs.length),bs[j].l.length<=9223372036854775807) (hF:F=44\/F=46:=by decide) :
  Calls Tp F #[sL a n cap,I J (m:Int)] X fun e w'=>∃ z:Int,e = rT (I J z)/\Bl w w'/\w.heap.size+1<=w'.heap.size/\(∀ o,w'.cell? ⟨w.heap.size,o,none⟩=X.cell? ⟨w.heap.size,o,none⟩)/\(z = -1\/∃ m':Nat,z=(m':Int)/\m'<=m/\bs.length<=m/\∀ j (h:j<bs.length),bs[j].l.length<=m):=by
 rcases hF with rfl|rfl;all_goals
  have hl:=h.len;refine (Nk X a n cap bs (h.below hX) m hm om hd).mono ?_;rintro e w' ⟨z,rfl,h2,h3⟩;refine⟨z,rfl,hX.trans (h2.mono hX.size),nT hz h2.size,fun o=>h2.cell (p:=⟨w.heap.size,o,none⟩) (by show w.heap.size<_;omega),?_⟩;rcases h3 with h3|⟨m',e1,e2,e3,e4⟩
  .exact .inl h3
  .exact .inr ⟨m',e1,e2,om,e4⟩
def zV (hX:Bl w X) (hz:w.heap.size+1<=X.heap.size) {a:Option Addr} {n cap:Nat} {bs:List R5} (h:cl w a n cap bs) (m:Nat) (hm:m<=1048576) (hn:bs.length<=9223372036854775807) (hd:∀ j (h:j<bs.length),bs[j].l.length<=9223372036854775807) :
  Calls Tp 45 #[sL a n cap,I J (m:Int)] X fun e w'=>∃ z:Int,e = rT (I J z)/\Bl w w'/\w.heap.size+1<=w'.heap.size/\(∀ o,w'.cell? ⟨w.heap.size,o,none⟩=X.cell? ⟨w.heap.size,o,none⟩)/\(z = -1\/∃ m':Nat,z=(m':Int)/\m'<=m/\bs.length<=m/\∀ j (h:j<bs.length),bs[j].l.length<=m):=by
 have hl:=h.len;refine (nK X a n cap bs (h.below hX) m hm om hd).mono ?_;rintro e w' ⟨z,rfl,h2,h3⟩;refine⟨z,rfl,hX.trans (h2.mono hX.size),nT hz h2.size,fun o=>h2.cell (p:=⟨w.heap.size,o,none⟩) (by show w.heap.size<_;omega),?_⟩;rcases h3 with h3|⟨m',e1,e2,e3,e4⟩
 .exact .inl h3
 .exact .inr ⟨m',e1,e2,om,e4⟩
def sA (w:World) (H:Ho) (s:Sl) (h:aK w H s) (hn:H.le 9223372036854775807) (m:Nat) (hm:m<=1048576) :
  Calls Tp 24 #[hoV H s,I J (m:Int)] w fun o w'=>∃ z:Int,o = rT (I J z)/\Bl w w'/\(z = -1\/∃ m':Nat,z=(m':Int)/\H.le m/\m'<=m):=by
 have HH:Hid (aK w H s):=h;have HN:Hid (H.le 9223372036854775807):=hn;clear h hn;obtain⟨c0,c1,c2,c3,fs,bx,ff,qu,lo,st⟩:=H;obtain⟨a1,n1,k1,a2,n2,k2,a3,n3,k3,a4,n4,k4⟩:=s;have hA:Bl w (w.alloc (.cells #[I J c0,I J c1,I J c2,I J c3,sL a1 n1 k1,sL a2 n2 k2,sL a3 n3 k3,sL a4 n4 k4,I J lo,I J st] 29)):=Zw;have HA:Hid (Bl w (w.alloc (.cells #[I J c0,I J c1,I J c2,I J c3,sL a1 n1 k1,sL a2 n2 k2,sL a3 n3 k3,sL a4 n4 k4,I J lo,I J st] 29))):=hA;clear hA;by_cases h1:(n1:Int)<=(m:Int)
 .have H1:Hid (∀ W,Calls Tp 43 #[sL a1 n1 k1,I J (m:Int)] W fun o w'=>o = rT (I J ((m:Int)-(n1:Int)))/\W=w'):=by
   intro W;have hl:n1=fs.length:=HH.o.fs.len;have hb:fs.length<=9223372036854775807:=HN.o.fs;have:=iL W a1 n1 k1 m om hm;rw[qc h1] at this;exact this
  have e1:¬ (m:Int)-(n1:Int)<0:=om;have ed:(m:Int)-(n1:Int)=((m-n1:Nat):Int):=om;have hmm:m-n1<=1048576:=om;have hmle:m-n1<=m:=om;rw[ed] at H1 e1;clear ed;generalize hmx:m-n1=mx at *;clear hmx;go_enter func24,ntmps24;go_wp2_with (go_at_call 43;refine (H1.o _).mono ?_;rintro o w1 ⟨rfl,rfl⟩);refine (Np HA.o pQ HH.o.bx mx hmm HN.o.bx HN.o.bd).mono ?_;rintro o w2 ⟨z2,rfl,B2,Z2,cp2,h2⟩;have HB2:Hid (Bl w w2):=B2;have HZ2:Hid (w.heap.size+1<=w2.heap.size):=Z2;clear B2 Z2;rcases h2 with rfl|⟨m2,rfl,l2,q2,d2⟩
  .go_wp2_with fail;go_ret;exact⟨_,rfl,HB2.o,.inl rfl⟩
  .have HD2:Hid (bx.length<=mx/\∀ j (h:j<bx.length),bx[j].l.length<=mx):=⟨q2,d2⟩
   clear q2 d2;go_wp2_with fail;refine (zV HB2.o HZ2.o HH.o.ff m2 om HN.o.ff HN.o.fd).mono ?_;rintro o w3 ⟨z3,rfl,B3,Z3,cp3,h3⟩;have HB3:Hid (Bl w w3):=B3;have HZ3:Hid (w.heap.size+1<=w3.heap.size):=Z3;clear B3 Z3;rcases h3 with rfl|⟨m3,rfl,l3,q3,d3⟩
   .go_wp2_with fail;go_ret;exact⟨_,rfl,HB3.o,.inl rfl⟩
   .have HD3:Hid (ff.length<=m2/\∀ j (h:j<ff.length),ff[j].l.length<=m2):=⟨q3,d3⟩
    clear q3 d3;go_wp2_with fail;refine (Np HB3.o HZ3.o HH.o.qu m3 om HN.o.qu HN.o.qd).mono ?_;rintro o w4 ⟨z4,rfl,B4,Z4,cp4,h4⟩;have HB4:Hid (Bl w w4):=B4;clear B4 Z4;rcases h4 with rfl|⟨m4,rfl,l4,q4,d4⟩
    .go_wp2_with fail;go_ret;exact⟨_,rfl,HB4.o,.inl rfl⟩
    .have HD4:Hid (qu.length<=m3/\∀ j (h:j<qu.length),qu[j].l.length<=m3):=⟨q4,d4⟩
     clear q4 d4;go_wp2_with fail;go_ret;refine⟨_,rfl,HB4.o,.inr ⟨m4,rfl,?_,om⟩⟩;have hl:n1=fs.length:=HH.o.fs.len;obtain⟨x2,y2⟩:=HD2.o;obtain⟨x3,y3⟩:=HD3.o;obtain⟨x4,y4⟩:=HD4.o;exact⟨by show fs.length<=m;omega,nT x2 hmle,by show ff.length<=m;omega,by show qu.length<=m;omega,fun j hj=>nT (y2 j hj) hmle,fun j hj=>nT (y3 j hj) om,fun j hj=>nT (y4 j hj) om⟩
 .have H1:Hid (∀ W,Calls Tp 43 #[sL a1 n1 k1,I J (m:Int)] W fun o w'=>o = rT (I J (-1))/\W=w'):=by
   intro W;have hl:n1=fs.length:=HH.o.fs.len;have hb:fs.length<=9223372036854775807:=HN.o.fs;have:=iL W a1 n1 k1 m om hm;rw[qa h1] at this;exact this
  go_enter func24,ntmps24;go_wp2_with (go_at_call 43;refine (H1.o _).mono ?_;rintro o w1 ⟨rfl,rfl⟩);go_ret;exact⟨_,rfl,HA.o,.inl rfl⟩
end
def kU (a b c d:Int):Bool:=decide (1<=a/\a<=8/\1<=b/\b<=16/\0<=c/\c<=1/\1<=d/\d<=32)
def dh (w:World) (v l m:Int):Calls Tp 79 #[I J v,I J l,I J m] w fun o w'=>o = rT (bO (decide (l<=v/\v<=m)))/\w=w':=by
 have HD:Hid (∀ b:Bool,(b=true↔(l<=v/\v<=m))->b=decide (l<=v/\v<=m)):=fun b h=>by rw[qk,h];simp
 generalize decide (l<=v/\v<=m)=R at *;go_enter func79,ntmps79;go_wp2;all_goals
  go_ret;refine⟨aj (HD.o _ ?_),rfl⟩;simp;try omega
def ll (w:World) (a b c d:Int):Calls Tp 110 #[cfV a b c d] w fun o w'=>o = rT (bO (kU a b c d))/\Bl w w':=by
 go_enter func110,ntmps110;go_wp2;all_goals
  go_ret;refine⟨aj ?_,Zw⟩;unfold kU;rw[qk];simp;try omega
def kh (w:World) (a b c d:Int):Calls Tp 131 #[cfV a b c d] w fun o w'=>o = rT (bO (kU a b c d))/\Bl w w':=by
 go_enter func131,ntmps131;go_wp2_with (go_at_call 79;refine (dh _ _ _ _).mono ?_;rintro o w1 ⟨rfl,rfl⟩);all_goals
  go_ret;refine⟨aj ?_,Zw⟩;unfold kU;rw[qk];simp;try omega
def cM (x:R3):Bool:=decide (x.m<(if x.e=true then 536870912 else 2048)) && decide (x.k<(if x.e=true then 536870912 else 2048))
def ke (w:World) (x:R3):Calls Tp 172 #[flV x.e x.m x.k] w fun o w'=>o = rT (bO (!cM x))/\Bl w w':=by
 obtain⟨e,m,k⟩:=x;cases e
 .have HD:Hid (∀ b:Bool,(b=true↔¬ (m<2048/\k<2048))->b = !cM ⟨false,m,k⟩):=fun b h=>by rw[qk,h];simp[cM];omega
  generalize cM ⟨false,m,k⟩=R at *;go_enter func172,ntmps172;go_wp2;all_goals
   go_ret;refine⟨aj (HD.o _ ?_),Zw⟩;simp;try omega
 .have HD:Hid (∀ b:Bool,(b=true↔¬ (m<536870912/\k<536870912))->b = !cM ⟨true,m,k⟩):=fun b h=>by rw[qk,h];simp[cM];omega
  generalize cM ⟨true,m,k⟩=R at *;go_enter func172,ntmps172;go_wp2;all_goals
   go_ret;refine⟨aj (HD.o _ ?_),Zw⟩;simp;try omega
section
variable {bs:List R3} {k:Nat}
def sa (hk:k<bs.length) (h:∀ j (hj:j<bs.length),j<k->cM bs[j]=true) (h1:cM bs[k]=true):∀ j (hj:j<bs.length),j<k+1->cM bs[j]=true:=by
 intro j hj h2;by_cases e:j=k
 .subst e;exact h1
 .exact h j hj om
def vn (hk:bs.length<=k) (h:∀ j (hj:j<bs.length),j<k->cM bs[j]=true):bs.all cM=true:=by
 rw[Qb];intro x hx;obtain⟨j,hj,rfl⟩:=List.getElem_of_mem hx;exact h j hj om
def As (hk:k<bs.length) (h1:cM bs[k]=false):bs.all cM=false:=by
 rw[List.all_eq_false];exact⟨bs[k],qn hk,by rw[h1];simp⟩
def Ik (w:World) (a:Option Addr) (n cap:Nat) (bs:List R3) (h:bj w a n cap bs) (hn:n<=1048576) :
  Calls Tp 206 #[sL a n cap,.func (.func 172) #[] #[]] w fun o w'=>∃ z:Int,o = rT (I J z)/\decide (0<=z) = !bs.all cM/\Bl w w':=by
 have hlen:=h.len;have hcp:=h.cap;by_cases hl:bs=[]
 .subst hl;have hn0:n=0:=hlen;subst hn0;clear hlen h;go_enter func206,ntmps206;go_wp2;go_loopw [8] (fun i wr=>i = I J 0/\wr=w) (fun _ _=>0);case atStart=>exact⟨rfl,rfl⟩
  case round=>
   obtain⟨rfl,rfl⟩:=hrel;go_wp2;go_ret;exact⟨-1,rfl,rfl,bW _ _⟩
 .obtain⟨g,off,rfl,hc⟩:=h.cells hl;have HL:Hid (n=bs.length):=hlen;have HC:Hid (∀ j (h:j<bs.length),at3 w g (off+j*3) bs[j]):=hc;have hgz:g<w.heap.size:=QC w _ (hc 0 (List.length_pos_iff.2 hl)).c0;clear h hlen hc;go_enter func206,ntmps206;go_wp2;go_loopw [8] (fun i wr=>∃ k:Nat,k<=n/\i = I J (k:Int)/\(∀ j (hj:j<bs.length),j<k->cM bs[j]=true)/\Bl w wr) (fun i _=>n-(intOf i).toNat);case atStart=>exact⟨0,nZ _,rfl,fun j hj h=>Qy h (nN _),bW _ _⟩
  case round=>
   obtain⟨k,hk,rfl,hdone,hb⟩:=hrel;by_cases hlt:k<n
   .have hkl:k<bs.length:=by have:=HL.o;omega
    have hx:=HC.o k hkl;have x0:=(hb.cell (by exact hgz)).trans hx.c0;have x1:=(hb.cell (by exact hgz)).trans hx.c1;have x2:=(hb.cell (by exact hgz)).trans hx.c2;have HB:Hid (Bl w wr):=hb;have HD:Hid (∀ j (hj:j<bs.length),j<k->cM bs[j]=true):=hdone;have HW:Hid (∀ W,Calls Tp 172 #[flV bs[k].e bs[k].m bs[k].k] W fun o w'=>o = rT (bO (!cM bs[k]))/\Bl W w'):=fun W=>ke W bs[k];clear hx hb hdone;cases hok:cM bs[k]
    .have HN:Hid (bs.all cM=false):=As hkl hok;rw[hok] at HW;clear hok;generalize bs[k].e=e0 at *;generalize bs[k].m=m0 at *;generalize bs[k].k=k0 at *;go_wp2_with (go_at_call 172;refine (HW.o _).mono ?_;rintro o w5 ⟨rfl,hb5⟩);go_ret;exact⟨_,rfl,by rw[HN.o];simp,HB.o.trans (hb5.mono HB.o.size)⟩
    .have HN:Hid (∀ j (hj:j<bs.length),j<k+1->cM bs[j]=true):=sa hkl HD.o hok;rw[hok] at HW;clear hok;generalize bs[k].e=e0 at *;generalize bs[k].m=m0 at *;generalize bs[k].k=k0 at *;go_wp2_with (go_at_call 172;refine (HW.o _).mono ?_;rintro o w5 ⟨rfl,hb5⟩);go_roundw;case rel=>exact⟨k+1,om,by go_num,HN.o,HB.o.trans (hb5.mono HB.o.size)⟩
     case measure=>simp[intOf];omega
   .have HN:Hid (bs.all cM=true):=vn (by have:=HL.o;omega) hdone;clear hdone;go_wp2;go_ret;exact⟨_,rfl,by rw[HN.o];simp,hb⟩
def jO (w:World) (a:Option Addr) (n cap:Nat) (bs:List R3) (h:bj w a n cap bs) (hn:n<=1048576) :
  Calls Tp 171 #[sL a n cap,.func (.func 172) #[] #[]] w fun o w'=>o = rT (bO (!bs.all cM))/\Bl w w':=by
 have HI:Hid (Calls Tp 206 #[sL a n cap,.func (.func 172) #[] #[]] w fun o w'=>∃ z:Int,o = rT (I J z)/\decide (0<=z) = !bs.all cM/\Bl w w'):=Ik w a n cap bs h hn;clear h;go_enter func171,ntmps171;go_wp2_with (go_at_call 206;refine HI.o.mono ?_;rintro o w5 ⟨z,rfl,hz,hb5⟩;have HZ:Hid (decide (0<=z) = !bs.all cM):=hz;clear hz);go_ret;exact⟨aj HZ.o,hb5⟩
def gV (bs:List R3):Bool:=decide (bs.length<=16) && bs.all cM
def jz (w:World) (a:Option Addr) (n cap:Nat) (bs:List R3) (h:bj w a n cap bs) (hn:n<=1048576) :
  Calls Tp 132 #[sL a n cap] w fun o w'=>o = rT (bO (gV bs))/\Bl w w':=by
 have hl:=h.len;have HI:Hid (Calls Tp 171 #[sL a n cap,.func (.func 172) #[] #[]] w fun o w'=>o = rT (bO (!bs.all cM))/\Bl w w'):=jO w a n cap bs h hn;clear h;by_cases h16:n<=16
 .have HD:Hid (gV bs=bs.all cM):=by unfold Hid gV;rw[show decide (bs.length<=16)=true from qD om];simp
  have hd:decide ((n:Int)<=16)=true:=by simp;omega
  clear hl;have hmf:∀ (fn:Fn) (first cap:Array Value) (w:World),(Instr.makeFunc fn first cap).run Tp w = .ok (.func fn first cap) w:=fun _ _ _ _=>rfl;go_enter func132,ntmps132;go_wp2_with (go_at_call 171;refine HI.o.mono ?_;rintro o w5 ⟨rfl,hb5⟩);go_ret;exact⟨aj (by rw[HD.o];try simp),hb5⟩
 .have HD:Hid (gV bs=false):=by unfold Hid gV;rw[show decide (bs.length<=16)=false from qo om];rfl
  have hd:decide ((n:Int)<=16)=false:=by simp;omega
  clear hl;go_enter func132,ntmps132;go_wp2;go_ret;exact⟨aj HD.o.symm,bW _ _⟩
end
def sS {B:Nat} (w:World) (q:Nat):Below B w (w.drewN q):=QQ (bW _ _) q
def yF (x:R3):cM x=true↔(x.m<(if x.e=true then 536870912 else 2048)/\x.k<(if x.e=true then 536870912 else 2048)):=by simp[cM]
def km (w:World) (a:Option Addr) (n cap:Nat) (bs:List R3) (h:bj w a n cap bs) (hn:n<=1048576) :
  Calls Tp 111 #[sL a n cap] w fun o w'=>o = rT (bO (gV bs))/\Bl w w':=by
 have hlen:=h.len;have hcp:=h.cap;by_cases h16:n<=16
 .have HF:Hid (gV bs=bs.all cM):=by unfold Hid gV;rw[show decide (bs.length<=16)=true from qD om];simp
  have hd:decide ((16:Int)<(n:Int))=false:=by simp;omega
  by_cases hl:bs=[]
  .subst hl;have hn0:n=0:=hlen;subst hn0;clear hlen h;go_enter func111,ntmps111;go_wp2;go_loopw [3,4] (fun i _ wr=>i = I J 0/\wr=w) (fun _ _ _=>0);case atStart=>exact⟨rfl,rfl⟩
   case round=>
    obtain⟨rfl,rfl⟩:=hrel;go_wp2;go_ret;exact⟨aj HF.o.symm,bW _ _⟩
  .obtain⟨g,off,rfl,hc⟩:=h.cells hl;have HL:Hid (n=bs.length):=hlen;have HC:Hid (∀ j (h:j<bs.length),at3 w g (off+j*3) bs[j]):=hc;clear h hlen hc;go_enter func111,ntmps111;go_wp2;go_loopw [3,4] (fun i _ wr=>∃ k:Nat,k<=n/\i = I J (k:Int)/\(∀ j (hj:j<bs.length),j<k->cM bs[j]=true)/\∃ q,wr=w.drewN q) (fun i _ _=>n-(intOf i).toNat);case atStart=>exact⟨0,nZ _,rfl,fun j hj h=>Qy h (nN _),0,rfl⟩
   case round=>
    obtain⟨k,hk,rfl,hdone,q,rfl⟩:=hrel;have HD:Hid (∀ j (hj:j<bs.length),j<k->cM bs[j]=true):=hdone;clear hdone;by_cases hlt:k<n
    .have hkl:k<bs.length:=by have:=HL.o;omega
     have hx:=HC.o k hkl;have hgz:=QC w _ hx.c0;have x0:=((sS (B:=w.heap.size) w q).cell (by exact hgz)).trans hx.c0;have x1:=((sS (B:=w.heap.size) w q).cell (by exact hgz)).trans hx.c1;have x2:=((sS (B:=w.heap.size) w q).cell (by exact hgz)).trans hx.c2;have HY:Hid (cM bs[k]=true->∀ j (hj:j<bs.length),j<k+1->cM bs[j]=true):=fun h=>sa hkl HD.o h;have HN:Hid (cM bs[k]=false->bs.all cM=false):=fun h=>As hkl h;have HO:Hid (cM bs[k]=true↔(bs[k].m<(if bs[k].e=true then 536870912 else 2048)/\bs[k].k<(if bs[k].e=true then 536870912 else 2048))):=yF bs[k];clear hx;generalize cM bs[k]=R at *;generalize bs[k].m=m0 at *;generalize bs[k].k=k0 at *;generalize hW:w.drewN q=W at *;have HW:Hid (W=w.drewN q):=hW.symm;clear hW;cases he:bs[k].e
     .rw[he] at x0 HO;clear he;by_cases hm:m0<2048
      .have hdm:decide (2048<=m0)=false:=by simp;omega
       by_cases hk0:k0<2048
       .have hdk:decide (2048<=k0)=false:=by simp;omega
        have HR:Hid (R=true):=HO.o.2 (by simp;omega);go_wp2;go_roundw;case rel=>exact⟨k+1,om,by go_num,HY.o HR.o,q,HW.o⟩
        case measure=>simp[intOf];omega
       .have hdk:decide (2048<=k0)=true:=by simp;omega
        have HR:Hid (R=false):=by cases hR:R with | false=>exact rfl | true=>exact Qy (HO.o.1 hR) (by simp;omega)
        go_wp2;go_ret;exact⟨aj (by rw[HF.o,HN.o HR.o]),by rw[HW.o];exact sS w q⟩
      .have hdm:decide (2048<=m0)=true:=by simp;omega
       have HR:Hid (R=false):=by cases hR:R with | false=>exact rfl | true=>exact Qy (HO.o.1 hR) (by simp;omega)
       go_wp2;go_ret;exact⟨aj (by rw[HF.o,HN.o HR.o]),by rw[HW.o];exact sS w q⟩
     .rw[he] at x0 HO;clear he;by_cases hm:m0<536870912
      .have hdm:decide (536870912<=m0)=false:=by simp;omega
       by_cases hk0:k0<536870912
       .have hdk:decide (536870912<=k0)=false:=by simp;omega
        have HR:Hid (R=true):=HO.o.2 (by simp;omega);go_wp2;go_roundw;case rel=>exact⟨k+1,om,by go_num,HY.o HR.o,q,HW.o⟩
        case measure=>simp[intOf];omega
       .have hdk:decide (536870912<=k0)=true:=by simp;omega
        have HR:Hid (R=false):=by cases hR:R with | false=>exact rfl | true=>exact Qy (HO.o.1 hR) (by simp;omega)
        go_wp2;go_ret;exact⟨aj (by rw[HF.o,HN.o HR.o]),by rw[HW.o];exact sS w q⟩
      .have hdm:decide (536870912<=m0)=true:=by simp;omega
       have HR:Hid (R=false):=by cases hR:R with | false=>exact rfl | true=>exact Qy (HO.o.1 hR) (by simp;omega)
       go_wp2;go_ret;exact⟨aj (by rw[HF.o,HN.o HR.o]),by rw[HW.o];exact sS w q⟩
    .have HA:Hid (bs.all cM=true):=vn (by have:=HL.o;omega) HD.o;go_wp2;go_ret;exact⟨aj (by rw[HF.o,HA.o]),sS w q⟩
 .have HF:Hid (gV bs=false):=by unfold Hid gV;rw[show decide (bs.length<=16)=false from qo om];rfl
  have hd:decide ((16:Int)<(n:Int))=true:=by simp;omega
  clear h hlen;go_enter func111,ntmps111;go_wp2;go_ret;exact⟨aj HF.o.symm,bW _ _⟩
def mkF (c:Nat):R3:=⟨decide (c % 3=0),((c+1:Nat):Int),((c+2:Nat):Int)⟩
def Bd (C:Nat):[Value.bool ((C:Int) % 3 == 0),I .u32 ((C:Int)+1),I .u32 ((C:Int)+1+1)]=[bO (mkF C).e,I .u32 (mkF C).m,I .u32 (mkF C).k]:=by
 have h1:((C:Int) % 3 == 0)=decide (C % 3=0):=by rw[qk];simp;omega
 simp only[mkF,h1];congr 3
def ko (w:World) (g n cap c:Nat) (hr:∀ j,j<n->at3 w g (j*3) (mkF (c+3*j))) (hcp:n<=cap) (hn:n<=1048576) (hc:c<=1000) :
  Calls Tp 103 #[sL (some ⟨g,0,none⟩) n cap,I J (c:Int)] w fun o w'=>o = rT (I J ((c+3*n:Nat):Int))/\Bl w w':=by
 have HR:Hid (∀ j,j<n->at3 w g (j*3) (mkF (c+3*j))):=hr;clear hr;go_enter func103,ntmps103;go_wp2;go_loopw [1,5] (fun kk i wr=>∃ k q:Nat,k<=n/\i = I J (k:Int)/\kk = I J ((c+3*k:Nat):Int)/\wr=w.drewN q) (fun _ i _=>n-(intOf i).toNat);case atStart=>exact⟨0,0,nZ _,rfl,by go_num,rfl⟩
 case round=>
  obtain⟨k,q,hk,rfl,rfl,rfl⟩:=hrel;by_cases hlt:k<n
  .have hx:=HR.o k hlt;have hgz:=QC w _ hx.c0;have x0:=((sS (B:=w.heap.size) w q).cell (by exact hgz)).trans hx.c0;have x1:=((sS (B:=w.heap.size) w q).cell (by exact hgz)).trans hx.c1;have x2:=((sS (B:=w.heap.size) w q).cell (by exact hgz)).trans hx.c2;clear hx;generalize hC:c+3*k=C at *;have HC:Hid (c+3*k=C):=hC;have hC1:C<=4000000:=om;clear hC;have e3:(C:Int).tmod 3=((C % 3:Nat):Int):=by rw[qh om];omega
   have h1:(mkF C).e=((C:Int) % 3 == 0):=by rw[qk];simp[mkF];omega
   have h2:(mkF C).m=(C:Int)+1:=by simp[mkF]
   have h3:(mkF C).k=(C:Int)+1+1:=by simp[mkF];omega
   rw[h1] at x0;rw[h2] at x1;rw[h3] at x2;clear h1 h2 h3;generalize hW:w.drewN q=W at *;have HW:Hid (W=w.drewN q):=hW.symm;clear hW;go_wp2;refine⟨⟨k+1,q,om,by go_num,by rw[<- HC.o];go_num,HW.o⟩,by simp[intOf];omega⟩
  .have hkn:k=n:=om;subst hkn;go_wp2;go_ret;exact⟨rfl,sS w q⟩
section
variable {w:World} {b:Nat} {l:List Value} {t:TypeId}
def fB (b:Nat) (t:TypeId):∀ (vs old pre post:List Value) (w:World),old.length=vs.length->w.heap[b]?=some (.cells (pre++old++post).toArray t (0,0))->(w.setCells b pre.length vs).heap[b]?=some (.cells (pre++vs++post).toArray t (0,0)):=by
 intro vs;induction vs with
 | nil=>
  intro old pre post w hl h;have:old=[]:=List.length_eq_zero_iff.1 hl;subst this;exact h
 | cons v vs ih=>
  intro old pre post w hl h;match old,hl with
  | o :: old',hl=>
   have h1:=QP w b pre.length _ _ v h;have e:(pre++o :: old'++post).toArray.setIfInBounds pre.length v=((pre++[v])++old'++post).toArray:=pQ;have h2:=ih old' (pre++[v]) post (w.setCell ⟨b,pre.length,none⟩ v) (by simpa using hl) (by rw[<- e];exact h1);rw[qe,qm] at h2;rw[qp pre [v] vs] at h2;exact h2
def dc {fr:Nat × Nat} (h:w.heap[b]?=some (.cells l.toArray t fr)):w.rangeAt b 0 l:=fun j v hv=>by
 simp[World.cell?,h,hv]
def fK (h:w.heap[b]?=some (.cells l.toArray t (0,0))) (o n:Nat) (ho:o+n<=l.length):w.there b o n:=fun j hj=>by
 refine⟨?_,?_⟩
 .have:o+j<l.length:=om;simp[World.cell?,h,this]
 .simp[World.frozen?,h]
def sO (b k:Nat) (hk:k≠b) (vs:List Value) (w:World) (o:Nat):(w.setCells b o vs).heap[k]?=w.heap[k]?:=by
 rw[aU];exact aI b k hk vs w o
def St.setCells {B:Nat} {p:World->Prop} (h:St B w p) (b o:Nat) (hb:b<B) (vs:List Value):St B (w.setCells b o vs) p:=fun W hW=>h W fun k h1 h2=>(hW k h1 (by rw[aU,aX];exact h2)).trans (sO b k om vs w o)
def xU:(Tp.info? 41).map (·.size)=some 10:=kr
def yC (c0 c1 c2 c3:Int) (b1:Option Addr) (m1 l1:Nat) (b2:Option Addr) (m2 l2:Nat) (b3:Option Addr) (m3 l3:Nat) (b4:Option Addr) (m4 l4:Nat) (lo st:Int):(#[I J c0,I J c1,I J c2,I J c3,sL b1 m1 l1,sL b2 m2 l2,sL b3 m3 l3,sL b4 m4 l4,I J lo,I J st]:Array Value).all (·.oneCell')=true:=
 QK (by simp[Value.oneCell'])
end
open Go renaming World->Wd
section
variable {W W':Wd} {n g c cap:Nat} {hs:Nat->Hd} {a:Option Addr}
def at3.newF {w:Wd} {M:Nat} (h:az w g M) (p:Nat) (hp:p+3<=M) (b:R3):at3 (aQ w g p [bO b.e,I Zk b.m,I Zk b.k]) g p b:=
 ⟨aL g _ w p 0 pQ (h (p+0) om).1,aL g _ w p 1 pQ (h (p+1) om).1,aL g _ w p 2 pQ (h (p+2) om).1⟩
def ET (B:Nat) (w:Wd) (g n cap c:Nat) (hr:az w g (n*3)) (hcp:n<=cap) (hn:n<=1048576) (hc:c<=1000) (hB:B<=g) :
  Calls Tp 99 #[sL (sQ ⟨g,0,nn⟩) n cap,I J (c:Int)] w fun o w'=>o = rT (I J ((c+3*n:Nat):Int))/\(∀ j,j<n->at3 w' g (j*3) (mkF (c+3*j)))/\(∀ x N,az w x N->az w' x N)/\(∀ b,b≠g->w'.heap[b]?=w.heap[b]?)/\w'.heap.size=w.heap.size/\Below B w w':=by
 have HR:Hid (az w g (n*3)):=hr;clear hr;go_enter func99,ntmps99;go_wp2;go_loopw [1,5] (fun kk i wr=>∃ k:Nat,k<=n/\i = I J (k:Int)/\kk = I J ((c+3*k:Nat):Int)/\(∀ j,j<k->at3 wr g (j*3) (mkF (c+3*j)))/\(∀ x N,az w x N->az wr x N)/\(∀ b,b≠g->wr.heap[b]?=w.heap[b]?)/\wr.heap.size=w.heap.size/\Below B w wr) (fun _ i _=>n-(intOf i).toNat);case atStart=>exact⟨0,nZ _,rfl,by go_num,fun j hj=>Qy hj (nN _),fun _ _ h=>h,fun _ _=>rfl,rfl,bW _ _⟩
 case round=>
  obtain⟨k,hk,rfl,rfl,hdone,hrow,hoth,hsz,hb⟩:=hrel;by_cases hlt:k<n
  .have hrw:=hrow g (n*3) HR.o;obtain⟨⟨v0,z0⟩,f0⟩:=hrw (k*3) om;obtain⟨⟨v1,z1⟩,f1⟩:=hrw (k*3+1) om;obtain⟨⟨v2,z2⟩,f2⟩:=hrw (k*3+2) om;have HD:Hid ((∀ j,j<k->at3 wr g (j*3) (mkF (c+3*j)))/\(∀ x N,az w x N->az wr x N)/\(∀ b,b≠g->wr.heap[b]?=w.heap[b]?)/\wr.heap.size=w.heap.size/\Below B w wr/\az wr g (n*3)):=⟨hdone,hrow,hoth,hsz,hb,hrw⟩
   clear hdone hrow hoth hsz hb hrw;generalize hC:c+3*k=C at *;have HC:Hid (c+3*k=C):=hC;have hC1:C<=4000000:=om;clear hC;have e3:(C:Int).tmod 3=((C % 3:Nat):Int):=by rw[qh om];omega
   go_wp2;obtain⟨r1,r2,r3,r4,r5,r6⟩:=HD.o;have hC:=HC.o;refine⟨⟨k+1,om,by go_num,by rw[<- hC];go_num,fun j hj=>?_,fun x N h=>(r2 x N h).setRow g [Value.bool ((C:Int) % 3 == 0),I Zk ((C:Int)+1),I Zk ((C:Int)+1+1)] wr (k*3),fun b hb=>(aI g b hb [Value.bool ((C:Int) % 3 == 0),I Zk ((C:Int)+1),I Zk ((C:Int)+1+1)] wr (k*3)).trans (r3 b hb),(aX g [Value.bool ((C:Int) % 3 == 0),I Zk ((C:Int)+1),I Zk ((C:Int)+1+1)] wr (k*3)).trans r4,bT g B hB w [Value.bool ((C:Int) % 3 == 0),I Zk ((C:Int)+1),I Zk ((C:Int)+1+1)] wr (k*3) r5⟩,by simp[intOf];omega⟩;by_cases e:j=k
   .subst e;have:=at3.newF r6 (j*3) om (mkF C);rw[<- Bd] at this;rw[hC];exact this
   .exact (r1 j om).keep [Value.bool ((C:Int) % 3 == 0),I Zk ((C:Int)+1),I Zk ((C:Int)+1+1)] (k*3) (by simp;omega)
  .have hkn:k=n:=om;subst hkn;go_wp2;go_ret;exact⟨rfl,hdone,hrow,hoth,hsz,hb⟩
def No {F:FuncId} (w:Wd) (c:Nat) (hF:F=100\/F=101\/F=102\/F=104\/F=105\/F=106:=by decide):Calls Tp F #[sL nn 0 0,I J (c:Int)] w fun o w'=>o = rT (I J (c:Int))/\w'=w:=by
 rcases hF with rfl|rfl|rfl|rfl|rfl|rfl;all_goals
  first | go_enter func100,ntmps100 | go_enter func101,ntmps101 | go_enter func102,ntmps102 | go_enter func104,ntmps104 | go_enter func105,ntmps105 | go_enter func106,ntmps106
  go_wp2;go_loopw [1,5] (fun kk i wr=>i = I J 0/\kk = I J (c:Int)/\wr=w) (fun _ _ _=>0);case atStart=>exact⟨rfl,rfl,rfl⟩
  case round=>
   obtain⟨rfl,rfl,rfl⟩:=hrel;go_wp2;go_ret;exact⟨rfl,rfl⟩
def ft (a:Option Addr) (n:Nat) (hs:Nat->Hd) (x:Nat):Prop:=a=sQ ⟨x,0,nn⟩\/∃ j,j<n/\(hs j).1=sQ ⟨x,0,nn⟩
def inn (B T:Nat) (a:Option Addr) (n:Nat) (hs:Nat->Hd):Prop:=∀ x,ft a n hs x->B<=x/\x<T
def sx8 (W:Wd) (a:Option Addr) (n cap:Nat) (hs:Nat->Hd):Prop:=(a=nn/\n=0/\cap=0)\/∃ g,a=sQ ⟨g,0,nn⟩/\sh8 W g n hs/\n<=cap
def sx5 (W:Wd) (a:Option Addr) (n cap:Nat) (hs:Nat->Hd):Prop:=(a=nn/\n=0/\cap=0)\/∃ g,a=sQ ⟨g,0,nn⟩/\sh5 W g n hs/\n<=cap
def jG (W:Wd) (a:Option Addr) (n c:Nat) (hs:Nat->Hd):Prop:=∀ g,a=sQ ⟨g,0,nn⟩->∀ j,j<n->mk8 W g (j*8) (cn8 c hs j) (hs j)
def pV (W:Wd) (a:Option Addr) (n c:Nat) (hs:Nat->Hd):Prop:=∀ g,a=sQ ⟨g,0,nn⟩->∀ j,j<n->mk5 W g (j*5) (cn5 c hs j) (hs j)
def jG.up (h:jG W a n c hs) (he:∀ x,ft a n hs x->W'.heap[x]?=W.heap[x]?):jG W' a n c hs:=fun g e j hj=>(h g e j hj).up (he g (qr e)) (fun b hb=>he b (qx ⟨j,hj,hb⟩))
def pV.up (h:pV W a n c hs) (he:∀ x,ft a n hs x->W'.heap[x]?=W.heap[x]?):pV W' a n c hs:=fun g e j hj=>(h g e j hj).up (he g (qr e)) (fun b hb=>he b (qx ⟨j,hj,hb⟩))
def hd.same {h:Hd} (H:hd W g h) (he:∀ b,h.1=sQ ⟨b,0,nn⟩->W'.heap[b]?=W.heap[b]?):hd W' g h:=by
 obtain⟨h1,h2,h3⟩:=H;refine⟨h1,h2,?_⟩;rcases h3 with h3|⟨b,e,hn,hf⟩
 .exact qr h3
 .exact qx ⟨b,e,hn,hf.up (he b e)⟩
def sh8.same (h:sh8 W g n hs) (he:∀ x,ft (sQ ⟨g,0,nn⟩) n hs x->W'.heap[x]?=W.heap[x]?):sh8 W' g n hs:=
 ⟨h.row.up (he g (qr rfl)),fun j hj=>⟨cU (h.dat j hj).1 (he g (qr rfl)),(h.dat j hj).2.same fun b hb=>he b (qx ⟨j,hj,hb⟩)⟩⟩
def sh5.same (h:sh5 W g n hs) (he:∀ x,ft (sQ ⟨g,0,nn⟩) n hs x->W'.heap[x]?=W.heap[x]?):sh5 W' g n hs:=
 ⟨h.row.up (he g (qr rfl)),fun j hj=>⟨cU (h.dat j hj).1 (he g (qr rfl)),(h.dat j hj).2.same fun b hb=>he b (qx ⟨j,hj,hb⟩)⟩⟩
def sx8.same (h:sx8 W a n cap hs) (he:∀ x,ft a n hs x->W'.heap[x]?=W.heap[x]?):sx8 W' a n cap hs:=by
 rcases h with h|⟨g,e,h1,h2⟩
 .exact qr h
 .subst e;exact qx ⟨g,rfl,h1.same he,h2⟩
def sx5.same (h:sx5 W a n cap hs) (he:∀ x,ft a n hs x->W'.heap[x]?=W.heap[x]?):sx5 W' a n cap hs:=by
 rcases h with h|⟨g,e,h1,h2⟩
 .exact qr h
 .subst e;exact qx ⟨g,rfl,h1.same he,h2⟩
def jF {x:Nat} (ha:a=sQ ⟨g,0,nn⟩) (h:¬ ft a n hs x):x≠g/\∀ j,j<n->(hs j).1≠sQ ⟨x,0,nn⟩:=⟨fun e=>h (qr (by rw[ha,e])),fun j hj e=>h (qx ⟨j,hj,e⟩)⟩
def Nf {F:FuncId} (B T:Nat) (w:Wd) (p:Nat) (a:Option Addr) (n cap c:Nat) (hs:Nat->Hd) (h:sx8 w a n cap hs) (hi:inn B T a n hs) (hp:T<=p) (hn:n<=1048576) (hc:c<=20000000000000) (hF:F=100\/F=102:=by decide) :
  Calls Tp F #[sL a n cap,I J (c:Int)] w fun o w'=>o = rT (I J (cn8 c hs n:Int))/\(∀ o,w'.cell? ⟨p,o,nn⟩=w.cell? ⟨p,o,nn⟩)/\(dst hs n->jG w' a n c hs)/\(∀ x N,az w x N->az w' x N)/\(∀ x,¬ ft a n hs x->w'.heap[x]?=w.heap[x]?)/\sx8 w' a n cap hs/\w'.heap.size=w.heap.size/\Below B w w':=by
 rcases hF with rfl|rfl;all_goals
  have hpf:¬ ft a n hs p:=fun e=>Qy (hi p e).2 om;rcases h with⟨ha,hn0,hcp0⟩|⟨g,rfl,h,hcp⟩
  .subst ha hn0 hcp0;refine (No w c).mono ?_;rintro o w' ⟨rfl,rfl⟩;exact⟨rfl,fun _=>rfl,fun _ g e=>Qy e pQ,fun _ _ h=>h,fun _ _=>rfl,qr ⟨rfl,rfl,rfl⟩,rfl,bW _ _⟩
  .refine (vS B w g n cap c hs h hcp hn hc (hi g (qr rfl)).1 (fun j hj b hb=>(hi b (qx ⟨j,hj,hb⟩)).1)).mono ?_;rintro o w' ⟨rfl,q1,q2,q3,q4,q5,q6⟩;have q4':∀ x,¬ ft (sQ ⟨g,0,nn⟩) n hs x->w'.heap[x]?=w.heap[x]?:=fun x hx=>q4 x (jF rfl hx).1 (jF rfl hx).2;exact⟨rfl,fun o=>by simp only[World.cell?,q4' p hpf],fun hd g' e j hj=>by cases e;exact q1 hd j hj,q3,q4',qx ⟨g,rfl,q2,hcp⟩,q5,q6⟩
def Be (B T:Nat) (w:Wd) (p:Nat) (a:Option Addr) (n cap c:Nat) (hs:Nat->Hd) (h:sx5 w a n cap hs) (hi:inn B T a n hs) (hp:T<=p) (hn:n<=1048576) (hc:c<=20000000000000) :
  Calls Tp 101 #[sL a n cap,I J (c:Int)] w fun o w'=>o = rT (I J (cn5 c hs n:Int))/\(∀ o,w'.cell? ⟨p,o,nn⟩=w.cell? ⟨p,o,nn⟩)/\(dst hs n->pV w' a n c hs)/\(∀ x N,az w x N->az w' x N)/\(∀ x,¬ ft a n hs x->w'.heap[x]?=w.heap[x]?)/\sx5 w' a n cap hs/\w'.heap.size=w.heap.size/\Below B w w':=by
 have hpf:¬ ft a n hs p:=fun e=>Qy (hi p e).2 om;rcases h with⟨ha,hn0,hcp0⟩|⟨g,rfl,h,hcp⟩
 .subst ha hn0 hcp0;refine (No w c).mono ?_;rintro o w' ⟨rfl,rfl⟩;exact⟨rfl,fun _=>rfl,fun _ g e=>Qy e pQ,fun _ _ h=>h,fun _ _=>rfl,qr ⟨rfl,rfl,rfl⟩,rfl,bW _ _⟩
 .refine (kW B w g n cap c hs h hcp hn hc (hi g (qr rfl)).1 (fun j hj b hb=>(hi b (qx ⟨j,hj,hb⟩)).1)).mono ?_;rintro o w' ⟨rfl,q1,q2,q3,q4,q5,q6⟩;have q4':∀ x,¬ ft (sQ ⟨g,0,nn⟩) n hs x->w'.heap[x]?=w.heap[x]?:=fun x hx=>q4 x (jF rfl hx).1 (jF rfl hx).2;exact⟨rfl,fun o=>by simp only[World.cell?,q4' p hpf],fun hd g' e j hj=>by cases e;exact q1 hd j hj,q3,q4',qx ⟨g,rfl,q2,hcp⟩,q5,q6⟩
def Nh {F:FuncId} (w:Wd) (a:Option Addr) (n cap c:Nat) (hs:Nat->Hd) (h:sx8 w a n cap hs) (hm:jG w a n c hs) (hn:n<=1048576) (hc:c<=20000000000000) (hF:F=104\/F=106:=by decide) :
  Calls Tp F #[sL a n cap,I J (c:Int)] w fun o w'=>o = rT (I J (cn8 c hs n:Int))/\w'=w:=by
 rcases hF with rfl|rfl;all_goals
  rcases h with⟨ha,hn0,hcp0⟩|⟨g,rfl,h,hcp⟩
  .subst ha hn0 hcp0;exact No w c
  .exact Nc w g n cap c hs h (hm g rfl) hcp hn hc
def BE (w:Wd) (a:Option Addr) (n cap c:Nat) (hs:Nat->Hd) (h:sx5 w a n cap hs) (hm:pV w a n c hs) (hn:n<=1048576) (hc:c<=20000000000000) :
  Calls Tp 105 #[sL a n cap,I J (c:Int)] w fun o w'=>o = rT (I J (cn5 c hs n:Int))/\w'=w:=by
 rcases h with⟨ha,hn0,hcp0⟩|⟨g,rfl,h,hcp⟩
 .subst ha hn0 hcp0;exact No w c
 .exact lA w g n cap c hs h (hm g rfl) hcp hn hc
end
section
variable {W W':World} {B T n cap:Nat} {a:Option Addr} {hs:Nat->Hd}
structure Wh where
 g1:Nat
 n1:Nat
 k1:Nat
 a2:Option Addr
 n2:Nat
 k2:Nat
 h2:Nat->Hd
 a3:Option Addr
 n3:Nat
 k3:Nat
 h3:Nat->Hd
 a4:Option Addr
 n4:Nat
 k4:Nat
 h4:Nat->Hd
abbrev Wh.sl (s:Wh):Sl:=⟨some ⟨s.g1,0,none⟩,s.n1,s.k1,s.a2,s.n2,s.k2,s.a3,s.n3,s.k3,s.a4,s.n4,s.k4⟩
structure whS (B T:Nat) (W:World) (s:Wh):Prop where
 f:az W s.g1 (s.n1*3)
 fc:s.n1<=s.k1
 fb:B<=s.g1/\s.g1<T
 x:sx8 W s.a2 s.n2 s.k2 s.h2
 xb:inn B T s.a2 s.n2 s.h2
 r:sx5 W s.a3 s.n3 s.k3 s.h3
 rb:inn B T s.a3 s.n3 s.h3
 q:sx8 W s.a4 s.n4 s.k4 s.h4
 qb:inn B T s.a4 s.n4 s.h4
 m1:s.n1<=1048576
 m2:s.n2<=1048576
 m3:s.n3<=1048576
 m4:s.n4<=1048576
def whS.same {s:Wh} (h:whS B T W s) (he:∀ x,B<=x->x<T->W'.heap[x]?=W.heap[x]?):whS B T W' s:=
 ⟨h.f.up (he _ h.fb.1 h.fb.2),h.fc,h.fb,h.x.same (fun x hx=>he x (h.xb x hx).1 (h.xb x hx).2),h.xb,h.r.same (fun x hx=>he x (h.rb x hx).1 (h.rb x hx).2),h.rb,h.q.same (fun x hx=>he x (h.qb x hx).1 (h.qb x hx).2),h.qb,h.m1,h.m2,h.m3,h.m4⟩
structure whD (s:Wh):Prop where
 s12:¬ ft s.a2 s.n2 s.h2 s.g1
 s13:¬ ft s.a3 s.n3 s.h3 s.g1
 s14:¬ ft s.a4 s.n4 s.h4 s.g1
 s23:∀ x,ft s.a2 s.n2 s.h2 x->¬ ft s.a3 s.n3 s.h3 x
 s24:∀ x,ft s.a2 s.n2 s.h2 x->¬ ft s.a4 s.n4 s.h4 x
 s34:∀ x,ft s.a3 s.n3 s.h3 x->¬ ft s.a4 s.n4 s.h4 x
def Wh.c1 (s:Wh) (c:Nat):Nat:=c+3*s.n1
def Wh.c2 (s:Wh) (c:Nat):Nat:=cn8 (s.c1 c) s.h2 s.n2
def Wh.c3 (s:Wh) (c:Nat):Nat:=cn5 (s.c2 c) s.h3 s.n3
def Wh.c4 (s:Wh) (c:Nat):Nat:=cn8 (s.c3 c) s.h4 s.n4
structure whE (s:Wh):Prop where
 d2:dst s.h2 s.n2
 d3:dst s.h3 s.n3
 d4:dst s.h4 s.n4
structure whM (W:World) (s:Wh) (c:Nat):Prop where
 f:∀ j,j<s.n1->at3 W s.g1 (j*3) (mkF (c+3*j))
 x:jG W s.a2 s.n2 (s.c1 c) s.h2
 r:pV W s.a3 s.n3 (s.c2 c) s.h3
 q:jG W s.a4 s.n4 (s.c3 c) s.h4
def sx8.bd (h:sx8 W a n cap hs):∀ j,j<n->(hs j).2.1<=1048576:=by
 rcases h with⟨_,e,_⟩|⟨g,_,h,_⟩
 .intro j hj;omega
 .intro j hj;exact (h.dat j hj).2.1
def sx5.bd (h:sx5 W a n cap hs):∀ j,j<n->(hs j).2.1<=1048576:=by
 rcases h with⟨_,e,_⟩|⟨g,_,h,_⟩
 .intro j hj;omega
 .intro j hj;exact (h.dat j hj).2.1
def whS.c1 {s:Wh} (h:whS B T W s) {c:Nat} (hc:c<=1000):s.c1 c<=4000000:=by have:=h.m1;unfold Wh.c1;omega
def whS.c2 {s:Wh} (h:whS B T W s) {c:Nat} (hc:c<=1000):s.c2 c<=2000000000000:=by
 have h1:=h.c1 hc;have h2:=jP (s.c1 c) s.n2 s.h2 h.x.bd s.n2 (nR _);have h3:=h.m2;unfold Wh.c2;omega
def whS.c3 {s:Wh} (h:whS B T W s) {c:Nat} (hc:c<=1000):s.c3 c<=4000000000000:=by
 have h1:=h.c2 hc;have h2:=tY (s.c2 c) s.n3 s.h3 h.r.bd s.n3 (nR _);have h3:=h.m3;unfold Wh.c3;omega
def Bh (B T:Nat) (w:World) (p g n cap c:Nat) (hr:az w g (n*3)) (hcp:n<=cap) (hn:n<=1048576) (hc:c<=1000) (hB:B<=g) (hT:g<T) (hp:T<=p) :
  Calls Tp 99 #[sL (some ⟨g,0,none⟩) n cap,I J (c:Int)] w fun o w'=>o = rT (I J ((c+3*n:Nat):Int))/\(∀ o,w'.cell? ⟨p,o,none⟩=w.cell? ⟨p,o,none⟩)/\(∀ j,j<n->at3 w' g (j*3) (mkF (c+3*j)))/\(∀ x N,az w x N->az w' x N)/\(∀ b,b≠g->w'.heap[b]?=w.heap[b]?)/\w'.heap.size=w.heap.size/\Below B w w':=by
 refine (ET B w g n cap c hr hcp hn hc hB).mono ?_;rintro o w' ⟨rfl,q1,q2,q3,q4,q5⟩;exact⟨rfl,fun o=>by simp only[World.cell?,q3 p om],q1,q2,q3,q4,q5⟩
def ji (B T:Nat) (w:World) (c0 c1 c2 c3 lo st:Int) (s:Wh) (c:Nat) (h:whS B T w s) (hd:whD s) (hT:T<=w.heap.size) (hc:c<=1000) :
  Calls Tp 41 #[aG #[I J c0,I J c1,I J c2,I J c3,sL (some ⟨s.g1,0,none⟩) s.n1 s.k1,sL s.a2 s.n2 s.k2,sL s.a3 s.n3 s.k3,sL s.a4 s.n4 s.k4,I J lo,I J st],I J (c:Int)] w fun o w'=>o = rT (I J (s.c4 c:Int))/\(whE s->whM w' s c)/\whS B T w' s/\(∀ x,(x<B\/T<=x)->x<w.heap.size->w'.heap[x]?=w.heap[x]?)/\Below B w w':=by
 have HK:Hid (s.c1 c<=20000000000000/\s.c2 c<=20000000000000/\s.c3 c<=20000000000000):=⟨by have:=h.c1 hc;omega,by have:=h.c2 hc;omega,by have:=h.c3 hc;omega⟩
 have HD:Hid (whD s):=hd;have HA:Hid (∀ o:Obj,whS B T (w.alloc o) s):=fun o=>h.same fun x _ hx=>Below.heap_alloc w _ x om;have HBA:Hid (∀ o:Obj,Below B w (w.alloc o)):=fun o=>(bW _ _).alloc (by have:=h.fb;omega) _;have HNA:Hid (∀ (o:Obj) x,x<w.heap.size->(w.alloc o).heap[x]?=w.heap[x]?):=fun o x hx=>Below.heap_alloc w _ x hx;clear h hd;go_enter func41,ntmps41
 go_wp2_with (first
  | (go_at_call 99;refine (Bh B T _ w.heap.size s.g1 s.n1 s.k1 c (HA.o _).f (HA.o (.cells #[] 3)).fc (HA.o (.cells #[] 3)).m1 hc (HA.o (.cells #[] 3)).fb.1 (HA.o (.cells #[] 3)).fb.2 hT).mono ?_;rintro o w1 ⟨rfl,cp1,q1,q2,q3,q4,q5⟩;have HS1:Hid (whS B T w1 s/\Below B w w1/\(∀ j,j<s.n1->at3 w1 s.g1 (j*3) (mkF (c+3*j)))/\(∀ x,(x<B\/T<=x)->x<w.heap.size->w1.heap[x]?=w.heap[x]?)):=⟨⟨q2 _ _ (HA.o _).f,(HA.o (.cells #[] 3)).fc,(HA.o (.cells #[] 3)).fb,(HA.o _).x.same (fun x hx=>q3 x (fun e=>HD.o.s12 (by rw[<- e];exact hx))),(HA.o (.cells #[] 3)).xb,(HA.o _).r.same (fun x hx=>q3 x (fun e=>HD.o.s13 (by rw[<- e];exact hx))),(HA.o (.cells #[] 3)).rb,(HA.o _).q.same (fun x hx=>q3 x (fun e=>HD.o.s14 (by rw[<- e];exact hx))),(HA.o (.cells #[] 3)).qb,(HA.o (.cells #[] 3)).m1,(HA.o (.cells #[] 3)).m2,(HA.o (.cells #[] 3)).m3,(HA.o (.cells #[] 3)).m4⟩,(HBA.o _).trans q5,q1,fun x hx hxl=>(q3 x (by have:=(HA.o (.cells #[] 3)).fb;omega)).trans (HNA.o _ x hxl)⟩;clear q1 q2 q3 q4 q5)
  | (go_at_call 100;refine (Nf B T w1 w.heap.size s.a2 s.n2 s.k2 (s.c1 c) s.h2 HS1.o.1.x HS1.o.1.xb hT HS1.o.1.m2 HK.o.1).mono ?_;rintro o w2 ⟨rfl,cp2,q1,q2,q3,qs,q4,q5⟩;have HS2:Hid (whS B T w2 s/\Below B w w2/\(whE s->(∀ j,j<s.n1->at3 w2 s.g1 (j*3) (mkF (c+3*j)))/\jG w2 s.a2 s.n2 (s.c1 c) s.h2)/\(∀ x,(x<B\/T<=x)->x<w.heap.size->w2.heap[x]?=w.heap[x]?)):=⟨⟨q2 _ _ HS1.o.1.f,HS1.o.1.fc,HS1.o.1.fb,qs,HS1.o.1.xb,HS1.o.1.r.same (fun x hx=>q3 x (fun e=>HD.o.s23 x e hx)),HS1.o.1.rb,HS1.o.1.q.same (fun x hx=>q3 x (fun e=>HD.o.s24 x e hx)),HS1.o.1.qb,HS1.o.1.m1,HS1.o.1.m2,HS1.o.1.m3,HS1.o.1.m4⟩,HS1.o.2.1.trans q5,fun he=>⟨fun j hj=>(HS1.o.2.2.1 j hj).up (q3 _ HD.o.s12),q1 he.d2⟩,fun x hx hxl=>(q3 x (fun e=>by have:=HS1.o.1.xb x e;omega)).trans (HS1.o.2.2.2 x hx hxl)⟩;clear q1 q2 q3 qs q4 q5)
  | (go_at_call 101;refine (Be B T w2 w.heap.size s.a3 s.n3 s.k3 (s.c2 c) s.h3 HS2.o.1.r HS2.o.1.rb hT HS2.o.1.m3 HK.o.2.1).mono ?_;rintro o w3 ⟨rfl,cp3,q1,q2,q3,qs,q4,q5⟩;have HS3:Hid (whS B T w3 s/\Below B w w3/\(whE s->(∀ j,j<s.n1->at3 w3 s.g1 (j*3) (mkF (c+3*j)))/\jG w3 s.a2 s.n2 (s.c1 c) s.h2/\pV w3 s.a3 s.n3 (s.c2 c) s.h3)/\(∀ x,(x<B\/T<=x)->x<w.heap.size->w3.heap[x]?=w.heap[x]?)):=⟨⟨q2 _ _ HS2.o.1.f,HS2.o.1.fc,HS2.o.1.fb,HS2.o.1.x.same (fun x hx=>q3 x (HD.o.s23 x hx)),HS2.o.1.xb,qs,HS2.o.1.rb,HS2.o.1.q.same (fun x hx=>q3 x (fun e=>HD.o.s34 x e hx)),HS2.o.1.qb,HS2.o.1.m1,HS2.o.1.m2,HS2.o.1.m3,HS2.o.1.m4⟩,HS2.o.2.1.trans q5,fun he=>⟨fun j hj=>((HS2.o.2.2.1 he).1 j hj).up (q3 _ HD.o.s13),(HS2.o.2.2.1 he).2.up (fun x hx=>q3 x (HD.o.s23 x hx)),q1 he.d3⟩,fun x hx hxl=>(q3 x (fun e=>by have:=HS2.o.1.rb x e;omega)).trans (HS2.o.2.2.2 x hx hxl)⟩;clear q1 q2 q3 qs q4 q5)
  | (go_at_call 102;refine (Nf B T w3 w.heap.size s.a4 s.n4 s.k4 (s.c3 c) s.h4 HS3.o.1.q HS3.o.1.qb hT HS3.o.1.m4 HK.o.2.2).mono ?_;rintro o w4 ⟨rfl,cp4,q1,q2,q3,qs,q4,q5⟩;have HS4:Hid (whS B T w4 s/\Below B w w4/\(whE s->(∀ j,j<s.n1->at3 w4 s.g1 (j*3) (mkF (c+3*j)))/\jG w4 s.a2 s.n2 (s.c1 c) s.h2/\pV w4 s.a3 s.n3 (s.c2 c) s.h3/\jG w4 s.a4 s.n4 (s.c3 c) s.h4)/\(∀ x,(x<B\/T<=x)->x<w.heap.size->w4.heap[x]?=w.heap[x]?)):=⟨⟨q2 _ _ HS3.o.1.f,HS3.o.1.fc,HS3.o.1.fb,HS3.o.1.x.same (fun x hx=>q3 x (HD.o.s24 x hx)),HS3.o.1.xb,HS3.o.1.r.same (fun x hx=>q3 x (HD.o.s34 x hx)),HS3.o.1.rb,qs,HS3.o.1.qb,HS3.o.1.m1,HS3.o.1.m2,HS3.o.1.m3,HS3.o.1.m4⟩,HS3.o.2.1.trans q5,fun he=>⟨fun j hj=>((HS3.o.2.2.1 he).1 j hj).up (q3 _ HD.o.s14),(HS3.o.2.2.1 he).2.1.up (fun x hx=>q3 x (HD.o.s24 x hx)),(HS3.o.2.2.1 he).2.2.up (fun x hx=>q3 x (HD.o.s34 x hx)),q1 he.d4⟩,fun x hx hxl=>(q3 x (fun e=>by have:=HS3.o.1.qb x e;omega)).trans (HS3.o.2.2.2 x hx hxl)⟩;clear q1 q2 q3 qs q4 q5))
 go_ret;exact⟨rfl,fun he=>⟨(HS4.o.2.2.1 he).1,(HS4.o.2.2.1 he).2.1,(HS4.o.2.2.1 he).2.2.1,(HS4.o.2.2.1 he).2.2.2⟩,HS4.o.1,HS4.o.2.2.2,HS4.o.2.1⟩
def whM.same {s:Wh} {c:Nat} (h:whM W s c) (hs:whS B T W s) (he:∀ x,B<=x->x<T->W'.heap[x]?=W.heap[x]?):whM W' s c:=
 ⟨fun j hj=>(h.f j hj).up (he _ hs.fb.1 hs.fb.2),h.x.up (fun x hx=>he x (hs.xb x hx).1 (hs.xb x hx).2),h.r.up (fun x hx=>he x (hs.rb x hx).1 (hs.rb x hx).2),h.q.up (fun x hx=>he x (hs.qb x hx).1 (hs.qb x hx).2)⟩
def oG (B T:Nat) (w:World) (c0 c1 c2 c3 lo st:Int) (s:Wh) (c:Nat) (h:whS B T w s) (hm:whM w s c) (hT:T<=w.heap.size) (hc:c<=1000) :
  Calls Tp 42 #[aG #[I J c0,I J c1,I J c2,I J c3,sL (some ⟨s.g1,0,none⟩) s.n1 s.k1,sL s.a2 s.n2 s.k2,sL s.a3 s.n3 s.k3,sL s.a4 s.n4 s.k4,I J lo,I J st],I J (c:Int)] w fun o w'=>o = rT (I J (s.c4 c:Int))/\Bl w w':=by
 have HK:Hid (s.c1 c<=20000000000000/\s.c2 c<=20000000000000/\s.c3 c<=20000000000000):=⟨by have:=h.c1 hc;omega,by have:=h.c2 hc;omega,by have:=h.c3 hc;omega⟩
 have HA:Hid (∀ W,Bl w W->whS B T W s/\whM W s c):=fun W hW=>⟨h.same fun x _ hx=>hW.block x om,hm.same h fun x _ hx=>hW.block x om⟩
 have HBA:Hid (∀ o:Obj,Bl w (w.alloc o)):=fun o=>Zw;clear h hm;go_enter func42,ntmps42
 go_wp2_with (first
  | (go_at_call 103;refine (ko _ s.g1 s.n1 s.k1 c (HA.o _ (HBA.o _)).2.f (HA.o _ (HBA.o (.cells #[] 3))).1.fc (HA.o _ (HBA.o (.cells #[] 3))).1.m1 hc).mono ?_;rintro o w1 ⟨rfl,q1⟩;have HB1:Hid (Bl w w1):=(HBA.o _).trans (q1.mono pQ);have cp1:=fun o=>q1.cell (p:=⟨w.heap.size,o,none⟩) pQ;clear q1;have n1:¬ ((s.c1 c:Nat):Int)<0:=by omega)
  | (go_at_call 104;refine (Nh _ s.a2 s.n2 s.k2 (s.c1 c) s.h2 (HA.o _ HB1.o).1.x (HA.o _ HB1.o).2.x (HA.o _ HB1.o).1.m2 HK.o.1).mono ?_;rintro o w2 ⟨rfl,rfl⟩;have n2:¬ ((s.c2 c:Nat):Int)<0:=by omega)
  | (go_at_call 105;refine (BE _ s.a3 s.n3 s.k3 (s.c2 c) s.h3 (HA.o _ HB1.o).1.r (HA.o _ HB1.o).2.r (HA.o _ HB1.o).1.m3 HK.o.2.1).mono ?_;rintro o w3 ⟨rfl,rfl⟩;have n3:¬ ((s.c3 c:Nat):Int)<0:=by omega)
  | (go_at_call 106;refine (Nh _ s.a4 s.n4 s.k4 (s.c3 c) s.h4 (HA.o _ HB1.o).1.q (HA.o _ HB1.o).2.q (HA.o _ HB1.o).1.m4 HK.o.2.2).mono ?_;rintro o w4 ⟨rfl,rfl⟩;have n4:¬ ((s.c4 c:Nat):Int)<0:=by omega))
 go_ret;exact⟨rfl,HB1.o⟩
end
section
variable {n B T g cap B' T':Nat} {W w X:World} {a:Option Addr} {hs:Nat->Hd}
def Nm {F:FuncId} (hX:Bl w X) (hz:w.heap.size+3<=X.heap.size) {a:Option Addr} {n cap:Nat} {bs:List R8} (h:aM w a n cap bs) (hn:bs.length<=1048576) (hd:∀ j (h:j<bs.length),bs[j].l.length<=1048576) (hF:F=76\/F=78:=by decide) :
  Calls Tp F #[sL a n cap] X fun e w'=>∃ g,e = rT (sL (sQ ⟨g,0,nn⟩) n n)/\St (w.heap.size+3) w' (fun W=>aM W (sQ ⟨g,0,nn⟩) n n bs/\wr8 X.heap.size w'.heap.size W g n)/\Bl X w'/\Bl w w'/\w.heap.size+3<=w'.heap.size/\sd w.heap.size X w':=by
 rcases hF with rfl|rfl;all_goals
  refine (Nj X a n cap bs (h.below hX) (by have:=h.len;omega) hd).mono ?_;rintro e w' ⟨g,rfl,h1,h2⟩;have h1:=h1.mono hz;exact⟨g,rfl,fun W hW=>⟨(h1 W hW).1,(h1 W hW).2⟩,h2,hX.trans (h2.mono hX.size),nT hz h2.size,rk h2 hz⟩
def ub (hX:Bl w X) (hz:w.heap.size+3<=X.heap.size) {a:Option Addr} {n cap:Nat} {bs:List R5} (h:cl w a n cap bs) (hn:bs.length<=1048576) (hd:∀ j (h:j<bs.length),bs[j].l.length<=1048576) :
  Calls Tp 77 #[sL a n cap] X fun e w'=>∃ g,e = rT (sL (sQ ⟨g,0,nn⟩) n n)/\St (w.heap.size+3) w' (fun W=>cl W (sQ ⟨g,0,nn⟩) n n bs/\wr5 X.heap.size w'.heap.size W g n)/\Bl X w'/\Bl w w'/\w.heap.size+3<=w'.heap.size/\sd w.heap.size X w':=by
 refine (nF X a n cap bs (h.below hX) (by have:=h.len;omega) hd).mono ?_;rintro e w' ⟨g,rfl,h1,h2⟩;have h1:=h1.mono hz;exact⟨g,rfl,fun W hW=>⟨(h1 W hW).1,(h1 W hW).2⟩,h2,hX.trans (h2.mono hX.size),nT hz h2.size,rk h2 hz⟩
structure Bt (B T:Nat) (W:World) (s:Sl):Prop where
 e:∃ g1 g2 g3 g4 T1 T2 T3,s=⟨sQ ⟨g1,0,nn⟩,s.n1,s.n1,sQ ⟨g2,0,nn⟩,s.n2,s.n2,sQ ⟨g3,0,nn⟩,s.n3,s.n3,sQ ⟨g4,0,nn⟩,s.n4,s.n4⟩/\az W g1 (s.n1*3)/\(B<=g1/\g1<T1)/\(B<=T1/\T1<=T2/\T2<=T3/\T3<=T)/\wr8 T1 T2 W g2 s.n2/\wr5 T2 T3 W g3 s.n3/\wr8 T3 T W g4 s.n4
def vC (w:World) (H:Ho) (s:Sl) (h:aK w H s) (hn:H.le 1048576) :
  Calls Tp 35 #[hoV H s] w fun o w'=>∃ s',o = rT (hoV H s')/\St w.heap.size w' (fun W=>aK W H s'/\Bt w.heap.size w'.heap.size W s')/\Bl w w':=by
 have HH:Hid (aK w H s):=h;have HN:Hid (H.le 1048576):=hn;clear h hn;obtain⟨c0,c1,c2,c3,fs,bx,ff,qu,lo,st⟩:=H;obtain⟨a1,n1,k1,a2,n2,k2,a3,n3,k3,a4,n4,k4⟩:=s;go_enter func35,ntmps35;go_wp2_with (first | (go_at_call 74;refine (nI _ _ _ _ _).mono ?_;rintro o w1 ⟨rfl,hb1⟩;obtain⟨cp1,cr1,co1,fr1,fo1⟩:=rk (b:=w.heap.size) hb1 pQ;have HB1:Hid (Bl w w1):=((Zw.alloc pQ _).alloc (by simp;omega) _).trans (hb1.mono (by simp;omega));have HZ1:Hid (w.heap.size+3<=w1.heap.size):=(by have:=hb1.size;simp at this;exact this);clear hb1) | (go_at_call 75;refine (uc (by (repeat refine Below.setCell ?_ (by simp;try omega) _);exact HB1.o) (by simpa using HZ1.o) HH.o.fs HN.o.fs).mono ?_;rintro o w2 ⟨g2,rfl,S2,G2,X2,B2,Z2,K2⟩;have HG2:Hid (w.heap.size<=g2/\g2<w2.heap.size):=G2;clear G2;obtain⟨cp2,cr2,co2,fr2,fo2⟩:=K2;have HS2:Hid _:=S2;have HX2:Hid _:=X2;have HB2:Hid (Bl w w2):=B2;have HZ2:Hid (w.heap.size+3<=w2.heap.size):=Z2;clear S2 X2 B2 Z2) | (go_at_call 76;refine (Nm (by (repeat refine Below.setCell ?_ (by simp;try omega) _);exact HB2.o) (by simpa using HZ2.o) HH.o.bx HN.o.bx HN.o.bd).mono ?_;rintro o w3 ⟨g3,rfl,S3,X3,B3,Z3,K3⟩;obtain⟨cp3,cr3,co3,fr3,fo3⟩:=K3;have HS3:Hid _:=S3;have HX3:Hid _:=X3;have HB3:Hid (Bl w w3):=B3;have HZ3:Hid (w.heap.size+3<=w3.heap.size):=Z3;clear S3 X3 B3 Z3) | (go_at_call 77;refine (ub (by (repeat refine Below.setCell ?_ (by simp;try omega) _);exact HB3.o) (by simpa using HZ3.o) HH.o.ff HN.o.ff HN.o.fd).mono ?_;rintro o w4 ⟨g4,rfl,S4,X4,B4,Z4,K4⟩;obtain⟨cp4,cr4,co4,fr4,fo4⟩:=K4;have HS4:Hid _:=S4;have HX4:Hid _:=X4;have HB4:Hid (Bl w w4):=B4;have HZ4:Hid (w.heap.size+3<=w4.heap.size):=Z4;clear S4 X4 B4 Z4) | (go_at_call 78;refine (Nm (by (repeat refine Below.setCell ?_ (by simp;try omega) _);exact HB4.o) (by simpa using HZ4.o) HH.o.qu HN.o.qu HN.o.qd).mono ?_;rintro o w5 ⟨g5,rfl,S5,X5,B5,Z5,K5⟩;obtain⟨cp5,cr5,co5,fr5,fo5⟩:=K5;have HS5:Hid _:=S5;have HX5:Hid _:=X5;have HB5:Hid (Bl w w5):=B5;have HZ5:Hid (w.heap.size+3<=w5.heap.size):=Z5;clear S5 X5 B5 Z5));refine QE (v:=hoV ⟨c0,c1,c2,c3,fs,bx,ff,qu,lo,st⟩ ⟨sQ ⟨g2,0,nn⟩,n1,n1,sQ ⟨g3,0,nn⟩,n2,n2,sQ ⟨g4,0,nn⟩,n3,n3,sQ ⟨g5,0,nn⟩,n4,n4⟩) (by simp[results,results35,go_sem,cr5,cr4,cr3,cr2,cr1]) rfl ?_;have T2:St (w.heap.size+3) w2 (fun W=>bj W (sQ ⟨g2,0,nn⟩) n1 n1 fs/\az W g2 (n1*3)):=HS2.o;have T3:St (w.heap.size+3) w3 (fun W=>aM W (sQ ⟨g3,0,nn⟩) n2 n2 bx/\wr8 w2.heap.size w3.heap.size W g3 n2):=by intro W hW;simpa using HS3.o W hW
 have T4:St (w.heap.size+3) w4 (fun W=>cl W (sQ ⟨g4,0,nn⟩) n3 n3 ff/\wr5 w3.heap.size w4.heap.size W g4 n3):=by intro W hW;simpa using HS4.o W hW
 have R5:St (w.heap.size+3) w5 (fun W=>aM W (sQ ⟨g5,0,nn⟩) n4 n4 qu/\wr8 w4.heap.size w5.heap.size W g5 n4):=by intro W hW;simpa using HS5.o W hW
 have hz2:w.heap.size<=w2.heap.size/\w2.heap.size<=w3.heap.size/\w3.heap.size<=w4.heap.size/\w4.heap.size<=w5.heap.size:=⟨HB2.o.size,by have:=HX3.o.size;simpa using this,by have:=HX4.o.size;simpa using this,by have:=HX5.o.size;simpa using this⟩
 have z3:w2.heap.size<=w3.heap.size:=by have:=HX3.o.size;simpa using this
 have z4:w3.heap.size<=w4.heap.size:=by have:=HX4.o.size;simpa using this
 have z5:w4.heap.size<=w5.heap.size:=by have:=HX5.o.size;simpa using this
 have R2:=(((((T2.set _ 4 om _).below HX3.o).set _ 5 om _).below HX4.o).set _ 6 om _).below HX5.o;have R3:=(((T3.set _ 5 om _).below HX4.o).set _ 6 om _).below HX5.o;have R4:=(T4.set _ 6 om _).below HX5.o;have R:St (w.heap.size+3) w5 (fun W=>aK W ⟨c0,c1,c2,c3,fs,bx,ff,qu,lo,st⟩ ⟨sQ ⟨g2,0,nn⟩,n1,n1,sQ ⟨g3,0,nn⟩,n2,n2,sQ ⟨g4,0,nn⟩,n3,n3,sQ ⟨g5,0,nn⟩,n4,n4⟩/\Bt w.heap.size w5.heap.size W ⟨sQ ⟨g2,0,nn⟩,n1,n1,sQ ⟨g3,0,nn⟩,n2,n2,sQ ⟨g4,0,nn⟩,n3,n3,sQ ⟨g5,0,nn⟩,n4,n4⟩):=fun W hW=>⟨⟨(R2 W hW).1,(R3 W hW).1,(R4 W hW).1,(R5 W hW).1⟩,⟨⟨g2,g3,g4,g5,w2.heap.size,w3.heap.size,w4.heap.size,rfl,(R2 W hW).2,HG2.o,hz2,(R3 W hW).2,(R4 W hW).2,(R5 W hW).2⟩⟩⟩
 refine⟨_,rfl,St.mono ?_ (nA _ 3),?_⟩
 .repeat refine St.set ?_ _ _ om _
  simpa using R
 .repeat refine Below.setCell ?_ (by simp;try omega) _
  exact HB5.o
def wr8.sh (h:wr8 B T W g n) (hm:∀ j,j<n->∀ a m c,W.cell? ⟨g,j*8+7,nn⟩=sQ (sL a m c)->m<=1048576):∃ hs:Nat->Hd,sh8 W g n hs/\inn B T (sQ ⟨g,0,nn⟩) n hs:=by
 have key:∀ j,∃ x:Hd,j<n->W.cell? ⟨g,j*8+7,nn⟩=sQ (sL x.1 x.2.1 x.2.2)/\hd W g x/\∀ b,x.1=sQ ⟨b,0,nn⟩->B<=b/\b<T:=by
  intro j;by_cases hj:j<n
  .obtain⟨gd,m,h1,h2,h3,h4,h5⟩:=h.dat j hj;exact⟨(sQ ⟨gd,0,nn⟩,m,m),fun _=>⟨h1,⟨hm j hj _ _ _ h1,nR _,qx ⟨gd,rfl,h3,h2⟩⟩,fun b hb=>by cases hb;exact⟨h4,h5⟩⟩⟩
  .exact⟨(nn,0,0),fun e=>Qy e hj⟩
 refine⟨fun j=>Classical.choose (key j),⟨h.row,fun j hj=>⟨(Classical.choose_spec (key j) hj).1,(Classical.choose_spec (key j) hj).2.1⟩⟩,fun x hx=>?_⟩;rcases hx with e|⟨j,hj,e⟩
 .cases e;exact⟨h.lo,h.hi⟩
 .exact (Classical.choose_spec (key j) hj).2.2 x e
def aM.hdr {bs:List R8} (h:aM W (sQ ⟨g,0,nn⟩) n cap bs) (hd:∀ j (h:j<bs.length),bs[j].l.length<=1048576):∀ j,j<n->∀ a m c,W.cell? ⟨g,j*8+7,nn⟩=sQ (sL a m c)->m<=1048576:=by
 intro j hj a m c hc;have hl:=h.len;obtain⟨g',off,e,hcs⟩:=h.cells (by intro e;subst e;simp at hl;omega);cases e;obtain⟨ao,m',c',hat⟩:=hcs j om;have h1:=hat.cs;rw[qi,hc] at h1;cases h1;have h2:=hat.dat.len;have h3:=hd j om;omega
def wr5.sh (h:wr5 B T W g n) (hm:∀ j,j<n->∀ a m c,W.cell? ⟨g,j*5+4,nn⟩=sQ (sL a m c)->m<=1048576):∃ hs:Nat->Hd,sh5 W g n hs/\inn B T (sQ ⟨g,0,nn⟩) n hs:=by
 have key:∀ j,∃ x:Hd,j<n->W.cell? ⟨g,j*5+4,nn⟩=sQ (sL x.1 x.2.1 x.2.2)/\hd W g x/\∀ b,x.1=sQ ⟨b,0,nn⟩->B<=b/\b<T:=by
  intro j;by_cases hj:j<n
  .obtain⟨gd,m,h1,h2,h3,h4,h5⟩:=h.dat j hj;exact⟨(sQ ⟨gd,0,nn⟩,m,m),fun _=>⟨h1,⟨hm j hj _ _ _ h1,nR _,qx ⟨gd,rfl,h3,h2⟩⟩,fun b hb=>by cases hb;exact⟨h4,h5⟩⟩⟩
  .exact⟨(nn,0,0),fun e=>Qy e hj⟩
 refine⟨fun j=>Classical.choose (key j),⟨h.row,fun j hj=>⟨(Classical.choose_spec (key j) hj).1,(Classical.choose_spec (key j) hj).2.1⟩⟩,fun x hx=>?_⟩;rcases hx with e|⟨j,hj,e⟩
 .cases e;exact⟨h.lo,h.hi⟩
 .exact (Classical.choose_spec (key j) hj).2.2 x e
def cl.hdr {bs:List R5} (h:cl W (sQ ⟨g,0,nn⟩) n cap bs) (hd:∀ j (h:j<bs.length),bs[j].l.length<=1048576):∀ j,j<n->∀ a m c,W.cell? ⟨g,j*5+4,nn⟩=sQ (sL a m c)->m<=1048576:=by
 intro j hj a m c hc;have hl:=h.len;obtain⟨g',off,e,hcs⟩:=h.cells (by intro e;subst e;simp at hl;omega);cases e;obtain⟨ao,m',c',hat⟩:=hcs j om;have h1:=hat.cs;rw[qi,hc] at h1;cases h1;have h2:=hat.dat.len;have h3:=hd j om;omega
def inn.mono (h:inn B T a n hs) (hB:B'<=B) (hT:T<=T'):inn B' T' a n hs:=fun x hx=>by have:=h x hx;omega
def inn.apart {a':Option Addr} {n':Nat} {hs':Nat->Hd} (h:inn B T a n hs) (h':inn B' T' a' n' hs') (hB:T<=B'):∀ x,ft a n hs x->¬ ft a' n' hs' x:=fun x h1 h2=>by have:=h x h1;have:=h' x h2;omega
def inn.o (h:inn B T a n hs) {x:Nat} (hx:x<B\/T<=x):¬ ft a n hs x:=fun h1=>by have:=h x h1;omega
def Bt.wh {s:Sl} {H:Ho} (h:Bt B T W s) (hi:aK W H s) (hn:H.le 1048576):∃ s':Wh,s=s'.sl/\whS B T W s'/\whD s':=by
 obtain⟨g1,g2,g3,g4,T1,T2,T3,e,f1,f2,f3,x2,x3,x4⟩:=h.e;have ea2:s.a2=sQ ⟨g2,0,nn⟩:=by rw[e]
 have ea3:s.a3=sQ ⟨g3,0,nn⟩:=by rw[e]
 have ea4:s.a4=sQ ⟨g4,0,nn⟩:=by rw[e]
 have m1:s.n1<=1048576:=by have:=hi.fs.len;have:=hn.fs;omega
 have m2:s.n2<=1048576:=by have:=hi.bx.len;have:=hn.bx;omega
 have m3:s.n3<=1048576:=by have:=hi.ff.len;have:=hn.ff;omega
 have m4:s.n4<=1048576:=by have:=hi.qu.len;have:=hn.qu;omega
 have y2:=hi.bx;have y3:=hi.ff;have y4:=hi.qu;rw[ea2] at y2;rw[ea3] at y3;rw[ea4] at y4;obtain⟨h2,s2,i2⟩:=x2.sh (y2.hdr hn.bd);obtain⟨h3,s3,i3⟩:=x3.sh (y3.hdr hn.fd);obtain⟨h4,s4,i4⟩:=x4.sh (y4.hdr hn.qd);refine⟨⟨g1,s.n1,s.n1,sQ ⟨g2,0,nn⟩,s.n2,s.n2,h2,sQ ⟨g3,0,nn⟩,s.n3,s.n3,h3,sQ ⟨g4,0,nn⟩,s.n4,s.n4,h4⟩,e,⟨f1,nR _,⟨f2.1,by simp only;omega⟩,qx ⟨g2,rfl,s2,nR _⟩,i2.mono om om,qx ⟨g3,rfl,s3,nR _⟩,i3.mono om om,qx ⟨g4,rfl,s4,nR _⟩,i4.mono om om,m1,m2,m3,m4⟩,⟨i2.o (qr f2.2),i3.o (qr (by simp only;omega)),i4.o (qr (by simp only;omega)),i2.apart i3 (nR _),i2.apart i4 om,i3.apart i4 (nR _)⟩⟩
end
def esZ (p t r:Int):Int:=if p=7 then 2 else if 128<=t\/128<=r then 1 else 0
def Jf (w:World) (p t r:Int):Calls Tp 120 #[I J p,I J t,I J r] w fun o w'=>o = rT (I J (esZ p t r))/\w=w':=by
 by_cases h:p=7
 .have HZ:Hid (esZ p t r=2):=by unfold Hid esZ;rw[qc h]
  have hd:(p == 7)=true:=by simpa using h
  clear h;go_enter func120,ntmps120;go_wp2;go_ret;exact⟨au HZ.o.symm,rfl⟩
 .have hd:(p == 7)=false:=by simpa using h
  by_cases ht:128<=t
  .have HZ:Hid (esZ p t r=1):=by unfold Hid esZ;rw[qa h,qc (.inl ht)]
   have hd1:decide (128<=t)=true:=by simpa using ht
   clear h;go_enter func120,ntmps120;go_wp2;go_ret;exact⟨au HZ.o.symm,rfl⟩
  .have hd1:decide (128<=t)=false:=by simpa using ht
   by_cases hr:128<=r
   .have HZ:Hid (esZ p t r=1):=by unfold Hid esZ;rw[qa h,qc (.inr hr)]
    have hd2:decide (128<=r)=true:=by simpa using hr
    clear h;go_enter func120,ntmps120;go_wp2;go_ret;exact⟨au HZ.o.symm,rfl⟩
   .have hd2:decide (128<=r)=false:=by simpa using hr
    have HZ:Hid (esZ p t r=0):=by unfold Hid esZ;rw[qa h,qa om]
    clear h;go_enter func120,ntmps120;go_wp2;go_ret;exact⟨au HZ.o.symm,rfl⟩
def Ja (w:World) (p t r:Int) (b:Bool) (hb:b=decide (p=7)):Calls Tp 236 #[bO b,I J t,I J r] w fun o w'=>o = rT (I J (esZ p t r))/\w=w':=by
 by_cases h:p=7
 .have HZ:Hid (esZ p t r=2):=by unfold Hid esZ;rw[qc h]
  have hd:b=true:=by rw[hb];simpa using h
  subst hd;clear hb h;go_enter func236,ntmps236;go_wp2;go_ret;exact⟨au HZ.o.symm,rfl⟩
 .have hd:b=false:=by rw[hb];simpa using h
  subst hd;by_cases ht:128<=max t r
  .have HZ:Hid (esZ p t r=1):=by unfold Hid esZ;rw[qa h,qc om]
   clear hb h;have hd1:decide (128<=max t r)=true:=by simpa using ht
   go_enter func236,ntmps236;go_wp2;all_goals
    go_ret;exact⟨au HZ.o.symm,rfl⟩
  .have HZ:Hid (esZ p t r=0):=by unfold Hid esZ;rw[qa h,qa om]
   clear hb h;have hd1:decide (128<=max t r)=false:=by simpa using ht
   go_enter func236,ntmps236;go_wp2;all_goals
    go_ret;exact⟨au HZ.o.symm,rfl⟩
def rLo (p:Int):Int:=if p=4 then 1 else 0
def rHi (p:Int):Int:=if p=2 then 5 else if p=3 then 15 else if p=4 then 7 else if p=5 then 2 else if p=6 then 7 else if p=7 then 10 else 0
def ti (w:World) (p:Int):Calls Tp 48 #[I J p] w fun o w'=>o = rT (.tuple #[I J (rLo p),I J (rHi p)])/\w=w':=by
 by_cases h2:p=2
 .subst h2;go_enter func48,ntmps48;go_wp2;go_ret2
  exact⟨rfl,rfl⟩
 by_cases h3:p=3
 .subst h3;go_enter func48,ntmps48;go_wp2;go_ret2
  exact⟨rfl,rfl⟩
 by_cases h4:p=4
 .subst h4;go_enter func48,ntmps48;go_wp2;go_ret2
  exact⟨rfl,rfl⟩
 by_cases h5:p=5
 .subst h5;go_enter func48,ntmps48;go_wp2;go_ret2
  exact⟨rfl,rfl⟩
 by_cases h6:p=6
 .subst h6;go_enter func48,ntmps48;go_wp2;go_ret2
  exact⟨rfl,rfl⟩
 by_cases h7:p=7
 .subst h7;go_enter func48,ntmps48;go_wp2;go_ret2
  exact⟨rfl,rfl⟩
 have HZ:Hid (rLo p=0/\rHi p=0):=by unfold Hid rLo rHi;rw[qa h4,qa h2,qa h3,qa h4,qa h5,qa h6,qa h7];exact⟨rfl,rfl⟩
 have e2:(p == 2)=false:=by simpa using h2
 have e3:(p == 3)=false:=by simpa using h3
 have e4:(p == 4)=false:=by simpa using h4
 have e5:(p == 5)=false:=by simpa using h5
 have e6:(p == 6)=false:=by simpa using h6
 have e7:(p == 7)=false:=by simpa using h7
 clear h2 h3 h4 h5 h6 h7;go_enter func48,ntmps48;go_wp2;go_ret2
 exact⟨by rw[HZ.o.1,HZ.o.2];rfl,rfl⟩
end Go.Proofs.YtgfolecanghhhaaGreat
