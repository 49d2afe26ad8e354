import Derived.Test.YtgfolecanghhhaaGreatK30
import Derived.Deep.DeepCutAuto
import Derived.Deep.CutBlock
namespace Go.Proofs.YtgfolecanghhhaaGreat
open Go.Proofs.Tryz
open Option renaming none->nn,some->sQ
set_option maxRecDepth 20000
open Go.RowKit
set_option linter.all false
set_option maxHeartbeats 16000000
open Go.Value renaming int->I,slice->sL,bool->bO,pointer->pT,agg->aG
open Go.IntKind renaming i64->J,u32->Zk
open Go.Ending renaming returned->rT
open Go.Proofs.Tryz renaming prog->Tp
section
variable {κ κ' : Nat -> Nat} {H : Ho} {s : Sl} {w W W' : World}
def Iu (h:hG κ H s w) (sent:Bool) (hn2:H.bx.length<=1000) (hn:H.qu.length<=1000) (hlo:0<=H.lo/\H.lo<=100000) (hsm:∀ j (h:j<H.bx.length),H.bx[j].l.length<=1048576) :
  Calls Tp 123 #[aG (hoL H s).toArray,bO sent] w (hA w κ (Cz H sent)):=by
 have F0:Hid _:=fw.new2 h;have HN:Hid (H.qu.length<=1000/\0<=H.lo/\H.lo<=100000):=⟨hn,hlo⟩
 have hnn:s.n2<=1000:=by have:=h.n2;omega
 have HSM:=eE hsm;clear h hn hlo hn2 hsm;go_enter func123,ntmps123;go_wp2_with (refine fw.ld F0.o ?_);refine (ln _ H s F0.o.g.is.bx hnn).mono ?_;rintro o w5 ⟨r,rfl,hr,hb5⟩;have F5:Hid (fw2 w κ κ H s (hoL H s) w5):=F0.o.below hb5;have hR:=hr.ix;clear hr hb5 F0;rcases hR with⟨rfl,hno⟩|⟨rfl,hk⟩
 .have HT:Hid (Cz H sent=H):=GK hno;go_wp2_with (first | (refine fw.ld F5.o ?_) | (refine fw.rt F5.o ?_;intro w8 b8 G8));refine bC results123 (Ij b8) ?_;rw[HT.o];exact⟨s,κ,rfl,G8⟩
 .have hw5:=GS hk;have HRL:Hid (Cz H sent=if sent=true then pH (lD H (wI H.bx)) ⟨1,H.bx[wI H.bx].y,0,H.bx[wI H.bx].e,H.bx[wI H.bx].i,H.bx[wI H.bx].r,H.bx[wI H.bx].d,H.bx[wI H.bx].l⟩ else if H.bx[wI H.bx].x=3 then pH (lD H (wI H.bx)) (ev3 6 H.bx[wI H.bx].y 0) else Dl H (wI H.bx) 1):=by
   show Cz H sent=_;unfold Cz;rw[dif_pos hk]
  generalize wI H.bx=k at *;obtain⟨gb,hs0,e2,kb,hx,hxc⟩:=F5.o.g.x;have x5:w5.cell? ⟨w.heap.size,5,nn⟩=sQ (sL (sQ ⟨gb,0,nn⟩) s.n2 s.k2):=by rw[<- e2];exact F5.o.p.cell 5 _ (by unfold hoL;rfl)
  have hcp:=hx.cap;have hkn:k<s.n2:=by have:=hx.len;omega
  have HE:=eE e2;have HKK:=eE hk;have HRG:=eE (hx.rng k hk);have HDT:=eE (hx.dat k hk);have HMM:Hid ((hs0 k).2.1<=1048576):=by
   have:=(hx.dat k hk).1.len;have:=HSM.o k hk;show _<=_;omega
  clear hx e2 kb hxc HSM;generalize H.bx[k]=bk at *;generalize hs0 k=hk' at *;obtain⟨bX,bY,bZ,bE,bI,bR,bD,bL⟩:=bk;obtain⟨ao,m,c⟩:=hk';simp only[] at HRG HDT HMM HRL hw5;have F6:Hid (fw w κ w.heap.size (w.heap.size+1) w5.heap.size [I J bX,I J bY,I J bZ,bO bE,I Zk (bI:Int),bO bR,I J bD,sL ao m c] 116 κ H s (hoL H s) (World.setCells (w5.alloc (.cells [I J 0,I J 0,I J 0,bO false,I Zk 0,bO false,I J 0,sL nn 0 0].toArray 116)) w5.heap.size 0 [I J bX,I J bY,I J bZ,bO bE,I Zk (bI:Int),bO bR,I J bD,sL ao m c])):=F5.o.var (IG _ rfl).2 (IG _ rfl).1;have HB6:Hid (∀ x,x<w5.heap.size->(World.setCells (w5.alloc (.cells [I J 0,I J 0,I J 0,bO false,I Zk 0,bO false,I J 0,sL nn 0 0].toArray 116)) w5.heap.size 0 [I J bX,I J bY,I J bZ,bO bE,I Zk (bI:Int),bO bR,I J bD,sL ao m c]).heap[x]?=w5.heap[x]?):=fun x hx=>(IG _ rfl).2.block x hx;have HAL:Hid (blk (w5.alloc (.cells [I J 0,I J 0,I J 0,bO false,I Zk 0,bO false,I J 0,sL nn 0 0].toArray 116)) w5.heap.size ([]++[I J 0,I J 0,I J 0,bO false,I Zk 0,bO false,I J 0,sL nn 0 0]++[]) 116):=blk.new w5 _ 116
  go_upto_region 5 with (first
   | (refine Zi 116 [I J bX,I J bY,I J bZ,bO bE,I Zk (bI:Int),bO bR,I J bD,sL ao m c] HRG.o underlying116 fG ?_)
   | (refine QD (P:=Tp) rfl 116 _ _ rfl w5.heap.size 0 _ rfl rfl (HAL.o.there 0 8 pQ) fG (sT _ _ _ _ _ _ _ _ _ _) ?_))
  generalize hW6:World.setCells (w5.alloc _) w5.heap.size 0 _=w6 at *;clear hW6 HAL;have x6:w6.cell? ⟨w.heap.size,5,nn⟩=sQ (sL (sQ ⟨gb,0,nn⟩) s.n2 s.k2):=by rw[<- HE.o];exact F6.o.p.cell 5 _ (by unfold hoL;rfl)
  have y0:=F6.o.f.cell 0 _ rfl;have y1:=F6.o.f.cell 1 _ rfl;have y2:=F6.o.f.cell 2 _ rfl;have y3:=F6.o.f.cell 3 _ rfl;have HD6:Hid (iB w6 ao m c bL):=by
   rcases HDT.o with⟨d1,⟨d2,d3⟩|⟨g,d2,d3,d4,d5⟩⟩
   .exact d1.none0 d3
   .cases d2;exact d1.other (HB6.o g d4)
  have HD5:Hid (∀ V:World,(∀ x,x≠gb->V.heap[x]?=w6.heap[x]?)->iB V ao m c bL):=fun V hV=>by
   rcases HDT.o with⟨d1,⟨d2,d3⟩|⟨g,d2,d3,d4,d5⟩⟩
   .exact d1.none0 d3
   .cases d2;exact d1.other ((hV g d5).trans (HB6.o g d4))
  clear x5 HB6 HRG HDT HD6;cases sent
  .by_cases hb:bX=3
   .have HT:Hid (Cz H false=pH (lD H k) (ev3 6 bY 0)):=by show _=_;rw[HRL.o,qa (by decide),qc hb]
    subst hb;go_wp2_with (first | (refine fw.bx F6.o HE.o HKK.o z8 (nn,0,0) (yM _) (qr ⟨rfl,rfl⟩) ?_;intro w7 F7 _;have y7:=F7.o.f.cell 1 _ rfl) | (refine fw.ld F7.o ?_));refine (L5 F7.o.g 6 bY 0 HN.o.1 HN.o.2).mono ?_;rintro o w9 ⟨s1,κ1,rfl,G1⟩;have F9:=eE (F7.o.call G1.o);clear F7 G1;go_wp2_with (refine fw.rt F9.o ?_;intro w8 b8 G8);refine bC results123 (Ij b8) ?_;rw[HT.o];exact⟨s1,κ1,rfl,G8⟩
   .have HT:Hid (Cz H false=Dl H k 1):=by show _=_;rw[HRL.o,qa (by decide),qa hb]
    have hb':(bX == 3)=false:=by simpa using hb
    obtain⟨gb',hs6,e6,kb,hx6,_⟩:=F6.o.g.x;obtain rfl:gb'=gb:=by rw[HE.o] at e6;cases e6;rfl
    have f0:w6.frozen? ⟨gb',k*8,nn⟩=false:=(hx6.row (k*8) om).2;obtain⟨v0,z0⟩:=(hx6.row (k*8) om).1;have F7:=eE (F6.o.call (F6.o.g.setX HE.o HKK.o 1));rw[<- KM H k 1 s] at F7;clear hx6 e6 kb;go_wp2_with (first | (refine fw.ld F7.o ?_) | (refine fw.rt F7.o ?_;intro w8 b8 G8));refine bC results123 (Ij b8) ?_;rw[HT.o];exact⟨s,κ,rfl,G8⟩
  .have HT:Hid (Cz H true=pH (lD H k) ⟨1,bY,0,bE,bI,bR,bD,bL⟩):=by show _=_;rw[HRL.o,qc rfl]
   go_wp2_with (first | (refine fw.bx F6.o HE.o HKK.o z8 (nn,0,0) (yM _) (qr ⟨rfl,rfl⟩) ?_;intro w7 F7 E7;have y7:=F7.o.f.cell 1 _ rfl) | (refine fw.ld F7.o ?_) | (refine Zi 67 [bO bE,I Zk (bI:Int),bO bR,I J bD,sL ao m c] (F7.o.f.loadAt [I J bX,I J bY,I J bZ] _ []) underlying67 jc ?_));refine (Hs F7.o.g ⟨1,bY,0,bE,bI,bR,bD,bL⟩ ao m c HN.o.1 HN.o.2 (HD5.o _ E7.o) HMM.o).mono ?_;rintro o w9 ⟨s1,κ1,rfl,G1⟩;have F9:=eE (F7.o.call G1.o);clear F7 G1;go_wp2_with (refine fw.rt F9.o ?_;intro w8 b8 G8);refine bC results123 (Ij b8) ?_;rw[HT.o];exact⟨s1,κ1,rfl,G8⟩
end
open Go.IntKind renaming i64->J
section
variable {κ κ' : Nat -> Nat} {H : Ho} {s : Sl} {w W W' : World}
def Md (h:hG κ H s w) (i:Int) (hn2:H.bx.length<=1000) :
  Calls Tp 125 #[aG (hoL H s).toArray,I J i] w (hA w κ (eQ H i)):=by
 have F0:Hid _:=fw.new2 h;have HLN:=eE h.n2;have hnn:s.n2<=1000:=by have:=h.n2;omega
 clear h;go_enter func125,ntmps125;go_upto_region 1 with fail
 generalize hV:World.alloc (World.alloc w _) _=v at *;clear hV;have F0:Hid (fw2 w κ κ H s (hoL H s) v):=F0;obtain⟨gb,hs0,ea,kb,hx,hxc⟩:=F0.o.g.x;have x5:v.cell? ⟨w.heap.size,5,nn⟩=sQ (sL (sQ ⟨gb,0,nn⟩) s.n2 s.k2):=by rw[<- ea];exact F0.o.p.cell 5 _ (by unfold hoL;rfl)
 have HX:=eE hx;have HA:=eE ea;have hcp:=hx.cap;clear hx ea kb hxc;go_cut [27] (fun x wx=>∃ b:Bool,x = bO b/\Hid (b=true->pd H.bx i=H.bx)/\Hid (b=false->∃ (k:Nat) (hk:k<H.bx.length),i=(k:Int)/\H.bx[k].x=1/\pd H.bx i=H.bx.set k { H.bx[k] with x:=2 })/\Hid (fw2 w κ κ H s (hoL H s) wx));case first=>
  by_cases hi0:i<0
  .have d0:decide (i<0)=true:=by simpa using hi0
   have HT:=eE (GV (bx:=H.bx) (qr hi0));clear hi0;go_wp2_with fail;go_meet;case rel=>exact⟨true,rfl,fun _=>HT.o,fun x=>(by cases x),F0⟩
  by_cases hi1:(s.n2:Int)<=i
  .have d0:decide (i<0)=false:=by simpa using hi0
   have d1:decide ((s.n2:Int)<=i)=true:=by simpa using hi1
   have HT:=eE (GV (bx:=H.bx) (i:=i) (qx (by have:=HLN.o;omega)));go_wp2_with fail;go_meet;case rel=>exact⟨true,rfl,fun _=>HT.o,fun x=>(by cases x),F0⟩
  obtain⟨k,rfl⟩ : ∃ k:Nat,i=(k:Int):=⟨i.toNat,om⟩
  have hk2:k<s.n2:=om;have hk:k<H.bx.length:=by have:=HLN.o;omega
  have Y0:Hid (∀ u,H.bx[k].x=u->v.cell? ⟨gb,k*8,nn⟩=sQ (I J u)):=fun u e=>by subst e;exact HX.o.rng k hk 0 _ rfl
  have d0:decide ((k:Int)<0)=false:=pQ;have d1:decide (s.n2<=k)=false:=by simp;omega
  have HKK:=eE hk;clear hi0 hi1;by_cases hx:H.bx[k].x=1
  .have HX1:=eE hx;have y0:=Y0.o 1 hx;clear hx;go_wp2_with (refine di (by first | rfl | (simp[Region.wanted,yielded];done)) 41 (.tmp 2) rfl w.heap.size 0 rfl (hoL H s) _ F0.o.p.load underlying41 rfl (px H s) ?_);refine (ln v H s F0.o.g.is.bx hnn).mono ?_;rintro o w5 ⟨r,rfl,hr,hb5⟩;have HR:=eE hr;have F5:=eE (F0.o.below hb5);clear hr hb5;by_cases h0:0<=r
   .have dr:decide (0<=r)=true:=by simpa using h0
    have HT:=eE (Hn (i:=(k:Int)) HR.o h0);clear h0;go_wp2_with fail;go_meet;case rel=>exact⟨true,rfl,fun _=>HT.o,fun x=>(by cases x),F5⟩
   .have dr:decide (0<=r)=false:=by simpa using h0
    have HT:=eE (Ir HKK.o HX1.o HR.o om);clear h0;go_wp2_with fail;go_meet;case rel=>exact⟨false,rfl,fun x=>(by cases x),fun _=>⟨k,HKK.o,rfl,HX1.o,HT.o⟩,F5⟩
  .have HT:=eE (I6 hk hx);obtain⟨u,ev⟩ : ∃ u,H.bx[k].x=u:=⟨_,rfl⟩
   have y0:=Y0.o u ev;have hx':(u != 1)=true:=by rw[<- ev];simpa using hx
   clear hx ev;go_wp2_with fail;go_meet;case rel=>exact⟨true,rfl,fun _=>HT.o,fun x=>(by cases x),F0⟩
 case rest=>
 obtain⟨b,rfl,f1,f2,F5⟩:=hcut;clear F0 x5;cases b;case true=>
  have HT:Hid (eQ H i=H):=by show _=_;unfold eQ;rw[f1.o rfl]
  go_wp2_with (first | (refine fw.ld F5.o ?_) | (refine fw.rt F5.o ?_;intro w8 b8 G8));refine bC results125 (Ij b8) ?_;rw[HT.o];exact⟨s,κ,rfl,G8⟩
 case false=>
 obtain⟨k,hk,ei,hx1,ht⟩:=f2.o rfl;subst ei;have HT:Hid (eQ H (k:Int)=Dl H k 2):=by show _=_;unfold eQ;rw[ht,yg hk]
 have hk2:k<s.n2:=by have:=HLN.o;omega
 obtain⟨gb',hs5,ea',kb,hx,hxc⟩:=F5.o.g.x;obtain rfl:gb'=gb:=by rw[HA.o] at ea';cases ea';rfl
 have x5:wc.cell? ⟨w.heap.size,5,nn⟩=sQ (sL (sQ ⟨gb',0,nn⟩) s.n2 s.k2):=by rw[<- ea'];exact F5.o.p.cell 5 _ (by unfold hoL;rfl)
 have y0:wc.cell? ⟨gb',k*8,nn⟩=sQ (I J 1):=by rw[<- hx1];exact hx.rng k hk 0 _ rfl
 have z0:=(hx.row (k*8) om).2;have F7:=eE (F5.o.call (F5.o.g.setX ea' hk 2));rw[<- KM H k 2 s] at F7;clear hk hx1 ht f1 f2 hx hxc kb ea' HX;go_upto_region 4 with fail
 go_wp2_with (first | (refine fw.ld F7.o ?_) | (refine fw.rt F7.o ?_;intro w8 b8 G8));refine bC results125 (Ij b8) ?_;rw[HT.o];exact⟨s,κ,rfl,G8⟩
end
end Go.Proofs.YtgfolecanghhhaaGreat
