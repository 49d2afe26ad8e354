import Derived.Test.YtnfmjckkibdcaaaGreatDoorK06
import Derived.Test.YtnfmjckkibdcaaaGreatDoorProg
import Derived.WalkKit
import Derived.WalkSpells
import Derived.WalkLawsBesides
import Derived.Deep.QuietTactic
import Derived.BigQuiet
import Derived.Below
import Derived.Laws.BitsAllLaws
import Derived.Laws.IdiomStrings
import Derived.Deep.RegionWith
import Derived.Deep.MidRow
import Derived.Maps.AppendAt
import Derived.Test.YtnfmjckkibdcaaaGreatDoorK12
import Derived.Deep.RegionHeld3
namespace Go.Proofs.YtnfmjckkibdcaaaGreatDoor
set_option linter.all false
open Go.RowKit
def cm.up {w W:World} {g n:Nat} {f:Nat->Nat} (h:cm w g n f) (he:W.heap[g]?=w.heap[g]?):cm W g n f:=
 ⟨fun t ht=>cU (h.cell t ht) he,fun t ht=>by have:=h.free t ht;simp only[World.frozen?,he] at this ⊢;exact this⟩
set_option maxHeartbeats 16000000
open Go.Value renaming int->I,slice->sL,bool->bO,pointer->pT,agg->aG
open Go.IntKind renaming i64->J
open Go.Ending renaming returned->rT
open Go.Proofs.Tryz renaming prog->Tp
def me (w:World) (g n cap c:Nat) (f:Nat->Nat) (hr:cm w g n f) (hcp:n<=cap) (hn:n<=1048576) (hc:c<=10000000000000000) :
  Calls Tp 146 #[sL (some ⟨g,0,none⟩) n cap,I J (c:Int)] w fun o w'=>o = rT (I J ((c+n:Nat):Int))/\cm w' g n (fun t=>(c+t) % 256)/\(∀ b,b≠g->w'.heap[b]?=w.heap[b]?)/\w'.heap.size=w.heap.size/\Below g w w':=by
 have HR:Hid (cm w g n f):=hr;clear hr;go_enter Tryz.func146,Tryz.ntmps146;go_wp2;go_loopw [1,5] (fun kk i wr=>∃ k:Nat,k<=n/\i = I J (k:Int)/\kk = I J ((c+k:Nat):Int)/\cm wr g n (fun t=>if t<k then (c+t) % 256 else f t)/\(∀ b,b≠g->wr.heap[b]?=w.heap[b]?)/\wr.heap.size=w.heap.size/\Below g w wr) (fun _ i _=>n-(intOf i).toNat);case atStart=>exact⟨0,nZ _,rfl,by go_num,HR.o.of (fun t _=>by simp),fun _ _=>rfl,rfl,bW _ _⟩
 case round=>
  obtain⟨k,hk,rfl,rfl,hrow,hoth,hsz,hb⟩:=hrel;by_cases hlt:k<n
  .have z0:=hrow.cell k hlt;have f0:=hrow.free k hlt;have HD:Hid (cm wr g n (fun t=>if t<k then (c+t) % 256 else f t)/\(∀ b,b≠g->wr.heap[b]?=w.heap[b]?)/\wr.heap.size=w.heap.size/\Below g w wr):=⟨hrow,hoth,hsz,hb⟩
   clear hrow hoth hsz hb;generalize hC:c+k=C at *;have HC:Hid (c+k=C):=hC;have hC1:C<=40000000000000000:=om;clear hC;go_wp2;obtain⟨r2,r3,r4,r5⟩:=HD.o;have hC:=HC.o;refine⟨⟨k+1,om,by go_num,by rw[<- hC];go_num,?_,fun b hb=>(QB _ _ _ _ (by exact hb)).trans (r3 b hb),by simpa using r4,r5.setCell (by exact nR _) _⟩,by simp[intOf];omega⟩;refine r2.set' k hlt _ ?_ ?_
   .rw[zc (Nat.lt_succ_self k)];go_num
   .intro t _ hne';by_cases h1:t<k
    .rw[zc h1,zc om]
    .rw[zb h1,zb om]
  .have hkn:k=n:=om;subst hkn;have hrow:=hrow.of (f':=fun t=>(c+t) % 256) (fun t ht=>by rw[zc ht]);go_wp2;go_ret;exact⟨rfl,hrow,hoth,hsz,hb⟩
def mv (w:World) (g n cap c:Nat) (hr:cm w g n (fun t=>(c+t) % 256)) (hcp:n<=cap) (hn:n<=1048576) (hc:c<=10000000000000000) :
  Calls Tp 151 #[sL (some ⟨g,0,none⟩) n cap,I J (c:Int)] w fun o w'=>o = rT (I J ((c+n:Nat):Int))/\w'=w:=by
 have HR:Hid (cm w g n (fun t=>(c+t) % 256)):=hr;clear hr;go_enter Tryz.func151,Tryz.ntmps151;go_wp2;go_loopw [1,5] (fun kk i wr=>∃ k:Nat,k<=n/\i = I J (k:Int)/\kk = I J ((c+k:Nat):Int)/\wr=w) (fun _ i _=>n-(intOf i).toNat);case atStart=>exact⟨0,nZ _,rfl,by go_num,rfl⟩
 case round=>
  obtain⟨k,hk,rfl,rfl,rfl⟩:=hrel;by_cases hlt:k<n
  .have x0:=HR.o.cell k hlt;generalize hC:c+k=C at *;have HC:Hid (c+k=C):=hC;have hC1:C<=40000000000000000:=om;clear hC;go_wp2;refine⟨⟨k+1,om,by go_num,by rw[<- HC.o];go_num,trivial⟩,by simp[intOf];omega⟩
  .have hkn:k=n:=om;subst hkn;go_wp2;go_ret;exact⟨rfl,rfl⟩
set_option maxRecDepth 20000
structure Sc where
 f:Int
 lf:Int
 rn:Int
 lv:Int
 cr:Int
 ac:Int
 e:Bool
 i:Nat
 r:Bool
 d:Int
 l:List Nat
abbrev scV (S:Sc) (a:Option Addr) (n cap:Nat):Value:=aG #[I J S.f,I J S.lf,I J S.rn,I J S.lv,I J S.cr,I J S.ac,bO S.e,I .u32 (S.i:Int),bO S.r,I J S.d,sL a n cap]
def scL (S:Sc) (a:Option Addr) (n cap:Nat):List Value:=[I J S.f,I J S.lf,I J S.rn,I J S.lv,I J S.cr,I J S.ac,bO S.e,I .u32 (S.i:Int),bO S.r,I J S.d,sL a n cap]
def dV:(Tp.info? 49).map (·.size)=some 11:=kr
def pR (f lf rn lv cr ac:Int) (e:Bool) (i:Int) (r:Bool) (d:Int) (a:Option Addr) (n c:Nat):(#[I J f,I J lf,I J rn,I J lv,I J cr,I J ac,bO e,I .u32 i,bO r,I J d,sL a n c]:Array Value).all (·.oneCell')=true:=
 QL (by simp[Value.oneCell'])
abbrev z11:List Value:=[I J 0,I J 0,I J 0,I J 0,I J 0,I J 0,bO false,I .u32 0,bO false,I J 0,sL none 0 0]
def rH (w:World) (S:Sc) (a:Option Addr) (n cap:Nat) (h:iB w a n cap S.l) (a':Option Addr) (n' cap':Nat) (h':iB w a' n' cap' S.l) (hn:n<=1048576) :
  Calls Tp 30 #[scV S a n cap,scV S a' n' cap'] w fun o w'=>o = rT (bO true)/\Bl w w':=by
 have HH:Hid (iB w a n cap S.l):=h;have HH':Hid (iB w a' n' cap' S.l):=h';clear h h';obtain⟨f,lf,rn,lv,cr,ac,e,i,r,d,l⟩:=S;have h1:(f != f)=false:=pQ;have h2:(lf != lf)=false:=pQ;have h3:(rn != rn)=false:=pQ;have h4:(lv != lv)=false:=pQ;have h5:(cr != cr)=false:=pQ;have h6:(ac != ac)=false:=pQ;have HC:Hid (∀ W,Bl w W->Calls Tp 69 #[frV e i r d a n cap,frV e i r d a' n' cap'] W fun o w'=>o = rT (bO true)/\Bl w w'):=by
  intro W hW;refine (eU W e i r d a n cap l (HH.o.below hW) a' n' cap' (HH'.o.below hW) hn).mono ?_;rintro o w' ⟨rfl,hb⟩;exact⟨rfl,hW.trans (hb.mono hW.size)⟩
 go_enter Tryz.func30,Tryz.ntmps30;go_wp2_with (go_at_call 69;refine (HC.o _ (qw.alloc pQ _)).mono ?_;rintro o w1 ⟨rfl,hb1⟩);go_ret;exact⟨rfl,hb1⟩
open Option renaming none->nn,some->sQ
open Go renaming World->Wd
structure mkd (w w':Wd) (g n c:Nat):Prop where
 row:cm w' g n (fun t=>(c+t) % 256)
 oth:∀ b,b≠g->b<w.heap.size->w'.heap[b]?=w.heap[b]?
 bel:Below g w w'
def lZ (w:Wd) (e:Bool) (i:Nat) (r:Bool) (d:Int) (g n cap c:Nat) (f:Nat->Nat) (hr:cm w g n f) (hg:g<w.heap.size) (hcp:n<=cap) (hn:n<=1048576) (hc:c<=10000000000000000) :
  Calls Tp 72 #[frV e i r d (sQ ⟨g,0,nn⟩) n cap,I J (c:Int)] w fun o w'=>o = rT (I J ((c+n:Nat):Int))/\mkd w w' g n c:=by
 have HR:Hid (cm (w.alloc (.cells #[bO e,I .u32 (i:Int),bO r,I J d,sL (sQ ⟨g,0,nn⟩) n cap] 47)) g n f):=hr.below qw hg;clear hr;go_enter Tryz.func72,Tryz.ntmps72;go_wp2_with fail;refine (me _ g n cap c f HR.o hcp hn hc).mono ?_;rintro o w1 ⟨rfl,h1,h2,h3,h4⟩;have HM:Hid (mkd w w1 g n c):=⟨h1,fun b hb hl=>(h2 b hb).trans (Below.heap_alloc _ _ _ hl),(qw.mono om).trans h4⟩
 clear h1 h2 h3 h4;go_wp2_with fail;go_ret;exact⟨rfl,HM.o⟩
def l9 (w:Wd) (e:Bool) (i:Nat) (r:Bool) (d:Int) (c:Nat) :
  Calls Tp 72 #[frV e i r d nn 0 0,I J (c:Int)] w fun o w'=>o = rT (I J (c:Int))/\Bl w w':=by
 have HM:Hid (∀ W:Wd,Calls Tp 146 #[sL nn 0 0,I J (c:Int)] W fun o w'=>o = rT (I J (c:Int))/\w'=W):=by
  intro W;go_enter Tryz.func146,Tryz.ntmps146;go_wp2;go_loopw [1,5] (fun kk i wr=>i = I J 0/\kk = I J (c:Int)/\wr=W) (fun _ _ _=>0);case atStart=>exact⟨rfl,rfl,rfl⟩
  case round=>
   obtain⟨rfl,rfl,rfl⟩:=hrel;go_wp2;go_ret;exact⟨rfl,rfl⟩
 go_enter Tryz.func72,Tryz.ntmps72;go_wp2_with fail;refine (HM.o _).mono ?_;rintro o w1 ⟨rfl,rfl⟩;go_wp2_with fail;go_ret;exact⟨rfl,qw⟩
def mq (w:Wd) (e:Bool) (i:Nat) (r:Bool) (d:Int) (g n cap c:Nat) (hr:cm w g n (fun t=>(c+t) % 256)) (hg:g<w.heap.size) (hcp:n<=cap) (hn:n<=1048576) (hc:c<=10000000000000000) :
  Calls Tp 75 #[frV e i r d (sQ ⟨g,0,nn⟩) n cap,I J (c:Int)] w fun o w'=>o = rT (I J ((c+n:Nat):Int))/\Bl w w':=by
 have HR:Hid (cm (w.alloc (.cells #[bO e,I .u32 (i:Int),bO r,I J d,sL (sQ ⟨g,0,nn⟩) n cap] 47)) g n (fun t=>(c+t) % 256)):=hr.below qw hg;clear hr;go_enter Tryz.func75,Tryz.ntmps75;go_wp2_with fail;refine (mv _ g n cap c HR.o hcp hn hc).mono ?_;rintro o w1 ⟨rfl,rfl⟩;generalize hq:c+n=q at *;have hz:¬ (q:Int)<0:=om;go_wp2_with fail;go_ret;exact⟨by rw[hq];rfl,qw⟩
def GD (w:Wd) (e:Bool) (i:Nat) (r:Bool) (d:Int) (c:Nat) :
  Calls Tp 75 #[frV e i r d nn 0 0,I J (c:Int)] w fun o w'=>o = rT (I J (c:Int))/\Bl w w':=by
 have HM:Hid (∀ W:Wd,Calls Tp 151 #[sL nn 0 0,I J (c:Int)] W fun o w'=>o = rT (I J (c:Int))/\w'=W):=by
  intro W;go_enter Tryz.func151,Tryz.ntmps151;go_wp2;go_loopw [1,5] (fun kk i wr=>i = I J 0/\kk = I J (c:Int)/\wr=W) (fun _ _ _=>0);case atStart=>exact⟨rfl,rfl,rfl⟩
  case round=>
   obtain⟨rfl,rfl,rfl⟩:=hrel;go_wp2;go_ret;exact⟨rfl,rfl⟩
 go_enter Tryz.func75,Tryz.ntmps75;go_wp2_with fail;refine (HM.o _).mono ?_;rintro o w1 ⟨rfl,rfl⟩;have hz:¬ (c:Int)<0:=om;go_wp2_with fail;go_ret;exact⟨rfl,qw⟩
def oo (w:Wd) (S:Sc) (g n cap c:Nat) (f:Nat->Nat) (hr:cm w g n f) (hg:g<w.heap.size) (hcp:n<=cap) (hn:n<=1048576) (hc:c<=10000000000000000) :
  Calls Tp 33 #[scV S (sQ ⟨g,0,nn⟩) n cap,I J (c:Int)] w fun o w'=>o = rT (I J ((c+n:Nat):Int))/\mkd w w' g n c:=by
 obtain⟨sf,slf,srn,slv,scr,sac,e,i,r,d,l⟩:=S;have HR:Hid (cm (w.alloc (.cells #[I J sf,I J slf,I J srn,I J slv,I J scr,I J sac,bO e,I .u32 (i:Int),bO r,I J d,sL (sQ ⟨g,0,nn⟩) n cap] 49)) g n f):=hr.below qw hg;clear hr;go_enter Tryz.func33,Tryz.ntmps33;go_wp2_with fail;refine (lZ _ e i r d g n cap c f HR.o (by simp;omega) hcp hn hc).mono ?_;rintro o w1 ⟨rfl,hm⟩;have HM:Hid (mkd w w1 g n c):=⟨hm.row,fun b hb hl=>(hm.oth b hb (by simp;omega)).trans (Below.heap_alloc _ _ _ hl),(qw.mono om).trans hm.bel⟩
 clear hm;go_wp2_with fail;go_ret;exact⟨rfl,HM.o⟩
def oq (w:Wd) (S:Sc) (c:Nat) :
  Calls Tp 33 #[scV S nn 0 0,I J (c:Int)] w fun o w'=>o = rT (I J (c:Int))/\Bl w w':=by
 obtain⟨sf,slf,srn,slv,scr,sac,e,i,r,d,l⟩:=S;go_enter Tryz.func33,Tryz.ntmps33;go_wp2_with fail;refine (l9 _ e i r d c).mono ?_;rintro o w1 ⟨rfl,hb⟩;have HB:Hid (Bl w w1):=qw.trans (hb.mono pQ);clear hb;go_wp2_with fail;go_ret;exact⟨rfl,HB.o⟩
def oD (w:Wd) (S:Sc) (g n cap c:Nat) (hr:cm w g n (fun t=>(c+t) % 256)) (hg:g<w.heap.size) (hcp:n<=cap) (hn:n<=1048576) (hc:c<=10000000000000000) :
  Calls Tp 36 #[scV S (sQ ⟨g,0,nn⟩) n cap,I J (c:Int)] w fun o w'=>o = rT (I J ((c+n:Nat):Int))/\Bl w w':=by
 obtain⟨sf,slf,srn,slv,scr,sac,e,i,r,d,l⟩:=S;have HR:Hid (cm (w.alloc (.cells #[I J sf,I J slf,I J srn,I J slv,I J scr,I J sac,bO e,I .u32 (i:Int),bO r,I J d,sL (sQ ⟨g,0,nn⟩) n cap] 49)) g n (fun t=>(c+t) % 256)):=hr.below qw hg;clear hr;go_enter Tryz.func36,Tryz.ntmps36;go_wp2_with fail;refine (mq _ e i r d g n cap c HR.o (by simp;omega) hcp hn hc).mono ?_;rintro o w1 ⟨rfl,hb⟩;have HB:Hid (Bl w w1):=qw.trans (hb.mono pQ);clear hb;generalize hq:c+n=q at *;have hz:¬ (q:Int)<0:=om;go_wp2_with fail;go_ret;exact⟨by rw[hq];rfl,HB.o⟩
def GW (w:Wd) (S:Sc) (c:Nat) :
  Calls Tp 36 #[scV S nn 0 0,I J (c:Int)] w fun o w'=>o = rT (I J (c:Int))/\Bl w w':=by
 obtain⟨sf,slf,srn,slv,scr,sac,e,i,r,d,l⟩:=S;go_enter Tryz.func36,Tryz.ntmps36;go_wp2_with fail;refine (GD _ e i r d c).mono ?_;rintro o w1 ⟨rfl,hb⟩;have HB:Hid (Bl w w1):=qw.trans (hb.mono pQ);clear hb;have hz:¬ (c:Int)<0:=om;go_wp2_with fail;go_ret;exact⟨rfl,HB.o⟩
def bh (f:Int) (e:Bool) (d:Int):Int:=
 if f=2 then 11 else if f=5 then 18 else if f=7 then (if e=true then 2 else 1) else if f=8 then 4
 else if f=9 then (if d > 8 then 64 else 8*d) else if f=10 then 15 else if f=14 then 7 else 1
def ai (f:Int) (e r:Bool) (d:Int):Int:=
 if f=4/\e=false then 7 else if f=8/\(r=true\/d=0) then 10 else f+1
def bL (f lf cr ac bit:Int):Int:=
 if f=1 then (if bit=1 then 4 else 0)
 else if f=11 then (if bit=0 then 4 else 0)
 else if f=13 then (if bit=0 then 4 else if ac=cr then 0 else 5)
 else if f=14 then (if bit=0 then (if lf > 1 then 4 else 6) else if lf=2 then 1 else if lf=1 then 2 else 0)
 else 0
def mi (w:World) (S:Sc) (a:Option Addr) (n cap:Nat) (bit:Int) :
  Calls Tp 108 #[scV S a n cap,I J bit] w fun o w'=>o = rT (I J (bL S.f S.lf S.cr S.ac bit))/\Bl w w':=by
 obtain⟨f,lf,rn,lv,cr,ac,e,i,r,d,l⟩:=S;go_enter Tryz.func108,Tryz.ntmps108;go_wp2;all_goals (go_ret;refine⟨au ?_,qw⟩;unfold bL;simp_all)
def iU (w:World) (f:Int) (e:Bool) (i:Nat) (r:Bool) (d:Int) (hd:0<=d) (hd1:d<=15) (a:Option Addr) (n cap:Nat) :
  Calls Tp 111 #[I J f,frV e i r d a n cap] w fun o w'=>o = rT (I J (bh f e d))/\Bl w w':=by
 go_enter Tryz.func111,Tryz.ntmps111;go_wp2;all_goals (go_ret;refine⟨au ?_,qw⟩;unfold bh;first | (simp_all;done) | (simp_all;omega))
def rh (w:World) (f:Int) (hf:0<=f) (hf1:f<=100) (e:Bool) (i:Nat) (r:Bool) (d:Int) (a:Option Addr) (n cap:Nat) :
  Calls Tp 112 #[I J f,frV e i r d a n cap] w fun o w'=>o = rT (I J (ai f e r d))/\Bl w w':=by
 cases e <;> cases r <;> go_enter Tryz.func112,Tryz.ntmps112;all_goals go_wp2
 all_goals (go_ret;refine⟨au ?_,qw⟩;unfold ai;simp_all)
def l2x (r b:Nat) (h1:r<32768) (hb:b<2):bits BinOp.xor IntKind.i64 ((r:Int) / 16384) (b:Int)=if b≠r / 16384 then 1 else 0:=by
 rw[show (r:Int) / 16384=((r / 16384:Nat):Int) by omega,eJ _ _ om om];have:r / 16384<2:=om;generalize r / 16384=y at *;have hx:b=0\/b=1:=om;have hy:y=0\/y=1:=om;rcases hx with rfl | rfl <;> rcases hy with rfl | rfl <;> decide
def wD (r b:Nat) (w:World) (h1:r<32768) (hb:b<2) :
  Calls Tp 109 #[I J r,I J b] w fun e w'=>e = rT (I J (M.dM r b:Nat))/\w=w':=by
 have hx:=l2x r b h1 hb;by_cases h:b≠r / 16384
 .rw[zc h] at hx;go_enter Tryz.func109,Tryz.ntmps109;go_wp2;go_ret;refine⟨au ?_,rfl⟩;have e:((r:Int)*2) % 32768=((2*r % 32768:Nat):Int):=om;rw[e,show (17817:Int)=((17817:Nat):Int) from rfl,eJ _ _ om (by decide)];simp[M.dM,h]
 .rw[zb h] at hx;go_enter Tryz.func109,Tryz.ntmps109;go_wp2;go_ret;refine⟨au ?_,rfl⟩;unfold M.dM;rw[zb h];omega
variable {k:Nat}
def dZ (b:R5):Bool:=vB b.e b.i b.r b.d b.l.length
def ga (b:R8):Bool:=decide ((1<=b.x/\b.x<=12)/\(0<=b.y/\b.y<=9999)/\(0<=b.z/\b.z<=9)) && vB b.e b.i b.r b.d b.l.length
def gW (w:World) (b:R5) (a:Option Addr) (n cap:Nat) (h:iB w a n cap b.l) :
  Calls Tp 181 #[frV b.e b.i b.r b.d a n cap] w fun o w'=>o = rT (bO (!dZ b))/\Bl w w':=by
 have hlen:=h.len
 have HV:Hid (∀ W,Bl w W->Calls Tp 133 #[frV b.e b.i b.r b.d a n cap] W fun o w'=>o = rT (bO (dZ b))/\Bl W w'):=fun W hW=>by
  have:=dU W b.e b.i b.r b.d a n cap b.l (h.below hW);rw[hlen] at this;unfold dZ;rw[hlen];exact this
 clear h hlen;generalize dZ b=R at *;obtain⟨e,i,r,d,l⟩:=b;go_enter Tryz.func181,Tryz.ntmps181;go_wp2_with fail;refine (HV.o _ qw).mono ?_;rintro o w1 ⟨rfl,hb1⟩;have HB:Hid (Bl w w1):=qw.trans (hb1.mono pQ);clear hb1;cases R
 .go_wp2_with fail;go_ret;exact⟨rfl,HB.o⟩
 .go_wp2_with fail;go_ret;exact⟨rfl,HB.o⟩
def kB (w:World) (b:R8) (a:Option Addr) (n cap:Nat) (h:iB w a n cap b.l) :
  Calls Tp 183 #[bxV b.x b.y b.z b.e b.i b.r b.d a n cap] w fun o w'=>o = rT (bO (!ga b))/\Bl w w':=by
 have HV:Hid (∀ W,Bl w W->Calls Tp 181 #[frV b.e b.i b.r b.d a n cap] W fun o w'=>o = rT (bO (!vB b.e b.i b.r b.d b.l.length))/\Bl W w'):=fun W hW=>gW W ⟨b.e,b.i,b.r,b.d,b.l⟩ a n cap (h.below hW);clear h;have HO:Hid (ga b=(decide ((1<=b.x/\b.x<=12)/\(0<=b.y/\b.y<=9999)/\(0<=b.z/\b.z<=9)) && vB b.e b.i b.r b.d b.l.length)):=rfl;generalize ga b=Q at *;generalize vB b.e b.i b.r b.d b.l.length=R at *;obtain⟨x,y,z,e,i,r,d,l⟩:=b;simp only[] at HV HO ⊢;have HA:Hid (Bl w (w.alloc (.cells #[I J x,I J y,I J z,bO e,I .u32 (i:Int),bO r,I J d,sL a n cap] 240))):=qw;have hx:decide (1<=x/\x<=12)=true\/decide (1<=x/\x<=12)=false:=by cases decide (1<=x/\x<=12) <;> simp
 have hy:decide (0<=y/\y<=9999)=true\/decide (0<=y/\y<=9999)=false:=by cases decide (0<=y/\y<=9999) <;> simp
 have hz:decide (0<=z/\z<=9)=true\/decide (0<=z/\z<=9)=false:=by cases decide (0<=z/\z<=9) <;> simp
 have HIR:Hid (∀ (W:World) (v l m:Int) (bb:Bool),decide (l<=v/\v<=m)=bb->Calls Tp 118 #[I J v,I J l,I J m] W fun o w'=>o = rT (bO bb)/\W=w'):=fun W v l m bb hbb=>hbb ▸ dh W v l m;rcases hx with hx|hx
 .rcases hy with hy|hy
  .rcases hz with hz|hz
   .have HQ:Hid (Q=R):=by
     have:=HO.o;simp only[qQ] at hx hy hz;rw[this,qE ⟨hx,hy,hz⟩];rfl
    have I1:=fun W=>HIR.o W x 1 12 true hx;have I2:=fun W=>HIR.o W y 0 9999 true hy;have I3:=fun W=>HIR.o W z 0 9 true hz;have J1:Hid (∀ W,Calls Tp 118 #[I J x,I J 1,I J 12] W fun o w'=>o = rT (bO true)/\W=w'):=I1;have J2:Hid (∀ W,Calls Tp 118 #[I J y,I J 0,I J 9999] W fun o w'=>o = rT (bO true)/\W=w'):=I2;have J3:Hid (∀ W,Calls Tp 118 #[I J z,I J 0,I J 9] W fun o w'=>o = rT (bO true)/\W=w'):=I3;clear I1 I2 I3 hx hy hz HIR HO;go_enter Tryz.func183,Tryz.ntmps183
    go_wp2_with (first
     | (go_at_call 118;first | (refine (J1.o _).mono ?_;rintro o w1 ⟨rfl,rfl⟩;clear J1) | (refine (J2.o _).mono ?_;rintro o w1 ⟨rfl,rfl⟩;clear J2) | (refine (J3.o _).mono ?_;rintro o w1 ⟨rfl,rfl⟩;clear J3))
     | (go_at_call 181;refine (HV.o _ HA.o).mono ?_;rintro o w1 ⟨rfl,hb1⟩))
    go_ret;exact⟨aj (by rw[HQ.o]),HA.o.trans (hb1.mono HA.o.size)⟩
   .have HQ:Hid (Q=false):=by
     have:=HO.o;simp only[decide_eq_false_iff_not] at hz;rw[this,qo (fun h=>hz h.2.2)];rfl
    have J1:Hid (∀ W,Calls Tp 118 #[I J x,I J 1,I J 12] W fun o w'=>o = rT (bO true)/\W=w'):=fun W=>HIR.o W x 1 12 true hx;have J2:Hid (∀ W,Calls Tp 118 #[I J y,I J 0,I J 9999] W fun o w'=>o = rT (bO true)/\W=w'):=fun W=>HIR.o W y 0 9999 true hy;have J3:Hid (∀ W,Calls Tp 118 #[I J z,I J 0,I J 9] W fun o w'=>o = rT (bO false)/\W=w'):=fun W=>HIR.o W z 0 9 false hz;clear hx hy hz HIR HO HV;go_enter Tryz.func183,Tryz.ntmps183
    go_wp2_with (go_at_call 118;first | (refine (J1.o _).mono ?_;rintro o w1 ⟨rfl,rfl⟩;clear J1) | (refine (J2.o _).mono ?_;rintro o w1 ⟨rfl,rfl⟩;clear J2) | (refine (J3.o _).mono ?_;rintro o w1 ⟨rfl,rfl⟩;clear J3))
    go_ret;exact⟨aj (by rw[HQ.o];rfl),HA.o⟩
  .have HQ:Hid (Q=false):=by
    have:=HO.o;simp only[decide_eq_false_iff_not] at hy;rw[this,qo (fun h=>hy h.2.1)];rfl
   have J1:Hid (∀ W,Calls Tp 118 #[I J x,I J 1,I J 12] W fun o w'=>o = rT (bO true)/\W=w'):=fun W=>HIR.o W x 1 12 true hx;have J2:Hid (∀ W,Calls Tp 118 #[I J y,I J 0,I J 9999] W fun o w'=>o = rT (bO false)/\W=w'):=fun W=>HIR.o W y 0 9999 false hy;clear hx hy hz HIR HO HV;go_enter Tryz.func183,Tryz.ntmps183
   go_wp2_with (go_at_call 118;first | (refine (J1.o _).mono ?_;rintro o w1 ⟨rfl,rfl⟩;clear J1) | (refine (J2.o _).mono ?_;rintro o w1 ⟨rfl,rfl⟩;clear J2))
   go_ret;exact⟨aj (by rw[HQ.o];rfl),HA.o⟩
 .have HQ:Hid (Q=false):=by
   have:=HO.o;simp only[decide_eq_false_iff_not] at hx;rw[this,qo (fun h=>hx h.1)];rfl
  have J1:Hid (∀ W,Calls Tp 118 #[I J x,I J 1,I J 12] W fun o w'=>o = rT (bO false)/\W=w'):=fun W=>HIR.o W x 1 12 false hx;clear hx hy hz HIR HO HV;go_enter Tryz.func183,Tryz.ntmps183
  go_wp2_with (go_at_call 118;refine (J1.o _).mono ?_;rintro o w1 ⟨rfl,rfl⟩)
  go_ret;exact⟨aj (by rw[HQ.o];rfl),HA.o⟩
def iF {α:Type} {p:α->Bool} {bs:List α} (hk:k<bs.length) (h:∀ j (hj:j<bs.length),j<k->p bs[j]=true) (h1:p bs[k]=true):∀ j (hj:j<bs.length),j<k+1->p bs[j]=true:=by
 intro j hj h2;by_cases e:j=k
 .subst e;exact h1
 .exact h j hj om
def jx {α:Type} {p:α->Bool} {bs:List α} (hk:bs.length<=k) (h:∀ j (hj:j<bs.length),j<k->p bs[j]=true):bs.all p=true:=by
 rw[Qc];intro x hx;obtain⟨j,hj,rfl⟩:=List.getElem_of_mem hx;exact h j hj om
def kA {α:Type} {p:α->Bool} {bs:List α} (hk:k<bs.length) (h1:p bs[k]=false):bs.all p=false:=by
 rw[List.all_eq_false];exact⟨bs[k],zh hk,by rw[h1];simp⟩
def lx (w:World) (a:Option Addr) (n cap:Nat) (bs:List R5) (h:cl w a n cap bs) (hn:n<=1048576) :
  Calls Tp 231 #[sL a n cap,.func (.func 181) #[] #[]] w fun o w'=>∃ z:Int,o = rT (I J z)/\decide (0<=z) = !bs.all dZ/\Bl w w':=by
 have hlen:=h.len;have hcp:=h.cap;by_cases hl:bs=[]
 .subst hl;have hn0:n=0:=hlen;subst hn0;clear hlen h;go_enter Tryz.func231,Tryz.ntmps231;go_wp2;go_loopw [8] (fun i wr=>i = I J 0/\wr=w) (fun _ _=>0);case atStart=>exact⟨rfl,rfl⟩
  case round=>
   obtain⟨rfl,rfl⟩:=hrel;go_wp2;go_ret;exact⟨-1,rfl,rfl,bW _ _⟩
 .obtain⟨g,off,rfl,hc⟩:=h.cells hl;have HL:Hid (n=bs.length):=hlen;have HC:Hid (∀ j (h:j<bs.length),∃ ao m c,at5 w g (off+j*5) bs[j] ao m c):=hc;clear h hlen hc;go_enter Tryz.func231,Tryz.ntmps231;go_wp2;go_loopw [8] (fun i wr=>∃ k:Nat,k<=n/\i = I J (k:Int)/\(∀ j (hj:j<bs.length),j<k->dZ bs[j]=true)/\Bl w wr) (fun i _=>n-(intOf i).toNat);case atStart=>exact⟨0,nZ _,rfl,fun j hj h=>Qz h (nN _),bW _ _⟩
  case round=>
   obtain⟨k,hk,rfl,hdone,hb⟩:=hrel;by_cases hlt:k<n
   .have hkl:k<bs.length:=by have:=HL.o;omega
    obtain⟨ao,m,c,hx⟩:=HC.o k hkl;have hx':=hx.below hb;have HRG:Hid (wr.rangeAt g (off+k*5) [bO bs[k].e,I .u32 (bs[k].i:Int),bO bs[k].r,I J bs[k].d,sL ao m c]):=hx'.range;have HW:Hid (Calls Tp 181 #[frV bs[k].e bs[k].i bs[k].r bs[k].d ao m c] wr fun o w'=>o = rT (bO (!dZ bs[k]))/\Bl wr w'):=gW wr bs[k] ao m c hx'.dat;have HB:Hid (Bl w wr):=hb;have HD:Hid (∀ j (hj:j<bs.length),j<k->dZ bs[j]=true):=hdone;clear hx hx' hb hdone;cases hok:dZ bs[k]
    .have HN:Hid (bs.all dZ=false):=kA hkl hok;rw[hok] at HW
     clear hok;generalize bs[k].e=e0 at *;generalize bs[k].i=i0 at *;generalize bs[k].r=r0 at *;generalize bs[k].d=d0 at *;go_wp2_with (first
      | (refine qG 47 HRG.o Tryz.underlying47 jc ?_)
      | (go_at_call 181;refine HW.o.mono ?_;rintro o w5 ⟨rfl,hb5⟩))
     go_ret;exact⟨_,rfl,by rw[HN.o];simp,HB.o.trans (hb5.mono HB.o.size)⟩
    .have HN:Hid (∀ j (hj:j<bs.length),j<k+1->dZ bs[j]=true):=iF hkl HD.o hok;rw[hok] at HW
     clear hok;generalize bs[k].e=e0 at *;generalize bs[k].i=i0 at *;generalize bs[k].r=r0 at *;generalize bs[k].d=d0 at *;go_wp2_with (first
      | (refine qG 47 HRG.o Tryz.underlying47 jc ?_)
      | (go_at_call 181;refine HW.o.mono ?_;rintro o w5 ⟨rfl,hb5⟩))
     go_roundw;case rel=>exact⟨k+1,om,by go_num,HN.o,HB.o.trans (hb5.mono HB.o.size)⟩
     case measure=>simp[intOf];omega
   .have HN:Hid (bs.all dZ=true):=jx (by have:=HL.o;omega) hdone;clear hdone;go_wp2;go_ret;exact⟨_,rfl,by rw[HN.o];simp,hb⟩
def ju (w:World) (a:Option Addr) (n cap:Nat) (bs:List R5) (h:cl w a n cap bs) (hn:n<=1048576) :
  Calls Tp 180 #[sL a n cap,.func (.func 181) #[] #[]] w fun o w'=>o = rT (bO (!bs.all dZ))/\Bl w w':=by
 have HI:Hid (Calls Tp 231 #[sL a n cap,.func (.func 181) #[] #[]] w fun o w'=>∃ z:Int,o = rT (I J z)/\decide (0<=z) = !bs.all dZ/\Bl w w'):=lx w a n cap bs h hn;clear h;go_enter Tryz.func180,Tryz.ntmps180;go_wp2_with (go_at_call 231;refine HI.o.mono ?_;rintro o w5 ⟨z,rfl,hz,hb5⟩;have HZ:Hid (decide (0<=z) = !bs.all dZ):=hz;clear hz);go_ret;exact⟨aj HZ.o,hb5⟩
def ly (w:World) (a:Option Addr) (n cap:Nat) (bs:List R8) (h:aM w a n cap bs) (hn:n<=1048576) :
  Calls Tp 232 #[sL a n cap,.func (.func 183) #[] #[]] w fun o w'=>∃ z:Int,o = rT (I J z)/\decide (0<=z) = !bs.all ga/\Bl w w':=by
 have hlen:=h.len;have hcp:=h.cap;by_cases hl:bs=[]
 .subst hl;have hn0:n=0:=hlen;subst hn0;clear hlen h;go_enter Tryz.func232,Tryz.ntmps232;go_wp2;go_loopw [8] (fun i wr=>i = I J 0/\wr=w) (fun _ _=>0);case atStart=>exact⟨rfl,rfl⟩
  case round=>
   obtain⟨rfl,rfl⟩:=hrel;go_wp2;go_ret;exact⟨-1,rfl,rfl,bW _ _⟩
 .obtain⟨g,off,rfl,hc⟩:=h.cells hl;have HL:Hid (n=bs.length):=hlen;have HC:Hid (∀ j (h:j<bs.length),∃ ao m c,at8 w g (off+j*8) bs[j] ao m c):=hc;clear h hlen hc;go_enter Tryz.func232,Tryz.ntmps232;go_wp2;go_loopw [8] (fun i wr=>∃ k:Nat,k<=n/\i = I J (k:Int)/\(∀ j (hj:j<bs.length),j<k->ga bs[j]=true)/\Bl w wr) (fun i _=>n-(intOf i).toNat);case atStart=>exact⟨0,nZ _,rfl,fun j hj h=>Qz h (nN _),bW _ _⟩
  case round=>
   obtain⟨k,hk,rfl,hdone,hb⟩:=hrel;by_cases hlt:k<n
   .have hkl:k<bs.length:=by have:=HL.o;omega
    obtain⟨ao,m,c,hx⟩:=HC.o k hkl;have hx':=hx.below hb;have HRG:Hid (wr.rangeAt g (off+k*8) [I J bs[k].x,I J bs[k].y,I J bs[k].z,bO bs[k].e,I .u32 (bs[k].i:Int),bO bs[k].r,I J bs[k].d,sL ao m c]):=hx'.range;have HW:Hid (Calls Tp 183 #[bxV bs[k].x bs[k].y bs[k].z bs[k].e bs[k].i bs[k].r bs[k].d ao m c] wr fun o w'=>o = rT (bO (!ga bs[k]))/\Bl wr w'):=kB wr bs[k] ao m c hx'.dat;have HB:Hid (Bl w wr):=hb;have HD:Hid (∀ j (hj:j<bs.length),j<k->ga bs[j]=true):=hdone;clear hx hx' hb hdone;cases hok:ga bs[k]
    .have HN:Hid (bs.all ga=false):=kA hkl hok;rw[hok] at HW
     clear hok;generalize bs[k].x=x0 at *;generalize bs[k].y=y0 at *;generalize bs[k].z=z0 at *;generalize bs[k].e=e0 at *;generalize bs[k].i=i0 at *;generalize bs[k].r=r0 at *;generalize bs[k].d=d0 at *;go_wp2_with (first
      | (refine qG 240 HRG.o Tryz.underlying240 fw ?_)
      | (go_at_call 183;refine HW.o.mono ?_;rintro o w5 ⟨rfl,hb5⟩))
     go_ret;exact⟨_,rfl,by rw[HN.o];simp,HB.o.trans (hb5.mono HB.o.size)⟩
    .have HN:Hid (∀ j (hj:j<bs.length),j<k+1->ga bs[j]=true):=iF hkl HD.o hok;rw[hok] at HW
     clear hok;generalize bs[k].x=x0 at *;generalize bs[k].y=y0 at *;generalize bs[k].z=z0 at *;generalize bs[k].e=e0 at *;generalize bs[k].i=i0 at *;generalize bs[k].r=r0 at *;generalize bs[k].d=d0 at *;go_wp2_with (first
      | (refine qG 240 HRG.o Tryz.underlying240 fw ?_)
      | (go_at_call 183;refine HW.o.mono ?_;rintro o w5 ⟨rfl,hb5⟩))
     go_roundw;case rel=>exact⟨k+1,om,by go_num,HN.o,HB.o.trans (hb5.mono HB.o.size)⟩
     case measure=>simp[intOf];omega
   .have HN:Hid (bs.all ga=true):=jx (by have:=HL.o;omega) hdone;clear hdone;go_wp2;go_ret;exact⟨_,rfl,by rw[HN.o];simp,hb⟩
def jv (w:World) (a:Option Addr) (n cap:Nat) (bs:List R8) (h:aM w a n cap bs) (hn:n<=1048576) :
  Calls Tp 182 #[sL a n cap,.func (.func 183) #[] #[]] w fun o w'=>o = rT (bO (!bs.all ga))/\Bl w w':=by
 have HI:Hid (Calls Tp 232 #[sL a n cap,.func (.func 183) #[] #[]] w fun o w'=>∃ z:Int,o = rT (I J z)/\decide (0<=z) = !bs.all ga/\Bl w w'):=ly w a n cap bs h hn;clear h;go_enter Tryz.func182,Tryz.ntmps182;go_wp2_with (go_at_call 232;refine HI.o.mono ?_;rintro o w5 ⟨z,rfl,hz,hb5⟩;have HZ:Hid (decide (0<=z) = !bs.all ga):=hz;clear hz);go_ret;exact⟨aj HZ.o,hb5⟩
def cK (o:Ending) (P:Prop):Prop:=∃ b:Bool,o = rT (bO b)/\(b=true↔P)
def hoL (H:Ho) (s:Sl):List Value:=[I J H.c0,I J H.c1,I J H.c2,I J H.c3,sL s.a1 s.n1 s.k1,sL s.a2 s.n2 s.k2,sL s.a3 s.n3 s.k3,sL s.a4 s.n4 s.k4,I J H.lo,I J H.st]
def gR (H:Ho) (s:Sl):hoV H s = aG (hoL H s).toArray:=rfl
def BD (H:Ho) (s:Sl):(hoL H s).length=10:=rfl
def px (H:Ho) (s:Sl):(Tp.info? 41).map (·.size)=some (hoL H s).length:=xU
def Cw (H:Ho) (s:Sl):(Tp.info? 41).map (·.size)=some (hoL H s).toArray.size:=xU
def oC (H:Ho) (s:Sl):(hoL H s).toArray.all (·.oneCell')=true:=QL (by simp[hoL,Value.oneCell'])
def zFr (e:Bool) (i:Nat) (r:Bool) (d:Int) (n:Nat):Prop:=e=false/\i=0/\r=false/\d=0/\n=0
def gQ (w:World) (e:Bool) (i:Nat) (r:Bool) (d:Int) (a:Option Addr) (n cap:Nat) :
  Calls Tp 153 #[frV e i r d a n cap] w fun o w'=>cK o (zFr e i r d n)/\Bl w w':=by
 have HB:Hid (Bl w (w.alloc (.cells #[bO e,I .u32 (i:Int),bO r,I J d,sL a n cap] 47))):=qw;cases e
 .by_cases hi:i=0
  .subst hi;cases r
   .by_cases hd:d=0
    .subst hd;go_enter Tryz.func153,Tryz.ntmps153;go_wp2;go_ret;refine⟨⟨_,rfl,?_⟩,HB.o⟩;unfold zFr;simp;try omega
    .have hd':(d == 0)=false:=by simpa using hd
     clear hd;go_enter Tryz.func153,Tryz.ntmps153;go_wp2;go_ret;refine⟨⟨_,rfl,?_⟩,HB.o⟩;unfold zFr;simp at hd';simp[hd']
   .go_enter Tryz.func153,Tryz.ntmps153;go_wp2;go_ret;refine⟨⟨_,rfl,?_⟩,HB.o⟩;unfold zFr;simp
  .have hi':((i:Int) == 0)=false:=by simpa using hi
   clear hi;go_enter Tryz.func153,Tryz.ntmps153;go_wp2;go_ret;refine⟨⟨_,rfl,?_⟩,HB.o⟩;unfold zFr;simp at hi';simp[hi']
 .go_enter Tryz.func153,Tryz.ntmps153;go_wp2;go_ret;refine⟨⟨_,rfl,?_⟩,HB.o⟩;unfold zFr;simp
def okS (S:Sc):Prop:=1<=S.f/\S.f<=14/\S.i<536870912/\0<=S.d/\S.d<=15/\S.l.length<=8/\1<=S.lf/\S.lf<=bh S.f S.e S.d/\0<=S.rn/\S.rn<=5/\0<=S.lv/\S.lv<=1/\¬ (S.rn=0/\S.lv=1)/\((S.f=1\/11<S.f)↔S.rn=0)/\0<=S.cr/\S.cr<=32767/\0<=S.ac/\S.ac<=32767/\(S.f=9->S.r=false/\S.d≠0/\(S.l.length:Int)=(bh S.f S.e S.d-S.lf+7) / 8)
def fX (f:Int) (e:Bool) (d:Int) (h0:0<=d) (h1:d<=15):0<=bh f e d/\bh f e d<=64:=by
 unfold bh;cases e <;> simp <;> omega
def yr {f rn:Int} {P:Prop} (h1:¬ f=1) (h2:¬ rn=0) (h:(!(f == 1 || decide (11<f)) == (rn == 0))=true) (hp:11<f->¬ P):¬ P:=by
 by_cases q:11<f
 .exact hp q
 .have e1:(f == 1)=false:=by simpa using h1
  have e2:(rn == 0)=false:=by simpa using h2
  have e3:decide (11<f)=false:=by simpa using q
  rw[e1,e2,e3] at h;exact Qz h (by decide)
def j3 (w:World) (S:Sc) (a:Option Addr) (n cap:Nat) (hn:n=S.l.length) (hn1:n<=1048576) :
  Calls Tp 80 #[scV S a n cap] w fun o w'=>cK o (okS S)/\Bl w w':=by
 obtain⟨f,lf,rn,lv,cr,ac,e,i,r,d,l⟩:=S;simp only[] at hn;have HN:Hid (n=l.length):=hn;clear hn;have HZ:Hid (0<=d->d<=15->0<=bh f e d/\bh f e d<=64):=fX f e d;have HC:Hid (0<=d->d<=15->∀ W,Bl w W->Calls Tp 111 #[I J f,frV e i r d a n cap] W fun o w'=>o = rT (I J (bh f e d))/\Bl w w'/\Bl W w'):=fun h0 h1 W hW=>(iU W f e i r d h0 h1 a n cap).mono (by rintro o w' ⟨rfl,hb⟩;exact⟨rfl,hW.trans (hb.mono hW.size),hb⟩);have HK:Hid (okS ⟨f,lf,rn,lv,cr,ac,e,i,r,d,l⟩↔(1<=f/\f<=14/\i<536870912/\0<=d/\d<=15/\n<=8/\1<=lf/\lf<=bh f e d/\0<=rn/\rn<=5/\0<=lv/\lv<=1/\¬ (rn=0/\lv=1)/\((f=1\/11<f)↔rn=0)/\0<=cr/\cr<=32767/\0<=ac/\ac<=32767/\(f=9->r=false/\d≠0/\(n:Int)=(bh f e d-lf+7) / 8))):=by
  unfold okS;simp only[];rw[<- HN.o];exact Iff.rfl
 generalize okS ⟨f,lf,rn,lv,cr,ac,e,i,r,d,l⟩=P at *;generalize bh f e d=z at *;by_cases hi:i<536870912
 .have hi2:decide ((536870912:Int)<=(i:Int))=false:=qo om;have HI:Hid (i<536870912):=hi;clear hi;go_enter Tryz.func80,Tryz.ntmps80;go_wp2_with (go_at_call 111;refine (HC.o om om _ qw).mono ?_;rintro o w1 ⟨rfl,hb1,hb2⟩;obtain⟨hc,hf⟩:=vl hb2;have HB:Hid _:=hb1;have hz:=HZ.o om om;clear hb1 hb2);all_goals
   go_ret;refine⟨⟨_,rfl,?_⟩,?_⟩;rotate_left
   .first | exact HB.o | exact qw
   rw[HK.o];have hi:=HI.o;clear HK HC HZ HI;cases r <;> simp only[qN,Bool.true_eq_false,false_iff,true_iff,true_and,false_and,imp_false] <;> first | omega | (simp_all;done) | (simp_all;omega) | (by_cases q:11<f <;> simp_all <;> omega) | (by_cases q:11<f <;> simp_all;done) | (exact yr (by assumption) (by assumption) (by assumption) (fun q=>by omega))
 .have hi2:decide ((536870912:Int)<=(i:Int))=true:=qE om;have HI:Hid (¬ i<536870912):=hi;clear hi;go_enter Tryz.func80,Tryz.ntmps80;go_wp2_with fail;all_goals
   go_ret;refine⟨⟨_,rfl,?_⟩,qw⟩;rw[HK.o];have hi:=HI.o;clear HK HC HZ HI;simp only[qN,false_iff];omega
open Go.IntKind renaming i64->J,u32->zn
def bV:List Value:=[I J 1,I J 1,I J 2,I J 2,I J 11,I J 3,I J 3,I J 1,I J 4,I J 4,I J 1,I J 7,I J 5,I J 18,I J 6,I J 6,I J 1,I J 7,I J 7,I J 1,I J 8,I J 8,I J 4,I J 9,I J 9,I J 8,I J 10,I J 10,I J 15,I J 11,I J 11,I J 1,I J 12,I J 12,I J 1,I J 13,I J 13,I J 1,I J 14,I J 14,I J 7,I J 15]
def dS (r:Bool) (d:Int):Int:=if r=true then 0 else min d 8
def jt (w:Wd) (e:Bool) (i:Nat) (r:Bool) (d:Int) (a:Option Addr) (n cap:Nat) :
  Calls Tp 257 #[frV e i r d a n cap] w fun o w'=>o = rT (I J (dS r d))/\Bl w w':=by
 cases r
 .go_enter Tryz.func257,Tryz.ntmps257;go_wp2;all_goals (go_ret;refine⟨au ?_,qw⟩;unfold dS;simp;try omega)
 .go_enter Tryz.func257,Tryz.ntmps257;go_wp2;all_goals (go_ret;refine⟨au ?_,qw⟩;unfold dS;simp)
structure rS (w:Wd) (e:Bool) (i:Nat) (r:Bool) (d:Int) (a:Option Addr) (n cap:Nat) (W:Wd):Prop where
 p:blk W w.heap.size [bO e,I zn (i:Int),bO r,I J d,sL a n cap] 47
 b:Bl w W
def rsz (f:Int) (e r:Bool) (d:Int):Int:=if f=9 then 8*dS r d else bh f e d
def aW {w:Wd} (hg:w.rangeAt 0 0 bV) (hz:0<w.heap.size) {W:Wd} (hb:Bl w W) (j:Nat) (v:Value) (hv:bV[j]?=sQ v):W.cell? ⟨0,j,nn⟩=sQ v:=by
 have:=(hb.cell (p:=⟨0,0+j,nn⟩) hz).trans (hg j v hv);simpa using this
def uG (w:Wd) (hg:w.rangeAt 0 0 bV) (hz:0<w.heap.size) (e:Bool) (i:Nat) (r:Bool) (d:Int) (hd:0<=d) (hd1:d<=15) (a:Option Addr) (n cap:Nat) :
  Calls Tp 254 #[I J 1,frV e i r d a n cap] w fun o w'=>o = rT (aG #[I J 1,I J (rsz 1 e r d),I J (ai 1 e r d)])/\Bl w w':=by
 have hb2:Bl w ((w.alloc (.cells #[bO e,I zn (i:Int),bO r,I J d,sL a n cap] 47)).alloc (.cells #[I J 0,I J 0,I J 0] 299)):=qw.alloc pQ _;have c0:=aW hg hz hb2 0 _ rfl;have c1:=aW hg hz hb2 1 _ rfl;have c2:=aW hg hz hb2 2 _ rfl;clear hg hb2;go_enter Tryz.func254,Tryz.ntmps254;go_wp2_with fail;refine QF (v:=aG #[I J 1,I J 1,I J 2]) (by simp[results,Tryz.results254,go_sem]) rfl ?_;exact⟨rfl,(qw.alloc pQ _).alloc (by simp;omega) _⟩
def uF (w:Wd) (hg:w.rangeAt 0 0 bV) (hz:0<w.heap.size) (e:Bool) (i:Nat) (r:Bool) (d:Int) (hd:0<=d) (hd1:d<=15) (a:Option Addr) (n cap:Nat) :
  Calls Tp 254 #[I J 2,frV e i r d a n cap] w fun o w'=>o = rT (aG #[I J 2,I J (rsz 2 e r d),I J (ai 2 e r d)])/\Bl w w':=by
 have hb2:Bl w ((w.alloc (.cells #[bO e,I zn (i:Int),bO r,I J d,sL a n cap] 47)).alloc (.cells #[I J 0,I J 0,I J 0] 299)):=qw.alloc pQ _;have c0:=aW hg hz hb2 3 _ rfl;have c1:=aW hg hz hb2 4 _ rfl;have c2:=aW hg hz hb2 5 _ rfl;clear hg hb2;go_enter Tryz.func254,Tryz.ntmps254;go_wp2_with fail;refine QF (v:=aG #[I J 2,I J 11,I J 3]) (by simp[results,Tryz.results254,go_sem]) rfl ?_;exact⟨rfl,(qw.alloc pQ _).alloc (by simp;omega) _⟩
def Iu (w:Wd) (hg:w.rangeAt 0 0 bV) (hz:0<w.heap.size) (e:Bool) (i:Nat) (r:Bool) (d:Int) (hd:0<=d) (hd1:d<=15) (a:Option Addr) (n cap:Nat) :
  Calls Tp 254 #[I J 3,frV e i r d a n cap] w fun o w'=>o = rT (aG #[I J 3,I J (rsz 3 e r d),I J (ai 3 e r d)])/\Bl w w':=by
 have hb2:Bl w ((w.alloc (.cells #[bO e,I zn (i:Int),bO r,I J d,sL a n cap] 47)).alloc (.cells #[I J 0,I J 0,I J 0] 299)):=qw.alloc pQ _;have c0:=aW hg hz hb2 6 _ rfl;have c1:=aW hg hz hb2 7 _ rfl;have c2:=aW hg hz hb2 8 _ rfl;clear hg hb2;go_enter Tryz.func254,Tryz.ntmps254;go_wp2_with fail;refine QF (v:=aG #[I J 3,I J 1,I J 4]) (by simp[results,Tryz.results254,go_sem]) rfl ?_;exact⟨rfl,(qw.alloc pQ _).alloc (by simp;omega) _⟩
def uC (w:Wd) (hg:w.rangeAt 0 0 bV) (hz:0<w.heap.size) (e:Bool) (i:Nat) (r:Bool) (d:Int) (hd:0<=d) (hd1:d<=15) (a:Option Addr) (n cap:Nat) :
  Calls Tp 254 #[I J 5,frV e i r d a n cap] w fun o w'=>o = rT (aG #[I J 5,I J (rsz 5 e r d),I J (ai 5 e r d)])/\Bl w w':=by
 have hb2:Bl w ((w.alloc (.cells #[bO e,I zn (i:Int),bO r,I J d,sL a n cap] 47)).alloc (.cells #[I J 0,I J 0,I J 0] 299)):=qw.alloc pQ _;have c0:=aW hg hz hb2 12 _ rfl;have c1:=aW hg hz hb2 13 _ rfl;have c2:=aW hg hz hb2 14 _ rfl;clear hg hb2;go_enter Tryz.func254,Tryz.ntmps254;go_wp2_with fail;refine QF (v:=aG #[I J 5,I J 18,I J 6]) (by simp[results,Tryz.results254,go_sem]) rfl ?_;exact⟨rfl,(qw.alloc pQ _).alloc (by simp;omega) _⟩
def uB (w:Wd) (hg:w.rangeAt 0 0 bV) (hz:0<w.heap.size) (e:Bool) (i:Nat) (r:Bool) (d:Int) (hd:0<=d) (hd1:d<=15) (a:Option Addr) (n cap:Nat) :
  Calls Tp 254 #[I J 6,frV e i r d a n cap] w fun o w'=>o = rT (aG #[I J 6,I J (rsz 6 e r d),I J (ai 6 e r d)])/\Bl w w':=by
 have hb2:Bl w ((w.alloc (.cells #[bO e,I zn (i:Int),bO r,I J d,sL a n cap] 47)).alloc (.cells #[I J 0,I J 0,I J 0] 299)):=qw.alloc pQ _;have c0:=aW hg hz hb2 15 _ rfl;have c1:=aW hg hz hb2 16 _ rfl;have c2:=aW hg hz hb2 17 _ rfl;clear hg hb2;go_enter Tryz.func254,Tryz.ntmps254;go_wp2_with fail;refine QF (v:=aG #[I J 6,I J 1,I J 7]) (by simp[results,Tryz.results254,go_sem]) rfl ?_;exact⟨rfl,(qw.alloc pQ _).alloc (by simp;omega) _⟩
def pI (w:Wd) (hg:w.rangeAt 0 0 bV) (hz:0<w.heap.size) (e:Bool) (i:Nat) (r:Bool) (d:Int) (hd:0<=d) (hd1:d<=15) (a:Option Addr) (n cap:Nat) :
  Calls Tp 254 #[I J 10,frV e i r d a n cap] w fun o w'=>o = rT (aG #[I J 10,I J (rsz 10 e r d),I J (ai 10 e r d)])/\Bl w w':=by
 have hb2:Bl w ((w.alloc (.cells #[bO e,I zn (i:Int),bO r,I J d,sL a n cap] 47)).alloc (.cells #[I J 0,I J 0,I J 0] 299)):=qw.alloc pQ _;have c0:=aW hg hz hb2 27 _ rfl;have c1:=aW hg hz hb2 28 _ rfl;have c2:=aW hg hz hb2 29 _ rfl;clear hg hb2;go_enter Tryz.func254,Tryz.ntmps254;go_wp2_with fail;refine QF (v:=aG #[I J 10,I J 15,I J 11]) (by simp[results,Tryz.results254,go_sem]) rfl ?_;exact⟨rfl,(qw.alloc pQ _).alloc (by simp;omega) _⟩
def pG (w:Wd) (hg:w.rangeAt 0 0 bV) (hz:0<w.heap.size) (e:Bool) (i:Nat) (r:Bool) (d:Int) (hd:0<=d) (hd1:d<=15) (a:Option Addr) (n cap:Nat) :
  Calls Tp 254 #[I J 11,frV e i r d a n cap] w fun o w'=>o = rT (aG #[I J 11,I J (rsz 11 e r d),I J (ai 11 e r d)])/\Bl w w':=by
 have hb2:Bl w ((w.alloc (.cells #[bO e,I zn (i:Int),bO r,I J d,sL a n cap] 47)).alloc (.cells #[I J 0,I J 0,I J 0] 299)):=qw.alloc pQ _;have c0:=aW hg hz hb2 30 _ rfl;have c1:=aW hg hz hb2 31 _ rfl;have c2:=aW hg hz hb2 32 _ rfl;clear hg hb2;go_enter Tryz.func254,Tryz.ntmps254;go_wp2_with fail;refine QF (v:=aG #[I J 11,I J 1,I J 12]) (by simp[results,Tryz.results254,go_sem]) rfl ?_;exact⟨rfl,(qw.alloc pQ _).alloc (by simp;omega) _⟩
def pF (w:Wd) (hg:w.rangeAt 0 0 bV) (hz:0<w.heap.size) (e:Bool) (i:Nat) (r:Bool) (d:Int) (hd:0<=d) (hd1:d<=15) (a:Option Addr) (n cap:Nat) :
  Calls Tp 254 #[I J 12,frV e i r d a n cap] w fun o w'=>o = rT (aG #[I J 12,I J (rsz 12 e r d),I J (ai 12 e r d)])/\Bl w w':=by
 have hb2:Bl w ((w.alloc (.cells #[bO e,I zn (i:Int),bO r,I J d,sL a n cap] 47)).alloc (.cells #[I J 0,I J 0,I J 0] 299)):=qw.alloc pQ _;have c0:=aW hg hz hb2 33 _ rfl;have c1:=aW hg hz hb2 34 _ rfl;have c2:=aW hg hz hb2 35 _ rfl;clear hg hb2;go_enter Tryz.func254,Tryz.ntmps254;go_wp2_with fail;refine QF (v:=aG #[I J 12,I J 1,I J 13]) (by simp[results,Tryz.results254,go_sem]) rfl ?_;exact⟨rfl,(qw.alloc pQ _).alloc (by simp;omega) _⟩
def pE (w:Wd) (hg:w.rangeAt 0 0 bV) (hz:0<w.heap.size) (e:Bool) (i:Nat) (r:Bool) (d:Int) (hd:0<=d) (hd1:d<=15) (a:Option Addr) (n cap:Nat) :
  Calls Tp 254 #[I J 13,frV e i r d a n cap] w fun o w'=>o = rT (aG #[I J 13,I J (rsz 13 e r d),I J (ai 13 e r d)])/\Bl w w':=by
 have hb2:Bl w ((w.alloc (.cells #[bO e,I zn (i:Int),bO r,I J d,sL a n cap] 47)).alloc (.cells #[I J 0,I J 0,I J 0] 299)):=qw.alloc pQ _;have c0:=aW hg hz hb2 36 _ rfl;have c1:=aW hg hz hb2 37 _ rfl;have c2:=aW hg hz hb2 38 _ rfl;clear hg hb2;go_enter Tryz.func254,Tryz.ntmps254;go_wp2_with fail;refine QF (v:=aG #[I J 13,I J 1,I J 14]) (by simp[results,Tryz.results254,go_sem]) rfl ?_;exact⟨rfl,(qw.alloc pQ _).alloc (by simp;omega) _⟩
def pD (w:Wd) (hg:w.rangeAt 0 0 bV) (hz:0<w.heap.size) (e:Bool) (i:Nat) (r:Bool) (d:Int) (hd:0<=d) (hd1:d<=15) (a:Option Addr) (n cap:Nat) :
  Calls Tp 254 #[I J 14,frV e i r d a n cap] w fun o w'=>o = rT (aG #[I J 14,I J (rsz 14 e r d),I J (ai 14 e r d)])/\Bl w w':=by
 have hb2:Bl w ((w.alloc (.cells #[bO e,I zn (i:Int),bO r,I J d,sL a n cap] 47)).alloc (.cells #[I J 0,I J 0,I J 0] 299)):=qw.alloc pQ _;have c0:=aW hg hz hb2 39 _ rfl;have c1:=aW hg hz hb2 40 _ rfl;have c2:=aW hg hz hb2 41 _ rfl;clear hg hb2;go_enter Tryz.func254,Tryz.ntmps254;go_wp2_with fail;refine QF (v:=aG #[I J 14,I J 7,I J 15]) (by simp[results,Tryz.results254,go_sem]) rfl ?_;exact⟨rfl,(qw.alloc pQ _).alloc (by simp;omega) _⟩
def uD (w:Wd) (hg:w.rangeAt 0 0 bV) (hz:0<w.heap.size) (e:Bool) (i:Nat) (r:Bool) (d:Int) (hd:0<=d) (hd1:d<=15) (a:Option Addr) (n cap:Nat) :
  Calls Tp 254 #[I J 4,frV e i r d a n cap] w fun o w'=>o = rT (aG #[I J 4,I J (rsz 4 e r d),I J (ai 4 e r d)])/\Bl w w':=by
 have hb2:Bl w ((w.alloc (.cells #[bO e,I zn (i:Int),bO r,I J d,sL a n cap] 47)).alloc (.cells #[I J 0,I J 0,I J 0] 299)):=qw.alloc pQ _;have c0:=aW hg hz hb2 9 _ rfl;have c1:=aW hg hz hb2 10 _ rfl;have c2:=aW hg hz hb2 11 _ rfl;clear hg hb2;cases e
 .go_enter Tryz.func254,Tryz.ntmps254;go_wp2_with fail;refine QF (v:=aG #[I J 4,I J 1,I J 7]) (by simp[results,Tryz.results254,go_sem]) rfl ?_;exact⟨rfl,(qw.alloc pQ _).alloc (by simp;omega) _⟩
 .go_enter Tryz.func254,Tryz.ntmps254;go_wp2_with fail;refine QF (v:=aG #[I J 4,I J 1,I J 5]) (by simp[results,Tryz.results254,go_sem]) rfl ?_;exact⟨rfl,(qw.alloc pQ _).alloc (by simp;omega) _⟩
def uA (w:Wd) (hg:w.rangeAt 0 0 bV) (hz:0<w.heap.size) (e:Bool) (i:Nat) (r:Bool) (d:Int) (hd:0<=d) (hd1:d<=15) (a:Option Addr) (n cap:Nat) :
  Calls Tp 254 #[I J 7,frV e i r d a n cap] w fun o w'=>o = rT (aG #[I J 7,I J (rsz 7 e r d),I J (ai 7 e r d)])/\Bl w w':=by
 have hb2:Bl w ((w.alloc (.cells #[bO e,I zn (i:Int),bO r,I J d,sL a n cap] 47)).alloc (.cells #[I J 0,I J 0,I J 0] 299)):=qw.alloc pQ _;have c0:=aW hg hz hb2 18 _ rfl;have c1:=aW hg hz hb2 19 _ rfl;have c2:=aW hg hz hb2 20 _ rfl;clear hg hb2;cases e
 .go_enter Tryz.func254,Tryz.ntmps254;go_wp2_with fail;refine QF (v:=aG #[I J 7,I J 1,I J 8]) (by simp[results,Tryz.results254,go_sem]) rfl ?_;exact⟨rfl,(qw.alloc pQ _).alloc (by simp;omega) _⟩
 .go_enter Tryz.func254,Tryz.ntmps254;go_wp2_with fail;refine QF (v:=aG #[I J 7,I J 2,I J 8]) (by simp[results,Tryz.results254,go_sem]) rfl ?_;exact⟨rfl,(qw.alloc pQ _).alloc (by simp;omega) _⟩
def uz (w:Wd) (hg:w.rangeAt 0 0 bV) (hz:0<w.heap.size) (e:Bool) (i:Nat) (r:Bool) (d:Int) (hd:0<=d) (hd1:d<=15) (a:Option Addr) (n cap:Nat) :
  Calls Tp 254 #[I J 8,frV e i r d a n cap] w fun o w'=>o = rT (aG #[I J 8,I J (rsz 8 e r d),I J (ai 8 e r d)])/\Bl w w':=by
 have hb2:Bl w ((w.alloc (.cells #[bO e,I zn (i:Int),bO r,I J d,sL a n cap] 47)).alloc (.cells #[I J 0,I J 0,I J 0] 299)):=qw.alloc pQ _;have c0:=aW hg hz hb2 21 _ rfl;have c1:=aW hg hz hb2 22 _ rfl;have c2:=aW hg hz hb2 23 _ rfl;clear hg hb2;have HD:Hid (∀ W,Calls Tp 257 #[frV e i r d a n cap] W fun o w'=>o = rT (I J (dS r d))/\Bl W w'):=fun W=>jt W e i r d a n cap;have HA:Hid ((dS r d=0->ai 8 e r d=10)/\(dS r d≠0->ai 8 e r d=9)):=by
  unfold dS ai;cases r
  .constructor <;> intro h <;> simp at h ⊢ <;> omega
  .simp[Hid]
 generalize dS r d=z at *;generalize ai 8 e r d=af at *;go_enter Tryz.func254,Tryz.ntmps254;go_wp2_with fail;refine (HD.o _).mono ?_;rintro o w5 ⟨rfl,hb5⟩;have P5:blk w5 (w.heap.size+1) ([]++[I J 0,I J 0,I J 0]++[]) 299:=by
  have:=((blk.new (w.alloc (.cells #[bO e,I zn (i:Int),bO r,I J d,sL a n cap] 47)) [I J 0,I J 0,I J 0] 299).alloc (.cells #[I J 8,I J 4,I J 9] 299)).below hb5;simpa using this
 have R5:blk w5 (w.heap.size+1+1) [I J 8,I J 4,I J 9] 299:=by
  have:=(blk.new ((w.alloc (.cells #[bO e,I zn (i:Int),bO r,I J d,sL a n cap] 47)).alloc (.cells #[I J 0,I J 0,I J 0] 299)) [I J 8,I J 4,I J 9] 299).below hb5;simpa using this
 have HB5:Hid (Bl w w5):=((qw.alloc pQ _).alloc (by simp;omega) _).trans (hb5.mono (by simp;omega));have p0:=P5.cell 0 _ rfl;have p1:=P5.cell 1 _ rfl;have p2:=P5.cell 2 _ rfl;have fp0:=P5.free 0;have fp1:=P5.free 1;have fp2:=P5.free 2;have r0:=R5.cell 0 _ rfl;have r1:=R5.cell 1 _ rfl;have r2:=R5.cell 2 _ rfl;have fr2:=R5.free 2;clear P5 R5 hb5;by_cases hz0:z=0
 .have ha:=HA.o.1 hz0;have hq:(z == 0)=true:=by simpa using hz0
  clear hz0;subst ha;go_wp2_with fail;refine QF (v:=aG #[I J 8,I J 4,I J 10]) (by simp[results,Tryz.results254,go_sem,p0,p1,p2]) rfl ?_;refine⟨rfl,?_⟩
  (repeat refine Below.setCell ?_ (by simp;try omega) _)
  exact HB5.o
 .have ha:=HA.o.2 hz0;have hq:(z == 0)=false:=by simpa using hz0
  clear hz0;subst ha;go_wp2_with fail;refine QF (v:=aG #[I J 8,I J 4,I J 9]) (by simp[results,Tryz.results254,go_sem,p0,p1,p2]) rfl ?_;refine⟨rfl,?_⟩
  (repeat refine Below.setCell ?_ (by simp;try omega) _)
  exact HB5.o
def uy (w:Wd) (hg:w.rangeAt 0 0 bV) (hz:0<w.heap.size) (e:Bool) (i:Nat) (r:Bool) (d:Int) (hd:0<=d) (hd1:d<=15) (a:Option Addr) (n cap:Nat) :
  Calls Tp 254 #[I J 9,frV e i r d a n cap] w fun o w'=>o = rT (aG #[I J 9,I J (rsz 9 e r d),I J (ai 9 e r d)])/\Bl w w':=by
 have hb2:Bl w ((w.alloc (.cells #[bO e,I zn (i:Int),bO r,I J d,sL a n cap] 47)).alloc (.cells #[I J 0,I J 0,I J 0] 299)):=qw.alloc pQ _;have c0:=aW hg hz hb2 24 _ rfl;have c1:=aW hg hz hb2 25 _ rfl;have c2:=aW hg hz hb2 26 _ rfl;clear hg hb2;have HD:Hid (∀ W,Calls Tp 257 #[frV e i r d a n cap] W fun o w'=>o = rT (I J (dS r d))/\Bl W w'):=fun W=>jt W e i r d a n cap;have hdl:0<=dS r d/\dS r d<=8:=by
  unfold dS;cases r <;> simp <;> omega
 have HR:Hid (rsz 9 e r d=8*dS r d):=rfl;generalize rsz 9 e r d=rs9 at *;generalize dS r d=z at *;obtain⟨hz1,hz8⟩:=hdl;go_enter Tryz.func254,Tryz.ntmps254;go_wp2_with fail;refine QK (S:=rS w e i r d a n cap) kr ?_;generalize hW3:(((w.alloc (.cells #[bO e,I zn (i:Int),bO r,I J d,sL a n cap] 47)).alloc (.cells #[I J 0,I J 0,I J 0] 299)).alloc (.cells #[I J 9,I J 8,I J 10] 299))=W3 at *;have hp3:blk W3 w.heap.size [bO e,I zn (i:Int),bO r,I J d,sL a n cap] 47:=hW3 ▸ ((blk.new w _ 47).alloc _).alloc _;have hr3:blk W3 (w.heap.size+1) ([]++[I J 0,I J 0,I J 0]++[]) 299:=by
  have:=(blk.new (w.alloc (.cells #[bO e,I zn (i:Int),bO r,I J d,sL a n cap] 47)) [I J 0,I J 0,I J 0] 299).alloc (.cells #[I J 9,I J 8,I J 10] 299);rw[<- hW3];simpa using this
 have hq3:blk W3 (w.heap.size+1+1) [I J 9,I J 8,I J 10] 299:=by
  have:=blk.new ((w.alloc (.cells #[bO e,I zn (i:Int),bO r,I J d,sL a n cap] 47)).alloc (.cells #[I J 0,I J 0,I J 0] 299)) [I J 9,I J 8,I J 10] 299;rw[<- hW3];simpa using this
 have hb3:Bl w W3:=hW3 ▸ (qw.alloc pQ _).alloc (by simp;omega) _;obtain⟨wd,hwd⟩ : ∃ wd,wd=W3.drew:=⟨_,rfl⟩
 change wpAnyH _ _ _ _ _ _ _ _ W3.drew;rw[<- hwd];have hwb:Bl W3 wd:=hwd ▸ (bW _ _).drew;have hq:=hq3.below hwb;have hr:=hr3.below hwb;have hs:rS w e i r d a n cap wd:=⟨hp3.below hwb,hb3.trans (hwb.mono hb3.size)⟩
 clear hp3 hr3 hq3 hb3 hwb hwd hW3 c0 c1 c2;refine wV 0 (pT (sQ ⟨w.heap.size+1+1,1,nn⟩)) ?_ hs ?_
 .intro W hW;clear hs;go_simp
 simp only[Act.put,aA,aB,aC,aD,aE];refine wU 2 (.agg [bO e,I zn (i:Int),bO r,I J d,sL a n cap].toArray) rfl (QM (by rfl) 47 (.tmp 3) rfl w.heap.size 0 rfl [bO e,I zn (i:Int),bO r,I J d,sL a n cap] _ (fun W h=>h.p.load) Tryz.underlying47 rfl gp) hs ?_;simp only[aZ];refine QG (rs:=[1,3]) kr pQ ?_;refine Q9 rfl (fun K hK=>?_) (Q9 rfl (fun K hK=>?_) za)
 .have yq:=hq.cell 1 _ rfl;go_simp;clear yq;refine hK.out _ _ hs (fun hs2=>?_);clear hK K hs2;refine QG (rs:=[3]) kr pQ ?_;refine Q9 rfl (fun K hK=>?_) za;go_simp;refine (HD.o _).mono ?_;rintro o we ⟨rfl,hbe⟩;have hqe:=hq.below hbe;have hre:=hr.below hbe;have hse:rS w e i r d a n cap we:=⟨hs.p.below hbe,hs.b.trans (hbe.mono hs.b.size)⟩
  go_wp2_with fail;refine hK.out _ _ hse (fun hs2=>?_);clear hK K hs2;have hs:=hse;refine wV 4 (I J (8*z)) ?_ hs ?_
  .intro W hW;clear hs;go_simp;rw[QS];omega
  simp only[aZ];refine wV 5 (pT (sQ ⟨w.heap.size+1+1,1,nn⟩)) ?_ hs ?_
  .intro W hW;clear hs;go_simp
  simp only[aZ];refine QG (rs:=[6]) kr pQ ?_;refine Q9 rfl (fun K hK=>?_) za;have yq:=hqe.cell 1 _ rfl;have fq:=hqe.free 1;go_simp;have hs9:rS w e i r d a n cap (we.setCell ⟨w.heap.size+1+1,1,nn⟩ (I J (8*z))):=⟨hs.p.setOther om _ _,hs.b.setCell (by show _<=_+_+_;omega) _⟩
  have hq9:=hqe.set 1 (I J (8*z));have hr9:=hre.setOther (b':=w.heap.size+1+1) om 1 (I J (8*z));refine hK.out _ _ hs9 (fun hs2=>?_);clear hK K hs2;clear yq fq;refine QI kr ?_ _;generalize we.setCell ⟨w.heap.size+1+1,1,nn⟩ (I J (8*z))=w9 at *;have p0:=hr9.cell 0 _ rfl;have p1:=hr9.cell 1 _ rfl;have p2:=hr9.cell 2 _ rfl;have fp0:=hr9.free 0;have fp1:=hr9.free 1;have fp2:=hr9.free 2;have r0:=hq9.cell 0 _ rfl;have r1:=hq9.cell 1 _ rfl;have r2:=hq9.cell 2 _ rfl;have HB9:Hid (Bl w w9):=hs9.b;clear hr9 hq9 hs9 hqe hre hse hs;go_wp2_with fail;refine QF (v:=aG #[I J 9,I J (8*z),I J 10]) (by simp[results,Tryz.results254,go_sem,p0,p1,p2]) rfl ?_;refine⟨by rw[HR.o];rfl,?_⟩
  (repeat refine Below.setCell ?_ (by simp;try omega) _)
  exact HB9.o
 .go_simp;refine (HD.o _).mono ?_;rintro o we ⟨rfl,hbe⟩;have hqe:=hq.below hbe;have hre:=hr.below hbe;have hse:rS w e i r d a n cap we:=⟨hs.p.below hbe,hs.b.trans (hbe.mono hs.b.size)⟩
  go_wp2_with fail;refine hK.out _ _ hse (fun hs2=>?_);clear hK K hs2;refine QG (rs:=[1]) kr pQ ?_;refine Q9 rfl (fun K hK=>?_) za;have yq:=hqe.cell 1 _ rfl;go_simp;clear yq;refine hK.out _ _ hse (fun hs2=>?_);clear hK K hs2;have hs:=hse;refine wV 4 (I J (8*z)) ?_ hs ?_
  .intro W hW;clear hs;go_simp;rw[QS];omega
  simp only[aZ];refine wV 5 (pT (sQ ⟨w.heap.size+1+1,1,nn⟩)) ?_ hs ?_
  .intro W hW;clear hs;go_simp
  simp only[aZ];refine QG (rs:=[6]) kr pQ ?_;refine Q9 rfl (fun K hK=>?_) za;have yq:=hqe.cell 1 _ rfl;have fq:=hqe.free 1;go_simp;have hs9:rS w e i r d a n cap (we.setCell ⟨w.heap.size+1+1,1,nn⟩ (I J (8*z))):=⟨hs.p.setOther om _ _,hs.b.setCell (by show _<=_+_+_;omega) _⟩
  have hq9:=hqe.set 1 (I J (8*z));have hr9:=hre.setOther (b':=w.heap.size+1+1) om 1 (I J (8*z));refine hK.out _ _ hs9 (fun hs2=>?_);clear hK K hs2;clear yq fq;refine QI kr ?_ _;generalize we.setCell ⟨w.heap.size+1+1,1,nn⟩ (I J (8*z))=w9 at *;have p0:=hr9.cell 0 _ rfl;have p1:=hr9.cell 1 _ rfl;have p2:=hr9.cell 2 _ rfl;have fp0:=hr9.free 0;have fp1:=hr9.free 1;have fp2:=hr9.free 2;have r0:=hq9.cell 0 _ rfl;have r1:=hq9.cell 1 _ rfl;have r2:=hq9.cell 2 _ rfl;have HB9:Hid (Bl w w9):=hs9.b;clear hr9 hq9 hs9 hqe hre hse hs;go_wp2_with fail;refine QF (v:=aG #[I J 9,I J (8*z),I J 10]) (by simp[results,Tryz.results254,go_sem,p0,p1,p2]) rfl ?_;refine⟨by rw[HR.o];rfl,?_⟩
  (repeat refine Below.setCell ?_ (by simp;try omega) _)
  exact HB9.o
variable {w w':World} {B g n k:Nat} {l:List Nat}
def dj {E sz:Nat} {xs:List Value} (h:w.ownsRow B E sz (sL (sQ ⟨g,0,nn⟩) n k) n xs) (he:w'.heap[g]?=w.heap[g]?):w'.ownsRow B E sz (sL (sQ ⟨g,0,nn⟩) n k) n xs:=by
 refine⟨h.1,?_⟩;rcases h.2 with⟨e,_⟩|⟨g1,cap,cur,hv',hb,hg,hcp,hmx,hsz,htk⟩
 .cases e
 .have e1:g1=g:=by cases hv';rfl
  subst e1;exact .inr ⟨g1,cap,cur,hv',hb,he.trans hg,hcp,hmx,hsz,htk⟩
def aa.keep (h:aa w B (sL (sQ ⟨g,0,nn⟩) n k) l) (hn:n=l.length) (he:w'.heap[g]?=w.heap[g]?):aa w' B (sL (sQ ⟨g,0,nn⟩) n k) l:=by
 subst hn;exact dj h he
def jC {b:Nat} {v:Value} (h:aa w B v l) (hb:b<B) (j:Nat) (x:Value):aa (w.setCell ⟨b,j,nn⟩ x) B v l:=by
 refine⟨h.1,?_⟩;rcases h.2 with⟨e,e2⟩|⟨g1,cap,cur,hv',hb1,hg,hcp,hmx,hsz,htk⟩
 .exact .inl ⟨e,e2⟩
 .exact .inr ⟨g1,cap,cur,hv',hb1,(QB _ _ _ _ (by show g1≠b;omega)).trans hg,hcp,hmx,hsz,htk⟩
def kn (w:World) (e:Bool) (i:Nat) (r:Bool) (d:Int) (a:Option Addr) (n cap:Nat) (l:List Nat) (h:iB w a n cap l) (hn:n<=1048576) :
  Calls Tp 57 #[frV e i r d a n cap] w fun o w'=>∃ g k,o = rT (frV e i r d (sQ ⟨g,0,nn⟩) n k)/\aa w' (w.heap.size+2) (sL (sQ ⟨g,0,nn⟩) n k) l/\Bl w w':=by
 have HH:Hid (iB w a n cap l):=h;have HL:Hid (n=l.length):=h.len;have HSm:Hid (∀ x ∈ l,x<256):=h.small;have hcp:=h.cap;clear h;have hB0:Bl w ((w.alloc (.cells #[bO e,I zn (i:Int),bO r,I J d,sL a n cap] 47)).alloc (.cells #[bO false,I zn 0,bO false,I J 0,sL nn 0 0] 47)):=qw.alloc pQ _;have HB0:Hid _:=hB0;clear hB0;go_enter Tryz.func57,Tryz.ntmps57;go_wp2_with fail;have hown:=gB ((w.alloc (.cells #[bO e,I zn (i:Int),bO r,I J d,sL a n cap] 47)).alloc (.cells #[bO false,I zn 0,bO false,I J 0,sL nn 0 0] 47)) (w.heap.size+2) pQ;have x0:((w.alloc (.cells #[bO e,I zn (i:Int),bO r,I J d,sL a n cap] 47)).alloc (.cells #[bO false,I zn 0,bO false,I J 0,sL nn 0 0] 47)).heap[w.heap.size]?=sQ (.cells [bO e,I zn (i:Int),bO r,I J d,sL a n cap].toArray 47):=by
  rw[Below.heap_alloc _ _ _ pQ];exact QO w _
 have x1:bu ((w.alloc (.cells #[bO e,I zn (i:Int),bO r,I J d,sL a n cap] 47)).alloc (.cells #[bO false,I zn 0,bO false,I J 0,sL nn 0 0] 47)) (w.heap.size+1) 5:=by
  have:=kO (w.alloc (.cells #[bO e,I zn (i:Int),bO r,I J d,sL a n cap] 47)) [bO false,I zn 0,bO false,I J 0,sL nn 0 0] 47;simpa using this
 have hz2:((w.alloc (.cells #[bO e,I zn (i:Int),bO r,I J d,sL a n cap] 47)).alloc (.cells #[bO false,I zn 0,bO false,I J 0,sL nn 0 0] 47)).heap.size=w.heap.size+2:=pQ;have hs2:w.heap.size+1+1=((w.alloc (.cells #[bO e,I zn (i:Int),bO r,I J d,sL a n cap] 47)).alloc (.cells #[bO false,I zn 0,bO false,I J 0,sL nn 0 0] 47)).heap.size:=pQ;simp only[hs2];clear hs2;generalize (w.alloc (.cells #[bO e,I zn (i:Int),bO r,I J d,sL a n cap] 47)).alloc (.cells #[bO false,I zn 0,bO false,I J 0,sL nn 0 0] 47)=W2 at *;rw[<- hz2] at hown;have HX0:Hid (W2.heap[w.heap.size]?=sQ (.cells [bO e,I zn (i:Int),bO r,I J d,sL a n cap].toArray 47)):=x0;have HX1:Hid (bu W2 (w.heap.size+1) 5):=x1;have HZ2:Hid (W2.heap.size=w.heap.size+2):=hz2;clear x0 x1 hz2;go_loopw [3,4] (fun v t wr=>∃ k:Nat,k<=n/\t = I J k/\aa wr W2.heap.size v (l.take k)/\(k=0->v = sL (sQ ⟨W2.heap.size,0,nn⟩) 0 0)/\Bl W2 wr) (fun _ t _=>n-(intOf t).toNat);case atStart=>exact⟨0,nZ _,rfl,hown,fun _=>rfl,qw⟩
 case round=>
  clear hown;obtain⟨k,hk,rfl,ho,hv0,hb⟩:=hrel;have hrg:=db ((hb.block _ (by have:=HZ2.o;omega)).trans HX0.o);have y0:=hrg 0 (bO e) rfl;have y1:=hrg 1 (I zn (i:Int)) rfl;have y2:=hrg 2 (bO r) rfl;have y3:=hrg 3 (I J d) rfl;have y4:=hrg 4 (sL a n cap) rfl;simp only[zf,Nat.add_zero] at y0 y1 y2 y3 y4;clear hrg;by_cases hlt:k<n
  .have hkl:k<l.length:=by have:=HL.o;omega
   obtain⟨g0,o0,rfl,hc⟩:=HH.o.cells (by intro e;rw[e] at hkl;exact Qz hkl (nN _));have hx:=hc k hkl;have hgz:g0<w.heap.size:=QD w _ hx;have xk:=(hb.cell (p:=⟨g0,o0+k,nn⟩) (by have:=HZ2.o;show g0<_;omega)).trans ((HB0.o.cell (p:=⟨g0,o0+k,nn⟩) (by exact hgz)).trans hx);have HO:Hid (aa wr W2.heap.size u3 (l.take k)):=ho;have HB:Hid (Bl W2 wr):=hb;have HT:Hid (l.take k++[l[k]]=l.take (k+1)):=mL l k hkl;have HLT:Hid ((l.take k).length<=100000000):=by show _<=_;rw[qj];omega
   clear ho hb hc hx hv0;generalize l[k]=ck at *;go_wp2_with (at_builtin;refine fE W2 wr rfl (.tmp 13) (.tmp 19) rfl W2.heap.size u3 (l.take k) ck _ rfl rfl HO.o rfl HLT.o HB.o.size HB.o ?_;intro v' w' ho' hb' _);go_roundw;case rel=>exact⟨k+1,om,by go_num,by rw[<- HT.o];exact ho',fun e=>Qz e om,hb'⟩
   case measure=>simp[intOf];omega
  .have hkn:k=n:=om;subst hkn;have htk:l.take k=l:=by rw[ze (by have:=HL.o;omega)]
   rw[htk] at ho;have hnn:u3≠sL nn 0 0:=by
    intro e;by_cases hk0:k=0
    .rw[hv0 hk0] at e;cases e
    .subst e;rcases ho.2 with⟨_,h⟩|⟨g,_,_,h,_⟩
     .have:=HL.o;omega
     .cases h
   obtain⟨g1,k1,rfl,q1,q2,q3⟩:=eI ho hnn HSm.o;rw[<- HL.o];have HQ:Hid (aa wr W2.heap.size (sL (sQ ⟨g1,0,nn⟩) k k1) l):=by rw[<- HL.o] at ho;exact ho
   have HB:Hid (Bl w wr):=HB0.o.trans (hb.mono (by have:=HZ2.o;omega));have hZ:=HX1.o.below hb (by have:=HZ2.o;omega);obtain⟨u0,z0⟩:=hZ.cell 0 om;obtain⟨u1,z1⟩:=hZ.cell 1 om;obtain⟨u2,z2⟩:=hZ.cell 2 om;obtain⟨u3,z3⟩:=hZ.cell 3 om;obtain⟨u4,z4⟩:=hZ.cell 4 om;have f0:=hZ.free 0;have f1:=hZ.free 1;have f2:=hZ.free 2;have f3:=hZ.free 3;have f4:=hZ.free 4;clear hZ q1 q2 q3 ho hb hv0 hnn htk;go_wp2;refine QF (v:=frV e i r d (sQ ⟨g1,0,nn⟩) k k1) (by simp[results,Tryz.results57,go_sem,z0,z1,z2,z3,z4]) rfl ?_;have hz:=HZ2.o;refine⟨g1,k1,rfl,?_,?_⟩
   .rw[show w.heap.size+2=W2.heap.size from hz.symm]
    (repeat refine jC ?_ om _ _)
    exact HQ.o
   ·(repeat refine Below.setCell ?_ pQ _)
    exact HB.o
variable {w:World} {B:Nat} {v:Value} {l:List Nat}
def aa.setCells {b:Nat} (h:aa w B v l) (hb:b<B) (o:Nat) (vs:List Value):aa (w.setCells b o vs) B v l:=by
 refine⟨h.1,?_⟩;rcases h.2 with⟨e,e2⟩|⟨g1,cap,cur,hv',hb1,hg,hcp,hmx,hsz,htk⟩
 .exact .inl ⟨e,e2⟩
 .exact .inr ⟨g1,cap,cur,hv',hb1,(sO _ _ om _ _ _).trans hg,hcp,hmx,hsz,htk⟩
def aa.mono {B':Nat} (h:aa w B v l) (hb:B'<=B):aa w B' v l:=by
 refine⟨h.1,?_⟩;rcases h.2 with⟨e,e2⟩|⟨g1,cap,cur,hv',hb1,hg,hcp,hmx,hsz,htk⟩
 .exact .inl ⟨e,e2⟩
 .exact .inr ⟨g1,cap,cur,hv',om,hg,hcp,hmx,hsz,htk⟩
def iV (w:World) (S:Sc) (a:Option Addr) (n cap:Nat) (h:iB w a n cap S.l) (hn:n<=1048576) :
  Calls Tp 22 #[scV S a n cap] w fun o w'=>∃ g k,o = rT (scV S (sQ ⟨g,0,nn⟩) n k)/\aa w' (w.heap.size+2) (sL (sQ ⟨g,0,nn⟩) n k) S.l/\Bl w w':=by
 have HH:Hid (iB w a n cap S.l):=h;clear h;obtain⟨f,lf,rn,lv,cr,ac,e,i,r,d,l⟩:=S;go_enter Tryz.func22,Tryz.ntmps22;go_wp2_with fail;refine (kn _ e i r d a n cap l (HH.o.below (qw.alloc pQ _)) hn).mono ?_;rintro o w1 ⟨g,k,rfl,ho,hb⟩;have HP:Hid (blk w1 w.heap.size ([I J f,I J lf,I J rn,I J lv,I J cr,I J ac]++[bO e,I .u32 (i:Int),bO r,I J d,sL a n cap]++[]) 49):=((blk.new w _ 49).alloc _).below hb;have HR:Hid (blk w1 (w.heap.size+1) ([]++z11++[]) 49):=by
  have:=(blk.new (w.alloc (.cells [I J f,I J lf,I J rn,I J lv,I J cr,I J ac,bO e,I .u32 (i:Int),bO r,I J d,sL a n cap].toArray 49)) z11 49).below hb;simpa[Hid] using this
 have HB:Hid (Bl w w1):=(qw.alloc pQ _).trans (hb.mono (by simp;omega));have HG:Hid (aa w1 (w.heap.size+2) (sL (sQ ⟨g,0,nn⟩) n k) l):=ho.mono pQ
 clear hb ho;go_wp2_with (first
  | (refine QE (P:=Tp) rfl 47 (.tmp 6) (.tmp 5) rfl w.heap.size 6 #[bO e,I .u32 (i:Int),bO r,I J d,sL (sQ ⟨g,0,nn⟩) n k] rfl rfl (HP.o.there 6 5 pQ) gp (pP _ _ _ _ _ _ _) ?_;generalize hW2:World.setCells w1 w.heap.size 6 _=w2;have HW2:Hid (World.setCells w1 w.heap.size 6 [bO e,I .u32 (i:Int),bO r,I J d,sL (sQ ⟨g,0,nn⟩) n k]=w2):=hW2;have HP2:Hid (blk w2 w.heap.size (scL ⟨f,lf,rn,lv,cr,ac,e,i,r,d,l⟩ (sQ ⟨g,0,nn⟩) n k) 49):=(hW2 ▸ blk.put [I J f,I J lf,I J rn,I J lv,I J cr,I J ac] _ [] _ HP.o rfl);have HR2:Hid (blk w2 (w.heap.size+1) ([]++z11++[]) 49):=(hW2 ▸ HR.o.other om _ _);clear hW2)
  | (refine qG 49 HP2.o.load Tryz.underlying49 dV ?_)
  | (refine QE (P:=Tp) rfl 49 (.tmp 2) (.tmp 7) rfl (w.heap.size+1) 0 _ rfl rfl (HR2.o.there 0 11 pQ) dV (pR _ _ _ _ _ _ _ _ _ _ _ _ _) ?_;generalize hW3:World.setCells w2 (w.heap.size+1) 0 _=w3;have HW3:Hid (World.setCells w2 (w.heap.size+1) 0 (scL ⟨f,lf,rn,lv,cr,ac,e,i,r,d,l⟩ (sQ ⟨g,0,nn⟩) n k)=w3):=hW3;clear hW3))
 have e2:=HW2.o;have e3:=HW3.o;have hF:blk w3 (w.heap.size+1) (scL ⟨f,lf,rn,lv,cr,ac,e,i,r,d,l⟩ (sQ ⟨g,0,nn⟩) n k) 49:=e3 ▸ blk.put [] z11 [] _ HR2.o rfl;have hL:=QJ (P:=Tp) w3 (w.heap.size+1) 0 49 _ _ hF.load Tryz.underlying49 rfl dV;refine bC Tryz.results22 hL ?_;subst e2;subst e3;exact⟨g,k,rfl,(HG.o.setCells om _ _).setCells om _ _,sW om _ _ (sW om _ _ HB.o)⟩
def wC (w:World) (f:Int) (hf:f=2\/f=5) (e:Bool) (i:Nat) (hi:i<536870912) (r:Bool) (d:Int) (a:Option Addr) (n cap:Nat) (t:Int) (b:Nat) (hb:b<2) :
  Calls Tp 110 #[frV e i r d a n cap,I J f,I J t,I J (b:Int)] w fun o w'=>o = rT (frV e ((2*i+b) % 536870912) r d a n cap)/\Bl w w':=by
 have HE:Hid ((2*(i:Int)+(b:Int)) % 536870912=(((2*i+b) % 536870912:Nat):Int)):=by show _=_;omega
 have HI:Hid (i<536870912):=hi;have hi2:(i:Int)<1000000000:=om;clear hi;generalize (2*i+b) % 536870912=i' at *;rcases hf with rfl|rfl
 all_goals
  go_enter Tryz.func110,Tryz.ntmps110;go_wp2;refine QF (v:=frV e i' r d a n cap) (by simp[results,Tryz.results110,go_sem,HE.o]) rfl ?_;exact⟨rfl,qw.alloc pQ _⟩
def tm (w:World) (f:Int) (hf:f=3\/f=6) (e:Bool) (i:Nat) (r:Bool) (d:Int) (a:Option Addr) (n cap:Nat) (t:Int) (b:Nat) (hb:b<2) :
  Calls Tp 110 #[frV e i r d a n cap,I J f,I J t,I J (b:Int)] w fun o w'=>o = rT (frV e i (b == 1) d a n cap)/\Bl w w':=by
 have hb':b=0\/b=1:=om;rcases hf with rfl | rfl <;> rcases hb' with rfl | rfl
 all_goals
  go_enter Tryz.func110,Tryz.ntmps110;go_wp2;refine QF (v:=frV e i _ d a n cap) (by simp[results,Tryz.results110,go_sem];rfl) rfl ?_;exact⟨rfl,qw.alloc pQ _⟩
def tq (w:World) (e:Bool) (i:Nat) (r:Bool) (d:Int) (a:Option Addr) (n cap:Nat) (t:Int) (b:Nat) (hb:b<2) :
  Calls Tp 110 #[frV e i r d a n cap,I J 4,I J t,I J (b:Int)] w fun o w'=>o = rT (frV (b == 1) i (if b=1 then false else r) d a n cap)/\Bl w w':=by
 have hb':b=0\/b=1:=om;rcases hb' with rfl|rfl
 .go_enter Tryz.func110,Tryz.ntmps110;go_wp2;refine QF (v:=frV false i r d a n cap) (by simp[results,Tryz.results110,go_sem]) rfl ?_;exact⟨rfl,qw.alloc pQ _⟩
 .go_enter Tryz.func110,Tryz.ntmps110;go_wp2;refine QF (v:=frV true i false d a n cap) (by simp[results,Tryz.results110,go_sem]) rfl ?_;exact⟨rfl,qw.alloc pQ _⟩
def tr (w:World) (e:Bool) (i:Nat) (r:Bool) (d:Int) (hd:0<=d) (hd1:d<=15) (a:Option Addr) (n cap:Nat) (t:Int) (b:Nat) (hb:b<2) :
  Calls Tp 110 #[frV e i r d a n cap,I J 8,I J t,I J (b:Int)] w fun o w'=>o = rT (frV e i r ((2*d+b) % 16) a n cap)/\Bl w w':=by
 go_enter Tryz.func110,Tryz.ntmps110;go_wp2;refine QF (v:=frV e i r ((2*d+b) % 16) a n cap) (by simp[results,Tryz.results110,go_sem]) rfl ?_;exact⟨rfl,qw.alloc pQ _⟩
def tp (w:World) (f:Int) (h2:f≠2) (h3:f≠3) (h4:f≠4) (h5:f≠5) (h6:f≠6) (h8:f≠8) (h9:f≠9) (e:Bool) (i:Nat) (r:Bool) (d:Int) (a:Option Addr) (n cap:Nat) (t:Int) (b:Nat) :
  Calls Tp 110 #[frV e i r d a n cap,I J f,I J t,I J (b:Int)] w fun o w'=>o = rT (frV e i r d a n cap)/\Bl w w':=by
 go_enter Tryz.func110,Tryz.ntmps110;go_wp2;refine QF (v:=frV e i r d a n cap) (by simp[results,Tryz.results110,go_sem]) rfl ?_;exact⟨rfl,qw.alloc pQ _⟩
def ts (w:World) (B:Nat) (hB:B<=w.heap.size) (e:Bool) (i:Nat) (r:Bool) (d:Int) (g n k:Nat) (l:List Nat) (ho:aa w B (sL (sQ ⟨g,0,nn⟩) n k) l) (hn:n=l.length) (hn8:n<=8) (t:Nat) (ht:t % 8=0) (ht1:t<=100) (b:Nat) (hb:b<2) :
  Calls Tp 110 #[frV e i r d (sQ ⟨g,0,nn⟩) n k,I J 9,I J (t:Int),I J (b:Int)] w fun o w'=>∃ g' k',o = rT (frV e i r d (sQ ⟨g',0,nn⟩) (n+1) k')/\aa w' B (sL (sQ ⟨g',0,nn⟩) (n+1) k') (l++[b])/\Below B w w'/\(∀ q,q≠g->q<w.heap.size->w'.heap[q]?=w.heap[q]?)/\(g'=g\/w.heap.size<=g'):=by
 have HL:Hid (n=l.length):=hn;have hgl:=QC ho g rfl;have HGL:Hid (B<=g/\g<w.heap.size):=hgl;have HO:Hid (World.ownsRow (((w.alloc (.cells #[bO e,I zn (i:Int),bO r,I J d,sL (sQ ⟨g,0,nn⟩) n k] 47)).alloc (.cells #[bO false,I zn 0,bO false,I J 0,sL nn 0 0] 47)).alloc (.cells #[I .u8 (b:Int)] 5)) B 5 1 (sL (sQ ⟨g,0,nn⟩) n k) n (bv l)):=by
  have:=ho.below ((((bW w.heap.size w).alloc (nR _) (.cells #[bO e,I zn (i:Int),bO r,I J d,sL (sQ ⟨g,0,nn⟩) n k] 47)).alloc pQ (.cells #[bO false,I zn 0,bO false,I J 0,sL nn 0 0] 47)).alloc (by simp;omega) (.cells #[I .u8 (b:Int)] 5));unfold aa at this;rw[<- hn] at this;exact this
 have HP:Hid (blk (((w.alloc (.cells #[bO e,I zn (i:Int),bO r,I J d,sL (sQ ⟨g,0,nn⟩) n k] 47)).alloc (.cells #[bO false,I zn 0,bO false,I J 0,sL nn 0 0] 47)).alloc (.cells #[I .u8 (b:Int)] 5)) w.heap.size [bO e,I zn (i:Int),bO r,I J d,sL (sQ ⟨g,0,nn⟩) n k] 47):=((blk.new w _ 47).alloc _).alloc _;have HR:Hid (blk (((w.alloc (.cells #[bO e,I zn (i:Int),bO r,I J d,sL (sQ ⟨g,0,nn⟩) n k] 47)).alloc (.cells #[bO false,I zn 0,bO false,I J 0,sL nn 0 0] 47)).alloc (.cells #[I .u8 (b:Int)] 5)) (w.heap.size+1) ([]++[bO false,I zn 0,bO false,I J 0,sL nn 0 0]++[]) 47):=by
  have:=(blk.new (w.alloc (.cells #[bO e,I zn (i:Int),bO r,I J d,sL (sQ ⟨g,0,nn⟩) n k] 47)) [bO false,I zn 0,bO false,I J 0,sL nn 0 0] 47).alloc (.cells #[I .u8 (b:Int)] 5);simpa[Hid] using this
 have HX:Hid (blk (((w.alloc (.cells #[bO e,I zn (i:Int),bO r,I J d,sL (sQ ⟨g,0,nn⟩) n k] 47)).alloc (.cells #[bO false,I zn 0,bO false,I J 0,sL nn 0 0] 47)).alloc (.cells #[I .u8 (b:Int)] 5)) (w.heap.size+1+1) [I .u8 (b:Int)] 5):=by
  have:=blk.new ((w.alloc (.cells #[bO e,I zn (i:Int),bO r,I J d,sL (sQ ⟨g,0,nn⟩) n k] 47)).alloc (.cells #[bO false,I zn 0,bO false,I J 0,sL nn 0 0] 47)) [I .u8 (b:Int)] 5;simpa[Hid] using this
 have HBL:Hid (Bl w (((w.alloc (.cells #[bO e,I zn (i:Int),bO r,I J d,sL (sQ ⟨g,0,nn⟩) n k] 47)).alloc (.cells #[bO false,I zn 0,bO false,I J 0,sL nn 0 0] 47)).alloc (.cells #[I .u8 (b:Int)] 5))):=(qw.alloc pQ _).alloc (by simp;omega) _;have h8:((t:Int)).tmod 8=0:=by rw[qh om];omega
 clear ho hn hgl;go_enter Tryz.func110,Tryz.ntmps110
 go_wp2_with (first
  | (at_builtin;refine oV rfl (.tmp 51) (.tmp 54) 45 5 _ 1 1 Tryz.info5 Tryz.underlying45 rfl (by decide) (by decide) rfl B g n k (bv l) rfl HO.o (w.heap.size+1+1) [I .u8 (b:Int)] rfl rfl HX.o (by intro u hu;simp at hu;subst hu;rfl) om (by simp;omega) ?_;intro g' k' w6 ho6 hg6 hg' hB6;have hgl:=HGL.o;have P6:=HP.o.kept (hg6.block _ (by simp;omega) (by intro e;cases e;omega));have R6:=HR.o.kept (hg6.block _ pQ (by intro e;cases e;omega));have x4:=P6.cell 4 _ rfl;have f4:=P6.free 4;have HP6:Hid (blk w6 w.heap.size [bO e,I zn (i:Int),bO r,I J d,sL (sQ ⟨g,0,nn⟩) n k] 47):=P6;have HR6:Hid (blk w6 (w.heap.size+1) ([]++[bO false,I zn 0,bO false,I J 0,sL nn 0 0]++[]) 47):=R6;have HO6:Hid (w6.ownsRow B 5 1 (sL (sQ ⟨g',0,nn⟩) (n+1) k') (n+1) (bv l++[I .u8 (b:Int)])):=ho6;have HO66:Hid ((∀ q,q≠g->q<w.heap.size->w6.heap[q]?=w.heap[q]?)/\(g'=g\/w.heap.size<=g')):=⟨fun q h1 h2=>(hg6.block q (by simp;omega) (by intro e;cases e;exact h1 rfl)).trans (HBL.o.block q h2),Or.elim hg' (fun h=>qr h) (fun h=>qy (by rw[h];simp;omega))⟩;have HB6:Hid (Below B w w6/\(g'<w.heap.size\/w.heap.size+1<g')):=⟨(HBL.o.mono hB).grown hg6 (by simp;omega) (by intro q hq;cases hq;exact hgl.1),Or.elim hg' (fun h=>qr om) (fun h=>qy (by rw[h];simp))⟩;clear P6 R6 ho6 hg6 hgl hg' hB6)
  | (refine qG 47 (HP6.o.set 4 (sL (sQ ⟨g',0,nn⟩) (n+1) k')).load Tryz.underlying47 gp ?_)
  | (refine QE (P:=Tp) rfl 47 (.tmp 8) (.tmp 74) rfl (w.heap.size+1) 0 #[bO e,I zn (i:Int),bO r,I J d,sL (sQ ⟨g',0,nn⟩) (n+1) k'] rfl rfl ((HR6.o.setOther om 4 (sL (sQ ⟨g',0,nn⟩) (n+1) k')).there 0 5 pQ) gp (pP _ _ _ _ _ _ _) ?_;generalize hW8:World.setCells (World.setCell _ _ _) (w.heap.size+1) 0 _=w8;have HW8:Hid (World.setCells (w6.setCell ⟨w.heap.size,4,nn⟩ (sL (sQ ⟨g',0,nn⟩) (n+1) k')) (w.heap.size+1) 0 [bO e,I zn (i:Int),bO r,I J d,sL (sQ ⟨g',0,nn⟩) (n+1) k']=w8):=hW8;clear hW8))
 have e8:=HW8.o;have hF:blk w8 (w.heap.size+1) [bO e,I zn (i:Int),bO r,I J d,sL (sQ ⟨g',0,nn⟩) (n+1) k'] 47:=e8 ▸ blk.put [] [bO false,I zn 0,bO false,I J 0,sL nn 0 0] [] _ (HR6.o.setOther om 4 _) rfl;have hL:=QJ (P:=Tp) w8 (w.heap.size+1) 0 47 _ _ hF.load Tryz.underlying47 rfl gp;refine bC Tryz.results110 hL ?_;obtain⟨b1,b2⟩:=HB6.o;refine⟨g',k',rfl,?_,?_,fun q h1 h2=>?_,HO66.o.2⟩
 .have h1:=dj (w':=w8) HO6.o (by rw[<- e8,sO _ _ om,QB _ _ _ _ (by show g'≠w.heap.size;omega)]);unfold aa;rw[nu,qe,<- HL.o];exact h1
 .rw[<- e8];exact sW om _ _ (b1.setCell (by show B<=w.heap.size;omega) _)
 .rw[<- e8,sO _ _ om,QB _ _ _ _ (by show q≠w.heap.size;omega)];exact HO66.o.1 q h1 h2
structure tS (w:World) (B:Nat) (e:Bool) (i:Nat) (r:Bool) (d:Int) (g n k:Nat) (W:World):Prop where
 p:blk W w.heap.size [bO e,I zn (i:Int),bO r,I J d,sL (sQ ⟨g,0,nn⟩) n k] 47
 r:blk W (w.heap.size+1) ([]++[bO false,I zn 0,bO false,I J 0,sL nn 0 0]++[]) 47
 b:Below B w W
def Jk (x b:Nat):IntKind.u8.wrap (IntKind.u8.wrap (2*(x:Int))+(b:Int))=(((2*x+b) % 256:Nat):Int):=by
 rw[IntKind.wrap_u8,IntKind.wrap_u8];omega
def Ah (l:List Nat) (j x:Nat):bv (l.set j x)=(bv l).set j (I .u8 (x:Int)):=by simp[bv,List.map_set]
def rd (w:World) (B:Nat) (hB:B<=w.heap.size) (e:Bool) (i:Nat) (r:Bool) (d:Int) (g m k:Nat) (l:List Nat) (ho:aa w B (sL (sQ ⟨g,0,nn⟩) (m+1) k) l) (hn:m+1=l.length) (hn8:m<=7) (t:Nat) (ht:t % 8≠0) (ht1:t<=100) (b:Nat) (hb:b<2) :
  Calls Tp 110 #[frV e i r d (sQ ⟨g,0,nn⟩) (m+1) k,I J 9,I J (t:Int),I J (b:Int)] w fun o w'=>o = rT (frV e i r d (sQ ⟨g,0,nn⟩) (m+1) k)/\aa w' B (sL (sQ ⟨g,0,nn⟩) (m+1) k) (l.set m ((2*l.getD m 0+b) % 256))/\Below B w w'/\(∀ q,q≠g->q<w.heap.size->w'.heap[q]?=w.heap[q]?):=by
 have hgl:=QC ho g rfl;have HGL:Hid (B<=g/\g<w.heap.size):=hgl;have h1:w.ownsRow B 5 1 (sL (sQ ⟨g,0,nn⟩) (m+1) k) (m+1) (bv l):=by unfold aa at ho;rw[<- hn] at ho;exact ho
 have HC:Hid (w.cell? ⟨g,m,nn⟩=sQ (I .u8 ((l.getD m 0:Nat):Int))/\w.frozen? ⟨g,m,nn⟩=false):=by
  have h2:=QZ h1 m om;have h3:m<l.length:=om;rw[nt l m h3] at h2;simp only[List.getD,qA h3,Option.getD_some];exact⟨h2,QV h1 m⟩
 have HO:Hid (w.ownsRow B 5 1 (sL (sQ ⟨g,0,nn⟩) (m+1) k) (m+1) (bv l)):=h1;have HL:Hid (m+1=l.length):=hn;have hkk:m+1<=k:=by
  rcases h1.2 with⟨e,_⟩|⟨g1,cap,cur,hv',hb,hg,hcp,hmx,hsz,htk⟩
  .cases e
  .cases hv';exact hcp
 generalize hX:l.getD m 0=x at *;have HE:=Jk x b;generalize (2*x+b) % 256=y at *;have hS0:tS w B e i r d g (m+1) k ((w.alloc (.cells #[bO e,I zn (i:Int),bO r,I J d,sL (sQ ⟨g,0,nn⟩) (m+1) k] 47)).alloc (.cells #[bO false,I zn 0,bO false,I J 0,sL nn 0 0] 47)):=by
  refine⟨(blk.new w _ 47).alloc _,?_,(qw.alloc pQ _).mono hB⟩;have:=blk.new (w.alloc (.cells #[bO e,I zn (i:Int),bO r,I J d,sL (sQ ⟨g,0,nn⟩) (m+1) k] 47)) [bO false,I zn 0,bO false,I J 0,sL nn 0 0] 47;simpa using this
 have HS0:Hid (tS w B e i r d g (m+1) k ((w.alloc (.cells #[bO e,I zn (i:Int),bO r,I J d,sL (sQ ⟨g,0,nn⟩) (m+1) k] 47)).alloc (.cells #[bO false,I zn 0,bO false,I J 0,sL nn 0 0] 47))/\Bl w ((w.alloc (.cells #[bO e,I zn (i:Int),bO r,I J d,sL (sQ ⟨g,0,nn⟩) (m+1) k] 47)).alloc (.cells #[bO false,I zn 0,bO false,I J 0,sL nn 0 0] 47))):=⟨hS0,qw.alloc pQ _⟩
 have h8:((t:Int)).tmod 8≠0:=by rw[qh om];omega
 clear ho hn hgl hS0 hX h1;go_enter Tryz.func110,Tryz.ntmps110;go_wp2_with fail;refine QK (S:=tS w B e i r d g (m+1) k) kr ?_;generalize hW2:(w.alloc (.cells #[bO e,I zn (i:Int),bO r,I J d,sL (sQ ⟨g,0,nn⟩) (m+1) k] 47)).alloc (.cells #[bO false,I zn 0,bO false,I J 0,sL nn 0 0] 47)=W2 at *;obtain⟨wd,hwd⟩ : ∃ wd,wd=W2.drew:=⟨_,rfl⟩
 change wpAnyH _ _ _ _ _ _ _ _ W2.drew;rw[<- hwd];have hwb:Bl W2 wd:=hwd ▸ (bW _ _).drew;have hs:tS w B e i r d g (m+1) k wd:=⟨HS0.o.1.p.below hwb,HS0.o.1.r.below hwb,HS0.o.1.b.trans (hwb.mono (nT hB HS0.o.2.size))⟩
 have HWD:Hid (Bl w wd):=HS0.o.2.trans (hwb.mono HS0.o.2.size);have hc:=(HWD.o.cell (p:=⟨g,m,nn⟩) HGL.o.2).trans HC.o.1;have hfz:=(HWD.o.frozen (p:=⟨g,m,nn⟩) HGL.o.2).trans HC.o.2;have HO2:Hid (wd.ownsRow B 5 1 (sL (sQ ⟨g,0,nn⟩) (m+1) k) (m+1) (bv l)):=dj HO.o (HWD.o.block g HGL.o.2);clear HS0 hwb hwd hW2 HO HC;refine wV 0 (pT (sQ ⟨w.heap.size,4,nn⟩)) ?_ hs ?_
 .intro W hW;clear hs;go_simp
 simp only[Act.put,aA,aB,aC,aD,aE];refine wV 1 (sL (sQ ⟨g,0,nn⟩) (m+1) k) ?_ hs ?_
 .intro W hW;clear hs;have z4:=hW.p.cell 4 _ rfl;go_simp
 simp only[aZ];refine wV 2 (I J (m:Int)) ?_ hs ?_
 .intro W hW;clear hs;go_simp
 simp only[aZ];refine wV 3 (pT (sQ ⟨w.heap.size,4,nn⟩)) ?_ hs ?_
 .intro W hW;clear hs;go_simp
 simp only[aZ];refine wV 4 (sL (sQ ⟨g,0,nn⟩) (m+1) k) ?_ hs ?_
 .intro W hW;clear hs;have z4:=hW.p.cell 4 _ rfl;go_simp
 simp only[aZ];refine wV 5 (I J (m:Int)) ?_ hs ?_
 .intro W hW;clear hs;go_simp
 simp only[aZ];refine wV 6 (pT (sQ ⟨g,m,nn⟩)) ?_ hs ?_
 .intro W hW;clear hs;go_simp;intro h;omega
 simp only[aZ];refine wV 9 (I J (b:Int)) ?_ hs ?_
 .intro W hW;clear hs;go_simp
 simp only[aZ];refine wV 10 (I .u8 (b:Int)) ?_ hs ?_
 .intro W hW;clear hs;go_simp;rw[IntKind.wrap_u8];omega
 simp only[aZ];refine QG (rs:=[7]) kr pQ ?_;refine Q9 rfl (fun K hK=>?_) za;go_simp;refine hK.out _ _ hs (fun hs2=>?_);clear hK K hs2;refine wV 8 (I .u8 (IntKind.u8.wrap (2*(x:Int)))) ?_ hs ?_
 .intro W hW;clear hs;go_simp
 simp only[aZ];refine wV 11 (I .u8 (y:Int)) ?_ hs ?_
 .intro W hW;clear hs;go_simp
 simp only[aZ];refine wV 12 (pT (sQ ⟨g,m,nn⟩)) ?_ hs ?_
 .intro W hW;clear hs;go_simp;intro h;omega
 simp only[aZ];refine QG (rs:=[13]) kr pQ ?_;refine Q9 rfl (fun K hK=>?_) za;go_simp;have hgl:=HGL.o;have hs9:tS w B e i r d g (m+1) k (wd.setCell ⟨g,m,nn⟩ (I .u8 (y:Int))):=⟨hs.p.setOther om _ _,hs.r.setOther om _ _,hs.b.setCell (by show B<=g;omega) _⟩
 refine hK.out _ _ hs9 (fun hs2=>?_);clear hK K hs2 hs;refine QI kr ?_ _;have HS9:Hid _:=hs9;have HK9:Hid (∀ q,q≠g->q<w.heap.size->(wd.setCell ⟨g,m,nn⟩ (I .u8 (y:Int))).heap[q]?=w.heap[q]?):=fun q h1 h2=>(QB _ _ _ _ (by exact h1)).trans (HWD.o.block q h2);have HO9:Hid ((wd.setCell ⟨g,m,nn⟩ (I .u8 (y:Int))).ownsRow B 5 1 (sL (sQ ⟨g,0,nn⟩) (m+1) k) (m+1) ((bv l).set m (I .u8 (y:Int)))):=(World.ownsRow.stored HO2.o m _).1
 generalize wd.setCell ⟨g,m,nn⟩ (I .u8 (y:Int))=w9 at *;clear hs9 hc hfz;go_wp2_with (first
  | (refine qG 47 HS9.o.p.load Tryz.underlying47 gp ?_)
  | (refine QE (P:=Tp) rfl 47 (.tmp 8) (.tmp 74) rfl (w.heap.size+1) 0 #[bO e,I zn (i:Int),bO r,I J d,sL (sQ ⟨g,0,nn⟩) (m+1) k] rfl rfl (HS9.o.r.there 0 5 pQ) gp (pP _ _ _ _ _ _ _) ?_;generalize hW8:World.setCells w9 (w.heap.size+1) 0 _=w8;have HW8:Hid (World.setCells w9 (w.heap.size+1) 0 [bO e,I zn (i:Int),bO r,I J d,sL (sQ ⟨g,0,nn⟩) (m+1) k]=w8):=hW8;clear hW8))
 have e8:=HW8.o;have hF:blk w8 (w.heap.size+1) [bO e,I zn (i:Int),bO r,I J d,sL (sQ ⟨g,0,nn⟩) (m+1) k] 47:=e8 ▸ blk.put [] [bO false,I zn 0,bO false,I J 0,sL nn 0 0] [] _ HS9.o.r rfl;have hL:=QJ (P:=Tp) w8 (w.heap.size+1) 0 47 _ _ hF.load Tryz.underlying47 rfl gp;refine bC Tryz.results110 hL ?_;refine⟨rfl,?_,?_,fun q h1 h2=>?_⟩
 .have h1:=dj (w':=w8) HO9.o (by rw[<- e8,sO _ _ om]);unfold aa;rw[Ah,qK,<- HL.o];exact h1
 .rw[<- e8];exact sW om _ _ HS9.o.b
 .rw[<- e8,sO _ _ om];exact HK9.o q h1 h2
def cx (l:List Nat) (lf:Int) (b:Nat):List Nat:=if lf % 8=0 then l++[b] else l.set (l.length-1) ((2*l.getD (l.length-1) 0+b) % 256)
def ax (S:Sc) (b:Nat):Sc:=
 if S.f=2\/S.f=5 then { S with i:=(2*S.i+b) % 536870912 }
 else if S.f=3\/S.f=6 then { S with r:=b == 1 }
 else if S.f=4 then { S with e:=b == 1,r:=if b=1 then false else S.r }
 else if S.f=8 then { S with d:=(2*S.d+b) % 16 }
 else if S.f=9 then { S with l:=cx S.l S.lf b }
 else S
def tt (w:World) (B:Nat) (hB:B<=w.heap.size) (S:Sc) (hS:okS S) (g n k:Nat) (ho:aa w B (sL (sQ ⟨g,0,nn⟩) n k) S.l) (hn:n=S.l.length) (t:Int) (ht:t=bh S.f S.e S.d-S.lf) (b:Nat) (hb:b<2) :
  Calls Tp 110 #[frV S.e S.i S.r S.d (sQ ⟨g,0,nn⟩) n k,I J S.f,I J t,I J (b:Int)] w fun o w'=>∃ g' n' k',o = rT (frV (ax S b).e (ax S b).i (ax S b).r (ax S b).d (sQ ⟨g',0,nn⟩) n' k')/\aa w' B (sL (sQ ⟨g',0,nn⟩) n' k') (ax S b).l/\n'=(ax S b).l.length/\Below B w w'/\(∀ q,q≠g->q<w.heap.size->w'.heap[q]?=w.heap[q]?)/\(g'=g\/w.heap.size<=g'):=by
 have key:∀ (X:Sc),X=ax S b->X.l=S.l->(∀ (o:Ending) (w':World),o = rT (frV X.e X.i X.r X.d (sQ ⟨g,0,nn⟩) n k)/\Bl w w'->∃ g' n' k',o = rT (frV (ax S b).e (ax S b).i (ax S b).r (ax S b).d (sQ ⟨g',0,nn⟩) n' k')/\aa w' B (sL (sQ ⟨g',0,nn⟩) n' k') (ax S b).l/\n'=(ax S b).l.length/\Below B w w'/\(∀ q,q≠g->q<w.heap.size->w'.heap[q]?=w.heap[q]?)/\(g'=g\/w.heap.size<=g')):=by
  rintro X rfl hl o w' ⟨rfl,hbel⟩;exact⟨g,n,k,rfl,by rw[hl];exact ho.below hbel,by rw[hl];exact hn,hbel.mono hB,fun q _ h2=>hbel.block q h2,qr rfl⟩
 obtain⟨s1,s2,s3,s4,s5,s6,s7,s8,s9,s10,s11,s12,s13,s14,s15,s16,s17,s18,s19⟩:=hS;by_cases h1:S.f=2\/S.f=5
 .exact (wC w S.f h1 S.e S.i s3 S.r S.d _ n k t b hb).mono (key { S with i:=(2*S.i+b) % 536870912 } (by unfold ax;rw[zc h1]) rfl)
 by_cases h2:S.f=3\/S.f=6
 .exact (tm w S.f h2 S.e S.i S.r S.d _ n k t b hb).mono (key { S with r:=b == 1 } (by unfold ax;rw[zb h1,zc h2]) rfl)
 by_cases h3:S.f=4
 .have:=tq w S.e S.i S.r S.d (sQ ⟨g,0,nn⟩) n k t b hb;rw[<- h3] at this;exact this.mono (key { S with e:=b == 1,r:=if b=1 then false else S.r } (by unfold ax;rw[zb h1,zb h2,zc h3]) rfl)
 by_cases h4:S.f=8
 .have:=tr w S.e S.i S.r S.d s4 s5 (sQ ⟨g,0,nn⟩) n k t b hb;rw[<- h4] at this;exact this.mono (key { S with d:=(2*S.d+b) % 16 } (by unfold ax;rw[zb h1,zb h2,zb h3,zc h4]) rfl)
 by_cases h5:S.f=9
 .have e:ax S b = { S with l:=cx S.l S.lf b }:=by unfold ax;rw[zb h1,zb h2,zb h3,zb h4,zc h5]
  rw[e];obtain⟨r1,r2,r3⟩:=s19 h5;have hz:bh S.f S.e S.d=if S.d > 8 then 64 else 8*S.d:=by unfold bh;rw[h5];rfl
  have hz8:bh S.f S.e S.d % 8=0:=by rw[hz];split <;> omega
  have hzl:=fX S.f S.e S.d s4 s5;obtain⟨T,rfl⟩ : ∃ T:Nat,t=(T:Int):=⟨t.toNat,om⟩
  by_cases h8:S.lf % 8=0
  .have:=ts w B hB S.e S.i S.r S.d g n k S.l ho hn om T om om b hb;rw[<- h5] at this;refine this.mono ?_;rintro o w' ⟨g',k',rfl,q1,q2,q3,q4⟩;exact⟨g',n+1,k',rfl,by show aa w' B _ (cx S.l S.lf b);unfold cx;rw[zc h8];exact q1,by show n+1=(cx S.l S.lf b).length;unfold cx;rw[zc h8,qe,hn];rfl,q2,q3,q4⟩
  .obtain⟨m,rfl⟩ : ∃ m,n=m+1:=⟨n-1,om⟩
   have:=rd w B hB S.e S.i S.r S.d g m k S.l ho hn om T om om b hb;rw[<- h5] at this;refine this.mono ?_;rintro o w' ⟨rfl,q1,q2,q3⟩;have em:S.l.length-1=m:=om;exact⟨g,m+1,k,rfl,by show aa w' B _ (cx S.l S.lf b);unfold cx;rw[zb h8,em];exact q1,by show m+1=(cx S.l S.lf b).length;unfold cx;rw[zb h8,qK];exact hn,q2,q3,qr rfl⟩
 .exact (tp w S.f om om h3 om om h4 h5 S.e S.i S.r S.d _ n k t b).mono (key S (by unfold ax;rw[zb h1,zb h2,zb h3,zb h4,zb h5]) rfl)
set_option maxRecDepth 40000
variable {w:World} {b:Nat} {s:Sl}
structure Co where
 p:Int
 ct:Int
 lv:Int
 wk:Bool
 ov:Bool
 ow:Bool
 tx:Bool
 ak:Bool
 rn:Int
 te:Int
 re:Int
 ho:Ho
abbrev coV (C:Co) (s:Sl):Value:=aG #[I J C.p,I J C.ct,I J C.lv,bO C.wk,bO C.ov,bO C.ow,bO C.tx,bO C.ak,I J C.rn,I J C.te,I J C.re,I J C.ho.c0,I J C.ho.c1,I J C.ho.c2,I J C.ho.c3,sL s.a1 s.n1 s.k1,sL s.a2 s.n2 s.k2,sL s.a3 s.n3 s.k3,sL s.a4 s.n4 s.k4,I J C.ho.lo,I J C.ho.st]
def sB (w:World) (C:Co) (s:Sl) (h:aK w C.ho s) (hn:C.ho.le 9223372036854775807) :
  Calls Tp 18 #[coV C s,I J 1048576] w fun o w'=>∃ z:Int,o = rT (I J z)/\Bl w w'/\(z = -1\/∃ m':Nat,z=(m':Int)/\C.ho.le 1048576/\m'<=1048576):=by
 have HC:Hid (∀ X,Bl w X->Calls Tp 51 #[hoV C.ho s,I J 1048576] X fun o w'=>∃ z:Int,o = rT (I J z)/\Bl w w'/\(z = -1\/∃ m':Nat,z=(m':Int)/\C.ho.le 1048576/\m'<=1048576)):=by
  intro X hX;refine (sA X C.ho s (h.below hX) hn 1048576 om).mono ?_;rintro o w' ⟨z,rfl,h1,h2⟩;exact⟨z,rfl,hX.trans (h1.mono hX.size),h2⟩
 clear h hn;obtain⟨p,ct,lv,wk,ov,ow,tx,ak,rn,te,re,⟨c0,c1,c2,c3,fs,bx,ff,qu,lo,st⟩⟩:=C;obtain⟨a1,n1,k1,a2,n2,k2,a3,n3,k3,a4,n4,k4⟩:=s;go_enter Tryz.func18,Tryz.ntmps18;go_wp2_with (go_at_call 51;refine (HC.o _ qw).mono ?_;rintro o w2 ⟨z,rfl,B2,h2⟩;have HB2:Hid (Bl w w2):=B2;clear B2;rcases h2 with rfl | ⟨m',rfl,hle⟩)
 .go_ret;exact⟨_,rfl,HB2.o,.inl rfl⟩
 .go_ret;exact⟨_,rfl,HB2.o,.inr ⟨m',rfl,hle⟩⟩
def rJ (w:World) (C:Co) (s s':Sl) (h:aK w C.ho s) (h':aK w C.ho s') (hn:C.ho.le 1048576) :
  Calls Tp 29 #[coV C s,coV C s'] w fun o w'=>o = rT (bO true)/\Bl w w':=by
 have HC:Hid (∀ X,Bl w X->Calls Tp 68 #[hoV C.ho s,hoV C.ho s'] X fun o w'=>o = rT (bO true)/\Bl w w'):=by
  intro X hX;refine (rI X C.ho s s' (h.below hX) (h'.below hX) hn).mono ?_;rintro o w' ⟨rfl,h1⟩;exact⟨rfl,hX.trans (h1.mono hX.size)⟩
 clear h h' hn;obtain⟨p,ct,lv,wk,ov,ow,tx,ak,rn,te,re,⟨c0,c1,c2,c3,fs,bx,ff,qu,lo,st⟩⟩:=C;obtain⟨a1,n1,k1,a2,n2,k2,a3,n3,k3,a4,n4,k4⟩:=s;obtain⟨b1,m1,l1,b2,m2,l2,b3,m3,l3,b4,m4,l4⟩:=s';have hb:∀ b:Bool,(b != b)=false:=by intro b;simp
 have hi:∀ i:Int,(i != i)=false:=by intro i;simp
 go_enter Tryz.func29,Tryz.ntmps29;go_wp2_with (go_at_call 68;refine (HC.o _ (qw.alloc pQ _)).mono ?_;rintro o w2 ⟨rfl,B2⟩);go_ret;exact⟨rfl,B2⟩
def coL (C:Co) (s:Sl):List Value:=[I J C.p,I J C.ct,I J C.lv,bO C.wk,bO C.ov,bO C.ow,bO C.tx,bO C.ak,I J C.rn,I J C.te,I J C.re,I J C.ho.c0,I J C.ho.c1,I J C.ho.c2,I J C.ho.c3,sL s.a1 s.n1 s.k1,sL s.a2 s.n2 s.k2,sL s.a3 s.n3 s.k3,sL s.a4 s.n4 s.k4,I J C.ho.lo,I J C.ho.st]
def coM (C:Co):List Value:=[I J C.p,I J C.ct,I J C.lv,bO C.wk,bO C.ov,bO C.ow,bO C.tx,bO C.ak,I J C.rn,I J C.te,I J C.re]
def Ac (C:Co) (s:Sl):coV C s = aG (coL C s).toArray:=rfl
def cL (C:Co) (s:Sl):(coL C s).length=21:=rfl
def CM (C:Co) (s:Sl):coL C s=coM C++hoL C.ho s:=rfl
def cO (C:Co) (s:Sl):(coL C s).toArray.all (·.oneCell')=true:=QL (by simp[coL,Value.oneCell'])
def Kb:(Tp.info? 31).map (·.size)=some 21:=kr
def pw:(Tp.info? 43).map (·.size)=some 21:=kr
def I5 (C:Co) (s:Sl):(Tp.info? 31).map (·.size)=some (coL C s).length:=Kb
def cy (C:Co) (s:Sl):(Tp.info? 43).map (·.size)=some (coL C s).length:=pw
def nO (C:Co) (s:Sl):(Tp.info? 43).map (·.size)=some (coL C s).toArray.size:=pw
def Z21:List Value:=[I J 0,I J 0,I J 0,bO false,bO false,bO false,bO false,bO false,I J 0,I J 0,I J 0,I J 0,I J 0,I J 0,I J 0,sL none 0 0,sL none 0 0,sL none 0 0,sL none 0 0,I J 0,I J 0]
def blk.hostAt {C:Co} {T:TypeId} (h:blk w b (coL C s) T):w.rangeAt b 11 (hoL C.ho s):=by
 have h':blk w b (coM C++hoL C.ho s++[]) T:=by rw[Qw,<- CM];exact h
 exact h'.loadAt (coM C) (hoL C.ho s) []
def jT (H:Ho) (s:Sl):(Tp.info? 41).map (·.size)=some (hoL H s).length:=kr
structure ctS (w:World) (b:Nat) (C:Co) (s:Sl) (W:World):Prop where
 p:blk W b (coL C s) 43
 b:Bl w W
def ctS.below {C:Co} {W W':World} (h:ctS w b C s W) (hb:Bl W W'):ctS w b C s W':=⟨h.p.below hb,h.b.trans (hb.mono h.b.size)⟩
def ctS.new (w:World) (C:Co) (s:Sl):ctS w w.heap.size C s (w.alloc (.cells (coL C s).toArray 43)):=⟨blk.new w _ 43,qw⟩
def sgL:List Value:=[I J 0,I J 0,bO false,bO false,I J 0,bO false,I .u32 0,bO false,I J 0,sL none 0 0]
def mcH (P:Nat) (C:Co):List Value:=[pT (some ⟨P,0,none⟩),I J C.te,I J C.re,I J C.p,I J C.ct,I J C.lv,bO C.wk,bO C.ov,bO C.ow,bO C.tx,bO C.ak,I J C.rn]
def mcL (P:Nat) (C:Co):List Value:=mcH P C++(sgL++prL)
def oc {R:Nat->World->Prop} (hR:∀ P W W',R P W->Bl W W'->R P W') (w:World) (C:Co) (s:Sl) (ho:∀ W,Bl w W->Calls Tp 123 #[aG (hoL C.ho s).toArray] W fun o w'=>∃ P,o = rT (pT (some ⟨P,0,none⟩))/\R P w'/\Bl W w') :
  Calls Tp 61 #[aG (coL C s).toArray] w fun o w'=>∃ P w5,o = rT (pT (some ⟨w5.heap.size,0,none⟩))/\w'=w5.alloc (.cells (mcL P C).toArray 151)/\R P w5/\Bl w w5:=by
 have HO:Hid (∀ W,Bl w W->Calls Tp 123 #[aG (hoL C.ho s).toArray] W fun o w'=>∃ P,o = rT (pT (some ⟨P,0,none⟩))/\R P w'/\Bl W w'):=ho;have HR:Hid (∀ P W W',R P W->Bl W W'->R P W'):=hR;have HP:Hid (∀ W,Calls Tp 124 #[] W fun o w'=>o = rT (aG prL.toArray)/\Bl W w'):=fun W=>iN W;have H0:Hid (ctS w w.heap.size C s (w.alloc (.cells (coL C s).toArray 43))):=ctS.new w C s;clear ho hR;go_enter Tryz.func61,Tryz.ntmps61;go_wp2_with fail;refine QK (S:=fun X=>ctS w w.heap.size C s X) kr ?_;have hS:ctS w w.heap.size C s (World.drew (w.alloc (.cells (coL C s).toArray 43))):=H0.o.below (bW _ _).drew;clear H0;change wpAnyH Tp _ _ _ _ _ _ _ (World.drew (w.alloc (.cells (coL C s).toArray 43)));generalize World.drew (w.alloc (.cells (coL C s).toArray 43))=v0 at *;refine tk 0 ?_;refine wU 1 (aG (hoL C.ho s).toArray) rfl (QM (by rfl) 41 (.tmp 3) rfl w.heap.size 11 rfl (hoL C.ho s) _ (fun X h=>h.p.hostAt) Tryz.underlying41 rfl (jT C.ho s)) hS ?_;simp only[aZ];refine tk 3 ?_;refine tk 4 ?_ (hy:=fun W hSw=>by (have y:=hSw.p.cell 9 (I J C.te) rfl;go_simp;try rfl));refine tk 5 ?_;refine tk 6 ?_ (hy:=fun W hSw=>by (have y:=hSw.p.cell 10 (I J C.re) rfl;go_simp;try rfl));refine tk 8 ?_;refine tk 9 ?_ (hy:=fun W hSw=>by (have y:=hSw.p.cell 0 (I J C.p) rfl;go_simp;try rfl));refine tk 10 ?_;refine tk 11 ?_ (hy:=fun W hSw=>by (have y:=hSw.p.cell 1 (I J C.ct) rfl;go_simp;try rfl));refine tk 12 ?_;refine tk 13 ?_ (hy:=fun W hSw=>by (have y:=hSw.p.cell 2 (I J C.lv) rfl;go_simp;try rfl));refine tk 14 ?_;refine tk 15 ?_ (hy:=fun W hSw=>by (have y:=hSw.p.cell 3 (bO C.wk) rfl;go_simp;try rfl));refine tk 16 ?_;refine tk 17 ?_ (hy:=fun W hSw=>by (have y:=hSw.p.cell 4 (bO C.ov) rfl;go_simp;try rfl));refine tk 18 ?_;refine tk 19 ?_ (hy:=fun W hSw=>by (have y:=hSw.p.cell 5 (bO C.ow) rfl;go_simp;try rfl));refine tk 20 ?_;refine tk 21 ?_ (hy:=fun W hSw=>by (have y:=hSw.p.cell 6 (bO C.tx) rfl;go_simp;try rfl));refine tk 22 ?_;refine tk 23 ?_ (hy:=fun W hSw=>by (have y:=hSw.p.cell 7 (bO C.ak) rfl;go_simp;try rfl));refine tk 24 ?_;refine tk 25 ?_ (hy:=fun W hSw=>by (have y:=hSw.p.cell 8 (I J C.rn) rfl;go_simp;try rfl));refine tk 26 ?_;refine al 2 fun K2 hK2=>?_;go_simp;refine (HO.o _ hS.b).mono ?_;rintro o w2 ⟨P,rfl,hr,hb⟩;have hS2:=hS.below hb;have HR2:Hid (R P w2):=hr;clear hr hb;go_wp2_with fail;refine hK2.out _ _ hS2 (fun hS3=>?_);clear hK2 K2 hS2 hS;have hS:=hS3;clear hS3;refine tk 7 ?_;refine al 27 fun K2 hK2=>?_;go_simp;refine (HP.o _).mono ?_;rintro o w3 ⟨rfl,hb⟩;have hS2:=hS.below hb;have HR3:Hid (R P w3):=HR.o _ _ _ HR2.o hb;clear hb HR2;go_wp2_with fail;refine hK2.out _ _ hS2 (fun hS3=>?_);clear hK2 K2 hS2 hS;have hS:=hS3;clear hS3;refine tk 28 (v:=aG (mcL P C).toArray) ?_ (hy:=fun W hSw=>by (simp only[prL,mcL,mcH,sgL,List.cons_append,List.nil_append];go_simp;try rfl));refine al 29 fun K2 hK2=>?_;go_simp;have hS2:ctS w w.heap.size C s (w3.alloc (.cells (mcL P C).toArray 151)):=hS.below qw;have HB3:Hid (Bl w w3):=hS.b;refine hK2.out _ _ hS2 (fun hS3=>?_);clear hK2 K2 hS2 hS;have hS:=hS3;clear hS3;refine tk 30 ?_;refine QI kr ?_ _;go_wp2_with fail;go_ret;exact⟨P,w3,rfl,rfl,HR3.o,HB3.o⟩
structure okM (C:Co):Prop where
 p:0<=C.p/\C.p<=7
 te:0<=C.te/\C.te<=256
 re:0<=C.re/\C.re<=255
 of:C.p=7↔C.te=256
 ct:rLo C.p<=C.ct/\C.ct<=rHi C.p
 lv:0<=C.lv/\C.lv<=1
 l1:C.lv=1->C.p=2/\C.wk=true/\0<C.ct
 wk:C.wk=true->C.p=2/\C.ov=false
 ov:C.ov=true->C.p=2\/C.p=3\/C.p=4
 ow:C.ow=true->C.wk=true/\C.tx=true
 tx:C.tx=true->C.p≠7/\C.p≠0
 t6:C.p=6->C.tx=true
 ak:C.ak=true->C.p=7
 rn:0<=C.rn/\C.rn<128
 na:C.ak=false->C.rn=0/\(C.p=7->C.ct=0)
end Go.Proofs.YtnfmjckkibdcaaaGreatDoor
