import Derived.Test.YtnfmjckkibdcaaaGreatDoorK07
import Derived.Test.YtnfmjckkibdcaaaGreatDoorK13
import Derived.Deep.RegionHeld3
namespace Go.Proofs.YtnfmjckkibdcaaaGreatDoor
set_option linter.all false
open Go.RowKit
set_option maxHeartbeats 16000000
open Go.Value renaming int->I,slice->sL,bool->bO,pointer->pT,agg->aG
open Go.IntKind renaming i64->J
open Go.Ending renaming returned->rT
open Go.Proofs.Tryz renaming prog->Tp
def me (w:World) (g n cap c:Nat) (f:Nat->Nat) (hr:ca w g n f) (hcp:n<=cap) (hn:n<=1048576) (hc:c<=10000000000000000) :
  Calls Tp 146 #[sL (some ⟨g,0,none⟩) n cap,I J (c:Int)] w fun o w'=>o = rT (I J ((c+n:Nat):Int))/\ca w' g n (fun t=>(c+t) % 256)/\(∀ b,b≠g->w'.heap[b]?=w.heap[b]?)/\w'.heap.size=w.heap.size/\Below g w w':=by
 have HR:Hid (ca w g n f):=hr;clear hr;go_enter Tryz.func146,Tryz.ntmps146;go_wp2;go_loopw [1,5] (fun kk i wr=>∃ k:Nat,k<=n/\i = I J (k:Int)/\kk = I J ((c+k:Nat):Int)/\ca wr g n (fun t=>if t<k then (c+t) % 256 else f t)/\(∀ b,b≠g->wr.heap[b]?=w.heap[b]?)/\wr.heap.size=w.heap.size/\Below g w wr) (fun _ i _=>n-(intOf i).toNat);case atStart=>exact⟨0,nZ _,rfl,by go_num,HR.o.of (fun t _=>by simp),fun _ _=>rfl,rfl,bW _ _⟩
 case round=>
  obtain⟨k,hk,rfl,rfl,hrow,hoth,hsz,hb⟩:=hrel;by_cases hlt:k<n
  .have z0:=hrow.cell k hlt;have f0:=hrow.free k hlt;have HD:Hid (ca wr g n (fun t=>if t<k then (c+t) % 256 else f t)/\(∀ b,b≠g->wr.heap[b]?=w.heap[b]?)/\wr.heap.size=w.heap.size/\Below g w wr):=⟨hrow,hoth,hsz,hb⟩
   clear hrow hoth hsz hb;generalize hC:c+k=C at *;have HC:Hid (c+k=C):=hC;have hC1:C<=40000000000000000:=om;clear hC;go_wp2;obtain⟨r2,r3,r4,r5⟩:=HD.o;have hC:=HC.o;refine⟨⟨k+1,om,by go_num,by rw[<- hC];go_num,?_,fun b hb=>(QB _ _ _ _ (by exact hb)).trans (r3 b hb),by simpa using r4,r5.setCell (by exact nR _) _⟩,by simp[intOf];omega⟩;refine r2.set' k hlt _ ?_ ?_
   .rw[qc (Nat.lt_succ_self k)];go_num
   .intro t _ hne';by_cases h1:t<k
    .rw[qc h1,qc om]
    .rw[qa h1,qa om]
  .have hkn:k=n:=om;subst hkn;have hrow:=hrow.of (f':=fun t=>(c+t) % 256) (fun t ht=>by rw[qc ht]);go_wp2;go_ret;exact⟨rfl,hrow,hoth,hsz,hb⟩
def mv (w:World) (g n cap c:Nat) (hr:ca w g n (fun t=>(c+t) % 256)) (hcp:n<=cap) (hn:n<=1048576) (hc:c<=10000000000000000) :
  Calls Tp 151 #[sL (some ⟨g,0,none⟩) n cap,I J (c:Int)] w fun o w'=>o = rT (I J ((c+n:Nat):Int))/\w'=w:=by
 have HR:Hid (ca w g n (fun t=>(c+t) % 256)):=hr;clear hr;go_enter Tryz.func151,Tryz.ntmps151;go_wp2;go_loopw [1,5] (fun kk i wr=>∃ k:Nat,k<=n/\i = I J (k:Int)/\kk = I J ((c+k:Nat):Int)/\wr=w) (fun _ i _=>n-(intOf i).toNat);case atStart=>exact⟨0,nZ _,rfl,by go_num,rfl⟩
 case round=>
  obtain⟨k,hk,rfl,rfl,rfl⟩:=hrel;by_cases hlt:k<n
  .have x0:=HR.o.cell k hlt;generalize hC:c+k=C at *;have HC:Hid (c+k=C):=hC;have hC1:C<=40000000000000000:=om;clear hC;go_wp2;refine⟨⟨k+1,om,by go_num,by rw[<- HC.o];go_num,trivial⟩,by simp[intOf];omega⟩
  .have hkn:k=n:=om;subst hkn;go_wp2;go_ret;exact⟨rfl,rfl⟩
set_option maxRecDepth 20000
structure Sc where
 f:Int
 lf:Int
 rn:Int
 lv:Int
 cr:Int
 ac:Int
 e:Bool
 i:Nat
 r:Bool
 d:Int
 l:List Nat
abbrev scV (S:Sc) (a:Option Addr) (n cap:Nat):Value:=aG #[I J S.f,I J S.lf,I J S.rn,I J S.lv,I J S.cr,I J S.ac,bO S.e,I .u32 (S.i:Int),bO S.r,I J S.d,sL a n cap]
def scL (S:Sc) (a:Option Addr) (n cap:Nat):List Value:=[I J S.f,I J S.lf,I J S.rn,I J S.lv,I J S.cr,I J S.ac,bO S.e,I .u32 (S.i:Int),bO S.r,I J S.d,sL a n cap]
def dV:(Tp.info? 49).map (·.size)=some 11:=kr
def pR (f lf rn lv cr ac:Int) (e:Bool) (i:Int) (r:Bool) (d:Int) (a:Option Addr) (n c:Nat):(#[I J f,I J lf,I J rn,I J lv,I J cr,I J ac,bO e,I .u32 i,bO r,I J d,sL a n c]:Array Value).all (·.oneCell')=true:=
 QL (by simp[Value.oneCell'])
abbrev z11:List Value:=[I J 0,I J 0,I J 0,I J 0,I J 0,I J 0,bO false,I .u32 0,bO false,I J 0,sL none 0 0]
def rH (w:World) (S:Sc) (a:Option Addr) (n cap:Nat) (h:iB w a n cap S.l) (a':Option Addr) (n' cap':Nat) (h':iB w a' n' cap' S.l) (hn:n<=1048576) :
  Calls Tp 30 #[scV S a n cap,scV S a' n' cap'] w fun o w'=>o = rT (bO true)/\Bl w w':=by
 have HH:Hid (iB w a n cap S.l):=h;have HH':Hid (iB w a' n' cap' S.l):=h';clear h h';obtain⟨f,lf,rn,lv,cr,ac,e,i,r,d,l⟩:=S;have h1:(f != f)=false:=pQ;have h2:(lf != lf)=false:=pQ;have h3:(rn != rn)=false:=pQ;have h4:(lv != lv)=false:=pQ;have h5:(cr != cr)=false:=pQ;have h6:(ac != ac)=false:=pQ;have HC:Hid (∀ W,Bl w W->Calls Tp 69 #[frV e i r d a n cap,frV e i r d a' n' cap'] W fun o w'=>o = rT (bO true)/\Bl w w'):=by
  intro W hW;refine (eU W e i r d a n cap l (HH.o.below hW) a' n' cap' (HH'.o.below hW) hn).mono ?_;rintro o w' ⟨rfl,hb⟩;exact⟨rfl,hW.trans (hb.mono hW.size)⟩
 go_enter Tryz.func30,Tryz.ntmps30;go_wp2_with (first | (go_at_call 69;refine (HC.o _ (((bW _ _).alloc (nR _) _).alloc pQ _)).mono ?_;rintro o w1 ⟨rfl,hb1⟩));go_ret;exact⟨rfl,hb1⟩
open Option renaming none->nn,some->sQ
open Go renaming World->Wd
structure mkd (w w':Wd) (g n c:Nat):Prop where
 row:ca w' g n (fun t=>(c+t) % 256)
 oth:∀ b,b≠g->b<w.heap.size->w'.heap[b]?=w.heap[b]?
 bel:Below g w w'
def lZ (w:Wd) (e:Bool) (i:Nat) (r:Bool) (d:Int) (g n cap c:Nat) (f:Nat->Nat) (hr:ca w g n f) (hg:g<w.heap.size) (hcp:n<=cap) (hn:n<=1048576) (hc:c<=10000000000000000) :
  Calls Tp 72 #[frV e i r d (sQ ⟨g,0,nn⟩) n cap,I J (c:Int)] w fun o w'=>o = rT (I J ((c+n:Nat):Int))/\mkd w w' g n c:=by
 have HR:Hid (ca (w.alloc (.cells #[bO e,I .u32 (i:Int),bO r,I J d,sL (sQ ⟨g,0,nn⟩) n cap] 47)) g n f):=hr.below ((bW _ _).alloc (nR _) _) hg;clear hr;go_enter Tryz.func72,Tryz.ntmps72;go_wp2_with fail;refine (me _ g n cap c f HR.o hcp hn hc).mono ?_;rintro o w1 ⟨rfl,h1,h2,h3,h4⟩;have HM:Hid (mkd w w1 g n c):=⟨h1,fun b hb hl=>(h2 b hb).trans (Below.heap_alloc _ _ _ hl),(((bW w.heap.size w).alloc (nR _) _).mono om).trans h4⟩
 clear h1 h2 h3 h4;go_wp2_with fail;go_ret;exact⟨rfl,HM.o⟩
def l9 (w:Wd) (e:Bool) (i:Nat) (r:Bool) (d:Int) (c:Nat) :
  Calls Tp 72 #[frV e i r d nn 0 0,I J (c:Int)] w fun o w'=>o = rT (I J (c:Int))/\Bl w w':=by
 have HM:Hid (∀ W:Wd,Calls Tp 146 #[sL nn 0 0,I J (c:Int)] W fun o w'=>o = rT (I J (c:Int))/\w'=W):=by
  intro W;go_enter Tryz.func146,Tryz.ntmps146;go_wp2;go_loopw [1,5] (fun kk i wr=>i = I J 0/\kk = I J (c:Int)/\wr=W) (fun _ _ _=>0);case atStart=>exact⟨rfl,rfl,rfl⟩
  case round=>
   obtain⟨rfl,rfl,rfl⟩:=hrel;go_wp2;go_ret;exact⟨rfl,rfl⟩
 go_enter Tryz.func72,Tryz.ntmps72;go_wp2_with fail;refine (HM.o _).mono ?_;rintro o w1 ⟨rfl,rfl⟩;go_wp2_with fail;go_ret;exact⟨rfl,(bW _ _).alloc (nR _) _⟩
def mq (w:Wd) (e:Bool) (i:Nat) (r:Bool) (d:Int) (g n cap c:Nat) (hr:ca w g n (fun t=>(c+t) % 256)) (hg:g<w.heap.size) (hcp:n<=cap) (hn:n<=1048576) (hc:c<=10000000000000000) :
  Calls Tp 75 #[frV e i r d (sQ ⟨g,0,nn⟩) n cap,I J (c:Int)] w fun o w'=>o = rT (I J ((c+n:Nat):Int))/\Bl w w':=by
 have HR:Hid (ca (w.alloc (.cells #[bO e,I .u32 (i:Int),bO r,I J d,sL (sQ ⟨g,0,nn⟩) n cap] 47)) g n (fun t=>(c+t) % 256)):=hr.below ((bW _ _).alloc (nR _) _) hg;clear hr;go_enter Tryz.func75,Tryz.ntmps75;go_wp2_with fail;refine (mv _ g n cap c HR.o hcp hn hc).mono ?_;rintro o w1 ⟨rfl,rfl⟩;generalize hq:c+n=q at *;have hz:¬ (q:Int)<0:=om;go_wp2_with fail;go_ret;exact⟨by rw[hq];rfl,(bW _ _).alloc (nR _) _⟩
def mr (w:Wd) (e:Bool) (i:Nat) (r:Bool) (d:Int) (c:Nat) :
  Calls Tp 75 #[frV e i r d nn 0 0,I J (c:Int)] w fun o w'=>o = rT (I J (c:Int))/\Bl w w':=by
 have HM:Hid (∀ W:Wd,Calls Tp 151 #[sL nn 0 0,I J (c:Int)] W fun o w'=>o = rT (I J (c:Int))/\w'=W):=by
  intro W;go_enter Tryz.func151,Tryz.ntmps151;go_wp2;go_loopw [1,5] (fun kk i wr=>i = I J 0/\kk = I J (c:Int)/\wr=W) (fun _ _ _=>0);case atStart=>exact⟨rfl,rfl,rfl⟩
  case round=>
   obtain⟨rfl,rfl,rfl⟩:=hrel;go_wp2;go_ret;exact⟨rfl,rfl⟩
 go_enter Tryz.func75,Tryz.ntmps75;go_wp2_with fail;refine (HM.o _).mono ?_;rintro o w1 ⟨rfl,rfl⟩;have hz:¬ (c:Int)<0:=om;go_wp2_with fail;go_ret;exact⟨rfl,(bW _ _).alloc (nR _) _⟩
def oo (w:Wd) (S:Sc) (g n cap c:Nat) (f:Nat->Nat) (hr:ca w g n f) (hg:g<w.heap.size) (hcp:n<=cap) (hn:n<=1048576) (hc:c<=10000000000000000) :
  Calls Tp 33 #[scV S (sQ ⟨g,0,nn⟩) n cap,I J (c:Int)] w fun o w'=>o = rT (I J ((c+n:Nat):Int))/\mkd w w' g n c:=by
 obtain⟨sf,slf,srn,slv,scr,sac,e,i,r,d,l⟩:=S;have HR:Hid (ca (w.alloc (.cells #[I J sf,I J slf,I J srn,I J slv,I J scr,I J sac,bO e,I .u32 (i:Int),bO r,I J d,sL (sQ ⟨g,0,nn⟩) n cap] 49)) g n f):=hr.below ((bW _ _).alloc (nR _) _) hg;clear hr;go_enter Tryz.func33,Tryz.ntmps33;go_wp2_with fail;refine (lZ _ e i r d g n cap c f HR.o (by simp;omega) hcp hn hc).mono ?_;rintro o w1 ⟨rfl,hm⟩;have HM:Hid (mkd w w1 g n c):=⟨hm.row,fun b hb hl=>(hm.oth b hb (by simp;omega)).trans (Below.heap_alloc _ _ _ hl),(((bW w.heap.size w).alloc (nR _) _).mono om).trans hm.bel⟩
 clear hm;go_wp2_with fail;go_ret;exact⟨rfl,HM.o⟩
def oq (w:Wd) (S:Sc) (c:Nat) :
  Calls Tp 33 #[scV S nn 0 0,I J (c:Int)] w fun o w'=>o = rT (I J (c:Int))/\Bl w w':=by
 obtain⟨sf,slf,srn,slv,scr,sac,e,i,r,d,l⟩:=S;go_enter Tryz.func33,Tryz.ntmps33;go_wp2_with fail;refine (l9 _ e i r d c).mono ?_;rintro o w1 ⟨rfl,hb⟩;have HB:Hid (Bl w w1):=((bW w.heap.size w).alloc (nR _) _).trans (hb.mono pQ);clear hb;go_wp2_with fail;go_ret;exact⟨rfl,HB.o⟩
def oD (w:Wd) (S:Sc) (g n cap c:Nat) (hr:ca w g n (fun t=>(c+t) % 256)) (hg:g<w.heap.size) (hcp:n<=cap) (hn:n<=1048576) (hc:c<=10000000000000000) :
  Calls Tp 36 #[scV S (sQ ⟨g,0,nn⟩) n cap,I J (c:Int)] w fun o w'=>o = rT (I J ((c+n:Nat):Int))/\Bl w w':=by
 obtain⟨sf,slf,srn,slv,scr,sac,e,i,r,d,l⟩:=S;have HR:Hid (ca (w.alloc (.cells #[I J sf,I J slf,I J srn,I J slv,I J scr,I J sac,bO e,I .u32 (i:Int),bO r,I J d,sL (sQ ⟨g,0,nn⟩) n cap] 49)) g n (fun t=>(c+t) % 256)):=hr.below ((bW _ _).alloc (nR _) _) hg;clear hr;go_enter Tryz.func36,Tryz.ntmps36;go_wp2_with fail;refine (mq _ e i r d g n cap c HR.o (by simp;omega) hcp hn hc).mono ?_;rintro o w1 ⟨rfl,hb⟩;have HB:Hid (Bl w w1):=((bW w.heap.size w).alloc (nR _) _).trans (hb.mono pQ);clear hb;generalize hq:c+n=q at *;have hz:¬ (q:Int)<0:=om;go_wp2_with fail;go_ret;exact⟨by rw[hq];rfl,HB.o⟩
def oE (w:Wd) (S:Sc) (c:Nat) :
  Calls Tp 36 #[scV S nn 0 0,I J (c:Int)] w fun o w'=>o = rT (I J (c:Int))/\Bl w w':=by
 obtain⟨sf,slf,srn,slv,scr,sac,e,i,r,d,l⟩:=S;go_enter Tryz.func36,Tryz.ntmps36;go_wp2_with fail;refine (mr _ e i r d c).mono ?_;rintro o w1 ⟨rfl,hb⟩;have HB:Hid (Bl w w1):=((bW w.heap.size w).alloc (nR _) _).trans (hb.mono pQ);clear hb;have hz:¬ (c:Int)<0:=om;go_wp2_with fail;go_ret;exact⟨rfl,HB.o⟩
def bh (f:Int) (e:Bool) (d:Int):Int:=
 if f=2 then 11 else if f=5 then 18 else if f=7 then (if e=true then 2 else 1) else if f=8 then 4
 else if f=9 then (if d > 8 then 64 else 8*d) else if f=10 then 15 else if f=14 then 7 else 1
def ai (f:Int) (e r:Bool) (d:Int):Int:=
 if f=4/\e=false then 7 else if f=8/\(r=true\/d=0) then 10 else f+1
def bL (f lf cr ac bit:Int):Int:=
 if f=1 then (if bit=1 then 4 else 0)
 else if f=11 then (if bit=0 then 4 else 0)
 else if f=13 then (if bit=0 then 4 else if ac=cr then 0 else 5)
 else if f=14 then (if bit=0 then (if lf > 1 then 4 else 6) else if lf=2 then 1 else if lf=1 then 2 else 0)
 else 0
def mi (w:World) (S:Sc) (a:Option Addr) (n cap:Nat) (bit:Int) :
  Calls Tp 108 #[scV S a n cap,I J bit] w fun o w'=>o = rT (I J (bL S.f S.lf S.cr S.ac bit))/\Bl w w':=by
 obtain⟨f,lf,rn,lv,cr,ac,e,i,r,d,l⟩:=S;go_enter Tryz.func108,Tryz.ntmps108;go_wp2;all_goals (go_ret;refine⟨au ?_,(bW _ _).alloc (nR _) _⟩;unfold bL;simp_all)
def iU (w:World) (f:Int) (e:Bool) (i:Nat) (r:Bool) (d:Int) (hd:0<=d) (hd1:d<=15) (a:Option Addr) (n cap:Nat) :
  Calls Tp 111 #[I J f,frV e i r d a n cap] w fun o w'=>o = rT (I J (bh f e d))/\Bl w w':=by
 go_enter Tryz.func111,Tryz.ntmps111;go_wp2;all_goals (go_ret;refine⟨au ?_,(bW _ _).alloc (nR _) _⟩;unfold bh;first | (simp_all;done) | (simp_all;omega))
def rh (w:World) (f:Int) (hf:0<=f) (hf1:f<=100) (e:Bool) (i:Nat) (r:Bool) (d:Int) (a:Option Addr) (n cap:Nat) :
  Calls Tp 112 #[I J f,frV e i r d a n cap] w fun o w'=>o = rT (I J (ai f e r d))/\Bl w w':=by
 cases e <;> cases r <;> go_enter Tryz.func112,Tryz.ntmps112;all_goals go_wp2
 all_goals (go_ret;refine⟨au ?_,(bW _ _).alloc (nR _) _⟩;unfold ai;simp_all)
def l2x (r b:Nat) (h1:r<32768) (hb:b<2):bits BinOp.xor IntKind.i64 ((r:Int) / 16384) (b:Int)=if b≠r / 16384 then 1 else 0:=by
 rw[show (r:Int) / 16384=((r / 16384:Nat):Int) by omega,eJ _ _ om om];have:r / 16384<2:=om;generalize r / 16384=y at *;have hx:b=0\/b=1:=om;have hy:y=0\/y=1:=om;rcases hx with rfl | rfl <;> rcases hy with rfl | rfl <;> decide
def wD (r b:Nat) (w:World) (h1:r<32768) (hb:b<2) :
  Calls Tp 109 #[I J r,I J b] w fun e w'=>e = rT (I J (M.dM r b:Nat))/\w=w':=by
 have hx:=l2x r b h1 hb;by_cases h:b≠r / 16384
 .rw[qc h] at hx;go_enter Tryz.func109,Tryz.ntmps109;go_wp2;go_ret;refine⟨au ?_,rfl⟩;have e:((r:Int)*2) % 32768=((2*r % 32768:Nat):Int):=om;rw[e,show (17817:Int)=((17817:Nat):Int) from rfl,eJ _ _ om (by decide)];simp[M.dM,h]
 .rw[qa h] at hx;go_enter Tryz.func109,Tryz.ntmps109;go_wp2;go_ret;refine⟨au ?_,rfl⟩;unfold M.dM;rw[qa h];omega
variable {k:Nat}
def dZ (b:R5):Bool:=vB b.e b.i b.r b.d b.l.length
def ei (b:R8):Bool:=decide ((1<=b.x/\b.x<=12)/\(0<=b.y/\b.y<=9999)/\(0<=b.z/\b.z<=9)) && vB b.e b.i b.r b.d b.l.length
def gW (w:World) (b:R5) (a:Option Addr) (n cap:Nat) (h:iB w a n cap b.l) :
  Calls Tp 181 #[frV b.e b.i b.r b.d a n cap] w fun o w'=>o = rT (bO (!dZ b))/\Bl w w':=by
 have hlen:=h.len
 have HV:Hid (∀ W,Bl w W->Calls Tp 133 #[frV b.e b.i b.r b.d a n cap] W fun o w'=>o = rT (bO (dZ b))/\Bl W w'):=fun W hW=>by
  have:=dU W b.e b.i b.r b.d a n cap b.l (h.below hW);rw[hlen] at this;unfold dZ;rw[hlen];exact this
 clear h hlen;generalize dZ b=R at *;obtain⟨e,i,r,d,l⟩:=b;go_enter Tryz.func181,Tryz.ntmps181;go_wp2_with fail;refine (HV.o _ ((bW _ _).alloc (nR _) _)).mono ?_;rintro o w1 ⟨rfl,hb1⟩;have HB:Hid (Bl w w1):=((bW _ _).alloc (nR _) _).trans (hb1.mono pQ);clear hb1;cases R
 .go_wp2_with fail;go_ret;exact⟨rfl,HB.o⟩
 .go_wp2_with fail;go_ret;exact⟨rfl,HB.o⟩
def kB (w:World) (b:R8) (a:Option Addr) (n cap:Nat) (h:iB w a n cap b.l) :
  Calls Tp 183 #[bxV b.x b.y b.z b.e b.i b.r b.d a n cap] w fun o w'=>o = rT (bO (!ei b))/\Bl w w':=by
 have HV:Hid (∀ W,Bl w W->Calls Tp 181 #[frV b.e b.i b.r b.d a n cap] W fun o w'=>o = rT (bO (!vB b.e b.i b.r b.d b.l.length))/\Bl W w'):=fun W hW=>gW W ⟨b.e,b.i,b.r,b.d,b.l⟩ a n cap (h.below hW);clear h;have HO:Hid (ei b=(decide ((1<=b.x/\b.x<=12)/\(0<=b.y/\b.y<=9999)/\(0<=b.z/\b.z<=9)) && vB b.e b.i b.r b.d b.l.length)):=rfl;generalize ei b=Q at *;generalize vB b.e b.i b.r b.d b.l.length=R at *;obtain⟨x,y,z,e,i,r,d,l⟩:=b;simp only[] at HV HO ⊢;have HA:Hid (Bl w (w.alloc (.cells #[I J x,I J y,I J z,bO e,I .u32 (i:Int),bO r,I J d,sL a n cap] 240))):=(bW _ _).alloc (nR _) _;have hx:decide (1<=x/\x<=12)=true\/decide (1<=x/\x<=12)=false:=by cases decide (1<=x/\x<=12) <;> simp
 have hy:decide (0<=y/\y<=9999)=true\/decide (0<=y/\y<=9999)=false:=by cases decide (0<=y/\y<=9999) <;> simp
 have hz:decide (0<=z/\z<=9)=true\/decide (0<=z/\z<=9)=false:=by cases decide (0<=z/\z<=9) <;> simp
 have HIR:Hid (∀ (W:World) (v l m:Int) (bb:Bool),decide (l<=v/\v<=m)=bb->Calls Tp 118 #[I J v,I J l,I J m] W fun o w'=>o = rT (bO bb)/\W=w'):=fun W v l m bb hbb=>hbb ▸ dh W v l m;rcases hx with hx|hx
 .rcases hy with hy|hy
  .rcases hz with hz|hz
   .have HQ:Hid (Q=R):=by
     have:=HO.o;simp only[qQ] at hx hy hz;rw[this,qE ⟨hx,hy,hz⟩];rfl
    have I1:=fun W=>HIR.o W x 1 12 true hx;have I2:=fun W=>HIR.o W y 0 9999 true hy;have I3:=fun W=>HIR.o W z 0 9 true hz;have J1:Hid (∀ W,Calls Tp 118 #[I J x,I J 1,I J 12] W fun o w'=>o = rT (bO true)/\W=w'):=I1;have J2:Hid (∀ W,Calls Tp 118 #[I J y,I J 0,I J 9999] W fun o w'=>o = rT (bO true)/\W=w'):=I2;have J3:Hid (∀ W,Calls Tp 118 #[I J z,I J 0,I J 9] W fun o w'=>o = rT (bO true)/\W=w'):=I3;clear I1 I2 I3 hx hy hz HIR HO;go_enter Tryz.func183,Tryz.ntmps183
    go_wp2_with (first
     | (go_at_call 118;first | (refine (J1.o _).mono ?_;rintro o w1 ⟨rfl,rfl⟩;clear J1) | (refine (J2.o _).mono ?_;rintro o w1 ⟨rfl,rfl⟩;clear J2) | (refine (J3.o _).mono ?_;rintro o w1 ⟨rfl,rfl⟩;clear J3))
     | (go_at_call 181;refine (HV.o _ HA.o).mono ?_;rintro o w1 ⟨rfl,hb1⟩))
    go_ret;exact⟨aj (by rw[HQ.o]),HA.o.trans (hb1.mono HA.o.size)⟩
   .have HQ:Hid (Q=false):=by
     have:=HO.o;simp only[decide_eq_false_iff_not] at hz;rw[this,qo (fun h=>hz h.2.2)];rfl
    have J1:Hid (∀ W,Calls Tp 118 #[I J x,I J 1,I J 12] W fun o w'=>o = rT (bO true)/\W=w'):=fun W=>HIR.o W x 1 12 true hx;have J2:Hid (∀ W,Calls Tp 118 #[I J y,I J 0,I J 9999] W fun o w'=>o = rT (bO true)/\W=w'):=fun W=>HIR.o W y 0 9999 true hy;have J3:Hid (∀ W,Calls Tp 118 #[I J z,I J 0,I J 9] W fun o w'=>o = rT (bO false)/\W=w'):=fun W=>HIR.o W z 0 9 false hz;clear hx hy hz HIR HO HV;go_enter Tryz.func183,Tryz.ntmps183
    go_wp2_with (first
     | (go_at_call 118;first | (refine (J1.o _).mono ?_;rintro o w1 ⟨rfl,rfl⟩;clear J1) | (refine (J2.o _).mono ?_;rintro o w1 ⟨rfl,rfl⟩;clear J2) | (refine (J3.o _).mono ?_;rintro o w1 ⟨rfl,rfl⟩;clear J3)))
    go_ret;exact⟨aj (by rw[HQ.o];rfl),HA.o⟩
  .have HQ:Hid (Q=false):=by
    have:=HO.o;simp only[decide_eq_false_iff_not] at hy;rw[this,qo (fun h=>hy h.2.1)];rfl
   have J1:Hid (∀ W,Calls Tp 118 #[I J x,I J 1,I J 12] W fun o w'=>o = rT (bO true)/\W=w'):=fun W=>HIR.o W x 1 12 true hx;have J2:Hid (∀ W,Calls Tp 118 #[I J y,I J 0,I J 9999] W fun o w'=>o = rT (bO false)/\W=w'):=fun W=>HIR.o W y 0 9999 false hy;clear hx hy hz HIR HO HV;go_enter Tryz.func183,Tryz.ntmps183
   go_wp2_with (first
    | (go_at_call 118;first | (refine (J1.o _).mono ?_;rintro o w1 ⟨rfl,rfl⟩;clear J1) | (refine (J2.o _).mono ?_;rintro o w1 ⟨rfl,rfl⟩;clear J2)))
   go_ret;exact⟨aj (by rw[HQ.o];rfl),HA.o⟩
 .have HQ:Hid (Q=false):=by
   have:=HO.o;simp only[decide_eq_false_iff_not] at hx;rw[this,qo (fun h=>hx h.1)];rfl
  have J1:Hid (∀ W,Calls Tp 118 #[I J x,I J 1,I J 12] W fun o w'=>o = rT (bO false)/\W=w'):=fun W=>HIR.o W x 1 12 false hx;clear hx hy hz HIR HO HV;go_enter Tryz.func183,Tryz.ntmps183
  go_wp2_with (first
   | (go_at_call 118;refine (J1.o _).mono ?_;rintro o w1 ⟨rfl,rfl⟩))
  go_ret;exact⟨aj (by rw[HQ.o];rfl),HA.o⟩
def iF {α:Type} {p:α->Bool} {bs:List α} (hk:k<bs.length) (h:∀ j (hj:j<bs.length),j<k->p bs[j]=true) (h1:p bs[k]=true):∀ j (hj:j<bs.length),j<k+1->p bs[j]=true:=by
 intro j hj h2;by_cases e:j=k
 .subst e;exact h1
 .exact h j hj om
def jx {α:Type} {p:α->Bool} {bs:List α} (hk:bs.length<=k) (h:∀ j (hj:j<bs.length),j<k->p bs[j]=true):bs.all p=true:=by
 rw[Qc];intro x hx;obtain⟨j,hj,rfl⟩:=List.getElem_of_mem hx;exact h j hj om
def kA {α:Type} {p:α->Bool} {bs:List α} (hk:k<bs.length) (h1:p bs[k]=false):bs.all p=false:=by
 rw[List.all_eq_false];exact⟨bs[k],qn hk,by rw[h1];simp⟩
def lx (w:World) (a:Option Addr) (n cap:Nat) (bs:List R5) (h:cl w a n cap bs) (hn:n<=1048576) :
  Calls Tp 231 #[sL a n cap,.func (.func 181) #[] #[]] w fun o w'=>∃ z:Int,o = rT (I J z)/\decide (0<=z) = !bs.all dZ/\Bl w w':=by
 have hlen:=h.len;have hcp:=h.cap;by_cases hl:bs=[]
 .subst hl;have hn0:n=0:=hlen;subst hn0;clear hlen h;go_enter Tryz.func231,Tryz.ntmps231;go_wp2;go_loopw [8] (fun i wr=>i = I J 0/\wr=w) (fun _ _=>0);case atStart=>exact⟨rfl,rfl⟩
  case round=>
   obtain⟨rfl,rfl⟩:=hrel;go_wp2;go_ret;exact⟨-1,rfl,rfl,bW _ _⟩
 .obtain⟨g,off,rfl,hc⟩:=h.cells hl;have HL:Hid (n=bs.length):=hlen;have HC:Hid (∀ j (h:j<bs.length),∃ ao m c,at5 w g (off+j*5) bs[j] ao m c):=hc;clear h hlen hc;go_enter Tryz.func231,Tryz.ntmps231;go_wp2;go_loopw [8] (fun i wr=>∃ k:Nat,k<=n/\i = I J (k:Int)/\(∀ j (hj:j<bs.length),j<k->dZ bs[j]=true)/\Bl w wr) (fun i _=>n-(intOf i).toNat);case atStart=>exact⟨0,nZ _,rfl,fun j hj h=>Qz h (nN _),bW _ _⟩
  case round=>
   obtain⟨k,hk,rfl,hdone,hb⟩:=hrel;by_cases hlt:k<n
   .have hkl:k<bs.length:=by have:=HL.o;omega
    obtain⟨ao,m,c,hx⟩:=HC.o k hkl;have hx':=hx.below hb;have HRG:Hid (wr.rangeAt g (off+k*5) [bO bs[k].e,I .u32 (bs[k].i:Int),bO bs[k].r,I J bs[k].d,sL ao m c]):=hx'.range;have HW:Hid (Calls Tp 181 #[frV bs[k].e bs[k].i bs[k].r bs[k].d ao m c] wr fun o w'=>o = rT (bO (!dZ bs[k]))/\Bl wr w'):=gW wr bs[k] ao m c hx'.dat;have HB:Hid (Bl w wr):=hb;have HD:Hid (∀ j (hj:j<bs.length),j<k->dZ bs[j]=true):=hdone;clear hx hx' hb hdone;cases hok:dZ bs[k]
    .have HN:Hid (bs.all dZ=false):=kA hkl hok;rw[hok] at HW
     clear hok;generalize bs[k].e=e0 at *;generalize bs[k].i=i0 at *;generalize bs[k].r=r0 at *;generalize bs[k].d=d0 at *;go_wp2_with (first
      | (refine QA (P:=Tp) rfl 47 _ rfl g (off+k*5) rfl _ _ HRG.o Tryz.underlying47 rfl jc ?_)
      | (go_at_call 181;refine HW.o.mono ?_;rintro o w5 ⟨rfl,hb5⟩))
     go_ret;exact⟨_,rfl,by rw[HN.o];simp,HB.o.trans (hb5.mono HB.o.size)⟩
    .have HN:Hid (∀ j (hj:j<bs.length),j<k+1->dZ bs[j]=true):=iF hkl HD.o hok;rw[hok] at HW
     clear hok;generalize bs[k].e=e0 at *;generalize bs[k].i=i0 at *;generalize bs[k].r=r0 at *;generalize bs[k].d=d0 at *;go_wp2_with (first
      | (refine QA (P:=Tp) rfl 47 _ rfl g (off+k*5) rfl _ _ HRG.o Tryz.underlying47 rfl jc ?_)
      | (go_at_call 181;refine HW.o.mono ?_;rintro o w5 ⟨rfl,hb5⟩))
     go_roundw;case rel=>exact⟨k+1,om,by go_num,HN.o,HB.o.trans (hb5.mono HB.o.size)⟩
     case measure=>simp[intOf];omega
   .have HN:Hid (bs.all dZ=true):=jx (by have:=HL.o;omega) hdone;clear hdone;go_wp2;go_ret;exact⟨_,rfl,by rw[HN.o];simp,hb⟩
def ju (w:World) (a:Option Addr) (n cap:Nat) (bs:List R5) (h:cl w a n cap bs) (hn:n<=1048576) :
  Calls Tp 180 #[sL a n cap,.func (.func 181) #[] #[]] w fun o w'=>o = rT (bO (!bs.all dZ))/\Bl w w':=by
 have HI:Hid (Calls Tp 231 #[sL a n cap,.func (.func 181) #[] #[]] w fun o w'=>∃ z:Int,o = rT (I J z)/\decide (0<=z) = !bs.all dZ/\Bl w w'):=lx w a n cap bs h hn;clear h;go_enter Tryz.func180,Tryz.ntmps180;go_wp2_with (first | (go_at_call 231;refine HI.o.mono ?_;rintro o w5 ⟨z,rfl,hz,hb5⟩;have HZ:Hid (decide (0<=z) = !bs.all dZ):=hz;clear hz));go_ret;exact⟨aj HZ.o,hb5⟩
def ly (w:World) (a:Option Addr) (n cap:Nat) (bs:List R8) (h:aM w a n cap bs) (hn:n<=1048576) :
  Calls Tp 232 #[sL a n cap,.func (.func 183) #[] #[]] w fun o w'=>∃ z:Int,o = rT (I J z)/\decide (0<=z) = !bs.all ei/\Bl w w':=by
 have hlen:=h.len;have hcp:=h.cap;by_cases hl:bs=[]
 .subst hl;have hn0:n=0:=hlen;subst hn0;clear hlen h;go_enter Tryz.func232,Tryz.ntmps232;go_wp2;go_loopw [8] (fun i wr=>i = I J 0/\wr=w) (fun _ _=>0);case atStart=>exact⟨rfl,rfl⟩
  case round=>
   obtain⟨rfl,rfl⟩:=hrel;go_wp2;go_ret;exact⟨-1,rfl,rfl,bW _ _⟩
 .obtain⟨g,off,rfl,hc⟩:=h.cells hl;have HL:Hid (n=bs.length):=hlen;have HC:Hid (∀ j (h:j<bs.length),∃ ao m c,at8 w g (off+j*8) bs[j] ao m c):=hc;clear h hlen hc;go_enter Tryz.func232,Tryz.ntmps232;go_wp2;go_loopw [8] (fun i wr=>∃ k:Nat,k<=n/\i = I J (k:Int)/\(∀ j (hj:j<bs.length),j<k->ei bs[j]=true)/\Bl w wr) (fun i _=>n-(intOf i).toNat);case atStart=>exact⟨0,nZ _,rfl,fun j hj h=>Qz h (nN _),bW _ _⟩
  case round=>
   obtain⟨k,hk,rfl,hdone,hb⟩:=hrel;by_cases hlt:k<n
   .have hkl:k<bs.length:=by have:=HL.o;omega
    obtain⟨ao,m,c,hx⟩:=HC.o k hkl;have hx':=hx.below hb;have HRG:Hid (wr.rangeAt g (off+k*8) [I J bs[k].x,I J bs[k].y,I J bs[k].z,bO bs[k].e,I .u32 (bs[k].i:Int),bO bs[k].r,I J bs[k].d,sL ao m c]):=hx'.range;have HW:Hid (Calls Tp 183 #[bxV bs[k].x bs[k].y bs[k].z bs[k].e bs[k].i bs[k].r bs[k].d ao m c] wr fun o w'=>o = rT (bO (!ei bs[k]))/\Bl wr w'):=kB wr bs[k] ao m c hx'.dat;have HB:Hid (Bl w wr):=hb;have HD:Hid (∀ j (hj:j<bs.length),j<k->ei bs[j]=true):=hdone;clear hx hx' hb hdone;cases hok:ei bs[k]
    .have HN:Hid (bs.all ei=false):=kA hkl hok;rw[hok] at HW
     clear hok;generalize bs[k].x=x0 at *;generalize bs[k].y=y0 at *;generalize bs[k].z=z0 at *;generalize bs[k].e=e0 at *;generalize bs[k].i=i0 at *;generalize bs[k].r=r0 at *;generalize bs[k].d=d0 at *;go_wp2_with (first
      | (refine QA (P:=Tp) rfl 240 _ rfl g (off+k*8) rfl _ _ HRG.o Tryz.underlying240 rfl fw ?_)
      | (go_at_call 183;refine HW.o.mono ?_;rintro o w5 ⟨rfl,hb5⟩))
     go_ret;exact⟨_,rfl,by rw[HN.o];simp,HB.o.trans (hb5.mono HB.o.size)⟩
    .have HN:Hid (∀ j (hj:j<bs.length),j<k+1->ei bs[j]=true):=iF hkl HD.o hok;rw[hok] at HW
     clear hok;generalize bs[k].x=x0 at *;generalize bs[k].y=y0 at *;generalize bs[k].z=z0 at *;generalize bs[k].e=e0 at *;generalize bs[k].i=i0 at *;generalize bs[k].r=r0 at *;generalize bs[k].d=d0 at *;go_wp2_with (first
      | (refine QA (P:=Tp) rfl 240 _ rfl g (off+k*8) rfl _ _ HRG.o Tryz.underlying240 rfl fw ?_)
      | (go_at_call 183;refine HW.o.mono ?_;rintro o w5 ⟨rfl,hb5⟩))
     go_roundw;case rel=>exact⟨k+1,om,by go_num,HN.o,HB.o.trans (hb5.mono HB.o.size)⟩
     case measure=>simp[intOf];omega
   .have HN:Hid (bs.all ei=true):=jx (by have:=HL.o;omega) hdone;clear hdone;go_wp2;go_ret;exact⟨_,rfl,by rw[HN.o];simp,hb⟩
def jv (w:World) (a:Option Addr) (n cap:Nat) (bs:List R8) (h:aM w a n cap bs) (hn:n<=1048576) :
  Calls Tp 182 #[sL a n cap,.func (.func 183) #[] #[]] w fun o w'=>o = rT (bO (!bs.all ei))/\Bl w w':=by
 have HI:Hid (Calls Tp 232 #[sL a n cap,.func (.func 183) #[] #[]] w fun o w'=>∃ z:Int,o = rT (I J z)/\decide (0<=z) = !bs.all ei/\Bl w w'):=ly w a n cap bs h hn;clear h;go_enter Tryz.func182,Tryz.ntmps182;go_wp2_with (first | (go_at_call 232;refine HI.o.mono ?_;rintro o w5 ⟨z,rfl,hz,hb5⟩;have HZ:Hid (decide (0<=z) = !bs.all ei):=hz;clear hz));go_ret;exact⟨aj HZ.o,hb5⟩
def cK (o:Ending) (P:Prop):Prop:=∃ b:Bool,o = rT (bO b)/\(b=true↔P)
def hoL (H:Ho) (s:Sl):List Value:=[I J H.c0,I J H.c1,I J H.c2,I J H.c3,sL s.a1 s.n1 s.k1,sL s.a2 s.n2 s.k2,sL s.a3 s.n3 s.k3,sL s.a4 s.n4 s.k4,I J H.lo,I J H.st]
def gR (H:Ho) (s:Sl):hoV H s = aG (hoL H s).toArray:=rfl
def BD (H:Ho) (s:Sl):(hoL H s).length=10:=rfl
def px (H:Ho) (s:Sl):(Tp.info? 41).map (·.size)=some (hoL H s).length:=xU
def Cw (H:Ho) (s:Sl):(Tp.info? 41).map (·.size)=some (hoL H s).toArray.size:=xU
def oC (H:Ho) (s:Sl):(hoL H s).toArray.all (·.oneCell')=true:=QL (by simp[hoL,Value.oneCell'])
def zFr (e:Bool) (i:Nat) (r:Bool) (d:Int) (n:Nat):Prop:=e=false/\i=0/\r=false/\d=0/\n=0
def gQ (w:World) (e:Bool) (i:Nat) (r:Bool) (d:Int) (a:Option Addr) (n cap:Nat) :
  Calls Tp 153 #[frV e i r d a n cap] w fun o w'=>cK o (zFr e i r d n)/\Bl w w':=by
 have HB:Hid (Bl w (w.alloc (.cells #[bO e,I .u32 (i:Int),bO r,I J d,sL a n cap] 47))):=(bW _ _).alloc (nR _) _;cases e
 .by_cases hi:i=0
  .subst hi;cases r
   .by_cases hd:d=0
    .subst hd;go_enter Tryz.func153,Tryz.ntmps153;go_wp2;go_ret;refine⟨⟨_,rfl,?_⟩,HB.o⟩;unfold zFr;simp;try omega
    .have hd':(d == 0)=false:=by simpa using hd
     clear hd;go_enter Tryz.func153,Tryz.ntmps153;go_wp2;go_ret;refine⟨⟨_,rfl,?_⟩,HB.o⟩;unfold zFr;simp at hd';simp[hd']
   .go_enter Tryz.func153,Tryz.ntmps153;go_wp2;go_ret;refine⟨⟨_,rfl,?_⟩,HB.o⟩;unfold zFr;simp
  .have hi':((i:Int) == 0)=false:=by simpa using hi
   clear hi;go_enter Tryz.func153,Tryz.ntmps153;go_wp2;go_ret;refine⟨⟨_,rfl,?_⟩,HB.o⟩;unfold zFr;simp at hi';simp[hi']
 .go_enter Tryz.func153,Tryz.ntmps153;go_wp2;go_ret;refine⟨⟨_,rfl,?_⟩,HB.o⟩;unfold zFr;simp
def okS (S:Sc):Prop:=1<=S.f/\S.f<=14/\S.i<536870912/\0<=S.d/\S.d<=15/\S.l.length<=8/\1<=S.lf/\S.lf<=bh S.f S.e S.d/\0<=S.rn/\S.rn<=5/\0<=S.lv/\S.lv<=1/\¬ (S.rn=0/\S.lv=1)/\((S.f=1\/11<S.f)↔S.rn=0)/\0<=S.cr/\S.cr<=32767/\0<=S.ac/\S.ac<=32767/\(S.f=9->S.r=false/\S.d≠0/\(S.l.length:Int)=(bh S.f S.e S.d-S.lf+7) / 8)
def fX (f:Int) (e:Bool) (d:Int) (h0:0<=d) (h1:d<=15):0<=bh f e d/\bh f e d<=64:=by
 unfold bh;cases e <;> simp <;> omega
def yr {f rn:Int} {P:Prop} (h1:¬ f=1) (h2:¬ rn=0) (h:(!(f == 1 || decide (11<f)) == (rn == 0))=true) (hp:11<f->¬ P):¬ P:=by
 by_cases q:11<f
 .exact hp q
 .have e1:(f == 1)=false:=by simpa using h1
  have e2:(rn == 0)=false:=by simpa using h2
  have e3:decide (11<f)=false:=by simpa using q
  rw[e1,e2,e3] at h;exact Qz h (by decide)
def j3 (w:World) (S:Sc) (a:Option Addr) (n cap:Nat) (hn:n=S.l.length) (hn1:n<=1048576) :
  Calls Tp 80 #[scV S a n cap] w fun o w'=>cK o (okS S)/\Bl w w':=by
 obtain⟨f,lf,rn,lv,cr,ac,e,i,r,d,l⟩:=S;simp only[] at hn;have HN:Hid (n=l.length):=hn;clear hn;have HZ:Hid (0<=d->d<=15->0<=bh f e d/\bh f e d<=64):=fX f e d;have HC:Hid (0<=d->d<=15->∀ W,Bl w W->Calls Tp 111 #[I J f,frV e i r d a n cap] W fun o w'=>o = rT (I J (bh f e d))/\Bl w w'/\Bl W w'):=fun h0 h1 W hW=>(iU W f e i r d h0 h1 a n cap).mono (by rintro o w' ⟨rfl,hb⟩;exact⟨rfl,hW.trans (hb.mono hW.size),hb⟩);have HK:Hid (okS ⟨f,lf,rn,lv,cr,ac,e,i,r,d,l⟩↔(1<=f/\f<=14/\i<536870912/\0<=d/\d<=15/\n<=8/\1<=lf/\lf<=bh f e d/\0<=rn/\rn<=5/\0<=lv/\lv<=1/\¬ (rn=0/\lv=1)/\((f=1\/11<f)↔rn=0)/\0<=cr/\cr<=32767/\0<=ac/\ac<=32767/\(f=9->r=false/\d≠0/\(n:Int)=(bh f e d-lf+7) / 8))):=by
  unfold okS;simp only[];rw[<- HN.o];exact Iff.rfl
 generalize okS ⟨f,lf,rn,lv,cr,ac,e,i,r,d,l⟩=P at *;generalize bh f e d=z at *;by_cases hi:i<536870912
 .have hi2:decide ((536870912:Int)<=(i:Int))=false:=qo om;have HI:Hid (i<536870912):=hi;clear hi;go_enter Tryz.func80,Tryz.ntmps80;go_wp2_with (first | (go_at_call 111;refine (HC.o om om _ ((bW _ _).alloc (nR _) _)).mono ?_;rintro o w1 ⟨rfl,hb1,hb2⟩;obtain⟨hc,hf⟩:=vl hb2;have HB:Hid _:=hb1;have hz:=HZ.o om om;clear hb1 hb2));all_goals
   go_ret;refine⟨⟨_,rfl,?_⟩,?_⟩;rotate_left
   .first | exact HB.o | exact (bW _ _).alloc (nR _) _
   rw[HK.o];have hi:=HI.o;clear HK HC HZ HI;cases r <;> simp only[qN,Bool.true_eq_false,false_iff,true_iff,true_and,false_and,imp_false] <;> first | omega | (simp_all;done) | (simp_all;omega) | (by_cases q:11<f <;> simp_all <;> omega) | (by_cases q:11<f <;> simp_all;done) | (exact yr (by assumption) (by assumption) (by assumption) (fun q=>by omega))
 .have hi2:decide ((536870912:Int)<=(i:Int))=true:=qE om;have HI:Hid (¬ i<536870912):=hi;clear hi;go_enter Tryz.func80,Tryz.ntmps80;go_wp2_with fail;all_goals
   go_ret;refine⟨⟨_,rfl,?_⟩,(bW _ _).alloc (nR _) _⟩;rw[HK.o];have hi:=HI.o;clear HK HC HZ HI;simp only[qN,false_iff];omega
def bV:List Value:=[I J 1,I J 1,I J 2,I J 2,I J 11,I J 3,I J 3,I J 1,I J 4,I J 4,I J 1,I J 7,I J 5,I J 18,I J 6,I J 6,I J 1,I J 7,I J 7,I J 1,I J 8,I J 8,I J 4,I J 9,I J 9,I J 8,I J 10,I J 10,I J 15,I J 11,I J 11,I J 1,I J 12,I J 12,I J 1,I J 13,I J 13,I J 1,I J 14,I J 14,I J 7,I J 15]
def dS (r:Bool) (d:Int):Int:=if r=true then 0 else min d 8
def jt (w:Wd) (e:Bool) (i:Nat) (r:Bool) (d:Int) (a:Option Addr) (n cap:Nat) :
  Calls Tp 257 #[frV e i r d a n cap] w fun o w'=>o = rT (I J (dS r d))/\Bl w w':=by
 cases r
 .go_enter Tryz.func257,Tryz.ntmps257;go_wp2;all_goals (go_ret;refine⟨au ?_,(bW _ _).alloc (nR _) _⟩;unfold dS;simp;try omega)
 .go_enter Tryz.func257,Tryz.ntmps257;go_wp2;all_goals (go_ret;refine⟨au ?_,(bW _ _).alloc (nR _) _⟩;unfold dS;simp)
structure rS (w:Wd) (e:Bool) (i:Nat) (r:Bool) (d:Int) (a:Option Addr) (n cap:Nat) (W:Wd):Prop where
 p:blk W w.heap.size [bO e,I .u32 (i:Int),bO r,I J d,sL a n cap] 47
 b:Bl w W
def rsz (f:Int) (e r:Bool) (d:Int):Int:=if f=9 then 8*dS r d else bh f e d
def aW {w:Wd} (hg:w.rangeAt 0 0 bV) (hz:0<w.heap.size) {W:Wd} (hb:Bl w W) (j:Nat) (v:Value) (hv:bV[j]?=sQ v):W.cell? ⟨0,j,nn⟩=sQ v:=by
 have:=(hb.cell (p:=⟨0,0+j,nn⟩) hz).trans (hg j v hv);simpa using this
def uG (w:Wd) (hg:w.rangeAt 0 0 bV) (hz:0<w.heap.size) (e:Bool) (i:Nat) (r:Bool) (d:Int) (hd:0<=d) (hd1:d<=15) (a:Option Addr) (n cap:Nat) :
  Calls Tp 254 #[I J 1,frV e i r d a n cap] w fun o w'=>o = rT (aG #[I J 1,I J (rsz 1 e r d),I J (ai 1 e r d)])/\Bl w w':=by
 have hb2:Bl w ((w.alloc (.cells #[bO e,I .u32 (i:Int),bO r,I J d,sL a n cap] 47)).alloc (.cells #[I J 0,I J 0,I J 0] 299)):=((bW _ _).alloc (nR _) _).alloc pQ _;have c0:=aW hg hz hb2 0 _ rfl;have c1:=aW hg hz hb2 1 _ rfl;have c2:=aW hg hz hb2 2 _ rfl;clear hg hb2;go_enter Tryz.func254,Tryz.ntmps254;go_wp2_with fail;refine QF (v:=aG #[I J 1,I J 1,I J 2]) (by simp[results,Tryz.results254,go_sem]) rfl ?_;exact⟨rfl,(((bW _ _).alloc (nR _) _).alloc pQ _).alloc (by simp;omega) _⟩
def uF (w:Wd) (hg:w.rangeAt 0 0 bV) (hz:0<w.heap.size) (e:Bool) (i:Nat) (r:Bool) (d:Int) (hd:0<=d) (hd1:d<=15) (a:Option Addr) (n cap:Nat) :
  Calls Tp 254 #[I J 2,frV e i r d a n cap] w fun o w'=>o = rT (aG #[I J 2,I J (rsz 2 e r d),I J (ai 2 e r d)])/\Bl w w':=by
 have hb2:Bl w ((w.alloc (.cells #[bO e,I .u32 (i:Int),bO r,I J d,sL a n cap] 47)).alloc (.cells #[I J 0,I J 0,I J 0] 299)):=((bW _ _).alloc (nR _) _).alloc pQ _;have c0:=aW hg hz hb2 3 _ rfl;have c1:=aW hg hz hb2 4 _ rfl;have c2:=aW hg hz hb2 5 _ rfl;clear hg hb2;go_enter Tryz.func254,Tryz.ntmps254;go_wp2_with fail;refine QF (v:=aG #[I J 2,I J 11,I J 3]) (by simp[results,Tryz.results254,go_sem]) rfl ?_;exact⟨rfl,(((bW _ _).alloc (nR _) _).alloc pQ _).alloc (by simp;omega) _⟩
def uE (w:Wd) (hg:w.rangeAt 0 0 bV) (hz:0<w.heap.size) (e:Bool) (i:Nat) (r:Bool) (d:Int) (hd:0<=d) (hd1:d<=15) (a:Option Addr) (n cap:Nat) :
  Calls Tp 254 #[I J 3,frV e i r d a n cap] w fun o w'=>o = rT (aG #[I J 3,I J (rsz 3 e r d),I J (ai 3 e r d)])/\Bl w w':=by
 have hb2:Bl w ((w.alloc (.cells #[bO e,I .u32 (i:Int),bO r,I J d,sL a n cap] 47)).alloc (.cells #[I J 0,I J 0,I J 0] 299)):=((bW _ _).alloc (nR _) _).alloc pQ _;have c0:=aW hg hz hb2 6 _ rfl;have c1:=aW hg hz hb2 7 _ rfl;have c2:=aW hg hz hb2 8 _ rfl;clear hg hb2;go_enter Tryz.func254,Tryz.ntmps254;go_wp2_with fail;refine QF (v:=aG #[I J 3,I J 1,I J 4]) (by simp[results,Tryz.results254,go_sem]) rfl ?_;exact⟨rfl,(((bW _ _).alloc (nR _) _).alloc pQ _).alloc (by simp;omega) _⟩
def uC (w:Wd) (hg:w.rangeAt 0 0 bV) (hz:0<w.heap.size) (e:Bool) (i:Nat) (r:Bool) (d:Int) (hd:0<=d) (hd1:d<=15) (a:Option Addr) (n cap:Nat) :
  Calls Tp 254 #[I J 5,frV e i r d a n cap] w fun o w'=>o = rT (aG #[I J 5,I J (rsz 5 e r d),I J (ai 5 e r d)])/\Bl w w':=by
 have hb2:Bl w ((w.alloc (.cells #[bO e,I .u32 (i:Int),bO r,I J d,sL a n cap] 47)).alloc (.cells #[I J 0,I J 0,I J 0] 299)):=((bW _ _).alloc (nR _) _).alloc pQ _;have c0:=aW hg hz hb2 12 _ rfl;have c1:=aW hg hz hb2 13 _ rfl;have c2:=aW hg hz hb2 14 _ rfl;clear hg hb2;go_enter Tryz.func254,Tryz.ntmps254;go_wp2_with fail;refine QF (v:=aG #[I J 5,I J 18,I J 6]) (by simp[results,Tryz.results254,go_sem]) rfl ?_;exact⟨rfl,(((bW _ _).alloc (nR _) _).alloc pQ _).alloc (by simp;omega) _⟩
def uB (w:Wd) (hg:w.rangeAt 0 0 bV) (hz:0<w.heap.size) (e:Bool) (i:Nat) (r:Bool) (d:Int) (hd:0<=d) (hd1:d<=15) (a:Option Addr) (n cap:Nat) :
  Calls Tp 254 #[I J 6,frV e i r d a n cap] w fun o w'=>o = rT (aG #[I J 6,I J (rsz 6 e r d),I J (ai 6 e r d)])/\Bl w w':=by
 have hb2:Bl w ((w.alloc (.cells #[bO e,I .u32 (i:Int),bO r,I J d,sL a n cap] 47)).alloc (.cells #[I J 0,I J 0,I J 0] 299)):=((bW _ _).alloc (nR _) _).alloc pQ _;have c0:=aW hg hz hb2 15 _ rfl;have c1:=aW hg hz hb2 16 _ rfl;have c2:=aW hg hz hb2 17 _ rfl;clear hg hb2;go_enter Tryz.func254,Tryz.ntmps254;go_wp2_with fail;refine QF (v:=aG #[I J 6,I J 1,I J 7]) (by simp[results,Tryz.results254,go_sem]) rfl ?_;exact⟨rfl,(((bW _ _).alloc (nR _) _).alloc pQ _).alloc (by simp;omega) _⟩
def pI (w:Wd) (hg:w.rangeAt 0 0 bV) (hz:0<w.heap.size) (e:Bool) (i:Nat) (r:Bool) (d:Int) (hd:0<=d) (hd1:d<=15) (a:Option Addr) (n cap:Nat) :
  Calls Tp 254 #[I J 10,frV e i r d a n cap] w fun o w'=>o = rT (aG #[I J 10,I J (rsz 10 e r d),I J (ai 10 e r d)])/\Bl w w':=by
 have hb2:Bl w ((w.alloc (.cells #[bO e,I .u32 (i:Int),bO r,I J d,sL a n cap] 47)).alloc (.cells #[I J 0,I J 0,I J 0] 299)):=((bW _ _).alloc (nR _) _).alloc pQ _;have c0:=aW hg hz hb2 27 _ rfl;have c1:=aW hg hz hb2 28 _ rfl;have c2:=aW hg hz hb2 29 _ rfl;clear hg hb2;go_enter Tryz.func254,Tryz.ntmps254;go_wp2_with fail;refine QF (v:=aG #[I J 10,I J 15,I J 11]) (by simp[results,Tryz.results254,go_sem]) rfl ?_;exact⟨rfl,(((bW _ _).alloc (nR _) _).alloc pQ _).alloc (by simp;omega) _⟩
def pG (w:Wd) (hg:w.rangeAt 0 0 bV) (hz:0<w.heap.size) (e:Bool) (i:Nat) (r:Bool) (d:Int) (hd:0<=d) (hd1:d<=15) (a:Option Addr) (n cap:Nat) :
  Calls Tp 254 #[I J 11,frV e i r d a n cap] w fun o w'=>o = rT (aG #[I J 11,I J (rsz 11 e r d),I J (ai 11 e r d)])/\Bl w w':=by
 have hb2:Bl w ((w.alloc (.cells #[bO e,I .u32 (i:Int),bO r,I J d,sL a n cap] 47)).alloc (.cells #[I J 0,I J 0,I J 0] 299)):=((bW _ _).alloc (nR _) _).alloc pQ _;have c0:=aW hg hz hb2 30 _ rfl;have c1:=aW hg hz hb2 31 _ rfl;have c2:=aW hg hz hb2 32 _ rfl;clear hg hb2;go_enter Tryz.func254,Tryz.ntmps254;go_wp2_with fail;refine QF (v:=aG #[I J 11,I J 1,I J 12]) (by simp[results,Tryz.results254,go_sem]) rfl ?_;exact⟨rfl,(((bW _ _).alloc (nR _) _).alloc pQ _).alloc (by simp;omega) _⟩
def pF (w:Wd) (hg:w.rangeAt 0 0 bV) (hz:0<w.heap.size) (e:Bool) (i:Nat) (r:Bool) (d:Int) (hd:0<=d) (hd1:d<=15) (a:Option Addr) (n cap:Nat) :
  Calls Tp 254 #[I J 12,frV e i r d a n cap] w fun o w'=>o = rT (aG #[I J 12,I J (rsz 12 e r d),I J (ai 12 e r d)])/\Bl w w':=by
 have hb2:Bl w ((w.alloc (.cells #[bO e,I .u32 (i:Int),bO r,I J d,sL a n cap] 47)).alloc (.cells #[I J 0,I J 0,I J 0] 299)):=((bW _ _).alloc (nR _) _).alloc pQ _;have c0:=aW hg hz hb2 33 _ rfl;have c1:=aW hg hz hb2 34 _ rfl;have c2:=aW hg hz hb2 35 _ rfl;clear hg hb2;go_enter Tryz.func254,Tryz.ntmps254;go_wp2_with fail;refine QF (v:=aG #[I J 12,I J 1,I J 13]) (by simp[results,Tryz.results254,go_sem]) rfl ?_;exact⟨rfl,(((bW _ _).alloc (nR _) _).alloc pQ _).alloc (by simp;omega) _⟩
def pE (w:Wd) (hg:w.rangeAt 0 0 bV) (hz:0<w.heap.size) (e:Bool) (i:Nat) (r:Bool) (d:Int) (hd:0<=d) (hd1:d<=15) (a:Option Addr) (n cap:Nat) :
  Calls Tp 254 #[I J 13,frV e i r d a n cap] w fun o w'=>o = rT (aG #[I J 13,I J (rsz 13 e r d),I J (ai 13 e r d)])/\Bl w w':=by
 have hb2:Bl w ((w.alloc (.cells #[bO e,I .u32 (i:Int),bO r,I J d,sL a n cap] 47)).alloc (.cells #[I J 0,I J 0,I J 0] 299)):=((bW _ _).alloc (nR _) _).alloc pQ _;have c0:=aW hg hz hb2 36 _ rfl;have c1:=aW hg hz hb2 37 _ rfl;have c2:=aW hg hz hb2 38 _ rfl;clear hg hb2;go_enter Tryz.func254,Tryz.ntmps254;go_wp2_with fail;refine QF (v:=aG #[I J 13,I J 1,I J 14]) (by simp[results,Tryz.results254,go_sem]) rfl ?_;exact⟨rfl,(((bW _ _).alloc (nR _) _).alloc pQ _).alloc (by simp;omega) _⟩
def pD (w:Wd) (hg:w.rangeAt 0 0 bV) (hz:0<w.heap.size) (e:Bool) (i:Nat) (r:Bool) (d:Int) (hd:0<=d) (hd1:d<=15) (a:Option Addr) (n cap:Nat) :
  Calls Tp 254 #[I J 14,frV e i r d a n cap] w fun o w'=>o = rT (aG #[I J 14,I J (rsz 14 e r d),I J (ai 14 e r d)])/\Bl w w':=by
 have hb2:Bl w ((w.alloc (.cells #[bO e,I .u32 (i:Int),bO r,I J d,sL a n cap] 47)).alloc (.cells #[I J 0,I J 0,I J 0] 299)):=((bW _ _).alloc (nR _) _).alloc pQ _;have c0:=aW hg hz hb2 39 _ rfl;have c1:=aW hg hz hb2 40 _ rfl;have c2:=aW hg hz hb2 41 _ rfl;clear hg hb2;go_enter Tryz.func254,Tryz.ntmps254;go_wp2_with fail;refine QF (v:=aG #[I J 14,I J 7,I J 15]) (by simp[results,Tryz.results254,go_sem]) rfl ?_;exact⟨rfl,(((bW _ _).alloc (nR _) _).alloc pQ _).alloc (by simp;omega) _⟩
def uD (w:Wd) (hg:w.rangeAt 0 0 bV) (hz:0<w.heap.size) (e:Bool) (i:Nat) (r:Bool) (d:Int) (hd:0<=d) (hd1:d<=15) (a:Option Addr) (n cap:Nat) :
  Calls Tp 254 #[I J 4,frV e i r d a n cap] w fun o w'=>o = rT (aG #[I J 4,I J (rsz 4 e r d),I J (ai 4 e r d)])/\Bl w w':=by
 have hb2:Bl w ((w.alloc (.cells #[bO e,I .u32 (i:Int),bO r,I J d,sL a n cap] 47)).alloc (.cells #[I J 0,I J 0,I J 0] 299)):=((bW _ _).alloc (nR _) _).alloc pQ _;have c0:=aW hg hz hb2 9 _ rfl;have c1:=aW hg hz hb2 10 _ rfl;have c2:=aW hg hz hb2 11 _ rfl;clear hg hb2;cases e
 .go_enter Tryz.func254,Tryz.ntmps254;go_wp2_with fail;refine QF (v:=aG #[I J 4,I J 1,I J 7]) (by simp[results,Tryz.results254,go_sem]) rfl ?_;exact⟨rfl,(((bW _ _).alloc (nR _) _).alloc pQ _).alloc (by simp;omega) _⟩
 .go_enter Tryz.func254,Tryz.ntmps254;go_wp2_with fail;refine QF (v:=aG #[I J 4,I J 1,I J 5]) (by simp[results,Tryz.results254,go_sem]) rfl ?_;exact⟨rfl,(((bW _ _).alloc (nR _) _).alloc pQ _).alloc (by simp;omega) _⟩
def uA (w:Wd) (hg:w.rangeAt 0 0 bV) (hz:0<w.heap.size) (e:Bool) (i:Nat) (r:Bool) (d:Int) (hd:0<=d) (hd1:d<=15) (a:Option Addr) (n cap:Nat) :
  Calls Tp 254 #[I J 7,frV e i r d a n cap] w fun o w'=>o = rT (aG #[I J 7,I J (rsz 7 e r d),I J (ai 7 e r d)])/\Bl w w':=by
 have hb2:Bl w ((w.alloc (.cells #[bO e,I .u32 (i:Int),bO r,I J d,sL a n cap] 47)).alloc (.cells #[I J 0,I J 0,I J 0] 299)):=((bW _ _).alloc (nR _) _).alloc pQ _;have c0:=aW hg hz hb2 18 _ rfl;have c1:=aW hg hz hb2 19 _ rfl;have c2:=aW hg hz hb2 20 _ rfl;clear hg hb2;cases e
 .go_enter Tryz.func254,Tryz.ntmps254;go_wp2_with fail;refine QF (v:=aG #[I J 7,I J 1,I J 8]) (by simp[results,Tryz.results254,go_sem]) rfl ?_;exact⟨rfl,(((bW _ _).alloc (nR _) _).alloc pQ _).alloc (by simp;omega) _⟩
 .go_enter Tryz.func254,Tryz.ntmps254;go_wp2_with fail;refine QF (v:=aG #[I J 7,I J 2,I J 8]) (by simp[results,Tryz.results254,go_sem]) rfl ?_;exact⟨rfl,(((bW _ _).alloc (nR _) _).alloc pQ _).alloc (by simp;omega) _⟩
def uz (w:Wd) (hg:w.rangeAt 0 0 bV) (hz:0<w.heap.size) (e:Bool) (i:Nat) (r:Bool) (d:Int) (hd:0<=d) (hd1:d<=15) (a:Option Addr) (n cap:Nat) :
  Calls Tp 254 #[I J 8,frV e i r d a n cap] w fun o w'=>o = rT (aG #[I J 8,I J (rsz 8 e r d),I J (ai 8 e r d)])/\Bl w w':=by
 have hb2:Bl w ((w.alloc (.cells #[bO e,I .u32 (i:Int),bO r,I J d,sL a n cap] 47)).alloc (.cells #[I J 0,I J 0,I J 0] 299)):=((bW _ _).alloc (nR _) _).alloc pQ _;have c0:=aW hg hz hb2 21 _ rfl;have c1:=aW hg hz hb2 22 _ rfl;have c2:=aW hg hz hb2 23 _ rfl;clear hg hb2;have HD:Hid (∀ W,Calls Tp 257 #[frV e i r d a n cap] W fun o w'=>o = rT (I J (dS r d))/\Bl W w'):=fun W=>jt W e i r d a n cap;have HA:Hid ((dS r d=0->ai 8 e r d=10)/\(dS r d≠0->ai 8 e r d=9)):=by
  unfold dS ai;cases r
  .constructor <;> intro h <;> simp at h ⊢ <;> omega
  .simp[Hid]
 generalize dS r d=z at *;generalize ai 8 e r d=af at *;go_enter Tryz.func254,Tryz.ntmps254;go_wp2_with fail;refine (HD.o _).mono ?_;rintro o w5 ⟨rfl,hb5⟩;have P5:blk w5 (w.heap.size+1) ([]++[I J 0,I J 0,I J 0]++[]) 299:=by
  have:=((blk.new (w.alloc (.cells #[bO e,I .u32 (i:Int),bO r,I J d,sL a n cap] 47)) [I J 0,I J 0,I J 0] 299).alloc (.cells #[I J 8,I J 4,I J 9] 299)).below hb5;simpa using this
 have R5:blk w5 (w.heap.size+1+1) [I J 8,I J 4,I J 9] 299:=by
  have:=(blk.new ((w.alloc (.cells #[bO e,I .u32 (i:Int),bO r,I J d,sL a n cap] 47)).alloc (.cells #[I J 0,I J 0,I J 0] 299)) [I J 8,I J 4,I J 9] 299).below hb5;simpa using this
 have HB5:Hid (Bl w w5):=((((bW _ _).alloc (nR _) _).alloc pQ _).alloc (by simp;omega) _).trans (hb5.mono (by simp;omega));have p0:=P5.cell 0 _ rfl;have p1:=P5.cell 1 _ rfl;have p2:=P5.cell 2 _ rfl;have fp0:=P5.free 0;have fp1:=P5.free 1;have fp2:=P5.free 2;have r0:=R5.cell 0 _ rfl;have r1:=R5.cell 1 _ rfl;have r2:=R5.cell 2 _ rfl;have fr2:=R5.free 2;clear P5 R5 hb5;by_cases hz0:z=0
 .have ha:=HA.o.1 hz0;have hq:(z == 0)=true:=by simpa using hz0
  clear hz0;subst ha;go_wp2_with fail;refine QF (v:=aG #[I J 8,I J 4,I J 10]) (by simp[results,Tryz.results254,go_sem,p0,p1,p2]) rfl ?_;refine⟨rfl,?_⟩
  (repeat refine Below.setCell ?_ (by simp;try omega) _)
  exact HB5.o
 .have ha:=HA.o.2 hz0;have hq:(z == 0)=false:=by simpa using hz0
  clear hz0;subst ha;go_wp2_with fail;refine QF (v:=aG #[I J 8,I J 4,I J 9]) (by simp[results,Tryz.results254,go_sem,p0,p1,p2]) rfl ?_;refine⟨rfl,?_⟩
  (repeat refine Below.setCell ?_ (by simp;try omega) _)
  exact HB5.o
def uy (w:Wd) (hg:w.rangeAt 0 0 bV) (hz:0<w.heap.size) (e:Bool) (i:Nat) (r:Bool) (d:Int) (hd:0<=d) (hd1:d<=15) (a:Option Addr) (n cap:Nat) :
  Calls Tp 254 #[I J 9,frV e i r d a n cap] w fun o w'=>o = rT (aG #[I J 9,I J (rsz 9 e r d),I J (ai 9 e r d)])/\Bl w w':=by
 have hb2:Bl w ((w.alloc (.cells #[bO e,I .u32 (i:Int),bO r,I J d,sL a n cap] 47)).alloc (.cells #[I J 0,I J 0,I J 0] 299)):=((bW _ _).alloc (nR _) _).alloc pQ _;have c0:=aW hg hz hb2 24 _ rfl;have c1:=aW hg hz hb2 25 _ rfl;have c2:=aW hg hz hb2 26 _ rfl;clear hg hb2;have HD:Hid (∀ W,Calls Tp 257 #[frV e i r d a n cap] W fun o w'=>o = rT (I J (dS r d))/\Bl W w'):=fun W=>jt W e i r d a n cap;have hdl:0<=dS r d/\dS r d<=8:=by
  unfold dS;cases r <;> simp <;> omega
 have HR:Hid (rsz 9 e r d=8*dS r d):=rfl;generalize rsz 9 e r d=rs9 at *;generalize dS r d=z at *;obtain⟨hz1,hz8⟩:=hdl;go_enter Tryz.func254,Tryz.ntmps254;go_wp2_with fail;refine QK (S:=rS w e i r d a n cap) kr ?_;generalize hW3:(((w.alloc (.cells #[bO e,I .u32 (i:Int),bO r,I J d,sL a n cap] 47)).alloc (.cells #[I J 0,I J 0,I J 0] 299)).alloc (.cells #[I J 9,I J 8,I J 10] 299))=W3 at *;have hp3:blk W3 w.heap.size [bO e,I .u32 (i:Int),bO r,I J d,sL a n cap] 47:=hW3 ▸ ((blk.new w _ 47).alloc _).alloc _;have hr3:blk W3 (w.heap.size+1) ([]++[I J 0,I J 0,I J 0]++[]) 299:=by
  have:=(blk.new (w.alloc (.cells #[bO e,I .u32 (i:Int),bO r,I J d,sL a n cap] 47)) [I J 0,I J 0,I J 0] 299).alloc (.cells #[I J 9,I J 8,I J 10] 299);rw[<- hW3];simpa using this
 have hq3:blk W3 (w.heap.size+1+1) [I J 9,I J 8,I J 10] 299:=by
  have:=blk.new ((w.alloc (.cells #[bO e,I .u32 (i:Int),bO r,I J d,sL a n cap] 47)).alloc (.cells #[I J 0,I J 0,I J 0] 299)) [I J 9,I J 8,I J 10] 299;rw[<- hW3];simpa using this
 have hb3:Bl w W3:=hW3 ▸ (((bW _ _).alloc (nR _) _).alloc pQ _).alloc (by simp;omega) _;obtain⟨wd,hwd⟩ : ∃ wd,wd=W3.drew:=⟨_,rfl⟩
 change wpAnyH _ _ _ _ _ _ _ _ W3.drew;rw[<- hwd];have hwb:Bl W3 wd:=hwd ▸ (bW _ _).drew;have hq:=hq3.below hwb;have hr:=hr3.below hwb;have hs:rS w e i r d a n cap wd:=⟨hp3.below hwb,hb3.trans (hwb.mono hb3.size)⟩
 clear hp3 hr3 hq3 hb3 hwb hwd hW3 c0 c1 c2;refine wV 0 (pT (sQ ⟨w.heap.size+1+1,1,nn⟩)) ?_ hs ?_
 .intro W hW;clear hs;go_simp
 simp only[Act.put,aA,aB,aC,aD,aE];refine wU 2 (.agg [bO e,I .u32 (i:Int),bO r,I J d,sL a n cap].toArray) rfl (QM (by rfl) 47 (.tmp 3) rfl w.heap.size 0 rfl [bO e,I .u32 (i:Int),bO r,I J d,sL a n cap] _ (fun W h=>h.p.load) Tryz.underlying47 rfl gp) hs ?_;simp only[aZ];refine QG (rs:=[1,3]) kr pQ ?_;refine Q9 rfl (fun K hK=>?_) (Q9 rfl (fun K hK=>?_) za)
 .have yq:=hq.cell 1 _ rfl;go_simp;clear yq;refine hK.out _ _ hs (fun hs2=>?_);clear hK K hs2;refine QG (rs:=[3]) kr pQ ?_;refine Q9 rfl (fun K hK=>?_) za;go_simp;refine (HD.o _).mono ?_;rintro o we ⟨rfl,hbe⟩;have hqe:=hq.below hbe;have hre:=hr.below hbe;have hse:rS w e i r d a n cap we:=⟨hs.p.below hbe,hs.b.trans (hbe.mono hs.b.size)⟩
  go_wp2_with fail;refine hK.out _ _ hse (fun hs2=>?_);clear hK K hs2;have hs:=hse;refine wV 4 (I J (8*z)) ?_ hs ?_
  .intro W hW;clear hs;go_simp;rw[QS];omega
  simp only[aZ];refine wV 5 (pT (sQ ⟨w.heap.size+1+1,1,nn⟩)) ?_ hs ?_
  .intro W hW;clear hs;go_simp
  simp only[aZ];refine QG (rs:=[6]) kr pQ ?_;refine Q9 rfl (fun K hK=>?_) za;have yq:=hqe.cell 1 _ rfl;have fq:=hqe.free 1;go_simp;have hs9:rS w e i r d a n cap (we.setCell ⟨w.heap.size+1+1,1,nn⟩ (I J (8*z))):=⟨hs.p.setOther om _ _,hs.b.setCell (by show _<=_+_+_;omega) _⟩
  have hq9:=hqe.set 1 (I J (8*z));have hr9:=hre.setOther (b':=w.heap.size+1+1) om 1 (I J (8*z));refine hK.out _ _ hs9 (fun hs2=>?_);clear hK K hs2;clear yq fq;refine QI kr ?_ _;generalize we.setCell ⟨w.heap.size+1+1,1,nn⟩ (I J (8*z))=w9 at *;have p0:=hr9.cell 0 _ rfl;have p1:=hr9.cell 1 _ rfl;have p2:=hr9.cell 2 _ rfl;have fp0:=hr9.free 0;have fp1:=hr9.free 1;have fp2:=hr9.free 2;have r0:=hq9.cell 0 _ rfl;have r1:=hq9.cell 1 _ rfl;have r2:=hq9.cell 2 _ rfl;have HB9:Hid (Bl w w9):=hs9.b;clear hr9 hq9 hs9 hqe hre hse hs;go_wp2_with fail;refine QF (v:=aG #[I J 9,I J (8*z),I J 10]) (by simp[results,Tryz.results254,go_sem,p0,p1,p2]) rfl ?_;refine⟨by rw[HR.o];rfl,?_⟩
  (repeat refine Below.setCell ?_ (by simp;try omega) _)
  exact HB9.o
 .go_simp;refine (HD.o _).mono ?_;rintro o we ⟨rfl,hbe⟩;have hqe:=hq.below hbe;have hre:=hr.below hbe;have hse:rS w e i r d a n cap we:=⟨hs.p.below hbe,hs.b.trans (hbe.mono hs.b.size)⟩
  go_wp2_with fail;refine hK.out _ _ hse (fun hs2=>?_);clear hK K hs2;refine QG (rs:=[1]) kr pQ ?_;refine Q9 rfl (fun K hK=>?_) za;have yq:=hqe.cell 1 _ rfl;go_simp;clear yq;refine hK.out _ _ hse (fun hs2=>?_);clear hK K hs2;have hs:=hse;refine wV 4 (I J (8*z)) ?_ hs ?_
  .intro W hW;clear hs;go_simp;rw[QS];omega
  simp only[aZ];refine wV 5 (pT (sQ ⟨w.heap.size+1+1,1,nn⟩)) ?_ hs ?_
  .intro W hW;clear hs;go_simp
  simp only[aZ];refine QG (rs:=[6]) kr pQ ?_;refine Q9 rfl (fun K hK=>?_) za;have yq:=hqe.cell 1 _ rfl;have fq:=hqe.free 1;go_simp;have hs9:rS w e i r d a n cap (we.setCell ⟨w.heap.size+1+1,1,nn⟩ (I J (8*z))):=⟨hs.p.setOther om _ _,hs.b.setCell (by show _<=_+_+_;omega) _⟩
  have hq9:=hqe.set 1 (I J (8*z));have hr9:=hre.setOther (b':=w.heap.size+1+1) om 1 (I J (8*z));refine hK.out _ _ hs9 (fun hs2=>?_);clear hK K hs2;clear yq fq;refine QI kr ?_ _;generalize we.setCell ⟨w.heap.size+1+1,1,nn⟩ (I J (8*z))=w9 at *;have p0:=hr9.cell 0 _ rfl;have p1:=hr9.cell 1 _ rfl;have p2:=hr9.cell 2 _ rfl;have fp0:=hr9.free 0;have fp1:=hr9.free 1;have fp2:=hr9.free 2;have r0:=hq9.cell 0 _ rfl;have r1:=hq9.cell 1 _ rfl;have r2:=hq9.cell 2 _ rfl;have HB9:Hid (Bl w w9):=hs9.b;clear hr9 hq9 hs9 hqe hre hse hs;go_wp2_with fail;refine QF (v:=aG #[I J 9,I J (8*z),I J 10]) (by simp[results,Tryz.results254,go_sem,p0,p1,p2]) rfl ?_;refine⟨by rw[HR.o];rfl,?_⟩
  (repeat refine Below.setCell ?_ (by simp;try omega) _)
  exact HB9.o
variable {w w':World} {B g n k:Nat} {l:List Nat}
def dj {E sz:Nat} {xs:List Value} (h:w.ownsRow B E sz (sL (sQ ⟨g,0,nn⟩) n k) n xs) (he:w'.heap[g]?=w.heap[g]?):w'.ownsRow B E sz (sL (sQ ⟨g,0,nn⟩) n k) n xs:=by
 refine⟨h.1,?_⟩;rcases h.2 with⟨e,_⟩|⟨g1,cap,cur,hv',hb,hg,hcp,hmx,hsz,htk⟩
 .cases e
 .have e1:g1=g:=by cases hv';rfl
  subst e1;exact .inr ⟨g1,cap,cur,hv',hb,he.trans hg,hcp,hmx,hsz,htk⟩
def aa.keep (h:aa w B (sL (sQ ⟨g,0,nn⟩) n k) l) (hn:n=l.length) (he:w'.heap[g]?=w.heap[g]?):aa w' B (sL (sQ ⟨g,0,nn⟩) n k) l:=by
 subst hn;exact dj h he
def jC {b:Nat} {v:Value} (h:aa w B v l) (hb:b<B) (j:Nat) (x:Value):aa (w.setCell ⟨b,j,nn⟩ x) B v l:=by
 refine⟨h.1,?_⟩;rcases h.2 with⟨e,e2⟩|⟨g1,cap,cur,hv',hb1,hg,hcp,hmx,hsz,htk⟩
 .exact .inl ⟨e,e2⟩
 .exact .inr ⟨g1,cap,cur,hv',hb1,(QB _ _ _ _ (by show g1≠b;omega)).trans hg,hcp,hmx,hsz,htk⟩
def kn (w:World) (e:Bool) (i:Nat) (r:Bool) (d:Int) (a:Option Addr) (n cap:Nat) (l:List Nat) (h:iB w a n cap l) (hn:n<=1048576) :
  Calls Tp 57 #[frV e i r d a n cap] w fun o w'=>∃ g k,o = rT (frV e i r d (sQ ⟨g,0,nn⟩) n k)/\aa w' (w.heap.size+2) (sL (sQ ⟨g,0,nn⟩) n k) l/\Bl w w':=by
 have HH:Hid (iB w a n cap l):=h;have HL:Hid (n=l.length):=h.len;have HSm:Hid (∀ x ∈ l,x<256):=h.small;have hcp:=h.cap;clear h;have hB0:Bl w ((w.alloc (.cells #[bO e,I .u32 (i:Int),bO r,I J d,sL a n cap] 47)).alloc (.cells #[bO false,I .u32 0,bO false,I J 0,sL nn 0 0] 47)):=((bW _ _).alloc (nR _) _).alloc pQ _;have HB0:Hid _:=hB0;clear hB0;go_enter Tryz.func57,Tryz.ntmps57;go_wp2_with fail;have hown:=gB ((w.alloc (.cells #[bO e,I .u32 (i:Int),bO r,I J d,sL a n cap] 47)).alloc (.cells #[bO false,I .u32 0,bO false,I J 0,sL nn 0 0] 47)) (w.heap.size+2) pQ;have x0:((w.alloc (.cells #[bO e,I .u32 (i:Int),bO r,I J d,sL a n cap] 47)).alloc (.cells #[bO false,I .u32 0,bO false,I J 0,sL nn 0 0] 47)).heap[w.heap.size]?=sQ (.cells [bO e,I .u32 (i:Int),bO r,I J d,sL a n cap].toArray 47):=by
  rw[Below.heap_alloc _ _ _ pQ];exact QO w _
 have x1:bu ((w.alloc (.cells #[bO e,I .u32 (i:Int),bO r,I J d,sL a n cap] 47)).alloc (.cells #[bO false,I .u32 0,bO false,I J 0,sL nn 0 0] 47)) (w.heap.size+1) 5:=by
  have:=kO (w.alloc (.cells #[bO e,I .u32 (i:Int),bO r,I J d,sL a n cap] 47)) [bO false,I .u32 0,bO false,I J 0,sL nn 0 0] 47;simpa using this
 have hz2:((w.alloc (.cells #[bO e,I .u32 (i:Int),bO r,I J d,sL a n cap] 47)).alloc (.cells #[bO false,I .u32 0,bO false,I J 0,sL nn 0 0] 47)).heap.size=w.heap.size+2:=pQ;have hs2:w.heap.size+1+1=((w.alloc (.cells #[bO e,I .u32 (i:Int),bO r,I J d,sL a n cap] 47)).alloc (.cells #[bO false,I .u32 0,bO false,I J 0,sL nn 0 0] 47)).heap.size:=pQ;simp only[hs2];clear hs2;generalize (w.alloc (.cells #[bO e,I .u32 (i:Int),bO r,I J d,sL a n cap] 47)).alloc (.cells #[bO false,I .u32 0,bO false,I J 0,sL nn 0 0] 47)=W2 at *;rw[<- hz2] at hown;have HX0:Hid (W2.heap[w.heap.size]?=sQ (.cells [bO e,I .u32 (i:Int),bO r,I J d,sL a n cap].toArray 47)):=x0;have HX1:Hid (bu W2 (w.heap.size+1) 5):=x1;have HZ2:Hid (W2.heap.size=w.heap.size+2):=hz2;clear x0 x1 hz2;go_loopw [3,4] (fun v t wr=>∃ k:Nat,k<=n/\t = I J k/\aa wr W2.heap.size v (l.take k)/\(k=0->v = sL (sQ ⟨W2.heap.size,0,nn⟩) 0 0)/\Bl W2 wr) (fun _ t _=>n-(intOf t).toNat);case atStart=>exact⟨0,nZ _,rfl,hown,fun _=>rfl,(bW _ _).alloc (nR _) _⟩
 case round=>
  clear hown;obtain⟨k,hk,rfl,ho,hv0,hb⟩:=hrel;have hrg:=cb ((hb.block _ (by have:=HZ2.o;omega)).trans HX0.o);have y0:=hrg 0 (bO e) rfl;have y1:=hrg 1 (I .u32 (i:Int)) rfl;have y2:=hrg 2 (bO r) rfl;have y3:=hrg 3 (I J d) rfl;have y4:=hrg 4 (sL a n cap) rfl;simp only[qi,Nat.add_zero] at y0 y1 y2 y3 y4;clear hrg;by_cases hlt:k<n
  .have hkl:k<l.length:=by have:=HL.o;omega
   obtain⟨g0,o0,rfl,hc⟩:=HH.o.cells (by intro e;rw[e] at hkl;exact Qz hkl (nN _));have hx:=hc k hkl;have hgz:g0<w.heap.size:=QD w _ hx;have xk:=(hb.cell (p:=⟨g0,o0+k,nn⟩) (by have:=HZ2.o;show g0<_;omega)).trans ((HB0.o.cell (p:=⟨g0,o0+k,nn⟩) (by exact hgz)).trans hx);have HO:Hid (aa wr W2.heap.size u3 (l.take k)):=ho;have HB:Hid (Bl W2 wr):=hb;have HT:Hid (l.take k++[l[k]]=l.take (k+1)):=mL l k hkl;have HLT:Hid ((l.take k).length<=100000000):=by show _<=_;rw[qj];omega
   clear ho hb hc hx hv0;generalize l[k]=ck at *;go_wp2_with (first | (at_builtin;refine fE W2 wr rfl (.tmp 13) (.tmp 19) rfl W2.heap.size u3 (l.take k) ck _ rfl rfl HO.o rfl HLT.o HB.o.size HB.o ?_;intro v' w' ho' hb' _));go_roundw;case rel=>exact⟨k+1,om,by go_num,by rw[<- HT.o];exact ho',fun e=>Qz e om,hb'⟩
   case measure=>simp[intOf];omega
  .have hkn:k=n:=om;subst hkn;have htk:l.take k=l:=by rw[qf (by have:=HL.o;omega)]
   rw[htk] at ho;have hnn:u3≠sL nn 0 0:=by
    intro e;by_cases hk0:k=0
    .rw[hv0 hk0] at e;cases e
    .subst e;rcases ho.2 with⟨_,h⟩|⟨g,_,_,h,_⟩
     .have:=HL.o;omega
     .cases h
   obtain⟨g1,k1,rfl,q1,q2,q3⟩:=eI ho hnn HSm.o;rw[<- HL.o];have HQ:Hid (aa wr W2.heap.size (sL (sQ ⟨g1,0,nn⟩) k k1) l):=by rw[<- HL.o] at ho;exact ho
   have HB:Hid (Bl w wr):=HB0.o.trans (hb.mono (by have:=HZ2.o;omega));have hZ:=HX1.o.below hb (by have:=HZ2.o;omega);obtain⟨u0,z0⟩:=hZ.cell 0 om;obtain⟨u1,z1⟩:=hZ.cell 1 om;obtain⟨u2,z2⟩:=hZ.cell 2 om;obtain⟨u3,z3⟩:=hZ.cell 3 om;obtain⟨u4,z4⟩:=hZ.cell 4 om;have f0:=hZ.free 0;have f1:=hZ.free 1;have f2:=hZ.free 2;have f3:=hZ.free 3;have f4:=hZ.free 4;clear hZ q1 q2 q3 ho hb hv0 hnn htk;go_wp2;refine QF (v:=frV e i r d (sQ ⟨g1,0,nn⟩) k k1) (by simp[results,Tryz.results57,go_sem,z0,z1,z2,z3,z4]) rfl ?_;have hz:=HZ2.o;refine⟨g1,k1,rfl,?_,?_⟩
   .rw[show w.heap.size+2=W2.heap.size from hz.symm]
    (repeat refine jC ?_ om _ _)
    exact HQ.o
   ·(repeat refine Below.setCell ?_ pQ _)
    exact HB.o
set_option maxRecDepth 40000
variable {w:World} {b:Nat} {s:Sl}
structure Co where
 p:Int
 ct:Int
 lv:Int
 wk:Bool
 ov:Bool
 ow:Bool
 tx:Bool
 ak:Bool
 rn:Int
 te:Int
 re:Int
 ho:Ho
abbrev coV (C:Co) (s:Sl):Value:=aG #[I J C.p,I J C.ct,I J C.lv,bO C.wk,bO C.ov,bO C.ow,bO C.tx,bO C.ak,I J C.rn,I J C.te,I J C.re,I J C.ho.c0,I J C.ho.c1,I J C.ho.c2,I J C.ho.c3,sL s.a1 s.n1 s.k1,sL s.a2 s.n2 s.k2,sL s.a3 s.n3 s.k3,sL s.a4 s.n4 s.k4,I J C.ho.lo,I J C.ho.st]
def sB (w:World) (C:Co) (s:Sl) (h:aK w C.ho s) (hn:C.ho.le 9223372036854775807) :
  Calls Tp 18 #[coV C s,I J 1048576] w fun o w'=>∃ z:Int,o = rT (I J z)/\Bl w w'/\(z = -1\/∃ m':Nat,z=(m':Int)/\C.ho.le 1048576):=by
 have HC:Hid (∀ X,Bl w X->Calls Tp 51 #[hoV C.ho s,I J 1048576] X fun o w'=>∃ z:Int,o = rT (I J z)/\Bl w w'/\(z = -1\/∃ m':Nat,z=(m':Int)/\C.ho.le 1048576)):=by
  intro X hX;refine (sA X C.ho s (h.below hX) hn 1048576 om).mono ?_;rintro o w' ⟨z,rfl,h1,h2⟩;exact⟨z,rfl,hX.trans (h1.mono hX.size),h2⟩
 clear h hn;obtain⟨p,ct,lv,wk,ov,ow,tx,ak,rn,te,re,⟨c0,c1,c2,c3,fs,bx,ff,qu,lo,st⟩⟩:=C;obtain⟨a1,n1,k1,a2,n2,k2,a3,n3,k3,a4,n4,k4⟩:=s;go_enter Tryz.func18,Tryz.ntmps18;go_wp2_with (first | (go_at_call 51;refine (HC.o _ ((bW _ _).alloc (nR _) _)).mono ?_;rintro o w2 ⟨z,rfl,B2,h2⟩;have HB2:Hid (Bl w w2):=B2;clear B2;rcases h2 with rfl | ⟨m',rfl,hle⟩))
 .go_ret;exact⟨_,rfl,HB2.o,.inl rfl⟩
 .go_ret;exact⟨_,rfl,HB2.o,.inr ⟨m',rfl,hle⟩⟩
def rJ (w:World) (C:Co) (s s':Sl) (h:aK w C.ho s) (h':aK w C.ho s') (hn:C.ho.le 1048576) :
  Calls Tp 29 #[coV C s,coV C s'] w fun o w'=>o = rT (bO true)/\Bl w w':=by
 have HC:Hid (∀ X,Bl w X->Calls Tp 68 #[hoV C.ho s,hoV C.ho s'] X fun o w'=>o = rT (bO true)/\Bl w w'):=by
  intro X hX;refine (rI X C.ho s s' (h.below hX) (h'.below hX) hn).mono ?_;rintro o w' ⟨rfl,h1⟩;exact⟨rfl,hX.trans (h1.mono hX.size)⟩
 clear h h' hn;obtain⟨p,ct,lv,wk,ov,ow,tx,ak,rn,te,re,⟨c0,c1,c2,c3,fs,bx,ff,qu,lo,st⟩⟩:=C;obtain⟨a1,n1,k1,a2,n2,k2,a3,n3,k3,a4,n4,k4⟩:=s;obtain⟨b1,m1,l1,b2,m2,l2,b3,m3,l3,b4,m4,l4⟩:=s';have hb:∀ b:Bool,(b != b)=false:=by intro b;simp
 have hi:∀ i:Int,(i != i)=false:=by intro i;simp
 go_enter Tryz.func29,Tryz.ntmps29;go_wp2_with (first | (go_at_call 68;refine (HC.o _ (((bW _ _).alloc (nR _) _).alloc pQ _)).mono ?_;rintro o w2 ⟨rfl,B2⟩));go_ret;exact⟨rfl,B2⟩
def coL (C:Co) (s:Sl):List Value:=[I J C.p,I J C.ct,I J C.lv,bO C.wk,bO C.ov,bO C.ow,bO C.tx,bO C.ak,I J C.rn,I J C.te,I J C.re,I J C.ho.c0,I J C.ho.c1,I J C.ho.c2,I J C.ho.c3,sL s.a1 s.n1 s.k1,sL s.a2 s.n2 s.k2,sL s.a3 s.n3 s.k3,sL s.a4 s.n4 s.k4,I J C.ho.lo,I J C.ho.st]
def coM (C:Co):List Value:=[I J C.p,I J C.ct,I J C.lv,bO C.wk,bO C.ov,bO C.ow,bO C.tx,bO C.ak,I J C.rn,I J C.te,I J C.re]
def Ac (C:Co) (s:Sl):coV C s = aG (coL C s).toArray:=rfl
def cL (C:Co) (s:Sl):(coL C s).length=21:=rfl
def CM (C:Co) (s:Sl):coL C s=coM C++hoL C.ho s:=rfl
def cO (C:Co) (s:Sl):(coL C s).toArray.all (·.oneCell')=true:=QL (by simp[coL,Value.oneCell'])
def pw:(Tp.info? 43).map (·.size)=some 21:=kr
def cy (C:Co) (s:Sl):(Tp.info? 43).map (·.size)=some (coL C s).length:=pw
def nO (C:Co) (s:Sl):(Tp.info? 43).map (·.size)=some (coL C s).toArray.size:=pw
def Z21:List Value:=[I J 0,I J 0,I J 0,bO false,bO false,bO false,bO false,bO false,I J 0,I J 0,I J 0,I J 0,I J 0,I J 0,I J 0,sL none 0 0,sL none 0 0,sL none 0 0,sL none 0 0,I J 0,I J 0]
def blk.hostAt {C:Co} {T:TypeId} (h:blk w b (coL C s) T):w.rangeAt b 11 (hoL C.ho s):=by
 have h':blk w b (coM C++hoL C.ho s++[]) T:=by rw[Qw,<- CM];exact h
 exact h'.loadAt (coM C) (hoL C.ho s) []
def jT (H:Ho) (s:Sl):(Tp.info? 41).map (·.size)=some (hoL H s).length:=kr
structure ctS (w:World) (b:Nat) (C:Co) (s:Sl) (W:World):Prop where
 p:blk W b (coL C s) 43
 b:Bl w W
def ctS.below {C:Co} {W W':World} (h:ctS w b C s W) (hb:Bl W W'):ctS w b C s W':=⟨h.p.below hb,h.b.trans (hb.mono h.b.size)⟩
def ctS.new (w:World) (C:Co) (s:Sl):ctS w w.heap.size C s (w.alloc (.cells (coL C s).toArray 43)):=⟨blk.new w _ 43,(bW _ _).alloc (nR _) _⟩
def sgL:List Value:=[I J 0,I J 0,bO false,bO false,I J 0,bO false,I .u32 0,bO false,I J 0,sL none 0 0]
def mcH (P:Nat) (C:Co):List Value:=[pT (some ⟨P,0,none⟩),I J C.te,I J C.re,I J C.p,I J C.ct,I J C.lv,bO C.wk,bO C.ov,bO C.ow,bO C.tx,bO C.ak,I J C.rn]
def mcL (P:Nat) (C:Co):List Value:=mcH P C++(sgL++prL)
def oc {R:Nat->World->Prop} (hR:∀ P W W',R P W->Bl W W'->R P W') (w:World) (C:Co) (s:Sl) (ho:∀ W,Bl w W->Calls Tp 123 #[aG (hoL C.ho s).toArray] W fun o w'=>∃ P,o = rT (pT (some ⟨P,0,none⟩))/\R P w'/\Bl W w') :
  Calls Tp 61 #[aG (coL C s).toArray] w fun o w'=>∃ P w5,o = rT (pT (some ⟨w5.heap.size,0,none⟩))/\w'=w5.alloc (.cells (mcL P C).toArray 151)/\R P w5/\Bl w w5:=by
 have HO:Hid (∀ W,Bl w W->Calls Tp 123 #[aG (hoL C.ho s).toArray] W fun o w'=>∃ P,o = rT (pT (some ⟨P,0,none⟩))/\R P w'/\Bl W w'):=ho;have HR:Hid (∀ P W W',R P W->Bl W W'->R P W'):=hR;have HP:Hid (∀ W,Calls Tp 124 #[] W fun o w'=>o = rT (aG prL.toArray)/\Bl W w'):=fun W=>iN W;have H0:Hid (ctS w w.heap.size C s (w.alloc (.cells (coL C s).toArray 43))):=ctS.new w C s;clear ho hR;go_enter Tryz.func61,Tryz.ntmps61;go_wp2_with fail;refine QK (S:=fun X=>ctS w w.heap.size C s X) kr ?_;have hS:ctS w w.heap.size C s (World.drew (w.alloc (.cells (coL C s).toArray 43))):=H0.o.below (bW _ _).drew;clear H0;change wpAnyH Tp _ _ _ _ _ _ _ (World.drew (w.alloc (.cells (coL C s).toArray 43)));generalize World.drew (w.alloc (.cells (coL C s).toArray 43))=v0 at *;refine tk 0 ?_;refine wU 1 (aG (hoL C.ho s).toArray) rfl (QM (by rfl) 41 (.tmp 3) rfl w.heap.size 11 rfl (hoL C.ho s) _ (fun X h=>h.p.hostAt) Tryz.underlying41 rfl (jT C.ho s)) hS ?_;simp only[aZ];refine tk 3 ?_;refine tk 4 ?_ (hy:=fun W hSw=>by (have y:=hSw.p.cell 9 (I J C.te) rfl;go_simp;try rfl));refine tk 5 ?_;refine tk 6 ?_ (hy:=fun W hSw=>by (have y:=hSw.p.cell 10 (I J C.re) rfl;go_simp;try rfl));refine tk 8 ?_;refine tk 9 ?_ (hy:=fun W hSw=>by (have y:=hSw.p.cell 0 (I J C.p) rfl;go_simp;try rfl));refine tk 10 ?_;refine tk 11 ?_ (hy:=fun W hSw=>by (have y:=hSw.p.cell 1 (I J C.ct) rfl;go_simp;try rfl));refine tk 12 ?_;refine tk 13 ?_ (hy:=fun W hSw=>by (have y:=hSw.p.cell 2 (I J C.lv) rfl;go_simp;try rfl));refine tk 14 ?_;refine tk 15 ?_ (hy:=fun W hSw=>by (have y:=hSw.p.cell 3 (bO C.wk) rfl;go_simp;try rfl));refine tk 16 ?_;refine tk 17 ?_ (hy:=fun W hSw=>by (have y:=hSw.p.cell 4 (bO C.ov) rfl;go_simp;try rfl));refine tk 18 ?_;refine tk 19 ?_ (hy:=fun W hSw=>by (have y:=hSw.p.cell 5 (bO C.ow) rfl;go_simp;try rfl));refine tk 20 ?_;refine tk 21 ?_ (hy:=fun W hSw=>by (have y:=hSw.p.cell 6 (bO C.tx) rfl;go_simp;try rfl));refine tk 22 ?_;refine tk 23 ?_ (hy:=fun W hSw=>by (have y:=hSw.p.cell 7 (bO C.ak) rfl;go_simp;try rfl));refine tk 24 ?_;refine tk 25 ?_ (hy:=fun W hSw=>by (have y:=hSw.p.cell 8 (I J C.rn) rfl;go_simp;try rfl));refine tk 26 ?_;refine al 2 fun K2 hK2=>?_;go_simp;refine (HO.o _ hS.b).mono ?_;rintro o w2 ⟨P,rfl,hr,hb⟩;have hS2:=hS.below hb;have HR2:Hid (R P w2):=hr;clear hr hb;go_wp2_with fail;refine hK2.out _ _ hS2 (fun hS3=>?_);clear hK2 K2 hS2 hS;have hS:=hS3;clear hS3;refine tk 7 ?_;refine al 27 fun K2 hK2=>?_;go_simp;refine (HP.o _).mono ?_;rintro o w3 ⟨rfl,hb⟩;have hS2:=hS.below hb;have HR3:Hid (R P w3):=HR.o _ _ _ HR2.o hb;clear hb HR2;go_wp2_with fail;refine hK2.out _ _ hS2 (fun hS3=>?_);clear hK2 K2 hS2 hS;have hS:=hS3;clear hS3;refine tk 28 (v:=aG (mcL P C).toArray) ?_ (hy:=fun W hSw=>by (simp only[prL,mcL,mcH,sgL,List.cons_append,List.nil_append];go_simp;try rfl));refine al 29 fun K2 hK2=>?_;go_simp;have hS2:ctS w w.heap.size C s (w3.alloc (.cells (mcL P C).toArray 151)):=hS.below ((bW _ _).alloc (nR _) _);have HB3:Hid (Bl w w3):=hS.b;refine hK2.out _ _ hS2 (fun hS3=>?_);clear hK2 K2 hS2 hS;have hS:=hS3;clear hS3;refine tk 30 ?_;refine QI kr ?_ _;go_wp2_with fail;go_ret;exact⟨P,w3,rfl,rfl,HR3.o,HB3.o⟩
structure okM (C:Co):Prop where
 p:0<=C.p/\C.p<=7
 te:0<=C.te/\C.te<=256
 re:0<=C.re/\C.re<=255
 of:C.p=7↔C.te=256
 ct:rLo C.p<=C.ct/\C.ct<=rHi C.p
 lv:0<=C.lv/\C.lv<=1
 l1:C.lv=1->C.p=2/\C.wk=true/\0<C.ct
 wk:C.wk=true->C.p=2/\C.ov=false
 ov:C.ov=true->C.p=2\/C.p=3\/C.p=4
 ow:C.ow=true->C.wk=true/\C.tx=true
 tx:C.tx=true->C.p≠7/\C.p≠0
 t6:C.p=6->C.tx=true
 ak:C.ak=true->C.p=7
 rn:0<=C.rn/\C.rn<128
 na:C.ak=false->C.rn=0/\(C.p=7->C.ct=0)
end Go.Proofs.YtnfmjckkibdcaaaGreatDoor
