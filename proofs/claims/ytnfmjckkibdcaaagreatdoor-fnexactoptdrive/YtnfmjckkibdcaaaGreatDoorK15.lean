import Derived.Test.YtnfmjckkibdcaaaGreatDoorK13
import Derived.Deep.DeepCutAuto
import Derived.Deep.RegionHeld3
import Derived.Deep.RegionWith
namespace Go.Proofs.YtnfmjckkibdcaaaGreatDoor
open Go.RowKit
set_option linter.all false
open Go.Value renaming int->I,slice->sL,bool->bO,pointer->pT,agg->aG
open Go.IntKind renaming i64->J
open Go.Ending renaming returned->rT
open Go.Proofs.Tryz renaming prog->Tp
def iv (w:World) (hg:w.rangeAt 0 0 bV) (hz:0<w.heap.size) (f:Int) (hf:1<=f) (hf1:f<=14) (e:Bool) (i:Nat) (r:Bool) (d:Int) (hd:0<=d) (hd1:d<=15) (a:Option Addr) (n cap:Nat) :
  Calls Tp 254 #[I J f,frV e i r d a n cap] w fun o w'=>o = rT (aG #[I J f,I J (rsz f e r d),I J (ai f e r d)])/\Bl w w':=by
 have h:f=1\/f=2\/f=3\/f=4\/f=5\/f=6\/f=7\/f=8\/f=9\/f=10\/f=11\/f=12\/f=13\/f=14:=om;rcases h with rfl|rfl|rfl|rfl|rfl|rfl|rfl|rfl|rfl|rfl|rfl|rfl|rfl|rfl
 .exact uG w hg hz e i r d hd hd1 a n cap
 .exact uF w hg hz e i r d hd hd1 a n cap
 .exact Iu w hg hz e i r d hd hd1 a n cap
 .exact uD w hg hz e i r d hd hd1 a n cap
 .exact uC w hg hz e i r d hd hd1 a n cap
 .exact uB w hg hz e i r d hd hd1 a n cap
 .exact uA w hg hz e i r d hd hd1 a n cap
 .exact uz w hg hz e i r d hd hd1 a n cap
 .exact uy w hg hz e i r d hd hd1 a n cap
 .exact pI w hg hz e i r d hd hd1 a n cap
 .exact pG w hg hz e i r d hd hd1 a n cap
 .exact pF w hg hz e i r d hd hd1 a n cap
 .exact pE w hg hz e i r d hd hd1 a n cap
 .exact pD w hg hz e i r d hd hd1 a n cap
def Js (r:Bool) (d:Int) (h0:0<=d) (h1:d<=15):0<=dS r d/\dS r d<=8:=by
 unfold dS;cases r <;> simp <;> omega
set_option maxRecDepth 20000
set_option maxHeartbeats 16000000
def lE (w:World) (c:Bool):Calls Tp 252 #[bO c] w fun o w'=>o = rT (I J (if c=true then 0 else 4))/\w'=w:=by
 cases c;all_goals
  go_enter Tryz.func252,Tryz.ntmps252;go_wp2;go_ret;exact⟨rfl,rfl⟩
def uY (w:World) (c:Int):Calls Tp 128 #[I J c] w fun o w'=>cK o (c=0\/c=1)/\w'=w:=by
 go_enter Tryz.func128,Tryz.ntmps128;go_wp2;all_goals (go_ret;refine⟨⟨_,rfl,?_⟩,rfl⟩;simp_all)
def xG {lf cr ac:Int} (h1:¬ lf=1) (h2:¬ lf=2) (h3:1<=lf) (b:Nat) (hb:b<2):(if ((b:Int) == 1)=true then (0:Int) else 4)=bL 14 lf cr ac b:=by
 have hb':b=0\/b=1:=om;rcases hb' with rfl|rfl
 .show (4:Int)=(if lf > 1 then 4 else 6)
  rw[zc om]
 .show (0:Int)=(if lf=2 then 1 else if lf=1 then 2 else 0)
  rw[zb h2,zb h1]
def iM (w:World) (P:Nat) (S:Sc) (a:Option Addr) (n cap:Nat) (h:blk w P (scL S a n cap) 49) (hlf:1<=S.lf) (b:Nat) (hb:b<2) :
  Calls Tp 207 #[pT (some ⟨P,0,none⟩),I J (b:Int)] w fun o w'=>o = rT (I J (bL S.f S.lf S.cr S.ac b))/\Bl w w':=by
 obtain⟨f,lf,rn,lv,cr,ac,e,i,r,d,l⟩:=S;have z0:=h.cell 0 _ rfl;have z1:=h.cell 1 _ rfl;have z4:=h.cell 4 _ rfl;have z5:=h.cell 5 _ rfl;simp only[] at hlf ⊢;have HLF:Hid (1<=lf):=hlf;clear h hlf;have HFU:Hid (∀ (W:World) (c:Bool),Calls Tp 252 #[bO c] W fun o w'=>o = rT (I J (if c=true then 0 else 4))/\w'=W):=fun W c=>lE W c;have hb':b=0\/b=1:=om;by_cases h1:f=1
 .subst h1;rcases hb' with rfl|rfl
  all_goals
   go_enter Tryz.func207,Tryz.ntmps207;go_wp2_with (go_at_call 252;refine (HFU.o _ _).mono ?_;rintro o w1 ⟨rfl,rfl⟩);go_ret;exact⟨rfl,bW _ _⟩
 by_cases h13:f=13
 .subst h13;rcases hb' with rfl|rfl
  .go_enter Tryz.func207,Tryz.ntmps207;go_wp2_with fail;go_quiet (fail);go_wp2_with (go_at_call 252;refine (HFU.o _ _).mono ?_;rintro o w1 ⟨rfl,rfl⟩);go_ret;refine⟨au ?_,QR (bW _ _) _⟩;rfl
  .by_cases hca:ac=cr
   .have q:(ac != cr)=false:=by simpa using hca
    have HCA:Hid (ac=cr):=hca;clear hca;go_enter Tryz.func207,Tryz.ntmps207;go_wp2_with fail;go_quiet (fail);go_wp2_with (go_at_call 252;refine (HFU.o _ _).mono ?_;rintro o w1 ⟨rfl,rfl⟩);go_ret;refine⟨au ?_,QR (bW _ _) _⟩;show (0:Int)=(if ac=cr then 0 else 5)
    rw[zc HCA.o]
   .have q:(ac != cr)=true:=by simpa using hca
    have HCA:Hid (¬ ac=cr):=hca;clear hca;go_enter Tryz.func207,Tryz.ntmps207;go_wp2_with fail;go_quiet (fail);go_wp2_with (go_at_call 252;refine (HFU.o _ _).mono ?_;rintro o w1 ⟨rfl,rfl⟩);go_ret;refine⟨au ?_,QR (bW _ _) _⟩;show (5:Int)=(if ac=cr then 0 else 5)
    rw[zb HCA.o]
 by_cases h14:f=14
 .subst h14;by_cases l1:lf=1
  .subst l1;rcases hb' with rfl|rfl
   all_goals
    go_enter Tryz.func207,Tryz.ntmps207;go_wp2_with fail;go_quiet (fail);go_wp2_with (go_at_call 252;refine (HFU.o _ _).mono ?_;rintro o w1 ⟨rfl,rfl⟩);go_ret;refine⟨au ?_,QR (bW _ _) _⟩;rfl
  .by_cases l2:lf=2
   .subst l2;rcases hb' with rfl|rfl
    all_goals
     go_enter Tryz.func207,Tryz.ntmps207;go_wp2_with fail;go_quiet (fail);go_wp2_with (go_at_call 252;refine (HFU.o _ _).mono ?_;rintro o w1 ⟨rfl,rfl⟩);go_ret;refine⟨au ?_,QR (bW _ _) _⟩;rfl
   .have q1:(lf == 1)=false:=by simpa using l1
    have q2:(lf == 2)=false:=by simpa using l2
    have HL:Hid (¬ lf=1/\¬ lf=2):=⟨l1,l2⟩
    clear l1 l2;rcases hb' with rfl|rfl
    all_goals
     go_enter Tryz.func207,Tryz.ntmps207;go_wp2_with fail;go_quiet (fail);go_wp2_with (go_at_call 252;refine (HFU.o _ _).mono ?_;rintro o w1 ⟨rfl,rfl⟩);go_ret;refine⟨au ?_,QR (bW _ _) _⟩;first | exact xG HL.o.1 HL.o.2 HLF.o 0 (by decide) | exact xG HL.o.1 HL.o.2 HLF.o 1 (by decide)
 by_cases h11:f=11
 .subst h11;rcases hb' with rfl|rfl
  all_goals
   go_enter Tryz.func207,Tryz.ntmps207;go_wp2_with fail;go_quiet (fail);go_wp2_with (go_at_call 252;refine (HFU.o _ _).mono ?_;rintro o w1 ⟨rfl,rfl⟩);go_ret;refine⟨au ?_,QR (bW _ _) _⟩;rfl
 .have q1:(f == 1)=false:=by simpa using h1
  have q13:(f == 13)=false:=by simpa using h13
  have q14:(f == 14)=false:=by simpa using h14
  have q11:(f == 11)=false:=by simpa using h11
  have HF:Hid (bL f lf cr ac b=0):=by
   show _=_;unfold bL;rw[zb h1,zb h11,zb h13,zb h14]
  clear h1 h13 h14 h11;go_enter Tryz.func207,Tryz.ntmps207;go_wp2_with fail;go_quiet (fail);go_wp2_with (go_at_call 252;refine (HFU.o _ _).mono ?_;rintro o w1 ⟨rfl,rfl⟩);go_ret;refine⟨au ?_,QR (bW _ _) _⟩;exact HF.o.symm
open Option renaming none->nn,some->sQ
open Go renaming World->Wd
set_option maxRecDepth 40000
open Go.IntKind renaming i64->J,u32->zn
variable {w W W':Wd} {a:Option Addr} {n cap P i b g n' k:Nat} {l:List Nat} {gv:List Value} {f lf rn lv cr ac d:Int} {e r:Bool}
def ay (S:Sc) (b:Nat):Sc:=if 11<=S.f then { S with rn:=0,lv:=0 } else { S with rn:=if 0<S.rn/\(b:Int)=S.lv then S.rn+1 else 1,lv:=b }
def bJ (S:Sc) (b:Nat):Sc:=if S.f<=9 then { S with cr:=((M.dM S.cr.toNat b:Nat):Int) } else S
def bK (S:Sc) (b:Nat):Sc:=if S.f=10 then { S with ac:=(2*S.ac+b) % 32768 } else S
def cX (T:Sc):Sc:=if T.lf=1 then { T with f:=ai T.f T.e T.r T.d,lf:=bh (ai T.f T.e T.r T.d) T.e T.d,l:=if ai T.f T.e T.r T.d=9 then [] else T.l } else { T with lf:=T.lf-1 }
def fV (S:Sc) (b:Nat):Sc:=cX (ax (bK (bJ (ay S b) b) b) b)
structure sS (w:Wd) (S:Sc) (a:Option Addr) (n cap P:Nat) (gv:List Value) (W:Wd):Prop where
 p:blk W w.heap.size (scL S a n cap) 49
 r:blk W (w.heap.size+1) ([]++z11++[]) 49
 q:blk W P gv 49
 b:Bl w W
 z:w.heap.size+2<=P
def sS.below {S:Sc} (h:sS w S a n cap P gv W) (hb:Bl W W'):sS w S a n cap P gv W':=⟨h.p.below hb,h.r.below hb,h.q.below hb,h.b.trans (hb.mono h.b.size),h.z⟩
def sS.belowB {S:Sc} {B:Nat} (h:sS w S a n cap P gv W) (hB:w.heap.size+2<=B) (hq:W'.heap[P]?=W.heap[P]?) (hb:Below B W W'):sS w S a n cap P gv W':=
 ⟨h.p.kept (hb.block _ om),h.r.kept (hb.block _ om),h.q.kept hq,h.b.trans (hb.mono om),h.z⟩
def sS.set {S:Sc} (h:sS w S a n cap P gv W) (o:Nat) (v:Value):sS w S a n cap P (gv.set o v) (W.setCell ⟨P,o,nn⟩ v):=by
 have:=h.z;exact⟨h.p.setOther om _ _,h.r.setOther om _ _,h.q.set _ _,h.b.setCell (by show _<=P;omega) _,h.z⟩
structure tW (w:Wd) (S:Sc) (a:Option Addr) (n cap P:Nat) (T:Sc) (g n' k:Nat) (W:Wd):Prop where
 s:sS w S a n cap P (scL T (sQ ⟨g,0,nn⟩) n' k) W
 o:aa W (w.heap.size+2) (sL (sQ ⟨g,0,nn⟩) n' k) T.l
 ne:g≠P
 l:n'=T.l.length
def tW.below {S T:Sc} (h:tW w S a n cap P T g n' k W) (hb:Bl W W'):tW w S a n cap P T g n' k W':=⟨h.s.below hb,h.o.below hb,h.ne,h.l⟩
def tW.put {S T T':Sc} (h:tW w S a n cap P T g n' k W) (o:Nat) (v:Value) (hl:T'.l=T.l) (he:(scL T (sQ ⟨g,0,nn⟩) n' k).set o v=scL T' (sQ ⟨g,0,nn⟩) n' k):tW w S a n cap P T' g n' k (W.setCell ⟨P,o,nn⟩ v):=by
 refine⟨he ▸ h.s.set o v,?_,h.ne,by rw[hl];exact h.l⟩;rw[hl];exact h.o.keep h.l (QB _ _ _ _ (by exact h.ne))
def ry (h:11<=f):ay ⟨f,lf,rn,lv,cr,ac,e,i,r,d,l⟩ b=⟨f,lf,0,0,cr,ac,e,i,r,d,l⟩:=zc h
def rx (h:f<11) (h1:0<rn) (h2:(b:Int)=lv):ay ⟨f,lf,rn,lv,cr,ac,e,i,r,d,l⟩ b=⟨f,lf,rn+1,b,cr,ac,e,i,r,d,l⟩:=by
 refine (zb (by show ¬ 11<=f;omega)).trans ?_;simp only[];rw[zc ⟨h1,h2⟩]
def iD (h:f<11) (h1:¬ (0<rn/\(b:Int)=lv)):ay ⟨f,lf,rn,lv,cr,ac,e,i,r,d,l⟩ b=⟨f,lf,1,b,cr,ac,e,i,r,d,l⟩:=by
 refine (zb (by show ¬ 11<=f;omega)).trans ?_;simp only[];rw[zb h1]
def kF (T U:Sc):Sc:={ T with e:=U.e,i:=U.i,r:=U.r,d:=U.d,l:=U.l }
def tK (f lf rn lv cr ac rn' lv' cr' ac':Int) (e:Bool) (i:Nat) (r:Bool) (d:Int) (l:List Nat) (b:Nat):ax ⟨f,lf,rn',lv',cr',ac',e,i,r,d,l⟩ b=kF ⟨f,lf,rn',lv',cr',ac',e,i,r,d,l⟩ (ax ⟨f,lf,rn,lv,cr,ac,e,i,r,d,l⟩ b):=by
 unfold ax kF;simp only[];split
 .rfl
 split
 .rfl
 split
 .rfl
 split
 .rfl
 split <;> rfl
structure uS (w:Wd) (S:Sc) (a:Option Addr) (n cap:Nat) (W:Wd):Prop where
 p:blk W w.heap.size (scL S a n cap) 49
 b:Bl w W
def iB.setCells (h:iB w a n cap l) {b:Nat} (hb:∀ q,a=sQ q->q.block≠b) (o:Nat) (vs:List Value):iB (w.setCells b o vs) a n cap l:=by
 refine⟨h.len,h.cap,h.small,fun hl=>?_⟩;obtain⟨g',off,ha,hc⟩:=h.cells hl;refine⟨g',off,ha,fun t ht=>?_⟩;have hne:=hb _ ha;exact cU (hc t ht) (sO b g' hne vs w o)
def ij (T:Sc) (b:Nat) (hb:b<2) (hd0:0<=T.d) (hd1:T.d<=15) (hs:∀ x ∈ T.l,x<256):(ax T b).f=T.f/\(ax T b).lf=T.lf/\0<=(ax T b).d/\(ax T b).d<=15/\(∀ x ∈ (ax T b).l,x<256):=by
 unfold ax;split
 .exact⟨rfl,rfl,hd0,hd1,hs⟩
 split
 .exact⟨rfl,rfl,hd0,hd1,hs⟩
 split
 .exact⟨rfl,rfl,hd0,hd1,hs⟩
 split
 .exact⟨rfl,rfl,by show 0<=(2*T.d+b) % 16;omega,by show (2*T.d+b) % 16<=15;omega,hs⟩
 split
 .refine⟨rfl,rfl,hd0,hd1,?_⟩;show ∀ x ∈ cx T.l T.lf b,x<256;intro x hx;unfold cx at hx;split at hx
  .rcases List.mem_append.1 hx with h|h
   .exact hs x h
   .have:x=b:=by simpa using h
    omega
  .rcases List.mem_or_eq_of_mem_set hx with h|h
   .exact hs x h
   .omega
 .exact⟨rfl,rfl,hd0,hd1,hs⟩
def lT (w:Wd) (S:Sc) (hS:okS S) (a:Option Addr) (n cap:Nat) (h:iB w a n cap S.l) (b:Nat) (hb:b<2) (h5:S.rn≠5) (hc:bL S.f S.lf S.cr S.ac b=0\/bL S.f S.lf S.cr S.ac b=1) :
  Calls Tp 56 #[scV S a n cap,I J (b:Int)] w fun o w'=>∃ ao n' k',o = rT (.tuple #[scV (fV S b) ao n' k',I J (bL S.f S.lf S.cr S.ac b)])/\iB w' ao n' k' (fV S b).l/\Bl w w':=by
 have HS:Hid (okS S):=hS;have HH:Hid (iB w a n cap S.l):=h;have HN:Hid (n=S.l.length):=h.len;have hn8:n<=8:=by have:=hS.2.2.2.2.2.1;have:=h.len;omega
 have HSO:Hid (∀ W,Calls Tp 80 #[scV S a n cap] W fun o w'=>o = rT (bO true)/\Bl W w'):=fun W=>(j3 W S a n cap HN.o om).mono (by rintro o w' ⟨⟨bb,rfl,h1⟩,h2⟩;rw[h1.2 hS];exact⟨rfl,h2⟩);have HVE:Hid (∀ W,Calls Tp 108 #[scV S a n cap,I J (b:Int)] W fun o w'=>o = rT (I J (bL S.f S.lf S.cr S.ac b))/\Bl W w'):=fun W=>mi W S a n cap b;have hb':b=0\/b=1:=om;have HB':Hid (b=0\/b=1):=hb';clear hS h hb';generalize hV:bL S.f S.lf S.cr S.ac b=c at *;clear hV;have HSUM:Hid (∀ W,Calls Tp 109 #[I J S.cr,I J (b:Int)] W fun o w'=>o = rT (I J ((M.dM S.cr.toNat b:Nat):Int))/\W=w'):=by
  intro W;have h1:=HS.o.2.2.2.2.2.2.2.2.2.2.2.2.2.2.1;have h2:=HS.o.2.2.2.2.2.2.2.2.2.2.2.2.2.2.2.1;have:=wD S.cr.toNat b W om hb;rwa [qF h1] at this
 have HLS:Hid (∀ W,Calls Tp 111 #[I J S.f,frV S.e S.i S.r S.d a n cap] W fun o w'=>o = rT (I J (bh S.f S.e S.d))/\Bl W w'):=fun W=>iU W S.f S.e S.i S.r S.d HS.o.2.2.2.1 HS.o.2.2.2.2.1 a n cap;obtain⟨f,lf,rn,lv,cr,ac,e,i,r,d,l⟩:=S;simp only[] at h5 HN HH HSUM HLS;go_enter Tryz.func56,Tryz.ntmps56;go_upto_region 1 with fail
 go_cut [18] (fun s18 wx=>s18 = bO false/\blk wx w.heap.size (scL ⟨f,lf,rn,lv,cr,ac,e,i,r,d,l⟩ a n cap) 49/\blk wx (w.heap.size+1) ([]++z11++[]) 49/\Bl w wx);case first=>
  go_wp2_with fail;refine (HSO.o _).mono ?_;rintro o w1 ⟨rfl,hb1⟩;have H1:Hid (blk w1 w.heap.size (scL ⟨f,lf,rn,lv,cr,ac,e,i,r,d,l⟩ a n cap) 49/\blk w1 (w.heap.size+1) ([]++z11++[]) 49/\Bl w w1):=by
   refine⟨((blk.new w _ 49).alloc _).below hb1,?_,(qw.alloc pQ _).trans (hb1.mono (by simp;try omega))⟩;have:=(blk.new (w.alloc (.cells (scL ⟨f,lf,rn,lv,cr,ac,e,i,r,d,l⟩ a n cap).toArray 49)) z11 49).below hb1;simpa using this
  clear hb1;rcases HB'.o with rfl|rfl
  .go_wp2_with fail;go_meet;exact⟨rfl,H1.o⟩
  .go_wp2_with fail;go_meet;exact⟨rfl,H1.o⟩
 case rest=>
  obtain⟨rfl,h1⟩:=hcut;have H1:Hid (blk wc w.heap.size (scL ⟨f,lf,rn,lv,cr,ac,e,i,r,d,l⟩ a n cap) 49/\blk wc (w.heap.size+1) ([]++z11++[]) 49/\Bl w wc):=h1;clear h1;go_wp2_with (refine qG 49 H1.o.1.load Tryz.underlying49 dV ?_);refine (iV wc ⟨f,lf,rn,lv,cr,ac,e,i,r,d,l⟩ a n cap (HH.o.below H1.o.2.2) om).mono ?_;rintro o w2 ⟨g,k,rfl,ho2,hb2⟩;have H2:Hid (blk w2 w.heap.size (scL ⟨f,lf,rn,lv,cr,ac,e,i,r,d,l⟩ a n cap) 49/\blk w2 (w.heap.size+1) ([]++z11++[]) 49/\Bl w w2):=⟨H1.o.1.below hb2,H1.o.2.1.below hb2,H1.o.2.2.trans (hb2.mono H1.o.2.2.size)⟩
  have HO2:Hid (aa w2 (w.heap.size+2) (sL (sQ ⟨g,0,nn⟩) n k) l/\g<w2.heap.size):=⟨ho2.mono (by have:=H1.o.2.1.lt;omega),(QC ho2 g rfl).2⟩
  have HT2:Hid (blk (w2.alloc (.cells z11.toArray 49)) w2.heap.size ([]++z11++[]) 49):=blk.new w2 _ 49
  clear ho2 hb2 H1;go_wp2_with (first
   | (refine QE (P:=Tp) rfl 49 (.tmp 6) (.tmp 21) rfl w2.heap.size 0 _ rfl rfl (HT2.o.there 0 11 pQ) dV (pR _ _ _ _ _ _ _ _ _ _ _ _ _) ?_;generalize hW3:World.setCells (World.alloc _ _) w2.heap.size 0 _=w3;have N3:tW w ⟨f,lf,rn,lv,cr,ac,e,i,r,d,l⟩ a n cap w2.heap.size ⟨f,lf,rn,lv,cr,ac,e,i,r,d,l⟩ g n k w3:=(hW3 ▸ ⟨⟨(H2.o.1.alloc _).other (by have:=H2.o.2.1.lt;omega) _ _,(H2.o.2.1.alloc _).other (by have:=H2.o.2.1.lt;omega) _ _,blk.put [] z11 [] _ HT2.o rfl,sW H2.o.2.2.size _ _ (H2.o.2.2.alloc H2.o.2.2.size _),H2.o.2.1.lt⟩,(HO2.o.1.below qw).keep HN.o ((sO _ _ (by have:=HO2.o.2;omega) _ _ _)),(by have:=HO2.o.2;omega),HN.o⟩);have HN3:Hid (tW w ⟨f,lf,rn,lv,cr,ac,e,i,r,d,l⟩ a n cap w2.heap.size ⟨f,lf,rn,lv,cr,ac,e,i,r,d,l⟩ g n k w3):=N3;have y2:=N3.s.p.cell 2 _ rfl;clear N3 hW3)
   | (refine qG 49 HN3.o.s.p.load Tryz.underlying49 dV ?_))
  clear y2 HT2 H2 HO2;refine (HVE.o _).mono ?_;rintro o w4 ⟨rfl,hb4⟩;have HN4:Hid (tW w ⟨f,lf,rn,lv,cr,ac,e,i,r,d,l⟩ a n cap w2.heap.size ⟨f,lf,rn,lv,cr,ac,e,i,r,d,l⟩ g n k w4):=HN3.o.below hb4;clear hb4 HN3;go_upto_region 11 with fail
  go_cut [42] (fun s42 wx=>s42 = bO false/\wx=w4);case first=>
   rcases hc with rfl|rfl
   .go_wp2_with fail;go_meet;exact⟨rfl,rfl⟩
   .go_wp2_with fail;go_meet;exact⟨rfl,rfl⟩
  case rest=>
   obtain⟨rfl,rfl⟩:=hcut;generalize w2.heap.size=P at *;have y0:=HN4.o.s.p.cell 0 _ rfl;go_upto_if 47 with fail
   go_cut [] (fun wx=>tW w ⟨f,lf,rn,lv,cr,ac,e,i,r,d,l⟩ a n cap P (ay ⟨f,lf,rn,lv,cr,ac,e,i,r,d,l⟩ b) g n k wx);case first=>
    have y2:=HN4.o.s.p.cell 2 _ rfl;have y3:=HN4.o.s.p.cell 3 _ rfl;have x2:=HN4.o.s.q.cell 2 _ rfl;have x3:=HN4.o.s.q.cell 3 _ rfl;have f2:=HN4.o.s.q.free 2;have f3:=HN4.o.s.q.free 3;have hzz:=HN4.o.s.z;have s9:=HS.o.2.2.2.2.2.2.2.2.1;have s10:=HS.o.2.2.2.2.2.2.2.2.2.1;simp only[] at s9 s10;clear y0;by_cases h11:11<=f
    .go_wp2_with fail;go_meet;rw[ry om];exact (HN4.o.put (T':=⟨f,lf,0,lv,cr,ac,e,i,r,d,l⟩) 2 (I J 0) rfl rfl).put 3 (I J 0) rfl rfl
    .by_cases hr0:0<rn
     .by_cases hr1:(b:Int)=lv
      .have hq:((b:Int) == lv)=true:=by simpa using hr1
       have HR1:Hid ((b:Int)=lv):=hr1;clear hr1;go_wp2_with fail;go_meet;rw[rx om hr0 HR1.o];exact ((HN4.o.put (T':=⟨f,lf,1,lv,cr,ac,e,i,r,d,l⟩) 2 (I J 1) rfl rfl).put (T':=⟨f,lf,rn+1,lv,cr,ac,e,i,r,d,l⟩) 2 (I J (rn+1)) rfl rfl).put 3 (I J (b:Int)) rfl rfl
      .have hq:((b:Int) == lv)=false:=by simpa using hr1
       have HR1:Hid (¬ (b:Int)=lv):=hr1;clear hr1;go_wp2_with fail;go_meet;rw[iD om (fun h=>HR1.o h.2)];exact (HN4.o.put (T':=⟨f,lf,1,lv,cr,ac,e,i,r,d,l⟩) 2 (I J 1) rfl rfl).put 3 (I J (b:Int)) rfl rfl
     .go_wp2_with fail;go_meet;rw[iD om (fun h=>by have:=h.1;omega)];exact (HN4.o.put (T':=⟨f,lf,1,lv,cr,ac,e,i,r,d,l⟩) 2 (I J 1) rfl rfl).put 3 (I J (b:Int)) rfl rfl
   case rest=>
    clear HN4;have HT1:Hid (tW w ⟨f,lf,rn,lv,cr,ac,e,i,r,d,l⟩ a n cap P (ay ⟨f,lf,rn,lv,cr,ac,e,i,r,d,l⟩ b) g n k wc):=hcut;clear hcut;have HE1:Hid (ay ⟨f,lf,rn,lv,cr,ac,e,i,r,d,l⟩ b=⟨f,lf,(ay ⟨f,lf,rn,lv,cr,ac,e,i,r,d,l⟩ b).rn,(ay ⟨f,lf,rn,lv,cr,ac,e,i,r,d,l⟩ b).lv,cr,ac,e,i,r,d,l⟩):=by
     show _=_;unfold ay;split <;> rfl
    generalize hT1:ay ⟨f,lf,rn,lv,cr,ac,e,i,r,d,l⟩ b=T1 at *;have y0:=HT1.o.s.p.cell 0 _ rfl;go_upto_if 68 with fail
    go_cut [] (fun wx=>tW w ⟨f,lf,rn,lv,cr,ac,e,i,r,d,l⟩ a n cap P (bJ T1 b) g n k wx);case first=>
     have ef:T1.f=f:=by rw[HE1.o]
     have ec:T1.cr=cr:=by rw[HE1.o]
     have y4:=HT1.o.s.p.cell 4 _ rfl;have x4:=HT1.o.s.q.cell 4 _ rfl;have f4:=HT1.o.s.q.free 4;have HEF:Hid (T1.f=f/\T1.cr=cr):=⟨ef,ec⟩
     clear ef ec y0;by_cases h9:f<=9
     .go_wp2_with fail;refine (HSUM.o _).mono ?_;rintro o w5 ⟨rfl,rfl⟩;go_wp2_with fail;go_meet;have e1:bJ T1 b = { T1 with cr:=((M.dM cr.toNat b:Nat):Int) }:=by
       unfold bJ;rw[HEF.o.1,HEF.o.2,zc (show f<=9 by omega)]
      rw[e1];exact HT1.o.put 4 _ rfl rfl
     .go_wp2_with fail;go_meet;have e1:bJ T1 b=T1:=by
       unfold bJ;rw[HEF.o.1,zb (show ¬ f<=9 by omega)]
      rw[e1];exact HT1.o
    case rest=>
     have HT2:Hid (tW w ⟨f,lf,rn,lv,cr,ac,e,i,r,d,l⟩ a n cap P (bJ T1 b) g n k wc):=hcut;clear hcut HT1;have HE2:Hid (bJ T1 b=⟨f,lf,T1.rn,T1.lv,(bJ T1 b).cr,ac,e,i,r,d,l⟩):=by
      show _=_;have e1:=HE1.o;rw[e1];unfold bJ;split <;> rfl
     generalize hT2:bJ T1 b=T2 at *;have y0:=HT2.o.s.p.cell 0 _ rfl;go_upto_if 76 with fail
     go_cut [] (fun wx=>tW w ⟨f,lf,rn,lv,cr,ac,e,i,r,d,l⟩ a n cap P (bK T2 b) g n k wx);case first=>
      have HEF:Hid (T2.f=f/\T2.ac=ac):=⟨by rw[HE2.o],by rw[HE2.o]⟩
      have y5:=HT2.o.s.p.cell 5 _ rfl;have x5:=HT2.o.s.q.cell 5 _ rfl;have f5:=HT2.o.s.q.free 5;have s17:=HS.o.2.2.2.2.2.2.2.2.2.2.2.2.2.2.2.2.1;have s18:=HS.o.2.2.2.2.2.2.2.2.2.2.2.2.2.2.2.2.2.1;simp only[] at s17 s18;clear y0;by_cases h10:f=10
      .have hq:(f == 10)=true:=by simpa using h10
       have H10:Hid (f=10):=h10;clear h10;go_wp2_with fail;go_meet;have e1:bK T2 b = { T2 with ac:=(2*ac+b) % 32768 }:=by
        unfold bK;rw[HEF.o.1,HEF.o.2,zc H10.o]
       rw[e1];exact HT2.o.put 5 _ rfl rfl
      .have hq:(f == 10)=false:=by simpa using h10
       have H10:Hid (¬ f=10):=h10;clear h10;go_wp2_with fail;go_meet;have e1:bK T2 b=T2:=by
        unfold bK;rw[HEF.o.1,zb H10.o]
       rw[e1];exact HT2.o
     case rest=>
      have HT3:Hid (tW w ⟨f,lf,rn,lv,cr,ac,e,i,r,d,l⟩ a n cap P (bK T2 b) g n k wc):=hcut;clear hcut HT2;have HE3:Hid (bK T2 b=⟨f,lf,T2.rn,T2.lv,T2.cr,(bK T2 b).ac,e,i,r,d,l⟩):=by
       show _=_;have e1:=HE2.o;rw[e1];unfold bK;split <;> rfl
      generalize hT3:bK T2 b=T3 at *;generalize hTr:T2.rn=rn3 at *;generalize hTl:T2.lv=lv3 at *;generalize hTc:T2.cr=cr3 at *;generalize hTa:T3.ac=ac3 at *;go_upto_region 24 with fail
      go_cut [] (fun wx=>∃ g' n' k',tW w ⟨f,lf,rn,lv,cr,ac,e,i,r,d,l⟩ a n cap P (ax T3 b) g' n' k' wx);case first=>
       have hT:=HT3.o;rw[HE3.o] at hT;have HZ:Hid (0<=bh f e d/\bh f e d<=64/\1<=lf/\lf<=bh f e d):=⟨(fX f e d HS.o.2.2.2.1 HS.o.2.2.2.2.1).1,(fX f e d HS.o.2.2.2.1 HS.o.2.2.2.2.1).2,HS.o.2.2.2.2.2.2.1,HS.o.2.2.2.2.2.2.2.1⟩
       have HTK:Hid (∀ (W:Wd) (t:Int),t=bh f e d-lf->w.heap.size+2<=W.heap.size->aa W (w.heap.size+2) (sL (sQ ⟨g,0,nn⟩) n k) l->Calls Tp 110 #[frV e i r d (sQ ⟨g,0,nn⟩) n k,I J f,I J t,I J (b:Int)] W fun o w'=>∃ g' n' k',o = rT (frV (ax ⟨f,lf,rn,lv,cr,ac,e,i,r,d,l⟩ b).e (ax ⟨f,lf,rn,lv,cr,ac,e,i,r,d,l⟩ b).i (ax ⟨f,lf,rn,lv,cr,ac,e,i,r,d,l⟩ b).r (ax ⟨f,lf,rn,lv,cr,ac,e,i,r,d,l⟩ b).d (sQ ⟨g',0,nn⟩) n' k')/\aa w' (w.heap.size+2) (sL (sQ ⟨g',0,nn⟩) n' k') (ax ⟨f,lf,rn,lv,cr,ac,e,i,r,d,l⟩ b).l/\n'=(ax ⟨f,lf,rn,lv,cr,ac,e,i,r,d,l⟩ b).l.length/\Below (w.heap.size+2) W w'/\(∀ q,q≠g->q<W.heap.size->w'.heap[q]?=W.heap[q]?)/\(g'=g\/W.heap.size<=g')):=fun W t ht hz ho=>tt W (w.heap.size+2) hz ⟨f,lf,rn,lv,cr,ac,e,i,r,d,l⟩ HS.o g n k ho HN.o t ht b hb;have HFD:Hid (ax T3 b=kF ⟨f,lf,rn3,lv3,cr3,ac3,e,i,r,d,l⟩ (ax ⟨f,lf,rn,lv,cr,ac,e,i,r,d,l⟩ b)):=by
        show _=_;rw[HE3.o];exact tK f lf rn lv cr ac rn3 lv3 cr3 ac3 e i r d l b
       generalize ax ⟨f,lf,rn,lv,cr,ac,e,i,r,d,l⟩ b=F9 at *;generalize bh f e d=z at *;clear HE3 HT3;refine QK (S:=uS w ⟨f,lf,rn,lv,cr,ac,e,i,r,d,l⟩ a n cap) kr ?_;obtain⟨wd,hwd⟩ : ∃ wd,wd=wc.drew:=⟨_,rfl⟩
       change wpAnyH _ _ _ _ _ _ _ _ wc.drew;rw[<- hwd];have ht:=hT.below (W':=wd) (hwd ▸ (bW _ _).drew);have hs:uS w ⟨f,lf,rn,lv,cr,ac,e,i,r,d,l⟩ a n cap wd:=⟨ht.s.p,ht.s.b⟩
       clear hwd hT;refine wV 0 (pT (sQ ⟨P,6,nn⟩)) ?_ hs ?_
       .intro W hW;clear hs;go_simp
       simp only[Act.put,aA,aB,aC,aD,aE];refine wV 2 (pT (sQ ⟨w.heap.size,0,nn⟩)) ?_ hs ?_
       .intro W hW;clear hs;go_simp
       simp only[aZ];refine wV 3 (I J f) ?_ hs ?_
       .intro W hW;clear hs;have z0:=hW.p.cell 0 _ rfl;go_simp
       simp only[aZ];refine wV 4 (pT (sQ ⟨w.heap.size,0,nn⟩)) ?_ hs ?_
       .intro W hW;clear hs;go_simp
       simp only[aZ];refine wV 5 (I J f) ?_ hs ?_
       .intro W hW;clear hs;have z0:=hW.p.cell 0 _ rfl;go_simp
       simp only[aZ];refine wV 6 (pT (sQ ⟨w.heap.size,6,nn⟩)) ?_ hs ?_
       .intro W hW;clear hs;go_simp
       simp only[aZ];refine wU 7 (.agg [bO e,I zn (i:Int),bO r,I J d,sL a n cap].toArray) rfl (QM (by rfl) 47 (.tmp 90) rfl w.heap.size 6 rfl [bO e,I zn (i:Int),bO r,I J d,sL a n cap] _ (fun W h=>blk.loadAt [I J f,I J lf,I J rn,I J lv,I J cr,I J ac] [bO e,I zn (i:Int),bO r,I J d,sL a n cap] [] h.p) Tryz.underlying47 rfl gp) hs ?_;simp only[aZ];refine wV 9 (pT (sQ ⟨w.heap.size,1,nn⟩)) ?_ hs ?_
       .intro W hW;clear hs;go_simp
       simp only[aZ];refine wV 10 (I J lf) ?_ hs ?_
       .intro W hW;clear hs;have z1:=hW.p.cell 1 _ rfl;go_simp
       simp only[aZ];refine wV 12 (I J (b:Int)) ?_ hs ?_
       .intro W hW;clear hs;go_simp
       simp only[aZ];refine QG (rs:=[1,8]) kr pQ ?_;refine Q9 rfl (fun K hK=>?_) (Q9 rfl (fun K hK=>?_) za)
       .rw[zc (by rfl)];refine wp_load_mid (P:=Tp) 47 (.tmp 84) rfl P 6 rfl [bO e,I zn (i:Int),bO r,I J d,sL (sQ ⟨g,0,nn⟩) n k] _ (blk.loadAt [I J f,I J lf,I J rn3,I J lv3,I J cr3,I J ac3] [bO e,I zn (i:Int),bO r,I J d,sL (sQ ⟨g,0,nn⟩) n k] [] ht.s.q) Tryz.underlying47 rfl gp ?_;refine hK.out _ _ hs (fun hs2=>?_);clear hK K hs2;refine QG (rs:=[8]) kr pQ ?_;refine Q9 rfl (fun K hK=>?_) za;go_simp;refine (HLS.o _).mono ?_;rintro o we ⟨rfl,hbe⟩;have hte:=ht.below hbe;have hse:uS w ⟨f,lf,rn,lv,cr,ac,e,i,r,d,l⟩ a n cap we:=⟨hte.s.p,hte.s.b⟩
        go_wp2_with fail;refine hK.out _ _ hse (fun hs2=>?_);clear hK K hs2;have hs:=hse;refine wV 11 (I J (z-lf)) ?_ hs ?_
        .intro W hW;clear hs;have hz:=HZ.o;go_simp;rw[QS];omega
        simp only[aZ];refine QG (rs:=[13]) kr pQ ?_;refine Q9 rfl (fun K hK=>?_) za;go_simp;refine (HTK.o _ (z-lf) rfl (nT hte.s.z (qB hte.s.q.lt)) hte.o).mono ?_;rintro o wf ⟨g',n',k',rfl,q1,q2,q3,q4,q5⟩;have HQ2:Hid (n'=F9.l.length):=q2;clear q2;have hqf:wf.heap[P]?=we.heap[P]?:=q4 P (Ne.symm hte.ne) hte.s.q.lt;have hsf:=hte.s.belowB (nR _) hqf q3;have hs6:uS w ⟨f,lf,rn,lv,cr,ac,e,i,r,d,l⟩ a n cap wf:=⟨hsf.p,hsf.b⟩
        have hgne:g'≠P:=by
         have h1:=hte.ne;have h2:=hte.s.q.lt;omega
        go_wp2_with fail;refine hK.out _ _ hs6 (fun hs2=>?_);clear hK K hs2;have hs:=hs6;refine wV 14 (pT (sQ ⟨P,6,nn⟩)) ?_ hs ?_
        .intro W hW;clear hs;go_simp
        simp only[aZ];refine QG (rs:=[15]) kr pQ ?_;refine Q9 rfl (fun K hK=>?_) za;rw[zc (by rfl)];refine QU (P:=Tp) 47 (.tmp 98) (.tmp 97) rfl P 6 #[bO F9.e,I zn (F9.i:Int),bO F9.r,I J F9.d,sL (sQ ⟨g',0,nn⟩) n' k'] rfl rfl (hsf.q.there 6 5 (by simp[scL])) gp (pP _ _ _ _ _ _ _) ?_;have hzz:=hsf.z;have hq8:blk (World.setCells wf P 6 [bO F9.e,I zn (F9.i:Int),bO F9.r,I J F9.d,sL (sQ ⟨g',0,nn⟩) n' k']) P (scL (kF ⟨f,lf,rn3,lv3,cr3,ac3,e,i,r,d,l⟩ F9) (sQ ⟨g',0,nn⟩) n' k') 49:=blk.put [I J f,I J lf,I J rn3,I J lv3,I J cr3,I J ac3] [bO e,I zn (i:Int),bO r,I J d,sL (sQ ⟨g,0,nn⟩) n k] [] [bO F9.e,I zn (F9.i:Int),bO F9.r,I J F9.d,sL (sQ ⟨g',0,nn⟩) n' k'] hsf.q rfl;have hsg:sS w ⟨f,lf,rn,lv,cr,ac,e,i,r,d,l⟩ a n cap P (scL (kF ⟨f,lf,rn3,lv3,cr3,ac3,e,i,r,d,l⟩ F9) (sQ ⟨g',0,nn⟩) n' k') (World.setCells wf P 6 [bO F9.e,I zn (F9.i:Int),bO F9.r,I J F9.d,sL (sQ ⟨g',0,nn⟩) n' k']):=⟨hsf.p.other om _ _,hsf.r.other om _ _,hq8,sW om _ _ hsf.b,hsf.z⟩
        have HR8:Hid (tW w ⟨f,lf,rn,lv,cr,ac,e,i,r,d,l⟩ a n cap P (ax T3 b) g' n' k' (World.setCells wf P 6 [bO F9.e,I zn (F9.i:Int),bO F9.r,I J F9.d,sL (sQ ⟨g',0,nn⟩) n' k'])):=by
         show tW _ _ _ _ _ _ _ _ _ _ _;rw[HFD.o];exact⟨hsg,q1.keep HQ2.o (sO _ _ hgne _ _ _),hgne,HQ2.o⟩
        have hs8:uS w ⟨f,lf,rn,lv,cr,ac,e,i,r,d,l⟩ a n cap _:=⟨hsg.p,hsg.b⟩
        refine hK.out _ _ hs8 (fun hs2=>?_);clear hK K hs2;clear hs8 hsg hq8;generalize World.setCells wf P 6 [bO F9.e,I zn (F9.i:Int),bO F9.r,I J F9.d,sL (sQ ⟨g',0,nn⟩) n' k']=w8 at *;refine QI kr ?_ _;go_wp2_with fail;go_meet;exact⟨g',n',k',HR8.o⟩
       .go_simp;refine (HLS.o _).mono ?_;rintro o we ⟨rfl,hbe⟩;have hte:=ht.below hbe;have hse:uS w ⟨f,lf,rn,lv,cr,ac,e,i,r,d,l⟩ a n cap we:=⟨hte.s.p,hte.s.b⟩
        go_wp2_with fail;refine hK.out _ _ hse (fun hs2=>?_);clear hK K hs2;have hs:=hse;refine wV 11 (I J (z-lf)) ?_ hs ?_
        .intro W hW;clear hs;have hz:=HZ.o;go_simp;rw[QS];omega
        simp only[aZ];refine QG (rs:=[1]) kr pQ ?_;refine Q9 rfl (fun K hK=>?_) za;rw[zc (by rfl)];refine wp_load_mid (P:=Tp) 47 (.tmp 84) rfl P 6 rfl [bO e,I zn (i:Int),bO r,I J d,sL (sQ ⟨g,0,nn⟩) n k] _ (blk.loadAt [I J f,I J lf,I J rn3,I J lv3,I J cr3,I J ac3] [bO e,I zn (i:Int),bO r,I J d,sL (sQ ⟨g,0,nn⟩) n k] [] hte.s.q) Tryz.underlying47 rfl gp ?_;refine hK.out _ _ hse (fun hs2=>?_);clear hK K hs2;refine QG (rs:=[13]) kr pQ ?_;refine Q9 rfl (fun K hK=>?_) za;go_simp;refine (HTK.o _ (z-lf) rfl (nT hte.s.z (qB hte.s.q.lt)) hte.o).mono ?_;rintro o wf ⟨g',n',k',rfl,q1,q2,q3,q4,q5⟩;have HQ2:Hid (n'=F9.l.length):=q2;clear q2;have hqf:wf.heap[P]?=we.heap[P]?:=q4 P (Ne.symm hte.ne) hte.s.q.lt;have hsf:=hte.s.belowB (nR _) hqf q3;have hs6:uS w ⟨f,lf,rn,lv,cr,ac,e,i,r,d,l⟩ a n cap wf:=⟨hsf.p,hsf.b⟩
        have hgne:g'≠P:=by
         have h1:=hte.ne;have h2:=hte.s.q.lt;omega
        go_wp2_with fail;refine hK.out _ _ hs6 (fun hs2=>?_);clear hK K hs2;have hs:=hs6;refine wV 14 (pT (sQ ⟨P,6,nn⟩)) ?_ hs ?_
        .intro W hW;clear hs;go_simp
        simp only[aZ];refine QG (rs:=[15]) kr pQ ?_;refine Q9 rfl (fun K hK=>?_) za;rw[zc (by rfl)];refine QU (P:=Tp) 47 (.tmp 98) (.tmp 97) rfl P 6 #[bO F9.e,I zn (F9.i:Int),bO F9.r,I J F9.d,sL (sQ ⟨g',0,nn⟩) n' k'] rfl rfl (hsf.q.there 6 5 (by simp[scL])) gp (pP _ _ _ _ _ _ _) ?_;have hzz:=hsf.z;have hq8:blk (World.setCells wf P 6 [bO F9.e,I zn (F9.i:Int),bO F9.r,I J F9.d,sL (sQ ⟨g',0,nn⟩) n' k']) P (scL (kF ⟨f,lf,rn3,lv3,cr3,ac3,e,i,r,d,l⟩ F9) (sQ ⟨g',0,nn⟩) n' k') 49:=blk.put [I J f,I J lf,I J rn3,I J lv3,I J cr3,I J ac3] [bO e,I zn (i:Int),bO r,I J d,sL (sQ ⟨g,0,nn⟩) n k] [] [bO F9.e,I zn (F9.i:Int),bO F9.r,I J F9.d,sL (sQ ⟨g',0,nn⟩) n' k'] hsf.q rfl;have hsg:sS w ⟨f,lf,rn,lv,cr,ac,e,i,r,d,l⟩ a n cap P (scL (kF ⟨f,lf,rn3,lv3,cr3,ac3,e,i,r,d,l⟩ F9) (sQ ⟨g',0,nn⟩) n' k') (World.setCells wf P 6 [bO F9.e,I zn (F9.i:Int),bO F9.r,I J F9.d,sL (sQ ⟨g',0,nn⟩) n' k']):=⟨hsf.p.other om _ _,hsf.r.other om _ _,hq8,sW om _ _ hsf.b,hsf.z⟩
        have HR8:Hid (tW w ⟨f,lf,rn,lv,cr,ac,e,i,r,d,l⟩ a n cap P (ax T3 b) g' n' k' (World.setCells wf P 6 [bO F9.e,I zn (F9.i:Int),bO F9.r,I J F9.d,sL (sQ ⟨g',0,nn⟩) n' k'])):=by
         show tW _ _ _ _ _ _ _ _ _ _ _;rw[HFD.o];exact⟨hsg,q1.keep HQ2.o (sO _ _ hgne _ _ _),hgne,HQ2.o⟩
        have hs8:uS w ⟨f,lf,rn,lv,cr,ac,e,i,r,d,l⟩ a n cap _:=⟨hsg.p,hsg.b⟩
        refine hK.out _ _ hs8 (fun hs2=>?_);clear hK K hs2;clear hs8 hsg hq8;generalize World.setCells wf P 6 [bO F9.e,I zn (F9.i:Int),bO F9.r,I J F9.d,sL (sQ ⟨g',0,nn⟩) n' k']=w8 at *;refine QI kr ?_ _;go_wp2_with fail;go_meet;exact⟨g',n',k',HR8.o⟩
      case rest=>
       obtain⟨g4,n4,k4,ht4⟩:=hcut;have HE4:Hid ((ax T3 b).f=f/\(ax T3 b).lf=lf/\0<=(ax T3 b).d/\(ax T3 b).d<=15/\(∀ x ∈ (ax T3 b).l,x<256)):=by
        rw[HE3.o];exact ij _ b hb HS.o.2.2.2.1 HS.o.2.2.2.2.1 HH.o.small
       have HT4:Hid (tW w ⟨f,lf,rn,lv,cr,ac,e,i,r,d,l⟩ a n cap P (ax T3 b) g4 n4 k4 wc):=ht4;clear ht4 HT3;generalize hT4:ax T3 b=T4 at *;obtain⟨f4,lf4,rn4,lv4,cr4,ac4,e4,i4,r4,d4,l4⟩:=T4;obtain⟨e41,e42,hd0,hd1,hsm⟩:=HE4.o;simp only[] at e41 e42 hd0 hd1 hsm;subst e41;subst e42;have HSM:Hid (∀ x ∈ l4,x<256):=hsm;have s1:=HS.o.1;have s2:=HS.o.2.1;have s7:=HS.o.2.2.2.2.2.2.1;have s8:=HS.o.2.2.2.2.2.2.2.1;have s9:=(fX f4 e d HS.o.2.2.2.1 HS.o.2.2.2.2.1).2;simp only[] at s1 s2 s7 s8 s9;have hlf:lf4<=64:=om;have HAF:Hid (∀ W,Calls Tp 112 #[I J f4,frV e4 i4 r4 d4 (sQ ⟨g4,0,nn⟩) n4 k4] W fun o w'=>o = rT (I J (ai f4 e4 r4 d4))/\Bl W w'):=fun W=>rh W f4 om om e4 i4 r4 d4 _ n4 k4;have HSZ:Hid (∀ W,Calls Tp 111 #[I J (ai f4 e4 r4 d4),frV e4 i4 r4 d4 (sQ ⟨g4,0,nn⟩) n4 k4] W fun o w'=>o = rT (I J (bh (ai f4 e4 r4 d4) e4 d4))/\Bl W w'):=fun W=>iU W _ e4 i4 r4 d4 hd0 hd1 _ n4 k4;clear hsm s8 s9;have y1:=HT4.o.s.p.cell 1 _ rfl;have x1:=HT4.o.s.q.cell 1 _ rfl;have f1:=HT4.o.s.q.free 1;go_upto_if 105 with fail
       clear y1 x1 f1;go_cut [] (fun wx=>∃ ao n2 k2,sS w ⟨f4,lf4,rn,lv,cr,ac,e,i,r,d,l⟩ a n cap P (scL (cX ⟨f4,lf4,rn4,lv4,cr4,ac4,e4,i4,r4,d4,l4⟩) ao n2 k2) wx/\iB wx ao n2 k2 (cX ⟨f4,lf4,rn4,lv4,cr4,ac4,e4,i4,r4,d4,l4⟩).l/\(∀ q,ao=sQ q->q.block≠w.heap.size+1));case first=>
        by_cases h1:lf4=1
        .subst h1;have HT5:Hid (tW w ⟨f4,1,rn,lv,cr,ac,e,i,r,d,l⟩ a n cap P ⟨f4,0,rn4,lv4,cr4,ac4,e4,i4,r4,d4,l4⟩ g4 n4 k4 (wc.setCell ⟨P,1,nn⟩ (I J (1-1)))):=HT4.o.put 1 (I J (1-1)) rfl rfl;have y0:=HT5.o.s.p.cell 0 _ rfl
         generalize hW5:wc.setCell ⟨P,1,nn⟩ (I J (1-1))=w5 at *;clear hW5 HT4;go_wp2_with (refine zi 47 [bO e4,I zn (i4:Int),bO r4,I J d4,sL (sQ ⟨g4,0,nn⟩) n4 k4] (blk.loadAt [I J f4,I J 0,I J rn4,I J lv4,I J cr4,I J ac4] [bO e4,I zn (i4:Int),bO r4,I J d4,sL (sQ ⟨g4,0,nn⟩) n4 k4] [] HT5.o.s.q) Tryz.underlying47 gp ?_)
         refine (HAF.o _).mono ?_;rintro o w6 ⟨rfl,hb6⟩;have HT6:Hid (tW w ⟨f4,1,rn,lv,cr,ac,e,i,r,d,l⟩ a n cap P ⟨f4,0,rn4,lv4,cr4,ac4,e4,i4,r4,d4,l4⟩ g4 n4 k4 w6):=HT5.o.below hb6;have x0:=HT6.o.s.q.cell 0 _ rfl;have f0:=HT6.o.s.q.free 0;have HT7:Hid (tW w ⟨f4,1,rn,lv,cr,ac,e,i,r,d,l⟩ a n cap P ⟨(ai f4 e4 r4 d4),0,rn4,lv4,cr4,ac4,e4,i4,r4,d4,l4⟩ g4 n4 k4 (w6.setCell ⟨P,0,nn⟩ (I J (ai f4 e4 r4 d4)))):=HT6.o.put 0 (I J (ai f4 e4 r4 d4)) rfl rfl
         clear hb6 HT5 y0;go_wp2_with (refine zi 47 [bO e4,I zn (i4:Int),bO r4,I J d4,sL (sQ ⟨g4,0,nn⟩) n4 k4] (blk.loadAt [I J (ai f4 e4 r4 d4),I J 0,I J rn4,I J lv4,I J cr4,I J ac4] [bO e4,I zn (i4:Int),bO r4,I J d4,sL (sQ ⟨g4,0,nn⟩) n4 k4] [] HT7.o.s.q) Tryz.underlying47 gp ?_)
         refine (HSZ.o _).mono ?_;rintro o w8 ⟨rfl,hb8⟩;have HT8:Hid (tW w ⟨f4,1,rn,lv,cr,ac,e,i,r,d,l⟩ a n cap P ⟨(ai f4 e4 r4 d4),0,rn4,lv4,cr4,ac4,e4,i4,r4,d4,l4⟩ g4 n4 k4 w8):=HT7.o.below hb8;clear hb8 HT6 HT7 x0 f0;have x1:=HT8.o.s.q.cell 1 _ rfl;have f1:=HT8.o.s.q.free 1;have x0:=HT8.o.s.q.cell 0 _ rfl;have HT9:Hid (tW w ⟨f4,1,rn,lv,cr,ac,e,i,r,d,l⟩ a n cap P ⟨(ai f4 e4 r4 d4),(bh (ai f4 e4 r4 d4) e4 d4),rn4,lv4,cr4,ac4,e4,i4,r4,d4,l4⟩ g4 n4 k4 (w8.setCell ⟨P,1,nn⟩ (I J (bh (ai f4 e4 r4 d4) e4 d4)))):=HT8.o.put 1 (I J (bh (ai f4 e4 r4 d4) e4 d4)) rfl rfl;have e1:cX ⟨f4,1,rn4,lv4,cr4,ac4,e4,i4,r4,d4,l4⟩=⟨(ai f4 e4 r4 d4),(bh (ai f4 e4 r4 d4) e4 d4),rn4,lv4,cr4,ac4,e4,i4,r4,d4,if (ai f4 e4 r4 d4)=9 then [] else l4⟩:=zc rfl;have HE1':Hid (cX ⟨f4,1,rn4,lv4,cr4,ac4,e4,i4,r4,d4,l4⟩=⟨(ai f4 e4 r4 d4),(bh (ai f4 e4 r4 d4) e4 d4),rn4,lv4,cr4,ac4,e4,i4,r4,d4,if (ai f4 e4 r4 d4)=9 then [] else l4⟩):=e1;clear e1;generalize (bh (ai f4 e4 r4 d4) e4 d4)=sz4 at *;by_cases h9:(ai f4 e4 r4 d4)=9
         .have H9:Hid ((ai f4 e4 r4 d4)=9):=h9;have hq9:((ai f4 e4 r4 d4) == 9)=true:=by simpa using h9
          clear h9;generalize (ai f4 e4 r4 d4)=af4 at *;have x10:=(HT9.o.s.q.alloc (.cells #[] 5)).cell 10 _ rfl;have f10:=(HT9.o.s.q.alloc (.cells #[] 5)).free 10;go_wp2_with fail;go_meet;rw[HE1'.o,zc H9.o];have hsx:=(HT9.o.s.below ((bW _ _).alloc (nR _) (.cells #[] 5))).set 10 (sL (sQ ⟨w8.heap.size,0,nn⟩) 0 0);exact⟨sQ ⟨w8.heap.size,0,nn⟩,0,0,hsx,⟨rfl,nR _,fun _ hx=>(by cases hx),fun hne=>Qz rfl hne⟩,fun q hq2=>by cases hq2;have:=HT8.o.s.r.lt;show w8.heap.size≠_;omega⟩
         .have H9:Hid (¬ (ai f4 e4 r4 d4)=9):=h9;have hq9:((ai f4 e4 r4 d4) == 9)=false:=by simpa using h9
          clear h9;generalize (ai f4 e4 r4 d4)=af4 at *;go_wp2_with fail;go_meet;rw[HE1'.o,zb H9.o];refine⟨_,n4,k4,HT9.o.s,?_,fun q hq2=>by cases hq2;have:=(QC HT9.o.o g4 rfl).1;show g4≠_;omega⟩;obtain⟨gg,kk,ee,q1,q2,q3⟩:=eI HT9.o.o (by intro e;cases e) HSM.o;cases ee;have:=q3.now;rw[<- HT9.o.l] at this;exact this
        .have hq:(lf4-1 == 0)=false:=by
          rw[beq_eq_false_iff_ne];omega
         have H1:Hid (¬ lf4=1):=h1;clear h1;go_wp2_with fail;go_meet;have e1:cX ⟨f4,lf4,rn4,lv4,cr4,ac4,e4,i4,r4,d4,l4⟩=⟨f4,lf4-1,rn4,lv4,cr4,ac4,e4,i4,r4,d4,l4⟩:=zb H1.o;rw[e1];have ht5:=HT4.o.put (T':=⟨f4,lf4-1,rn4,lv4,cr4,ac4,e4,i4,r4,d4,l4⟩) 1 (I J (lf4-1)) rfl rfl;refine⟨_,n4,k4,ht5.s,?_,fun q hq2=>by cases hq2;have:=(QC ht5.o g4 rfl).1;show g4≠_;omega⟩;obtain⟨gg,kk,ee,q1,q2,q3⟩:=eI ht5.o (by intro e;cases e) HSM.o;cases ee;have:=q3.now;rw[<- ht5.l] at this;exact this
       case rest=>
        obtain⟨ao,n2,k2,hsx,hbx,hnx⟩:=hcut;have HSX:Hid (sS w ⟨f4,lf4,rn,lv,cr,ac,e,i,r,d,l⟩ a n cap P (scL (cX ⟨f4,lf4,rn4,lv4,cr4,ac4,e4,i4,r4,d4,l4⟩) ao n2 k2) wc):=hsx;have HBX:Hid (iB wc ao n2 k2 (cX ⟨f4,lf4,rn4,lv4,cr4,ac4,e4,i4,r4,d4,l4⟩).l/\(∀ q,ao=sQ q->q.block≠w.heap.size+1)):=⟨hbx,hnx⟩
        have HFIN:Hid (fV ⟨f4,lf4,rn,lv,cr,ac,e,i,r,d,l⟩ b=cX ⟨f4,lf4,rn4,lv4,cr4,ac4,e4,i4,r4,d4,l4⟩):=by
         show _=_;unfold fV;rw[hT1,hT2,hT3,hT4]
        clear hsx hbx hnx HT4;generalize cX ⟨f4,lf4,rn4,lv4,cr4,ac4,e4,i4,r4,d4,l4⟩=TF at *;go_wp2_with (first
         | (refine qG 49 HSX.o.q.load Tryz.underlying49 dV ?_)
         | (refine QE (P:=Tp) rfl 49 (.tmp 4) (.tmp 124) rfl (w.heap.size+1) 0 _ rfl rfl (HSX.o.r.there 0 11 pQ) dV (pR _ _ _ _ _ _ _ _ _ _ _ _ _) ?_;generalize hW9:World.setCells wc (w.heap.size+1) 0 _=w9;have HW9:Hid (World.setCells wc (w.heap.size+1) 0 (scL TF ao n2 k2)=w9):=hW9;clear hW9))
        have e9:=HW9.o;have hF:blk w9 (w.heap.size+1) (scL TF ao n2 k2) 49:=e9 ▸ blk.put [] z11 [] _ HSX.o.r rfl;have hL:=QJ (P:=Tp) w9 (w.heap.size+1) 0 49 _ _ hF.load Tryz.underlying49 rfl dV;refine QF (dY Tryz.results56 _ w9 (w.heap.size+1) _ rfl hL) rfl ?_;rw[HFIN.o];refine⟨ao,n2,k2,rfl,?_,?_⟩
        .rw[<- e9];exact HBX.o.1.setCells HBX.o.2 _ _
        .rw[<- e9];exact sW om _ _ HSX.o.b
variable {w:World} {P n cap:Nat} {a:Option Addr}
structure sP (w w':World) (P:Nat) (T:Sc) (a:Option Addr) (n cap:Nat):Prop where
 q:blk w' P (scL T a n cap) 49
 o:∀ q,q≠P->q<w.heap.size->w'.heap[q]?=w.heap[q]?
 b:Below P w w'
def sP.put {w':World} {T T':Sc} (h:sP w w' P T a n cap) (o:Nat) (v:Value) (he:(scL T a n cap).set o v=scL T' a n cap):sP w (w'.setCell ⟨P,o,none⟩ v) P T' a n cap:=
 ⟨he ▸ h.q.set o v,fun q h1 h2=>(QB _ _ _ _ (by exact h1)).trans (h.o q h1 h2),h.b.setCell (by exact nR _) _⟩
def sP.start {T:Sc} (h:blk w P (scL T a n cap) 49):sP w w P T a n cap:=⟨h,fun _ _ _=>rfl,bW _ _⟩
def nd (w:World) (P:Nat) (S:Sc) (a:Option Addr) (n cap:Nat) (h:blk w P (scL S a n cap) 49) (hr:S.rn<=5) (hr0:0<=S.rn) (b:Nat) (hb:b<2) :
  Calls Tp 208 #[pT (some ⟨P,0,none⟩),I J (b:Int)] w fun o w'=>(∃ v,o = rT v)/\sP w w' P (ay S b) a n cap:=by
 obtain⟨f,lf,rn,lv,cr,ac,e,i,r,d,l⟩:=S;simp only[] at hr hr0;have HB:Hid (blk w P (scL ⟨f,lf,rn,lv,cr,ac,e,i,r,d,l⟩ a n cap) 49):=h;have z0:=h.cell 0 _ rfl;have z2:=h.cell 2 _ rfl;have z3:=h.cell 3 _ rfl;have f2:=h.free 2;have f3:=h.free 3;clear h;by_cases h11:11<=f
 .go_enter Tryz.func208,Tryz.ntmps208;go_wp2_with fail;go_end0;refine⟨⟨_,rfl⟩,?_⟩;rw[ry om];exact ((sP.start HB.o).put (T':=⟨f,lf,0,lv,cr,ac,e,i,r,d,l⟩) 2 (I J 0) rfl).put 3 (I J 0) rfl
 .by_cases hr1:0<rn
  .by_cases hr2:(b:Int)=lv
   .have hq:((b:Int) == lv)=true:=by simpa using hr2
    have HR2:Hid ((b:Int)=lv):=hr2;clear hr2;go_enter Tryz.func208,Tryz.ntmps208;go_wp2_with fail;go_end0;refine⟨⟨_,rfl⟩,?_⟩;rw[rx om hr1 HR2.o,HR2.o];exact (sP.start HB.o).put (T':=⟨f,lf,rn+1,lv,cr,ac,e,i,r,d,l⟩) 2 (I J (rn+1)) rfl
   .have hq:((b:Int) == lv)=false:=by simpa using hr2
    have HR2:Hid (¬ (b:Int)=lv):=hr2;clear hr2;go_enter Tryz.func208,Tryz.ntmps208;go_wp2_with fail;go_end0;refine⟨⟨_,rfl⟩,?_⟩;rw[iD om (fun h=>HR2.o h.2)];exact ((sP.start HB.o).put (T':=⟨f,lf,1,lv,cr,ac,e,i,r,d,l⟩) 2 (I J 1) rfl).put 3 (I J (b:Int)) rfl
  .go_enter Tryz.func208,Tryz.ntmps208;go_wp2_with fail;go_end0;refine⟨⟨_,rfl⟩,?_⟩;rw[iD om (fun h=>by have:=h.1;omega)];exact ((sP.start HB.o).put (T':=⟨f,lf,1,lv,cr,ac,e,i,r,d,l⟩) 2 (I J 1) rfl).put 3 (I J (b:Int)) rfl
structure kP (w w':World) (P B:Nat) (T:Sc) (g n k:Nat):Prop where
 q:blk w' P (scL T (sQ ⟨g,0,nn⟩) n k) 49
 o:aa w' B (sL (sQ ⟨g,0,nn⟩) n k) T.l
 l:n=T.l.length
 b:Below P w w'
 r:∀ q,q≠P->q<B->w'.heap[q]?=w.heap[q]?
def gF (w:World) (P B:Nat) (hPB:P<B) (hB:B<=w.heap.size) (S:Sc) (g n k:Nat) (h:blk w P (scL S (sQ ⟨g,0,nn⟩) n k) 49) (ho:aa w B (sL (sQ ⟨g,0,nn⟩) n k) S.l) (hn:n=S.l.length) (hn8:n<=8) (hlf:1<=S.lf) (hlf1:S.lf<=64) (h8:S.lf % 8=0) (b:Nat) (hb:b<2) :
  Calls Tp 253 #[pT (sQ ⟨P,0,nn⟩),I .u8 (b:Int)] w fun o w'=>(∃ v,o = rT v)/\∃ g' k',kP w w' P B { S with l:=S.l++[b] } g' (n+1) k':=by
 obtain⟨f,lf,rn,lv,cr,ac,e,i,r,d,l⟩:=S;simp only[] at ho hn hlf hlf1 h8 ⊢;have hgl:=QC ho g rfl;have HGL:Hid (B<=g/\g<w.heap.size):=hgl;have HL:Hid (n=l.length):=hn;have HP:Hid (blk (w.alloc (.cells #[I .u8 (b:Int)] 5)) P (scL ⟨f,lf,rn,lv,cr,ac,e,i,r,d,l⟩ (sQ ⟨g,0,nn⟩) n k) 49):=h.alloc _;have HX:Hid (blk (w.alloc (.cells #[I .u8 (b:Int)] 5)) w.heap.size [I .u8 (b:Int)] 5):=blk.new w _ 5;have HO:Hid (World.ownsRow (w.alloc (.cells #[I .u8 (b:Int)] 5)) B 5 1 (sL (sQ ⟨g,0,nn⟩) n k) n (bv l)):=by
  have:=ho.below ((bW w.heap.size w).alloc (nR _) (.cells #[I .u8 (b:Int)] 5));unfold aa at this;rw[<- hn] at this;exact this
 have z1:=h.cell 1 _ rfl;have z10:=h.cell 10 _ rfl;have q8:lf.tmod 8=0:=by rw[qh om];exact h8
 have HPl:Hid (P<w.heap.size):=h.lt;clear h ho hn hgl h8;go_enter Tryz.func253,Tryz.ntmps253
 go_wp2_with (at_builtin;refine oV rfl (.tmp 16) (.tmp 18) 45 5 _ 1 1 Tryz.info5 Tryz.underlying45 rfl (by decide) (by decide) rfl B g n k (bv l) rfl HO.o w.heap.size [I .u8 (b:Int)] rfl rfl HX.o (by intro u hu;simp at hu;subst hu;rfl) om (by simp;omega) ?_;intro g' k' w6 ho6 hg6 hg' hB6;have hgl:=HGL.o;have hpl:=HPl.o;have P6:=HP.o.kept (hg6.block _ (by simp;omega) (by intro e;cases e;omega));have x10:=P6.cell 10 _ rfl;have f10:=P6.free 10;have HP6:Hid (blk w6 P (scL ⟨f,lf,rn,lv,cr,ac,e,i,r,d,l⟩ (sQ ⟨g,0,nn⟩) n k) 49):=P6;have HO6:Hid (w6.ownsRow B 5 1 (sL (sQ ⟨g',0,nn⟩) (n+1) k') (n+1) (bv l++[I .u8 (b:Int)])/\g'≠P):=⟨ho6,om⟩;have HR6:Hid (∀ q,q≠P->q<B->w6.heap[q]?=w.heap[q]?):=(fun q h1 h2=>(hg6.block q (by simp;omega) (by intro e;cases e;omega)).trans (qw.block q om));have HB6:Hid (Below P w w6):=(qw.mono om).grown hg6 (by simp;omega) (by intro q hq;cases hq;omega);clear P6 ho6 hg6 hgl hpl hg' hB6)
 refine bN ?_;refine⟨⟨_,rfl⟩,g',k',HP6.o.set 10 (sL (sQ ⟨g',0,nn⟩) (n+1) k'),?_,?_,HB6.o.setCell (by exact nR _) _,fun q h1 h2=>(QB _ _ _ _ (by exact h1)).trans (HR6.o q h1 h2)⟩
 .have h1:=dj (w':=w6.setCell ⟨P,10,nn⟩ (sL (sQ ⟨g',0,nn⟩) (n+1) k')) HO6.o.1 (QB _ _ _ _ (by exact HO6.o.2));show aa _ _ _ (l++[b]);unfold aa;rw[nu,qe,<- HL.o];exact h1
 .show n+1=(l++[b]).length;rw[qe,HL.o];rfl
def FN:∀ x:Fin 256,∀ b:Fin 2,bits BinOp.or IntKind.u8 (IntKind.u8.wrap ((x.val:Int)*2)) (b.val:Int)=(((2*x.val+b.val) % 256:Nat):Int):=by decide +kernel
def or8 (x b:Nat) (hx:x<256) (hb:b<2):bits BinOp.or IntKind.u8 (IntKind.u8.wrap ((x:Int)*2)) (b:Int)=(((2*x+b) % 256:Nat):Int):=FN ⟨x,hx⟩ ⟨b,hb⟩
structure vSc (w:World) (P:Nat) (S:Sc) (a:Option Addr) (n k:Nat) (W:World):Prop where
 p:blk W P (scL S a n k) 49
 b:Below P w W
def fR (w:World) (P B:Nat) (hPB:P<B) (hB:B<=w.heap.size) (S:Sc) (g m k:Nat) (h:blk w P (scL S (sQ ⟨g,0,nn⟩) (m+1) k) 49) (ho:aa w B (sL (sQ ⟨g,0,nn⟩) (m+1) k) S.l) (hn:m+1=S.l.length) (hn8:m<=7) (hsm:∀ x ∈ S.l,x<256) (hlf:1<=S.lf) (hlf1:S.lf<=64) (h8:¬ S.lf % 8=0) (b:Nat) (hb:b<2) :
  Calls Tp 253 #[pT (sQ ⟨P,0,nn⟩),I .u8 (b:Int)] w fun o w'=>(∃ v,o = rT v)/\kP w w' P B { S with l:=S.l.set m ((2*S.l.getD m 0+b) % 256) } g (m+1) k:=by
 obtain⟨f,lf,rn,lv,cr,ac,e,i,r,d,l⟩:=S;simp only[] at ho hn hlf hlf1 h8 hsm ⊢;have hgl:=QC ho g rfl;have HGL:Hid (B<=g/\g<w.heap.size):=hgl;have HL:Hid (m+1=l.length):=hn;have h1:w.ownsRow B 5 1 (sL (sQ ⟨g,0,nn⟩) (m+1) k) (m+1) (bv l):=by unfold aa at ho;rw[<- hn] at ho;exact ho
 have h3:m<l.length:=om;have hx:l.getD m 0<256:=by
  simp only[List.getD,qA h3,Option.getD_some];exact hsm _ (zh _)
 have HC:Hid (w.cell? ⟨g,m,nn⟩=sQ (I .u8 ((l.getD m 0:Nat):Int))/\w.frozen? ⟨g,m,nn⟩=false):=by
  have h2:=QZ h1 m om;rw[nt l m h3] at h2;simp only[List.getD,qA h3,Option.getD_some];exact⟨h2,QV h1 m⟩
 have HO:Hid (w.ownsRow B 5 1 (sL (sQ ⟨g,0,nn⟩) (m+1) k) (m+1) (bv l)):=h1;have HB0:Hid (blk w P (scL ⟨f,lf,rn,lv,cr,ac,e,i,r,d,l⟩ (sQ ⟨g,0,nn⟩) (m+1) k) 49):=h;have hkk:m+1<=k:=by
  rcases h1.2 with⟨e,_⟩|⟨g1,cap,cur,hv',hb,hg,hcp,hmx,hsz,htk⟩
  .cases e
  .cases hv';exact hcp
 generalize hX:l.getD m 0=x at *;generalize hY:(2*x+b) % 256=y at *;have z1:=h.cell 1 _ rfl;have z10:=h.cell 10 _ rfl;have q8:(lf % 8 == 0)=false:=by simpa using h8
 clear h ho hn hgl h8 h1 h3 hsm hX;go_enter Tryz.func253,Tryz.ntmps253;go_wp2_with fail;refine QK (S:=vSc w P ⟨f,lf,rn,lv,cr,ac,e,i,r,d,l⟩ (sQ ⟨g,0,nn⟩) (m+1) k) kr ?_;obtain⟨wd,hwd⟩ : ∃ wd,wd=w.drew:=⟨_,rfl⟩
 change wpAnyH _ _ _ _ _ _ _ _ w.drew;rw[<- hwd];have hwb:Bl w wd:=hwd ▸ (bW _ _).drew;have hpl:=HB0.o.lt;have hs:vSc w P ⟨f,lf,rn,lv,cr,ac,e,i,r,d,l⟩ (sQ ⟨g,0,nn⟩) (m+1) k wd:=⟨HB0.o.below hwb,hwb.mono om⟩
 have hc:=(hwb.cell (p:=⟨g,m,nn⟩) HGL.o.2).trans HC.o.1;have hfz:=(hwb.frozen (p:=⟨g,m,nn⟩) HGL.o.2).trans HC.o.2;have HO2:Hid (wd.ownsRow B 5 1 (sL (sQ ⟨g,0,nn⟩) (m+1) k) (m+1) (bv l)):=dj HO.o (hwb.block g HGL.o.2);have HR2:Hid (∀ q,q<B->wd.heap[q]?=w.heap[q]?):=fun q h2=>hwb.block q om;clear hwb hwd HO HC z1 z10;refine wV 0 (pT (sQ ⟨P,0,nn⟩)) ?_ hs ?_
 .intro W hW;clear hs;go_simp
 simp only[Act.put,aA,aB,aC,aD,aE];refine wV 1 (pT (sQ ⟨P,0,nn⟩)) ?_ hs ?_
 .intro W hW;clear hs;go_simp
 simp only[aZ];refine wV 2 (pT (sQ ⟨P,6,nn⟩)) ?_ hs ?_
 .intro W hW;clear hs;go_simp
 simp only[aZ];refine wV 3 (pT (sQ ⟨P,10,nn⟩)) ?_ hs ?_
 .intro W hW;clear hs;go_simp
 simp only[aZ];refine wV 4 (sL (sQ ⟨g,0,nn⟩) (m+1) k) ?_ hs ?_
 .intro W hW;clear hs;have z10:=hW.p.cell 10 _ rfl;go_simp
 simp only[aZ];refine wV 5 (I J (m:Int)) ?_ hs ?_
 .intro W hW;clear hs;go_simp
 simp only[aZ];refine wV 6 (pT (sQ ⟨P,0,nn⟩)) ?_ hs ?_
 .intro W hW;clear hs;go_simp
 simp only[aZ];refine wV 7 (pT (sQ ⟨P,0,nn⟩)) ?_ hs ?_
 .intro W hW;clear hs;go_simp
 simp only[aZ];refine wV 8 (pT (sQ ⟨P,6,nn⟩)) ?_ hs ?_
 .intro W hW;clear hs;go_simp
 simp only[aZ];refine wV 9 (pT (sQ ⟨P,10,nn⟩)) ?_ hs ?_
 .intro W hW;clear hs;go_simp
 simp only[aZ];refine wV 10 (sL (sQ ⟨g,0,nn⟩) (m+1) k) ?_ hs ?_
 .intro W hW;clear hs;have z10:=hW.p.cell 10 _ rfl;go_simp
 simp only[aZ];refine wV 11 (I J (m:Int)) ?_ hs ?_
 .intro W hW;clear hs;go_simp
 simp only[aZ];refine wV 12 (pT (sQ ⟨g,m,nn⟩)) ?_ hs ?_
 .intro W hW;clear hs;go_simp;intro h;omega
 simp only[aZ];refine wV 15 (I .u8 (b:Int)) ?_ hs ?_
 .intro W hW;clear hs;go_simp
 simp only[aZ];refine QG (rs:=[13]) kr pQ ?_;refine Q9 rfl (fun K hK=>?_) za;go_simp;refine hK.out _ _ hs (fun hs2=>?_);clear hK K hs2;refine wV 14 (I .u8 (IntKind.u8.wrap ((x:Int)*2))) ?_ hs ?_
 .intro W hW;clear hs;go_simp
 simp only[aZ];refine wV 16 (I .u8 (y:Int)) ?_ hs ?_
 .intro W hW;clear hs;go_simp;rw[<- hY];exact or8 x b hx hb
 simp only[aZ];refine wV 17 (pT (sQ ⟨g,m,nn⟩)) ?_ hs ?_
 .intro W hW;clear hs;go_simp;intro h;omega
 simp only[aZ];refine QG (rs:=[18]) kr pQ ?_;refine Q9 rfl (fun K hK=>?_) za;go_simp;have hgl:=HGL.o;have hs9:vSc w P ⟨f,lf,rn,lv,cr,ac,e,i,r,d,l⟩ (sQ ⟨g,0,nn⟩) (m+1) k (wd.setCell ⟨g,m,nn⟩ (I .u8 (y:Int))):=⟨hs.p.setOther om _ _,hs.b.setCell (by show P<=g;omega) _⟩
 have HO9:Hid ((wd.setCell ⟨g,m,nn⟩ (I .u8 (y:Int))).ownsRow B 5 1 (sL (sQ ⟨g,0,nn⟩) (m+1) k) (m+1) ((bv l).set m (I .u8 (y:Int)))):=(World.ownsRow.stored HO2.o m _).1;have HR9:Hid (∀ q,q≠P->q<B->(wd.setCell ⟨g,m,nn⟩ (I .u8 (y:Int))).heap[q]?=w.heap[q]?):=fun q h1 h2=>(QB _ _ _ _ (by show q≠g;omega)).trans (HR2.o q h2);refine hK.out _ _ hs9 (fun hs2=>?_);clear hK K hs2;clear hs;refine QI kr ?_ _;have HS9:Hid _:=hs9;generalize wd.setCell ⟨g,m,nn⟩ (I .u8 (y:Int))=w9 at *;clear hs9 hc hfz;go_wp2_with fail;go_end0;refine⟨⟨_,rfl⟩,HS9.o.p,?_,?_,HS9.o.b,HR9.o⟩
 .show aa w9 B _ (l.set m y);unfold aa;rw[Ah,qK,<- HL.o];exact HO9.o
 .show m+1=(l.set m y).length;rw[qK];exact HL.o
end Go.Proofs.YtnfmjckkibdcaaaGreatDoor
namespace Go.Proofs.YtnfmjckkibdcaaaGreatDoor.G
open Option renaming none->nn,some->sQ
open Go.RowKit
set_option linter.all false
structure kP (w w':World) (P B:Nat) (T:Sc) (g:Option Addr) (n k:Nat):Prop where
 q:blk w' P (scL T g n k) 49
 o:aa w' B (.slice g n k) T.l
 l:n=T.l.length
 b:Below P w w'
 r:∀ q,q≠P->q<B->w'.heap[q]?=w.heap[q]?
 z:B<=w'.heap.size
def EV {w w':World} {B:Nat} {v:Value} {l:List Nat} (h:aa w B v l) (hk:∀ q,B<=q->q<w.heap.size->w'.heap[q]?=w.heap[q]?):aa w' B v l:=by
 refine⟨h.1,?_⟩;rcases h.2 with⟨e,e2⟩|⟨g1,cap,cur,hv',hb1,hg,hcp,hmx,hsz,htk⟩
 .exact .inl ⟨e,e2⟩
 .exact .inr ⟨g1,cap,cur,hv',hb1,(hk g1 hb1 (aJ hg)).trans hg,hcp,hmx,hsz,htk⟩
def mU {w:World} {B:Nat} {g:Option Addr} {n k:Nat} {l:List Nat} (h:aa w B (.slice g n k) l):(g=nn/\n=0/\k=0/\l=[])\/∃ q,g=sQ ⟨q,0,nn⟩:=by
 rcases h.2 with⟨e,e2⟩|⟨g1,cap,cur,hv',hb1,hg,hcp,hmx,hsz,htk⟩
 .cases e;exact .inl ⟨rfl,rfl,rfl,List.length_eq_zero_iff.1 e2⟩
 .cases hv';exact .inr ⟨g1,rfl⟩
def kP.of {w w':World} {P B:Nat} {T:Sc} {g n k:Nat} (h:YtnfmjckkibdcaaaGreatDoor.kP w w' P B T g n k):kP w w' P B T (sQ ⟨g,0,nn⟩) n k:=⟨h.q,h.o,h.l,h.b,h.r,by have:=QC h.o g rfl;omega⟩
set_option maxHeartbeats 4000000 in
set_option maxRecDepth 20000 in
def oy (w:World) (P B:Nat) (hPB:P<B) (hB:B<=w.heap.size) (S:Sc) (h:blk w P (scL S nn 0 0) 49) (hl:S.l=[]) (hlf:1<=S.lf) (hlf1:S.lf<=64) (h8:S.lf % 8=0) (b:Nat) (hb:b<2) :
  Calls Tryz.prog 253 #[.pointer (sQ ⟨P,0,nn⟩),.int .u8 (b:Int)] w fun o w'=>(∃ v,o = .returned v)/\∃ g' n' k',kP w w' P B { S with l:=[b] } g' n' k':=by
 obtain⟨f,lf,rn,lv,cr,ac,e,i,r,d,l⟩:=S;simp only[] at hl hlf hlf1 h8 ⊢;subst hl;have HP:Hid (blk w P (scL ⟨f,lf,rn,lv,cr,ac,e,i,r,d,[]⟩ nn 0 0) 49):=h;have HO:Hid (aa w B (.slice nn 0 0) []):=Q6 w B 5 1;have z1:=h.cell 1 _ rfl;have z10:=h.cell 10 _ rfl;have q8:lf.tmod 8=0:=by rw[qh om];exact h8
 obtain⟨i0,hi,hz0,hz1,hz2⟩:=QX Tryz.info5;have HPl:Hid (P<w.heap.size):=h.lt;clear h h8;go_enter Tryz.func253,Tryz.ntmps253
 go_wp2_with (at_builtin;refine Q2 _ rfl _ _ 45 rfl B 5 i0 (.int .u8 0) 1 1 Tryz.underlying45 hi hz0 hz1 hz2 rfl (by decide) (.slice nn 0 0) 0 [] rfl (Q6 _ B 5 1) ⟨w.heap.size,0,nn⟩ 1 1 [.int .u8 (b:Int)] rfl rfl ?qc2 ?qc3 ?qc4 ?qc5 ?qc6 ?_)
 case qc3=>rfl
 case qc4=>unfold maxLen;omega
 case qc6=>omega
 intro v' w6 ho6 hg6 hn6;have hpl:=HPl.o;have hbl:Bl w (w.alloc (.cells #[.int .u8 (b:Int)] 5)):=(bW w.heap.size w).alloc (nR _) _;have P6:=(HP.o.below hbl).kept (hg6.block _ (by simp;omega) (by intro e;cases e));have x10:=P6.cell 10 _ rfl;have f10:=P6.free 10;have HP6:Hid (blk w6 P (scL ⟨f,lf,rn,lv,cr,ac,e,i,r,d,[]⟩ nn 0 0) 49):=P6;have HR6:Hid (∀ q,q<B->w6.heap[q]?=w.heap[q]?):=fun q h2=>(hg6.block q (by simp;omega) (by intro e;cases e)).trans (hbl.block q om);have HB6:Hid (Below P w w6):=(hbl.mono om).grown hg6 (by simp;omega) (by intro q hq;cases hq);have ho7:aa w6 B v' [b]:=ho6;rcases ho7.2 with⟨e,_⟩|⟨g',k',cur,hv,_⟩
 .exact Qz e hn6
 subst hv;have HO6:Hid (aa w6 B (.slice (sQ ⟨g',0,nn⟩) [b].length k') [b]/\B<=w6.heap.size):=⟨ho7,by have:=(QC ho7 g' rfl);omega⟩
 clear P6 ho6 ho7 hg6 hn6 hbl;go_wp2_with fail;refine bN ?_;refine⟨⟨_,rfl⟩,sQ ⟨g',0,nn⟩,1,k',HP6.o.set 10 (.slice (sQ ⟨g',0,nn⟩) 1 k'),jC HO6.o.1 hPB _ _,rfl,HB6.o.setCell (by exact nR _) _,fun q h1 h2=>(QB _ _ _ _ (by exact h1)).trans (HR6.o q h2),?_⟩;simpa using HO6.o.2
def gF (w:World) (P B:Nat) (hPB:P<B) (hB:B<=w.heap.size) (S:Sc) (g:Option Addr) (n k:Nat) (h:kP w w P B S g n k) (hn8:n<=8) (hlf:1<=S.lf) (hlf1:S.lf<=64) (h8:S.lf % 8=0) (b:Nat) (hb:b<2) :
  Calls Tryz.prog 253 #[.pointer (sQ ⟨P,0,nn⟩),.int .u8 (b:Int)] w fun o w'=>(∃ v,o = .returned v)/\∃ g' n' k',kP w w' P B { S with l:=S.l++[b] } g' n' k':=by
 rcases mU h.o with⟨rfl,rfl,rfl,h4⟩|⟨q,rfl⟩
 .rw[h4];exact oy w P B hPB hB S h.q h4 hlf hlf1 h8 b hb
 .refine (YtnfmjckkibdcaaaGreatDoor.gF w P B hPB hB S q n k h.q h.o h.l hn8 hlf hlf1 h8 b hb).mono ?_;rintro o w' ⟨hv,g',k',hk⟩;exact⟨hv,_,_,_,kP.of hk⟩
def fR (w:World) (P B:Nat) (hPB:P<B) (hB:B<=w.heap.size) (S:Sc) (g:Option Addr) (m k:Nat) (h:kP w w P B S g (m+1) k) (hn8:m<=7) (hsm:∀ x ∈ S.l,x<256) (hlf:1<=S.lf) (hlf1:S.lf<=64) (h8:¬ S.lf % 8=0) (b:Nat) (hb:b<2) :
  Calls Tryz.prog 253 #[.pointer (sQ ⟨P,0,nn⟩),.int .u8 (b:Int)] w fun o w'=>(∃ v,o = .returned v)/\kP w w' P B { S with l:=S.l.set m ((2*S.l.getD m 0+b) % 256) } g (m+1) k:=by
 rcases mU h.o with⟨rfl,h2,h3,h4⟩|⟨q,rfl⟩
 .omega
 .refine (YtnfmjckkibdcaaaGreatDoor.fR w P B hPB hB S q m k h.q h.o h.l hn8 hsm hlf hlf1 h8 b hb).mono ?_;rintro o w' ⟨hv,hk⟩;exact⟨hv,kP.of hk⟩
end Go.Proofs.YtnfmjckkibdcaaaGreatDoor.G
namespace Go.Proofs.YtnfmjckkibdcaaaGreatDoor
open Go.RowKit
set_option linter.all false
def sn (n:Int) (h0:0<=n) (h1:n<2 ^ 32):bits .and .u32 n 536870911=n % 536870912:=
 bits_mask .u32 32 (by decide) (fun n h0 h1=>by rw[IntKind.wrap_u32];omega) 29 (by decide) n h0 h1
def zy (x b:Nat) (hx:x<536870912) (hb:b<2):bits BinOp.and IntKind.u32 (bits BinOp.or IntKind.u32 ((x:Int)*2) (b:Int)) 536870911=(((2*x+b) % 536870912:Nat):Int):=by
 rw[sN x b om hb,sn _ om om];omega
def wP (n:Int) (h0:0<=n) (h1:n<2 ^ 62):bits .and .i64 n 15=n % 16:=
 bits_mask .i64 62 (by decide) fT 4 (by decide) n h0 h1
def vg (x:Int) (b:Nat) (h0:0<=x) (h1:x<=15) (hb:b<2):bits BinOp.and IntKind.i64 (bits BinOp.or IntKind.i64 (x*2) (b:Int)) 15=(2*x+b) % 16:=by
 obtain⟨y,rfl⟩ : ∃ y:Nat,x=(y:Int):=⟨x.toNat,om⟩
 rw[n9 y b om hb,wP _ om om];omega
def vq (x:Int) (b:Nat) (h0:0<=x) (h1:x<=32767) (hb:b<2):bits BinOp.and IntKind.i64 (bits BinOp.or IntKind.i64 (x*2) (b:Int)) 32767=(2*x+b) % 32768:=by
 obtain⟨y,rfl⟩ : ∃ y:Nat,x=(y:Int):=⟨x.toNat,om⟩
 rw[n9 y b om hb,gK _ om om];omega
end Go.Proofs.YtnfmjckkibdcaaaGreatDoor
namespace Go.Proofs.YtnfmjckkibdcaaaGreatDoor.G
open Go.RowKit
set_option linter.all false
def kP.put {w w':World} {P B:Nat} {T T':Sc} {g:Option Addr} {n k:Nat} (h:kP w w' P B T g n k) (hg:P<B) (o:Nat) (v:Value) (hl:T'.l=T.l) (he:(scL T g n k).set o v=scL T' g n k):kP w (w'.setCell ⟨P,o,none⟩ v) P B T' g n k:=
 ⟨he ▸ h.q.set o v,by rw[hl];exact jC h.o hg _ _,by rw[hl];exact h.l,h.b.setCell (by exact nR _) _,fun q h1 h2=>(QB _ _ _ _ (by exact h1)).trans (h.r q h1 h2),by simpa using h.z⟩
set_option maxHeartbeats 16000000 in
set_option maxRecDepth 20000 in
def DS (w:World) (P B:Nat) (hPB:P<B) (f:Int) (h9:¬ f=9) (hf1:1<=f) (hf2:f<=14) (lf rn lv cr ac:Int) (e:Bool) (i:Nat) (r:Bool) (d:Int) (l:List Nat) (g:Option Addr) (n k:Nat) (h:kP w w P B ⟨f,lf,rn,lv,cr,ac,e,i,r,d,l⟩ g n k) (hcr:0<=cr) (hcr1:cr<=32767) (hac:0<=ac) (hac1:ac<=32767) (hi:i<536870912) (hd:0<=d) (hd1:d<=15) (b:Nat) (hb:b<2) :
  Calls Tryz.prog 209 #[.pointer (some ⟨P,0,none⟩),.int .i64 (b:Int)] w fun o w'=>(∃ v,o = .returned v)/\kP w w' P B (ax (bK (bJ ⟨f,lf,rn,lv,cr,ac,e,i,r,d,l⟩ b) b) b) g n k:=by
 have HSUM:Hid (∀ W,Calls Tryz.prog 247 #[.int .i64 cr,.int .i64 (b:Int)] W fun o w'=>o = .returned (.int .i64 ((M.dM cr.toNat b:Nat):Int))/\W=w'):=by
  intro W;have:=aH cr.toNat b W om;rwa [qF hcr] at this
 have HK:Hid (kP w w P B ⟨f,lf,rn,lv,cr,ac,e,i,r,d,l⟩ g n k):=h;have HG:Hid (P<B):=hPB;have z0:=h.q.cell 0 _ rfl;have f0:=h.q.free 0;have f4:=h.q.free 4;have z5:=h.q.cell 5 _ rfl;have f5:=h.q.free 5;have z4:=h.q.cell 4 _ rfl;have z6:=h.q.cell 6 _ rfl;have f6:=h.q.free 6;have z7:=h.q.cell 7 _ rfl;have f7:=h.q.free 7;have z8:=h.q.cell 8 _ rfl;have f8:=h.q.free 8;have z9:=h.q.cell 9 _ rfl;have f9:=h.q.free 9;have hi2:(i:Int)<1000000000:=om;have HE:=zy i b hi hb;have HD:=vg d b hd hd1 hb;have HA:=vq ac b hac hac1 hb;have hb':b=0\/b=1:=om;clear h hi hPB;obtain hf|hf:(f=3\/f=6\/f=4)\/(f=1\/f=7\/f=2\/f=5\/f=8\/f=10\/f=11\/f=12\/f=13\/f=14):=om
 .clear HE HD HA h9 hf1 hf2;rcases hf with rfl|rfl|rfl
  all_goals
   simp only[ax,bK,bJ,reduceIte,Int.reduceEq,Int.reduceLE,or_true,true_or,or_self];generalize M.dM cr.toNat b=s at *;rcases hb' with rfl | rfl <;> cases r
  all_goals
   try simp only[reduceIte,Nat.zero_ne_one,ite_self,eq_self]
   go_enter Tryz.func209,Tryz.ntmps209;go_wp2_with fail;refine (HSUM.o _).mono ?_;rintro o w1 ⟨rfl,rfl⟩;go_wp2_with fail;go_end0;refine⟨⟨_,rfl⟩,?_⟩
   first
    | (have K:=fun x y:Bool=>((HK.o.put (T':=⟨4,lf,rn,lv,s,ac,e,i,_,d,l⟩) HG.o 4 (.int .i64 (s:Int)) rfl rfl).put (T':=⟨4,lf,rn,lv,s,ac,x,i,_,d,l⟩) HG.o 6 (.bool x) rfl rfl).put (T':=⟨4,lf,rn,lv,s,ac,x,i,y,d,l⟩) HG.o 8 (.bool y) rfl rfl;first | exact K false false | exact K false true | exact K true false)
    | exact (HK.o.put (T':=⟨_,lf,rn,lv,s,ac,e,i,_,d,l⟩) HG.o 4 (.int .i64 (s:Int)) rfl rfl).put HG.o 8 (.bool _) rfl rfl
 .clear hb' h9 hf1 hf2;rcases hf with rfl|rfl|rfl|rfl|rfl|rfl|rfl|rfl|rfl|rfl
  all_goals
   simp only[ax,bK,bJ,reduceIte,Int.reduceEq,Int.reduceLE,or_true,true_or,or_self];generalize M.dM cr.toNat b=s at *;generalize (2*i+b) % 536870912=i' at *;generalize (2*d+b) % 16=d' at *;generalize (2*ac+b) % 32768=a' at *;go_enter Tryz.func209,Tryz.ntmps209;go_wp2_with fail;try (refine (HSUM.o _).mono ?_;rintro o w1 ⟨rfl,rfl⟩;go_wp2_with fail)
   go_end0;refine⟨⟨_,rfl⟩,?_⟩
   first
    | exact HK.o
    | exact HK.o.put HG.o 5 (.int .i64 a') rfl rfl
    | exact HK.o.put HG.o 4 (.int .i64 (s:Int)) rfl rfl
    | exact (HK.o.put (T':=⟨_,lf,rn,lv,s,ac,e,i,r,d,l⟩) HG.o 4 (.int .i64 (s:Int)) rfl rfl).put HG.o 7 (.int .u32 (i':Int)) rfl rfl
    | exact (HK.o.put (T':=⟨_,lf,rn,lv,s,ac,e,i,r,d,l⟩) HG.o 4 (.int .i64 (s:Int)) rfl rfl).put HG.o 9 (.int .i64 d') rfl rfl
end Go.Proofs.YtnfmjckkibdcaaaGreatDoor.G
namespace Go.Proofs.YtnfmjckkibdcaaaGreatDoor
open Go.RowKit
set_option linter.all false
structure bd (T:Sc):Prop where
 f1:1<=T.f
 f2:T.f<=14
 i:T.i<536870912
 d0:0<=T.d
 d1:T.d<=15
 n:T.l.length<=8
 l1:1<=T.lf
 l2:T.lf<=64
 c0:0<=T.cr
 c1:T.cr<=32767
 a0:0<=T.ac
 a1:T.ac<=32767
 sm:∀ x ∈ T.l,x<256
 ne:T.f=9->¬ T.lf % 8=0->1<=T.l.length
end Go.Proofs.YtnfmjckkibdcaaaGreatDoor
namespace Go.Proofs.YtnfmjckkibdcaaaGreatDoor.G
open Go.RowKit
set_option linter.all false
def gG (w:World) (P B:Nat) (hPB:P<B) (hB:B<=w.heap.size) (S:Sc) (g:Option Addr) (n k:Nat) (h:kP w w P B S g n k) (hn8:n<=8) (hsm:∀ x ∈ S.l,x<256) (hlf:1<=S.lf) (hlf1:S.lf<=64) (hne:¬ S.lf % 8=0->1<=n) (b:Nat) (hb:b<2) :
  Calls Tryz.prog 253 #[.pointer (some ⟨P,0,none⟩),.int .u8 (b:Int)] w fun o w'=>(∃ v,o = .returned v)/\∃ g' n' k',kP w w' P B { S with l:=cx S.l S.lf b } g' n' k':=by
 by_cases h8:S.lf % 8=0
 .refine (gF w P B hPB hB S g n k h hn8 hlf hlf1 h8 b hb).mono ?_;rintro o w' ⟨hv,g',n',k',hk⟩;refine⟨hv,g',n',k',?_⟩;have e:cx S.l S.lf b=S.l++[b]:=by unfold cx;rw[zc h8]
  rw[e];exact hk
 .obtain⟨m,rfl⟩ : ∃ m,n=m+1:=⟨n-1,by have:=hne h8;omega⟩
  refine (fR w P B hPB hB S g m k h om hsm hlf hlf1 h8 b hb).mono ?_;rintro o w' ⟨hv,hk⟩;refine⟨hv,g,m+1,k,?_⟩;have em:S.l.length-1=m:=by have:=h.l;omega
  have e:cx S.l S.lf b=S.l.set m ((2*S.l.getD m 0+b) % 256):=by unfold cx;rw[zb h8,em]
  rw[e];exact hk
set_option maxHeartbeats 4000000 in
set_option maxRecDepth 20000 in
def jJ (w:World) (P B:Nat) (hPB:P<B) (hB:B<=w.heap.size) (lf rn lv cr ac:Int) (e:Bool) (i:Nat) (r:Bool) (d:Int) (l:List Nat) (g:Option Addr) (n k:Nat) (h:kP w w P B ⟨9,lf,rn,lv,cr,ac,e,i,r,d,l⟩ g n k) (hcr:0<=cr) (hcr1:cr<=32767) (hn8:n<=8) (hsm:∀ x ∈ l,x<256) (hlf:1<=lf) (hlf1:lf<=64) (hne:¬ lf % 8=0->1<=n) (b:Nat) (hb:b<2) :
  Calls Tryz.prog 209 #[.pointer (some ⟨P,0,none⟩),.int .i64 (b:Int)] w fun o w'=>(∃ v,o = .returned v)/\∃ g' n' k',kP w w' P B ⟨9,lf,rn,lv,((M.dM cr.toNat b:Nat):Int),ac,e,i,r,d,cx l lf b⟩ g' n' k':=by
 have HSUM:Hid (∀ W,Calls Tryz.prog 247 #[.int .i64 cr,.int .i64 (b:Int)] W fun o w'=>o = .returned (.int .i64 ((M.dM cr.toNat b:Nat):Int))/\W=w'):=by
  intro W;have:=aH cr.toNat b W om;rwa [qF hcr] at this
 have hgP:P<B:=hPB;have z0:=h.q.cell 0 _ rfl;have z4:=h.q.cell 4 _ rfl;have f4:=h.q.free 4;have HD:Hid (∀ s:Nat,Calls Tryz.prog 253 #[.pointer (some ⟨P,0,none⟩),.int .u8 (b:Int)] (w.setCell ⟨P,4,none⟩ (.int .i64 (s:Int))) fun o w'=>(∃ v,o = .returned v)/\∃ g' n' k',kP w w' P B ⟨9,lf,rn,lv,(s:Int),ac,e,i,r,d,cx l lf b⟩ g' n' k'):=by
  intro s;have hk:=h.put (T':=⟨9,lf,rn,lv,(s:Int),ac,e,i,r,d,l⟩) hgP 4 (.int .i64 (s:Int)) rfl rfl;refine (gG (w.setCell ⟨P,4,none⟩ (.int .i64 (s:Int))) P B hPB (by simpa using hB) ⟨9,lf,rn,lv,(s:Int),ac,e,i,r,d,l⟩ g n k ⟨hk.q,hk.o,hk.l,bW _ _,fun _ _ _=>rfl,hk.z⟩ hn8 hsm hlf hlf1 hne b hb).mono ?_;rintro o w' ⟨hv,g',n',k',hq⟩;exact⟨hv,g',n',k',hq.q,hq.o,hq.l,hk.b.trans hq.b,fun q h1 h2=>(hq.r q h1 h2).trans (hk.r q h1 h2),hq.z⟩
 clear h hgP hne hsm;generalize M.dM cr.toNat b=s at *;have hwb:IntKind.u8.wrap (b:Int)=(b:Int):=by rw[IntKind.wrap_u8];omega
 go_enter Tryz.func209,Tryz.ntmps209;go_wp2_with fail;refine (HSUM.o _).mono ?_;rintro o w1 ⟨rfl,rfl⟩;go_wp2_with fail;refine (HD.o s).mono ?_;rintro o w2 ⟨⟨v,rfl⟩,g',n',k',hq⟩;have HQ:Hid _:=hq;clear hq;go_wp2_with fail;go_end0;exact⟨⟨_,rfl⟩,g',n',k',HQ.o⟩
def lq (w:World) (P B:Nat) (hPB:P<B) (hB:B<=w.heap.size) (S:Sc) (hS:bd S) (g:Option Addr) (n k:Nat) (h:kP w w P B S g n k) (b:Nat) (hb:b<2) :
  Calls Tryz.prog 209 #[.pointer (some ⟨P,0,none⟩),.int .i64 (b:Int)] w fun o w'=>(∃ v,o = .returned v)/\∃ g' n' k',kP w w' P B (ax (bK (bJ S b) b) b) g' n' k':=by
 obtain⟨f,lf,rn,lv,cr,ac,e,i,r,d,l⟩:=S;have hn:=h.l;obtain⟨b1,b2,b3,b4,b5,b6,b7,b8,b9,b10,b11,b12,b13,b14⟩:=hS;simp only[] at b1 b2 b3 b4 b5 b6 b7 b8 b9 b10 b11 b12 b13 b14 hn;by_cases h5:f=9
 .subst h5;have e9:ax (bK (bJ ⟨9,lf,rn,lv,cr,ac,e,i,r,d,l⟩ b) b) b=⟨9,lf,rn,lv,((M.dM cr.toNat b:Nat):Int),ac,e,i,r,d,cx l lf b⟩:=by
   simp only[ax,bK,bJ,reduceIte,Int.reduceEq,Int.reduceLE,or_self]
  rw[e9];exact jJ w P B hPB hB lf rn lv cr ac e i r d l g n k h b9 b10 om b13 b7 b8 (fun h8=>by rw[hn];exact b14 rfl h8) b hb
 .exact (DS w P B hPB f h5 om om lf rn lv cr ac e i r d l g n k h b9 b10 b11 b12 b3 b4 b5 b hb).mono fun o w' h=>⟨h.1,g,n,k,h.2⟩
end Go.Proofs.YtnfmjckkibdcaaaGreatDoor.G
namespace Go.Proofs.YtnfmjckkibdcaaaGreatDoor
open Go.RowKit
set_option linter.all false
open Go.Value renaming int->I,slice->sL,bool->bO,pointer->pT,agg->aG
open Go.IntKind renaming i64->J
open Go.Ending renaming returned->rT
open Go.Proofs.Tryz renaming prog->Tp
def mR (f:Int) (e r:Bool) (d:Int) (hf:f<=13) (hd:0<=d):rsz (ai f e r d) e r d=bh (ai f e r d) e d:=by
 by_cases h9:ai f e r d=9
 .have h8:f=8/\r=false:=by
   unfold ai at h9;split at h9
   .omega
   .split at h9
    .omega
    .rename_i h2;have hf8:f=8:=om;refine⟨hf8,?_⟩;cases r
     .rfl
     .exact Qz ⟨hf8,qr rfl⟩ h2
  rw[h9];unfold rsz;rw[zc rfl,h8.2];show 8*dS false d=if d > 8 then 64 else 8*d
  unfold dS;simp;split <;> omega
 .unfold rsz;rw[zb h9]
def sb (f:Int) (e r:Bool) (d:Int) (h1:1<=f) (h2:f<=13):1<=ai f e r d/\ai f e r d<=14:=by
 unfold ai;split
 .omega
 .split <;> omega
def vH:(Tp.info? 299).map (·.size)=some 3:=kr
def mW (a b c:Int):(#[I J a,I J b,I J c]:Array Value).all (·.oneCell')=true:=QL (by simp[Value.oneCell'])
structure aS (w:World) (P:Nat) (T:Sc) (a:Option Addr) (n k:Nat) (W:World):Prop where
 p:blk W P (scL T a n k) 49
 t:W.rangeAt 0 0 bV
 z:0<W.heap.size
 b:Below P w W
def aS.below {w:World} {P:Nat} {T:Sc} {a:Option Addr} {n k:Nat} {W W':World} (h:aS w P T a n k W) (hb:Bl W W'):aS w P T a n k W':=
 ⟨h.p.below hb,fun j v hv=>(hb.cell (p:=⟨0,0+j,none⟩) h.z).trans (h.t j v hv),nL h.z hb.size,h.b.trans (hb.mono (qB h.p.lt))⟩
end Go.Proofs.YtnfmjckkibdcaaaGreatDoor
namespace Go.Proofs.YtnfmjckkibdcaaaGreatDoor.G
open Option renaming none->nn,some->sQ
open Go.RowKit
set_option linter.all false
def kP.below {w w' w'':World} {P B:Nat} {T:Sc} {g:Option Addr} {n k:Nat} (h:kP w w' P B T g n k) (hb:Bl w' w''):kP w w'' P B T g n k:=⟨h.q.below hb,h.o.below hb,h.l,h.b.trans (hb.mono (qB h.q.lt)),fun q h1 h2=>(hb.block q (by have:=h.z;omega)).trans (h.r q h1 h2),nT h.z hb.size⟩
def zr {w:World} {B Q:Nat} {v:Value} {l:List Nat} {x:List Value} (h:aa w B v l) (hq:blk w Q x 299) (o:Nat) (vs:List Value):aa (w.setCells Q o vs) B v l:=by
 refine⟨h.1,?_⟩;rcases h.2 with⟨e,e2⟩|⟨g1,cap,cur,hv',hb1,hg,hcp,hmx,hsz,htk⟩
 .exact .inl ⟨e,e2⟩
 .refine .inr ⟨g1,cap,cur,hv',hb1,(sO _ _ ?_ _ _ _).trans hg,hcp,hmx,hsz,htk⟩;rintro rfl;unfold blk at hq;rw[hg] at hq;cases hq
set_option maxHeartbeats 8000000 in
set_option maxRecDepth 40000 in
def gN (w:World) (P B:Nat) (hP:0<P) (hPB:P<B) (hB:B<=w.heap.size) (hg:w.rangeAt 0 0 bV) (f:Int) (hf:1<=f) (hf1:f<=13) (rn lv cr ac:Int) (e:Bool) (i:Nat) (r:Bool) (d:Int) (hd:0<=d) (hd1:d<=15) (l:List Nat) (g:Option Addr) (n k:Nat) (h:kP w w P B ⟨f,1,rn,lv,cr,ac,e,i,r,d,l⟩ g n k) :
  Calls Tryz.prog 210 #[.pointer (sQ ⟨P,0,nn⟩)] w fun o w'=>(∃ v,o = .returned v)/\(if ai f e r d=9 then blk w' P (scL ⟨ai f e r d,bh (ai f e r d) e d,rn,lv,cr,ac,e,i,r,d,[]⟩ nn 0 0) 49/\Below P w w'/\(∀ q,q≠P->q<B->w'.heap[q]?=w.heap[q]?) else kP w w' P B ⟨ai f e r d,bh (ai f e r d) e d,rn,lv,cr,ac,e,i,r,d,l⟩ g n k):=by
 have HG:Hid (P<B):=hPB;have HZ:Hid (0<w.heap.size):=by show 0<_;omega
 have HT:Hid (∀ W,Below P w W->W.rangeAt 0 0 bV):=fun W hW j v hv=>(hW.cell (p:=⟨0,0+j,nn⟩) (by exact hP)).trans (hg j v hv);have haf:=sb f e r d hf hf1;have hre:=mR f e r d hf1 hd;have HR1:Hid (∀ W:World,W.rangeAt 0 0 bV->0<W.heap.size->Calls Tryz.prog 254 #[.int .i64 f,frV e i r d g n k] W fun o w'=>∃ z1:Int,o = .returned (.agg #[.int .i64 f,.int .i64 z1,.int .i64 (ai f e r d)])/\Bl W w'):=fun W h1 h2=>(iv W h1 h2 f hf om e i r d hd hd1 _ n k).mono (by rintro o w' ⟨rfl,hb⟩;exact⟨_,rfl,hb⟩);have HR2:Hid (∀ W:World,W.rangeAt 0 0 bV->0<W.heap.size->Calls Tryz.prog 254 #[.int .i64 (ai f e r d),frV e i r d g n k] W fun o w'=>∃ u1:Int,o = .returned (.agg #[.int .i64 (ai f e r d),.int .i64 (bh (ai f e r d) e d),.int .i64 u1])/\Bl W w'):=fun W h1 h2=>(iv W h1 h2 (ai f e r d) haf.1 haf.2 e i r d hd hd1 _ n k).mono (by rintro o w' ⟨rfl,hb⟩;rw[hre];exact⟨_,rfl,hb⟩);have z1:=h.q.cell 1 _ rfl;have f1:=h.q.free 1;have HK:Hid (kP w (w.setCell ⟨P,1,nn⟩ (.int .i64 0)) P B ⟨f,0,rn,lv,cr,ac,e,i,r,d,l⟩ g n k):=h.put hPB 1 (.int .i64 0) rfl rfl;clear h hg hre;generalize ai f e r d=af at *;generalize bh af e d=sz at *;go_enter Tryz.func210,Tryz.ntmps210;go_upto_region 2 with fail
 go_cut [2] (fun s2 wx=>∃ (Q:Nat) (u:Int),s2 = .pointer (sQ ⟨Q,0,nn⟩)/\blk wx Q [.int .i64 af,.int .i64 sz,.int .i64 u] 299/\kP w wx P B ⟨f,0,rn,lv,cr,ac,e,i,r,d,l⟩ g n k/\Q≠P);case first=>
  generalize w.setCell ⟨P,1,nn⟩ (.int .i64 0)=w5 at *;refine QK (S:=aS w P ⟨f,0,rn,lv,cr,ac,e,i,r,d,l⟩ g n k) kr ?_;obtain⟨wd,hwd⟩ : ∃ wd,wd=w5.drew:=⟨_,rfl⟩
  change wpAnyH _ _ _ _ _ _ _ _ w5.drew;rw[<- hwd];have hk:=HK.o.below (w'':=wd) (hwd ▸ (bW _ _).drew);have hs:aS w P ⟨f,0,rn,lv,cr,ac,e,i,r,d,l⟩ g n k wd:=⟨hk.q,HT.o _ hk.b,nL HZ.o hk.b.size,hk.b⟩
  clear hwd HK z1 f1;refine wV 0 (.pointer (sQ ⟨P,0,nn⟩)) ?_ hs ?_
  .intro W hW;clear hs;go_simp
  simp only[Act.put,aA,aB,aC,aD,aE];refine wV 1 (.pointer (sQ ⟨P,0,nn⟩)) ?_ hs ?_
  .intro W hW;clear hs;go_simp
  simp only[aZ];refine wV 2 (.pointer (sQ ⟨P,0,nn⟩)) ?_ hs ?_
  .intro W hW;clear hs;go_simp
  simp only[aZ];refine wV 3 (.int .i64 f) ?_ hs ?_
  .intro W hW;clear hs;have z0:=hW.p.cell 0 _ rfl;go_simp
  simp only[aZ];refine wV 4 (.pointer (sQ ⟨P,0,nn⟩)) ?_ hs ?_
  .intro W hW;clear hs;go_simp
  simp only[aZ];refine wV 5 (.pointer (sQ ⟨P,0,nn⟩)) ?_ hs ?_
  .intro W hW;clear hs;go_simp
  simp only[aZ];refine wV 6 (.pointer (sQ ⟨P,6,nn⟩)) ?_ hs ?_
  .intro W hW;clear hs;go_simp
  simp only[aZ];refine wU 7 (.agg [.bool e,.int .u32 (i:Int),.bool r,.int .i64 d,.slice g n k].toArray) rfl (QM (by rfl) 47 (.tmp 21) rfl P 6 rfl [.bool e,.int .u32 (i:Int),.bool r,.int .i64 d,.slice g n k] _ (fun W h=>blk.loadAt [.int .i64 f,.int .i64 0,.int .i64 rn,.int .i64 lv,.int .i64 cr,.int .i64 ac] [.bool e,.int .u32 (i:Int),.bool r,.int .i64 d,.slice g n k] [] h.p) Tryz.underlying47 rfl gp) hs ?_;simp only[aZ];refine wV 10 (.pointer (sQ ⟨P,0,nn⟩)) ?_ hs ?_
  .intro W hW;clear hs;go_simp
  simp only[aZ];refine wV 11 (.pointer (sQ ⟨P,0,nn⟩)) ?_ hs ?_
  .intro W hW;clear hs;go_simp
  simp only[aZ];refine wV 12 (.pointer (sQ ⟨P,6,nn⟩)) ?_ hs ?_
  .intro W hW;clear hs;go_simp
  simp only[aZ];refine wU 13 (.agg [.bool e,.int .u32 (i:Int),.bool r,.int .i64 d,.slice g n k].toArray) rfl (QM (by rfl) 47 (.tmp 27) rfl P 6 rfl [.bool e,.int .u32 (i:Int),.bool r,.int .i64 d,.slice g n k] _ (fun W h=>blk.loadAt [.int .i64 f,.int .i64 0,.int .i64 rn,.int .i64 lv,.int .i64 cr,.int .i64 ac] [.bool e,.int .u32 (i:Int),.bool r,.int .i64 d,.slice g n k] [] h.p) Tryz.underlying47 rfl gp) hs ?_;simp only[aZ];have HZB:Hid (B<=wd.heap.size):=hk.z;refine QG (rs:=[8,15]) kr pQ ?_;refine Q9 rfl (fun K hK=>?_) (Q9 rfl (fun K hK=>?_) za)
  .go_simp;refine (HR1.o _ hs.t hs.z).mono ?_;rintro o wa ⟨y1,rfl,hbwa⟩;have hkwa:=hk.below hbwa;have hswa:=hs.below hbwa;go_wp2_with fail;refine hK.out _ _ hswa (fun hs2=>?_);clear hK K hs2;have hs:=hswa;have hfld:∀ W:World,(Instr.field 299 (.agg #[.int .i64 f,.int .i64 y1,.int .i64 af]) 2).run Tryz.prog W = .ok (.int .i64 af) W:=fun W=>by kernel_rfl
   refine wV 9 (.int .i64 af) ?_ hs ?_
   .intro W hW;clear hs;have hfl:=hfld W;go_simp
   simp only[aZ];refine QG (rs:=[14,15]) kr pQ ?_;refine Q9 rfl (fun K hK=>?_) (Q9 rfl (fun K hK=>?_) za)
   .go_simp;refine (HR2.o _ hswa.t hswa.z).mono ?_;rintro o wb ⟨u1,rfl,hbwb⟩;have hkwb:=hkwa.below hbwb;have hswb:=hswa.below hbwb;go_wp2_with fail;refine hK.out _ _ hswb (fun hs2=>?_);clear hK K hs2;refine QG (rs:=[15]) kr pQ ?_;refine Q9 rfl (fun K hK=>?_) za;go_simp;have hbA:Bl wb (wb.alloc (.cells #[.int .i64 0,.int .i64 0,.int .i64 0] 299)):=qw;have hkA:=hkwb.below hbA;have hsA:=hswb.below hbA;have hqA:blk (wb.alloc (.cells #[.int .i64 0,.int .i64 0,.int .i64 0] 299)) wb.heap.size ([]++[.int .i64 0,.int .i64 0,.int .i64 0]++[]) 299:=blk.new wb _ 299;have hpl:=hkwb.q.lt;have hQP:wb.heap.size≠P:=om;have HGQ:=hkwb.z;have hBQ:B<=wb.heap.size:=hkwb.z;refine hK.out _ _ hsA (fun hs2=>?_);clear hK K hs2;refine QG (rs:=[16]) kr pQ ?_;refine Q9 rfl (fun K hK=>?_) za;rw[zc (by rfl)];refine QU (P:=Tryz.prog) 299 (.tmp 2) (.tmp 29) rfl wb.heap.size 0 #[.int .i64 af,.int .i64 sz,.int .i64 u1] rfl rfl (hqA.there 0 3 pQ) vH (mW _ _ _) ?_;have hqF:blk (World.setCells (wb.alloc (.cells #[.int .i64 0,.int .i64 0,.int .i64 0] 299)) wb.heap.size 0 [.int .i64 af,.int .i64 sz,.int .i64 u1]) wb.heap.size [.int .i64 af,.int .i64 sz,.int .i64 u1] 299:=blk.put [] [.int .i64 0,.int .i64 0,.int .i64 0] [] _ hqA rfl;have hoF:aa (World.setCells (wb.alloc (.cells #[.int .i64 0,.int .i64 0,.int .i64 0] 299)) wb.heap.size 0 [.int .i64 af,.int .i64 sz,.int .i64 u1]) B (.slice g n k) l:=zr hkA.o hqA _ _;have hkF:kP w (World.setCells (wb.alloc (.cells #[.int .i64 0,.int .i64 0,.int .i64 0] 299)) wb.heap.size 0 [.int .i64 af,.int .i64 sz,.int .i64 u1]) P B ⟨f,0,rn,lv,cr,ac,e,i,r,d,l⟩ g n k:=⟨hkA.q.other (Ne.symm hQP) _ _,hoF,hkA.l,sW om _ _ hkA.b,fun q h1 h2=>(sO _ _ om _ _ _).trans (hkA.r q h1 h2),by rw[sZ];exact hkA.z⟩
    have hsF:aS w P ⟨f,0,rn,lv,cr,ac,e,i,r,d,l⟩ g n k (World.setCells (wb.alloc (.cells #[.int .i64 0,.int .i64 0,.int .i64 0] 299)) wb.heap.size 0 [.int .i64 af,.int .i64 sz,.int .i64 u1]):=⟨hkF.q,HT.o _ hkF.b,nL HZ.o hkF.b.size,hkF.b⟩
    have HF:Hid (blk (World.setCells (wb.alloc (.cells #[.int .i64 0,.int .i64 0,.int .i64 0] 299)) wb.heap.size 0 [.int .i64 af,.int .i64 sz,.int .i64 u1]) wb.heap.size [.int .i64 af,.int .i64 sz,.int .i64 u1] 299/\kP w (World.setCells (wb.alloc (.cells #[.int .i64 0,.int .i64 0,.int .i64 0] 299)) wb.heap.size 0 [.int .i64 af,.int .i64 sz,.int .i64 u1]) P B ⟨f,0,rn,lv,cr,ac,e,i,r,d,l⟩ g n k):=⟨hqF,hkF⟩
    refine hK.out _ _ hsF (fun hs2=>?_);clear hK K hs2;clear hsF hqF hkF;generalize World.setCells (wb.alloc (.cells #[.int .i64 0,.int .i64 0,.int .i64 0] 299)) wb.heap.size 0 [.int .i64 af,.int .i64 sz,.int .i64 u1]=wF at *;refine QI kr ?_ _;go_wp2_with fail;go_meet;exact⟨wb.heap.size,u1,rfl,HF.o.1,HF.o.2,hQP⟩
   .go_simp;have hbA:Bl wa (wa.alloc (.cells #[.int .i64 0,.int .i64 0,.int .i64 0] 299)):=qw;have hkA:=hkwa.below hbA;have hsA:=hswa.below hbA;have hqA:blk (wa.alloc (.cells #[.int .i64 0,.int .i64 0,.int .i64 0] 299)) wa.heap.size ([]++[.int .i64 0,.int .i64 0,.int .i64 0]++[]) 299:=blk.new wa _ 299;have hpl:=hkwa.q.lt;have hQP:wa.heap.size≠P:=om;have HGQ:=hkwa.z;have hBQ:B<=wa.heap.size:=hkwa.z;refine hK.out _ _ hsA (fun hs2=>?_);clear hK K hs2;refine QG (rs:=[14]) kr pQ ?_;refine Q9 rfl (fun K hK=>?_) za;go_simp;refine (HR2.o _ hsA.t hsA.z).mono ?_;rintro o wb ⟨u1,rfl,hbwb⟩;have hkwb:=hkA.below hbwb;have hswb:=hsA.below hbwb;go_wp2_with fail;have hqB:=hqA.below hbwb;refine hK.out _ _ hswb (fun hs2=>?_);clear hK K hs2;refine QG (rs:=[16]) kr pQ ?_;refine Q9 rfl (fun K hK=>?_) za;rw[zc (by rfl)];refine QU (P:=Tryz.prog) 299 (.tmp 2) (.tmp 29) rfl wa.heap.size 0 #[.int .i64 af,.int .i64 sz,.int .i64 u1] rfl rfl (hqB.there 0 3 pQ) vH (mW _ _ _) ?_;have hqF:blk (World.setCells wb wa.heap.size 0 [.int .i64 af,.int .i64 sz,.int .i64 u1]) wa.heap.size [.int .i64 af,.int .i64 sz,.int .i64 u1] 299:=blk.put [] [.int .i64 0,.int .i64 0,.int .i64 0] [] _ hqB rfl;have hoF:aa (World.setCells wb wa.heap.size 0 [.int .i64 af,.int .i64 sz,.int .i64 u1]) B (.slice g n k) l:=zr hkwb.o hqB _ _;have hkF:kP w (World.setCells wb wa.heap.size 0 [.int .i64 af,.int .i64 sz,.int .i64 u1]) P B ⟨f,0,rn,lv,cr,ac,e,i,r,d,l⟩ g n k:=⟨hkwb.q.other (Ne.symm hQP) _ _,hoF,hkwb.l,sW om _ _ hkwb.b,fun q h1 h2=>(sO _ _ om _ _ _).trans (hkwb.r q h1 h2),by rw[sZ];exact hkwb.z⟩
    have hsF:aS w P ⟨f,0,rn,lv,cr,ac,e,i,r,d,l⟩ g n k (World.setCells wb wa.heap.size 0 [.int .i64 af,.int .i64 sz,.int .i64 u1]):=⟨hkF.q,HT.o _ hkF.b,nL HZ.o hkF.b.size,hkF.b⟩
    have HF:Hid (blk (World.setCells wb wa.heap.size 0 [.int .i64 af,.int .i64 sz,.int .i64 u1]) wa.heap.size [.int .i64 af,.int .i64 sz,.int .i64 u1] 299/\kP w (World.setCells wb wa.heap.size 0 [.int .i64 af,.int .i64 sz,.int .i64 u1]) P B ⟨f,0,rn,lv,cr,ac,e,i,r,d,l⟩ g n k):=⟨hqF,hkF⟩
    refine hK.out _ _ hsF (fun hs2=>?_);clear hK K hs2;clear hsF hqF hkF;generalize World.setCells wb wa.heap.size 0 [.int .i64 af,.int .i64 sz,.int .i64 u1]=wF at *;refine QI kr ?_ _;go_wp2_with fail;go_meet;exact⟨wa.heap.size,u1,rfl,HF.o.1,HF.o.2,hQP⟩
  .go_simp;have hbA:Bl wd (wd.alloc (.cells #[.int .i64 0,.int .i64 0,.int .i64 0] 299)):=qw;have hkA:=hk.below hbA;have hsA:=hs.below hbA;have hqA:blk (wd.alloc (.cells #[.int .i64 0,.int .i64 0,.int .i64 0] 299)) wd.heap.size ([]++[.int .i64 0,.int .i64 0,.int .i64 0]++[]) 299:=blk.new wd _ 299;have hpl:=hk.q.lt;have hQP:wd.heap.size≠P:=om;have HGQ:=hk.z;have hBQ:B<=wd.heap.size:=hk.z;refine hK.out _ _ hsA (fun hs2=>?_);clear hK K hs2;refine QG (rs:=[8]) kr pQ ?_;refine Q9 rfl (fun K hK=>?_) za;go_simp;refine (HR1.o _ hsA.t hsA.z).mono ?_;rintro o wa ⟨y1,rfl,hbwa⟩;have hkwa:=hkA.below hbwa;have hswa:=hsA.below hbwa;go_wp2_with fail;have hqa:=hqA.below hbwa;refine hK.out _ _ hswa (fun hs2=>?_);clear hK K hs2;have hs:=hswa;have hfld:∀ W:World,(Instr.field 299 (.agg #[.int .i64 f,.int .i64 y1,.int .i64 af]) 2).run Tryz.prog W = .ok (.int .i64 af) W:=fun W=>by kernel_rfl
   refine wV 9 (.int .i64 af) ?_ hs ?_
   .intro W hW;clear hs;have hfl:=hfld W;go_simp
   simp only[aZ];refine QG (rs:=[14]) kr pQ ?_;refine Q9 rfl (fun K hK=>?_) za;go_simp;refine (HR2.o _ hswa.t hswa.z).mono ?_;rintro o wb ⟨u1,rfl,hbwb⟩;have hkwb:=hkwa.below hbwb;have hswb:=hswa.below hbwb;go_wp2_with fail;have hqB:=hqa.below hbwb;refine hK.out _ _ hswb (fun hs2=>?_);clear hK K hs2;refine QG (rs:=[16]) kr pQ ?_;refine Q9 rfl (fun K hK=>?_) za;rw[zc (by rfl)];refine QU (P:=Tryz.prog) 299 (.tmp 2) (.tmp 29) rfl wd.heap.size 0 #[.int .i64 af,.int .i64 sz,.int .i64 u1] rfl rfl (hqB.there 0 3 pQ) vH (mW _ _ _) ?_;have hqF:blk (World.setCells wb wd.heap.size 0 [.int .i64 af,.int .i64 sz,.int .i64 u1]) wd.heap.size [.int .i64 af,.int .i64 sz,.int .i64 u1] 299:=blk.put [] [.int .i64 0,.int .i64 0,.int .i64 0] [] _ hqB rfl;have hoF:aa (World.setCells wb wd.heap.size 0 [.int .i64 af,.int .i64 sz,.int .i64 u1]) B (.slice g n k) l:=zr hkwb.o hqB _ _;have hkF:kP w (World.setCells wb wd.heap.size 0 [.int .i64 af,.int .i64 sz,.int .i64 u1]) P B ⟨f,0,rn,lv,cr,ac,e,i,r,d,l⟩ g n k:=⟨hkwb.q.other (Ne.symm hQP) _ _,hoF,hkwb.l,sW om _ _ hkwb.b,fun q h1 h2=>(sO _ _ om _ _ _).trans (hkwb.r q h1 h2),by rw[sZ];exact hkwb.z⟩
   have hsF:aS w P ⟨f,0,rn,lv,cr,ac,e,i,r,d,l⟩ g n k (World.setCells wb wd.heap.size 0 [.int .i64 af,.int .i64 sz,.int .i64 u1]):=⟨hkF.q,HT.o _ hkF.b,nL HZ.o hkF.b.size,hkF.b⟩
   have HF:Hid (blk (World.setCells wb wd.heap.size 0 [.int .i64 af,.int .i64 sz,.int .i64 u1]) wd.heap.size [.int .i64 af,.int .i64 sz,.int .i64 u1] 299/\kP w (World.setCells wb wd.heap.size 0 [.int .i64 af,.int .i64 sz,.int .i64 u1]) P B ⟨f,0,rn,lv,cr,ac,e,i,r,d,l⟩ g n k):=⟨hqF,hkF⟩
   refine hK.out _ _ hsF (fun hs2=>?_);clear hK K hs2;clear hsF hqF hkF;generalize World.setCells wb wd.heap.size 0 [.int .i64 af,.int .i64 sz,.int .i64 u1]=wF at *;refine QI kr ?_ _;go_wp2_with fail;go_meet;exact⟨wd.heap.size,u1,rfl,HF.o.1,HF.o.2,hQP⟩
 case rest=>
  obtain⟨Q,u,rfl,hq,hk,hQP⟩:=hcut;have HQ:Hid (blk wc Q [.int .i64 af,.int .i64 sz,.int .i64 u] 299/\kP w wc P B ⟨f,0,rn,lv,cr,ac,e,i,r,d,l⟩ g n k):=⟨hq,hk⟩
  clear hq hk;go_wp2_with fail;refine QK (S:=fun W=>blk W Q [.int .i64 af,.int .i64 sz,.int .i64 u] 299) kr ?_;obtain⟨wd,hwd⟩ : ∃ wd,wd=wc.drew:=⟨_,rfl⟩
  change wpAnyH _ _ _ _ _ _ _ _ wc.drew;rw[<- hwd];have hwb:Bl wc wd:=hwd ▸ (bW _ _).drew;have hs:=HQ.o.1.below hwb;have hk:=HQ.o.2.below hwb;clear hwd hwb HQ;refine wV 0 (.pointer (sQ ⟨P,0,nn⟩)) ?_ hs ?_
  .intro W hW;clear hs;go_simp
  simp only[Act.put,aA,aB,aC,aD,aE];refine wV 1 (.pointer (sQ ⟨P,0,nn⟩)) ?_ hs ?_
  .intro W hW;clear hs;go_simp
  simp only[aZ];refine wV 2 (.pointer (sQ ⟨Q,0,nn⟩)) ?_ hs ?_
  .intro W hW;clear hs;go_simp
  simp only[aZ];refine wV 3 (.int .i64 af) ?_ hs ?_
  .intro W hW;clear hs;have z0:=blk.cell hW 0 _ rfl;have z1:=blk.cell hW 1 _ rfl;go_simp
  simp only[aZ];refine wV 4 (.pointer (sQ ⟨Q,1,nn⟩)) ?_ hs ?_
  .intro W hW;clear hs;go_simp
  simp only[aZ];refine wV 5 (.int .i64 sz) ?_ hs ?_
  .intro W hW;clear hs;have z0:=blk.cell hW 0 _ rfl;have z1:=blk.cell hW 1 _ rfl;go_simp
  simp only[aZ];refine wV 6 (.pointer (sQ ⟨P,0,nn⟩)) ?_ hs ?_
  .intro W hW;clear hs;go_simp
  simp only[aZ];refine wV 7 (.pointer (sQ ⟨P,0,nn⟩)) ?_ hs ?_
  .intro W hW;clear hs;go_simp
  simp only[aZ];refine QG (rs:=[8]) kr pQ ?_;refine Q9 rfl (fun K hK=>?_) za;have x0:=hk.q.cell 0 _ rfl;have g0:=hk.q.free 0;go_simp;have hk1:=hk.put (T':=⟨af,0,rn,lv,cr,ac,e,i,r,d,l⟩) HG.o 0 (.int .i64 af) rfl rfl;have hs1:blk (wd.setCell ⟨P,0,nn⟩ (.int .i64 af)) Q [.int .i64 af,.int .i64 sz,.int .i64 u] 299:=hs.setOther hQP _ _;refine hK.out _ _ hs1 (fun hs2=>?_);clear hK K hs2;clear x0 g0 hs hk;generalize wd.setCell ⟨P,0,nn⟩ (.int .i64 af)=we at *;have hs:=hs1;refine wV 9 (.pointer (sQ ⟨P,0,nn⟩)) ?_ hs ?_
  .intro W hW;clear hs;go_simp
  simp only[aZ];refine wV 10 (.pointer (sQ ⟨P,1,nn⟩)) ?_ hs ?_
  .intro W hW;clear hs;go_simp
  simp only[aZ];refine QG (rs:=[11]) kr pQ ?_;refine Q9 rfl (fun K hK=>?_) za;have x1:=hk1.q.cell 1 _ rfl;have g1:=hk1.q.free 1;go_simp;have hk2:=hk1.put (T':=⟨af,sz,rn,lv,cr,ac,e,i,r,d,l⟩) HG.o 1 (.int .i64 sz) rfl rfl;have hs2:blk (we.setCell ⟨P,1,nn⟩ (.int .i64 sz)) Q [.int .i64 af,.int .i64 sz,.int .i64 u] 299:=hs.setOther hQP _ _;refine hK.out _ _ hs2 (fun hs3=>?_);clear hK K hs3 hs2 hs hs1 x1 g1 hk1;refine QI kr ?_ _;generalize we.setCell ⟨P,1,nn⟩ (.int .i64 sz)=wf at *;have HK2:Hid (kP w wf P B ⟨af,sz,rn,lv,cr,ac,e,i,r,d,l⟩ g n k):=hk2;have x0:=hk2.q.cell 0 _ rfl;have x10:=hk2.q.cell 10 _ rfl;have g10:=hk2.q.free 10;clear hk2;by_cases h9:af=9
  .have q9:(af == 9)=true:=by simpa using h9
   have H9:Hid (af=9):=h9;clear h9;go_wp2_with fail;go_end0;refine⟨⟨_,rfl⟩,?_⟩;have e9:=H9.o;subst e9;exact⟨HK2.o.q.set 10 (.slice nn 0 0),HK2.o.b.setCell (by exact nR _) _,fun q h1 h2=>(QB _ _ _ _ (by exact h1)).trans (HK2.o.r q h1 h2)⟩
  .have q9:(af == 9)=false:=by simpa using h9
   have H9:Hid (¬ af=9):=h9;clear h9;go_wp2_with fail;go_end0;refine⟨⟨_,rfl⟩,?_⟩;exact HK2.o
def aP (w w':World) (P B:Nat) (T:Sc):Prop:=(∃ g n k,kP w w' P B T g n k)\/(T.l=[]/\blk w' P (scL T none 0 0) 49/\Below P w w'/\∀ q,q≠P->q<B->w'.heap[q]?=w.heap[q]?)
set_option maxHeartbeats 4000000 in
set_option maxRecDepth 20000 in
def gM (w:World) (P B:Nat) (hPB:P<B) (f lf rn lv cr ac:Int) (hlf:2<=lf) (hlf1:lf<=64) (e:Bool) (i:Nat) (r:Bool) (d:Int) (l:List Nat) (g:Option Addr) (n k:Nat) (h:kP w w P B ⟨f,lf,rn,lv,cr,ac,e,i,r,d,l⟩ g n k) :
  Calls Tryz.prog 210 #[.pointer (some ⟨P,0,none⟩)] w fun o w'=>(∃ v,o = .returned v)/\kP w w' P B ⟨f,lf-1,rn,lv,cr,ac,e,i,r,d,l⟩ g n k:=by
 have z1:=h.q.cell 1 _ rfl;have f1:=h.q.free 1;have HK:Hid (kP w (w.setCell ⟨P,1,none⟩ (.int .i64 (lf-1))) P B ⟨f,lf-1,rn,lv,cr,ac,e,i,r,d,l⟩ g n k):=h.put hPB 1 (.int .i64 (lf-1)) rfl rfl;clear h;have q1:decide (0<lf-1)=true:=by simp;omega
 go_enter Tryz.func210,Tryz.ntmps210;go_wp2_with fail;refine bN ?_;exact⟨⟨_,rfl⟩,HK.o⟩
def il (w:World) (P B:Nat) (hP:0<P) (hPB:P<B) (hB:B<=w.heap.size) (hg:w.rangeAt 0 0 bV) (T:Sc) (hf:1<=T.f) (hf1:T.lf=1->T.f<=13) (hd:0<=T.d) (hd1:T.d<=15) (hlf:1<=T.lf) (hlf1:T.lf<=64) (g:Option Addr) (n k:Nat) (h:kP w w P B T g n k) :
  Calls Tryz.prog 210 #[.pointer (some ⟨P,0,none⟩)] w fun o w'=>(∃ v,o = .returned v)/\aP w w' P B (cX T):=by
 obtain⟨f,lf,rn,lv,cr,ac,e,i,r,d,l⟩:=T;simp only[] at hf hf1 hd hd1 hlf hlf1;by_cases h1:lf=1
 .subst h1;refine (gN w P B hP hPB hB hg f hf (hf1 rfl) rn lv cr ac e i r d hd hd1 l g n k h).mono ?_;rintro o w' ⟨h1,h2⟩;refine⟨h1,?_⟩;unfold cX;simp only[if_true];split at h2
  .rename_i h9;right;rw[h9] at h2 ⊢;exact⟨rfl,h2⟩
  .rename_i h9;left;rw[zb h9];exact⟨g,n,k,h2⟩
 .refine (gM w P B hPB f lf rn lv cr ac om hlf1 e i r d l g n k h).mono ?_;rintro o w' ⟨h2,h3⟩;refine⟨h2,?_⟩;unfold cX;rw[zb (by exact h1)];exact qr ⟨g,n,k,h3⟩
set_option maxHeartbeats 4000000 in
set_option maxRecDepth 20000 in
def xQ (w:World) (P B:Nat) (hPB:P<B) (S:Sc) (g:Option Addr) (n k:Nat) (h:kP w w P B S g n k) (b:Nat) (h5:S.rn=5) (hv:(b:Int)≠S.lv) :
  Calls Tryz.prog 132 #[.pointer (sQ ⟨P,0,nn⟩),.int .i64 (b:Int)] w fun o w'=>o = .returned (.int .i64 0)/\kP w w' P B { S with rn:=1,lv:=b } g n k:=by
 obtain⟨f,lf,rn,lv,cr,ac,e,i,r,d,l⟩:=S;have z2:=h.q.cell 2 _ rfl;have z3:=h.q.cell 3 _ rfl;have f2:=h.q.free 2;have f3:=h.q.free 3;have q5:(rn == 5)=true:=by simpa using h5
 have qv:((b:Int) == lv)=false:=by simpa using hv
 have HK:Hid (kP w ((w.setCell ⟨P,2,nn⟩ (.int .i64 1)).setCell ⟨P,3,nn⟩ (.int .i64 (b:Int))) P B ⟨f,lf,1,b,cr,ac,e,i,r,d,l⟩ g n k):=
  (h.put (T':=⟨f,lf,1,lv,cr,ac,e,i,r,d,l⟩) hPB 2 (.int .i64 1) rfl rfl).put hPB 3 (.int .i64 (b:Int)) rfl rfl
 clear h h5 hv;go_enter Tryz.func132,Tryz.ntmps132;go_wp2_with fail;go_ret;exact⟨rfl,HK.o⟩
set_option maxHeartbeats 4000000 in
set_option maxRecDepth 20000 in
def AJ (w:World) (P B:Nat) (hP:0<P) (hPB:P<B) (hB:B<=w.heap.size) (hg:w.rangeAt 0 0 bV) (S:Sc) (hS:bd S) (hr0:0<=S.rn) (hr1:S.rn<=5) (g:Option Addr) (n k:Nat) (h:kP w w P B S g n k) (b:Nat) (hb:b<2) (h5:S.rn≠5) (hc:bL S.f S.lf S.cr S.ac b=0\/bL S.f S.lf S.cr S.ac b=1) (h13:S.lf=1->S.f<=13) :
  Calls Tryz.prog 132 #[.pointer (sQ ⟨P,0,nn⟩),.int .i64 (b:Int)] w fun o w'=>o = .returned (.int .i64 (bL S.f S.lf S.cr S.ac b))/\aP w w' P B (fV S b):=by
 have HP:=iM w P S _ n k h.q hS.l1 b hb;have HGO:Hid (∀ W,Calls Tryz.prog 128 #[.int .i64 (bL S.f S.lf S.cr S.ac b)] W fun o w'=>o = .returned (.bool true)/\w'=W):=by
  intro W;refine (uY W (bL S.f S.lf S.cr S.ac b)).mono ?_;rintro o w' ⟨⟨x,rfl,hx⟩,rfl⟩;rw[hx.2 hc];exact⟨rfl,rfl⟩
 have HPC:Hid (Calls Tryz.prog 207 #[.pointer (sQ ⟨P,0,nn⟩),.int .i64 (b:Int)] w fun o w'=>o = .returned (.int .i64 (bL S.f S.lf S.cr S.ac b))/\Bl w w'):=HP;have HK:Hid (kP w w P B S g n k):=h;have HZ:Hid (∀ W,Below P w W->W.rangeAt 0 0 bV/\B<=W.heap.size):=fun W hW=>⟨fun j v hv=>(hW.cell (p:=⟨0,0+j,nn⟩) (by exact hP)).trans (hg j v hv),nT hB hW.size⟩
 have HH:Hid (∀ W,kP w W P B S g n k->Calls Tryz.prog 208 #[.pointer (sQ ⟨P,0,nn⟩),.int .i64 (b:Int)] W fun o w'=>(∃ v,o = .returned v)/\kP w w' P B (ay S b) g n k):=by
  intro W hW;refine (nd W P S _ n k hW.q hr1 hr0 b hb).mono ?_;rintro o w' ⟨hv,hs⟩;refine⟨hv,hs.q,?_,?_,hW.b.trans hs.b,fun q h1 h2=>(hs.o q h1 (by have:=hW.z;omega)).trans (hW.r q h1 h2),nT hW.z hs.b.size⟩
  .have e:(ay S b).l=S.l:=by unfold ay;split <;> rfl
   rw[e];exact EV hW.o fun q h1 h2=>hs.o q om h2
  .have e:(ay S b).l=S.l:=by unfold ay;split <;> rfl
   rw[e];exact hW.l
 have e1:(ay S b).f=S.f/\(ay S b).lf=S.lf/\(ay S b).i=S.i/\(ay S b).d=S.d/\(ay S b).l=S.l/\(ay S b).cr=S.cr/\(ay S b).ac=S.ac:=by unfold ay;split <;> exact⟨rfl,rfl,rfl,rfl,rfl,rfl,rfl⟩
 have hbd:bd (ay S b):=by
  obtain⟨a1,a2,a3,a4,a5,a6,a7,a8,a9,a10,a11,a12,a13,a14⟩:=hS;obtain⟨c1,c2,c3,c4,c5,c6,c7⟩:=e1;exact⟨by rw[c1];exact a1,by rw[c1];exact a2,by rw[c3];exact a3,by rw[c4];exact a4,by rw[c4];exact a5,by rw[c5];exact a6,by rw[c2];exact a7,by rw[c2];exact a8,by rw[c6];exact a9,by rw[c6];exact a10,by rw[c7];exact a11,by rw[c7];exact a12,by rw[c5];exact a13,by rw[c1,c2,c5];exact a14⟩
 have HKE:Hid (∀ W,kP w W P B (ay S b) g n k->Calls Tryz.prog 209 #[.pointer (sQ ⟨P,0,nn⟩),.int .i64 (b:Int)] W fun o w'=>(∃ v,o = .returned v)/\∃ g' n' k',kP w w' P B (ax (bK (bJ (ay S b) b) b) b) g' n' k'):=by
  intro W hW;refine (lq W P B hPB (HZ.o W hW.b).2 (ay S b) hbd g n k ⟨hW.q,hW.o,hW.l,bW _ _,fun _ _ _=>rfl,hW.z⟩ b hb).mono ?_;rintro o w' ⟨hv,g',n',k',hs⟩;exact⟨hv,g',n',k',hs.q,hs.o,hs.l,hW.b.trans hs.b,fun q h1 h2=>(hs.r q h1 h2).trans (hW.r q h1 h2),hs.z⟩
 have e2:(bK (bJ (ay S b) b) b).f=S.f/\(bK (bJ (ay S b) b) b).lf=S.lf/\(bK (bJ (ay S b) b) b).d=S.d/\(bK (bJ (ay S b) b) b).l=S.l:=by
  obtain⟨c1,c2,c3,c4,c5,c6,c7⟩:=e1;unfold bK bJ;refine⟨?_,?_,?_,?_⟩ <;> (repeat' split) <;> assumption
 have hfk:=ij (bK (bJ (ay S b) b) b) b hb (by rw[e2.2.2.1];exact hS.d0) (by rw[e2.2.2.1];exact hS.d1) (by rw[e2.2.2.2];exact hS.sm);rw[e2.1,e2.2.1] at hfk;have HAD:Hid (∀ W g' n' k',kP w W P B (ax (bK (bJ (ay S b) b) b) b) g' n' k'->Calls Tryz.prog 210 #[.pointer (sQ ⟨P,0,nn⟩)] W fun o w'=>(∃ v,o = .returned v)/\aP w w' P B (fV S b)):=by
  intro W g' n' k' hW;refine (il W P B hP hPB (HZ.o W hW.b).2 (HZ.o W hW.b).1 _ (by rw[hfk.1];exact hS.f1) (by rw[hfk.1,hfk.2.1];exact h13) hfk.2.2.1 hfk.2.2.2.1 (by rw[hfk.2.1];exact hS.l1) (by rw[hfk.2.1];exact hS.l2) g' n' k' ⟨hW.q,hW.o,hW.l,bW _ _,fun _ _ _=>rfl,hW.z⟩).mono ?_;rintro o w' ⟨hv,hs⟩;refine⟨hv,?_⟩;rcases hs with⟨g2,n2,k2,hs⟩|⟨h1,h2,h3⟩
  .exact qr ⟨g2,n2,k2,hs.q,hs.o,hs.l,hW.b.trans hs.b,fun q h1 h2=>(hs.r q h1 h2).trans (hW.r q h1 h2),hs.z⟩
  .exact qy ⟨h1,h2,hW.b.trans h3.1,fun q q1 q2=>(h3.2 q q1 q2).trans (hW.r q q1 q2)⟩
 have z2:=h.q.cell 2 _ rfl;clear hfk e2 hbd e1 h HP hS hc h13 hg hr0 hr1;generalize fV S b=T3 at *;generalize ax (bK (bJ (ay S b) b) b) b=T2 at *;generalize ay S b=T1 at *;obtain⟨f,lf,rn,lv,cr,ac,e,i,r,d,l⟩:=S;have q5:(rn == 5)=false:=by simpa using h5
 clear h5;simp only[] at z2 HGO HPC ⊢;generalize bL f lf cr ac b=v at *;go_enter Tryz.func132,Tryz.ntmps132;go_wp2_with fail;refine HPC.o.mono ?_;rintro o w1 ⟨rfl,hb1⟩;have HK1:Hid (kP w w1 P B ⟨f,lf,rn,lv,cr,ac,e,i,r,d,l⟩ g n k):=HK.o.below hb1;clear hb1;go_wp2_with fail;refine (HGO.o _).mono ?_;rintro o w2 ⟨rfl,rfl⟩;go_wp2_with fail;refine (HH.o _ HK1.o).mono ?_;rintro o w3 ⟨⟨v1,rfl⟩,hk3⟩;have HK3:Hid _:=hk3;clear hk3;go_wp2_with fail;refine (HKE.o _ HK3.o).mono ?_;rintro o w4 ⟨⟨v2,rfl⟩,g',n',k',hk4⟩;have HK4:Hid _:=hk4;clear hk4;go_wp2_with fail;refine (HAD.o _ g' n' k' HK4.o).mono ?_;rintro o w5 ⟨⟨v3,rfl⟩,hk5⟩;have HK5:Hid _:=hk5;clear hk5;go_wp2_with fail;go_ret;exact⟨rfl,HK5.o⟩
end Go.Proofs.YtnfmjckkibdcaaaGreatDoor.G
namespace Go.Proofs.YtnfmjckkibdcaaaGreatDoor
set_option linter.all false
open Go.RowKit
abbrev scZ:Sc:=⟨0,0,0,0,0,0,false,0,false,0,[]⟩
set_option maxRecDepth 40000
set_option maxHeartbeats 16000000
open Go.Value renaming int->I,slice->sL,bool->bO,pointer->pT,agg->aG
open Go.IntKind renaming i64->J
open Go.Ending renaming returned->rT
open Go.Proofs.Tryz renaming prog->Tp
def Km (w:World) (S:Sc) (hS:okS S) (a:Option Addr) (n cap:Nat) (h:iB w a n cap S.l) (b:Nat) (hb:b<2) (h5:S.rn=5) (hv:(b:Int)≠S.lv) :
  Calls Tp 56 #[scV S a n cap,I J (b:Int)] w fun o w'=>∃ ao n' k',o = rT (.tuple #[scV { S with rn:=1,lv:=b } ao n' k',I J 0])/\iB w' ao n' k' S.l/\Bl w w':=by
 have HS:Hid (okS S):=hS;have HH:Hid (iB w a n cap S.l):=h;have HN:Hid (n=S.l.length):=h.len;have hn8:n<=8:=by have:=hS.2.2.2.2.2.1;have:=h.len;omega
 have HSO:Hid (∀ W,Calls Tp 80 #[scV S a n cap] W fun o w'=>o = rT (bO true)/\Bl W w'):=fun W=>(j3 W S a n cap HN.o om).mono (by rintro o w' ⟨⟨bb,rfl,h1⟩,h2⟩;rw[h1.2 hS];exact⟨rfl,h2⟩);have hb':b=0\/b=1:=om;have HB':Hid (b=0\/b=1):=hb';clear hS h hb';obtain⟨f,lf,rn,lv,cr,ac,e,i,r,d,l⟩:=S;simp only[] at h5 hv HN HH ⊢;have q5:(rn == 5)=true:=by simpa using h5
 have qv:((b:Int) == lv)=false:=by simpa using hv
 have HSM:Hid (∀ x ∈ l,x<256):=HH.o.small;clear h5 hv;go_enter Tryz.func56,Tryz.ntmps56;go_upto_region 1 with fail
 go_cut [18] (fun s18 wx=>s18 = bO false/\blk wx w.heap.size (scL ⟨f,lf,rn,lv,cr,ac,e,i,r,d,l⟩ a n cap) 49/\blk wx (w.heap.size+1) ([]++z11++[]) 49/\Bl w wx);case first=>
  go_wp2_with fail;refine (HSO.o _).mono ?_;rintro o w1 ⟨rfl,hb1⟩;have H1:Hid (blk w1 w.heap.size (scL ⟨f,lf,rn,lv,cr,ac,e,i,r,d,l⟩ a n cap) 49/\blk w1 (w.heap.size+1) ([]++z11++[]) 49/\Bl w w1):=by
   refine⟨((blk.new w _ 49).alloc _).below hb1,?_,(qw.alloc pQ _).trans (hb1.mono (by simp;try omega))⟩;have:=(blk.new (w.alloc (.cells (scL ⟨f,lf,rn,lv,cr,ac,e,i,r,d,l⟩ a n cap).toArray 49)) z11 49).below hb1;simpa using this
  clear hb1;rcases HB'.o with rfl|rfl
  .go_wp2_with fail;go_meet;exact⟨rfl,H1.o⟩
  .go_wp2_with fail;go_meet;exact⟨rfl,H1.o⟩
 case rest=>
  obtain⟨rfl,h1⟩:=hcut;have H1:Hid (blk wc w.heap.size (scL ⟨f,lf,rn,lv,cr,ac,e,i,r,d,l⟩ a n cap) 49/\blk wc (w.heap.size+1) ([]++z11++[]) 49/\Bl w wc):=h1;clear h1;go_wp2_with (refine qG 49 H1.o.1.load Tryz.underlying49 dV ?_);refine (iV wc ⟨f,lf,rn,lv,cr,ac,e,i,r,d,l⟩ a n cap (HH.o.below H1.o.2.2) om).mono ?_;rintro o w2 ⟨g,k,rfl,ho2,hb2⟩;have H2:Hid (blk w2 w.heap.size (scL ⟨f,lf,rn,lv,cr,ac,e,i,r,d,l⟩ a n cap) 49/\blk w2 (w.heap.size+1) ([]++z11++[]) 49/\Bl w w2):=⟨H1.o.1.below hb2,H1.o.2.1.below hb2,H1.o.2.2.trans (hb2.mono H1.o.2.2.size)⟩
  have HO2:Hid (aa w2 (w.heap.size+2) (sL (some ⟨g,0,none⟩) n k) l/\g<w2.heap.size):=⟨ho2.mono (by have:=H1.o.2.1.lt;omega),(QC ho2 g rfl).2⟩
  have HT2:Hid (blk (w2.alloc (.cells z11.toArray 49)) w2.heap.size ([]++z11++[]) 49):=blk.new w2 _ 49
  clear ho2 hb2 H1;go_wp2_with (first
   | (refine QE (P:=Tp) rfl 49 (.tmp 6) (.tmp 21) rfl w2.heap.size 0 _ rfl rfl (HT2.o.there 0 11 pQ) dV (pR _ _ _ _ _ _ _ _ _ _ _ _ _) ?_;generalize hW3:World.setCells (World.alloc _ _) w2.heap.size 0 _=w3;have N3:tW w ⟨f,lf,rn,lv,cr,ac,e,i,r,d,l⟩ a n cap w2.heap.size ⟨f,lf,rn,lv,cr,ac,e,i,r,d,l⟩ g n k w3:=(hW3 ▸ ⟨⟨(H2.o.1.alloc _).other (by have:=H2.o.2.1.lt;omega) _ _,(H2.o.2.1.alloc _).other (by have:=H2.o.2.1.lt;omega) _ _,blk.put [] z11 [] _ HT2.o rfl,sW H2.o.2.2.size _ _ (H2.o.2.2.alloc H2.o.2.2.size _),H2.o.2.1.lt⟩,(HO2.o.1.below qw).keep HN.o ((sO _ _ (by have:=HO2.o.2;omega) _ _ _)),(by have:=HO2.o.2;omega),HN.o⟩);have HN3:Hid (tW w ⟨f,lf,rn,lv,cr,ac,e,i,r,d,l⟩ a n cap w2.heap.size ⟨f,lf,rn,lv,cr,ac,e,i,r,d,l⟩ g n k w3):=N3;have y2:=N3.s.p.cell 2 _ rfl;have y3:=N3.s.p.cell 3 _ rfl;have x2:=N3.s.q.cell 2 _ rfl;have x3:=N3.s.q.cell 3 _ rfl;have f2:=N3.s.q.free 2;have f3:=N3.s.q.free 3;have hzz:=N3.s.z;have HN4:Hid (tW w ⟨f,lf,rn,lv,cr,ac,e,i,r,d,l⟩ a n cap w2.heap.size ⟨f,lf,1,b,cr,ac,e,i,r,d,l⟩ g n k ((w3.setCell ⟨w2.heap.size,2,none⟩ (I J 1)).setCell ⟨w2.heap.size,3,none⟩ (I J (b:Int)))):=(N3.put (T':=⟨f,lf,1,lv,cr,ac,e,i,r,d,l⟩) 2 (I J 1) rfl rfl).put 3 (I J (b:Int)) rfl rfl;clear N3 hW3)
   | (refine qG 49 HN4.o.s.q.load Tryz.underlying49 dV ?_)
   | (refine QE (P:=Tp) rfl 49 (.tmp 4) (.tmp 33) rfl (w.heap.size+1) 0 _ rfl rfl (HN4.o.s.r.there 0 11 pQ) dV (pR _ _ _ _ _ _ _ _ _ _ _ _ _) ?_;generalize hW9:World.setCells (World.setCell (World.setCell _ _ _) _ _) (w.heap.size+1) 0 _=w9;have HW9:Hid (World.setCells ((w3.setCell ⟨w2.heap.size,2,none⟩ (I J 1)).setCell ⟨w2.heap.size,3,none⟩ (I J (b:Int))) (w.heap.size+1) 0 (scL ⟨f,lf,1,b,cr,ac,e,i,r,d,l⟩ (some ⟨g,0,none⟩) n k)=w9):=hW9;clear hW9))
  have e9:=HW9.o;have hF:blk w9 (w.heap.size+1) (scL ⟨f,lf,1,b,cr,ac,e,i,r,d,l⟩ (some ⟨g,0,none⟩) n k) 49:=e9 ▸ blk.put [] z11 [] _ HN4.o.s.r rfl;have hL:=QJ (P:=Tp) w9 (w.heap.size+1) 0 49 _ _ hF.load Tryz.underlying49 rfl dV;refine QF (dY Tryz.results56 _ w9 (w.heap.size+1) _ rfl hL) rfl ?_;refine⟨_,n,k,rfl,?_,e9 ▸ sW om _ _ HN4.o.s.b⟩;rw[<- e9];obtain⟨gg,kk,ee,q1,q2,q3⟩:=eI HN4.o.o (by intro e;cases e) HSM.o;cases ee;have:=q3.now;rw[<- HN4.o.l] at this;exact this.setCells (fun q hq2=>by cases hq2;have:=(QC HN4.o.o g rfl).1;show g≠_;omega) _ _
set_option maxRecDepth 20000
variable {k:Nat} {bx:List R8} {st:Int} {w:World}
def cZ (st:Int) (b:R8):Prop:=if b.x=0 then (b.y=0/\b.z=0/\zFr b.e b.i b.r b.d b.l.length) else ((1<=b.x/\b.x<=3)/\(0<=b.y/\b.y<=9999)/\(0<=b.z/\b.z<st)/\vB b.e b.i b.r b.d b.l.length=true)
def far (a b:R8):Prop:=a.x≠0->b.x≠0->a.y≠b.y/\a.z≠b.z
def gT (bx:List R8):Nat:=bx.countP (fun b=>b.x != 0 && b.x != 1)
def dw (st:Int) (bx:List R8):Prop:=(∀ j (h:j<bx.length),cZ st bx[j])/\(∀ i j (hi:i<bx.length) (hj:j<bx.length),i<j->far bx[i] bx[j])/\gT bx<=1
structure obS (w:World) (H:Ho) (s:Sl) (W:World):Prop where
 p:blk W w.heap.size (hoL H s) 41
 b:Bl w W
def obS.below {H:Ho} {s:Sl} {W W':World} (h:obS w H s W) (hb:Bl W W'):obS w H s W':=⟨h.p.below hb,h.b.trans (hb.mono h.b.size)⟩
def ug (bx:List R8) (k:Nat) (h:k<bx.length):gT (bx.take (k+1))=gT (bx.take k)+(if (bx[k].x != 0 && bx[k].x != 1)=true then 1 else 0):=by
 unfold gT;rw[qg h,List.countP_append];simp[List.countP_cons]
def di {ops:Array Oper} {rest:List Oper} {op:Oper} {a:Act} {Q:Exit->Act->World->Prop} (hw:Region.wanted op (yielded ops a.tmps)=true) (ty:TypeId) (x:Operand) (ho:op.op = .load ty x)
  (b o:Nat) (hx:a.eval x = pT (some ⟨b,o,none⟩)) (cs:List Value) (d:TypeDesc) (hc:w.rangeAt b o cs)
  (hu:Tp.underlying ty=some d) (hd:d.isRow=true) (hi:(Tp.info? ty).map (·.size)=some cs.length)
  (h:wpList Tp ops Q rest (a.put op.dst (aG cs.toArray)) w):wpList Tp ops Q (op :: rest) a w:=
 wpList_step fun K hK=>by
  simp only[hw,if_true];exact wp_load_mid ty x ho b o hx cs d hc hu hd hi (hK _ _ h)
def mX (hk:k<bx.length) (h:¬ cZ st bx[k]):¬ dw st bx:=fun hh=>h (hh.1 k hk)
def wm {i:Nat} (hi:i<bx.length) (hk:k<bx.length) (hik:i<k) (h:¬ far bx[i] bx[k]):¬ dw st bx:=fun hh=>h (hh.2.1 i k hi hk hik)
def zM (hD:∀ i j (hi:i<bx.length) (hj:j<bx.length),i<j->j<k->far bx[i] bx[j]) (hk:k<bx.length) (h:∀ i (hi:i<bx.length),i<k->far bx[i] bx[k]):∀ i j (hi:i<bx.length) (hj:j<bx.length),i<j->j<k+1->far bx[i] bx[j]:=by
 intro i j hi hj hij hjk;by_cases e:j=k
 .subst e;exact h i hi hij
 .exact hD i j hi hj hij om
def kR {α:Type} {p:α->Prop} {bs:List α} (hk:k<bs.length) (h:∀ j (hj:j<bs.length),j<k->p bs[j]) (h1:p bs[k]):∀ j (hj:j<bs.length),j<k+1->p bs[j]:=by
 intro j hj h2;by_cases e:j=k
 .subst e;exact h1
 .exact h j hj om
structure rbS (st:Int) (bx:List R8) (k:Nat) (b:R8):Prop where
 bad:¬ cZ st b->¬ dw st bx
 good:cZ st b->∀ j (hj:j<bx.length),j<k+1->cZ st bx[j]
 fars:(∀ i (hi:i<bx.length),i<k->far bx[i] b)->∀ i j (hi:i<bx.length) (hj:j<bx.length),i<j->j<k+1->far bx[i] bx[j]
 bf:∀ i (hi:i<bx.length),i<k->¬ far bx[i] b->¬ dw st bx
 bn:gT (bx.take (k+1))=gT (bx.take k)+(if (b.x != 0 && b.x != 1)=true then 1 else 0)
def rbS.of (hk:k<bx.length) (hA:∀ j (hj:j<bx.length),j<k->cZ st bx[j]) (hD:∀ i j (hi:i<bx.length) (hj:j<bx.length),i<j->j<k->far bx[i] bx[j]):rbS st bx k bx[k]:=
 ⟨mX hk,fun ho=>kR hk hA ho,fun ho=>zM hD hk ho,fun i hi hik hf=>wm hi hk hik hf,ug bx k hk⟩
def mg (w:World) (H:Ho) (s:Sl) (h:aM w s.a2 s.n2 s.k2 H.bx) (hn:s.n2<=8) :
  Calls Tp 170 #[hoV H s] w fun o w'=>cK o (dw H.st H.bx)/\Bl w w':=by
 have HH:Hid (aM w s.a2 s.n2 s.k2 H.bx):=h;have HL:Hid (s.n2=H.bx.length):=h.len;have hcp:=h.cap;have H0:Hid (obS w H s (w.alloc (.cells (hoL H s).toArray 41))):=⟨blk.new w _ 41,qw⟩
 clear h;rw[gR];go_enter Tryz.func170,Tryz.ntmps170;go_wp2_with fail;go_loopw [3,4] (fun b i wr=>∃ k q:Nat,k<=s.n2/\i = I J (k:Int)/\b = I J (q:Int)/\q<=k/\q=gT (H.bx.take k)/\(∀ j (hj:j<H.bx.length),j<k->cZ H.st H.bx[j])/\(∀ i j (hi:i<H.bx.length) (hj:j<H.bx.length),i<j->j<k->far H.bx[i] H.bx[j])/\obS w H s wr) (fun _ i _=>s.n2-(intOf i).toNat);case atStart=>exact⟨0,0,nZ _,rfl,rfl,nR _,by simp[gT],fun j hj h=>Qz h (nN _),fun i j hi hj h1 h2=>Qz h2 (nN _),H0.o⟩
 case round=>
  obtain⟨k,q,hk,rfl,rfl,hqk,hq,hA,hD,hS⟩:=hrel;have HS:Hid (obS w H s wr):=hS;have x5:=hS.p.cell 5 _ rfl;by_cases hlt:k<s.n2
  .have hkl:k<H.bx.length:=by have:=HL.o;omega
   obtain⟨g,off,ha,hc⟩:=HH.o.cells (by intro e;rw[e] at hkl;cases hkl);obtain⟨ao,m,c,hx⟩:=hc k hkl;have HC:Hid (∀ W,Bl w W->∀ j (h:j<H.bx.length),∃ ao m c,at8 W g (off+j*8) H.bx[j] ao m c):=fun W hW j hj=>by obtain⟨a,b,c,h⟩:=hc j hj;exact⟨a,b,c,h.below hW⟩
   have HA5:Hid (s.a2=some ⟨g,off,none⟩):=ha;rw[ha] at x5;have HR0:=rbS.of hkl hA hD;have HRG0:=(hx.below HS.o.b).range;have hM:=hx.dat.len;have HQQ:Hid (q=gT (H.bx.take k)):=hq;clear hx hc ha hq hA hD hS;generalize H.bx[k]=b at *;obtain⟨x,y,z,e,i,r,d,l⟩:=b;dsimp only at HRG0 hM;have HR:Hid (rbS H.st H.bx k ⟨x,y,z,e,i,r,d,l⟩):=HR0;have HRG:Hid (wr.rangeAt g (off+k*8) [I J x,I J y,I J z,bO e,I .u32 (i:Int),bO r,I J d,sL ao m c]):=HRG0;have HE:Hid (cZ H.st ⟨x,y,z,e,i,r,d,l⟩↔(x=0/\y=0/\z=0/\zFr e i r d m)\/(x≠0/\(1<=x/\x<=3)/\(0<=y/\y<=9999)/\(0<=z/\z<H.st)/\vB e i r d m=true)):=by
    show _↔_;unfold cZ;dsimp only;rw[<- hM];by_cases h:x=0 <;> simp[h]
   clear HR0 HRG0 hM;have HW3:Hid (blk (wr.alloc (.cells #[I J x,I J y,I J z,bO e,I .u32 (i:Int),bO r,I J d,sL ao m c] 106)) wr.heap.size [I J x,I J y,I J z,bO e,I .u32 (i:Int),bO r,I J d,sL ao m c] 106/\obS w H s (wr.alloc (.cells #[I J x,I J y,I J z,bO e,I .u32 (i:Int),bO r,I J d,sL ao m c] 106))):=⟨blk.new wr _ 106,HS.o.below qw⟩
   go_upto_region 6 with (refine qG 106 HRG.o Tryz.underlying106 fG ?_)
   generalize wr.alloc _=w3 at *;have p9:=HW3.o.2.p.cell 9 _ rfl;have u0:=HW3.o.1.cell 0 _ rfl;have u1:=HW3.o.1.cell 1 _ rfl;have u2:=HW3.o.1.cell 2 _ rfl;have u3:=HW3.o.1.cell 3 _ rfl;have u4:=HW3.o.1.cell 4 _ rfl;have u5:=HW3.o.1.cell 5 _ rfl;have u6:=HW3.o.1.cell 6 _ rfl;have u7:=HW3.o.1.cell 7 _ rfl;go_wp2_with fail
   all_goals try
    go_ret;exact⟨⟨false,rfl,by simpa using HR.o.bad (fun h=>by rcases HE.o.1 h with⟨h1,h2,h3,_⟩ | ⟨h1,⟨h2,h3⟩,⟨h4,h5⟩,⟨h6,h7⟩,_⟩ <;> first | omega | simp_all)⟩,HW3.o.2.b⟩
   .refine (gQ _ e i r d ao m c).mono ?_;rintro o w4 ⟨⟨bb,rfl,h1⟩,hb4⟩;have HB4:Hid (obS w H s w4):=HW3.o.2.below hb4;have HZ:Hid (bb=true↔cZ H.st ⟨x,y,z,e,i,r,d,l⟩):=⟨fun h=>HE.o.2 (qr ⟨by simp_all,by assumption,by assumption,h1.1 h⟩),fun h=>h1.2 (by rcases HE.o.1 h with h | h;exact h.2.2.2;simp_all)⟩
    have HX:Hid (x=0):=by show _=_;simp_all
    clear h1 hb4;cases bb
    .go_wp2_with fail;go_ret;exact⟨⟨false,rfl,by simpa using HR.o.bad (fun h=>by have:=HZ.o.2 h;simp at this)⟩,HB4.o.b⟩
    .go_wp2_with fail;go_roundw;case rel=>
      refine⟨k+1,q,om,by go_num,rfl,om,?_,HR.o.good (HZ.o.1 (by trivial)),HR.o.fars (fun i hi hik _ h=>Qz HX.o h),HB4.o⟩;rw[HR.o.bn,<- HQQ.o,HX.o];simp
     case measure=>simp[intOf];omega
   .refine (ch _ e i r d ao m c).mono ?_;rintro o w4 ⟨rfl,hb4⟩;have HB4:Hid (blk w4 wr.heap.size [I J x,I J y,I J z,bO e,I .u32 (i:Int),bO r,I J d,sL ao m c] 106/\obS w H s w4):=⟨HW3.o.1.below hb4,HW3.o.2.below hb4⟩
    have HX0:Hid (x≠0):=by show ¬ _=_;simp_all
    have HZ:Hid (vB e i r d m=true↔cZ H.st ⟨x,y,z,e,i,r,d,l⟩):=⟨fun h=>HE.o.2 (qy ⟨HX0.o,by have:=HX0.o;omega,om,om,h⟩),fun h=>by rcases HE.o.1 h with h | h;(exact Qz h.1 HX0.o);exact h.2.2.2.2⟩
    obtain⟨b,hb⟩ : ∃ b,vB e i r d m=b:=⟨_,rfl⟩
    rw[hb] at HZ;rw[hb];clear hb hb4 HE HRG HW3 p9 u0 u1 u2 u3 u4 u5 u6 u7;cases b
    .go_wp2_with fail;go_ret;exact⟨⟨false,rfl,by simpa using HR.o.bad (fun h=>by have:=HZ.o.2 h;simp at this)⟩,HB4.o.2.b⟩
    have HOK:Hid (cZ H.st ⟨x,y,z,e,i,r,d,l⟩):=HZ.o.1 rfl;have y0:=HB4.o.1.cell 0 _ rfl;have y1:=HB4.o.1.cell 1 _ rfl;have y2:=HB4.o.1.cell 2 _ rfl;have o5:=HB4.o.2.p.cell 5 _ rfl;rw[HA5.o] at o5;clear HZ;go_wp2_with fail;all_goals
     have HN:Hid (gT (H.bx.take (k+1))=q+(if (x != 1)=true then 1 else 0)):=by show _=_;have h1:=HX0.o;rw[HR.o.bn,<- HQQ.o];simp[h1]
     clear y0 y1 y2 o5 x5;generalize wr.heap.size=PB at *;go_loopw [6] (fun j wr=>∃ v:Nat,v<=k/\j = I J (v:Int)/\(∀ i' (hi:i'<H.bx.length),i'<v->far H.bx[i'] ⟨x,y,z,e,i,r,d,l⟩)/\Bl w4 wr) (fun j _=>k-(intOf j).toNat);case atStart=>exact⟨0,nZ _,rfl,fun i hi h=>Qz h (nN _),bW _ _⟩
     case round=>
      obtain⟨v,hvk0,rfl,hF,hbi⟩:=hrel;have HBI:Hid (Bl w4 wr):=hbi;have HF:Hid (∀ i' (hi:i'<H.bx.length),i'<v->far H.bx[i'] ⟨x,y,z,e,i,r,d,l⟩):=hF;have y1:=(HB4.o.1.below hbi).cell 1 _ rfl;have y2:=(HB4.o.1.below hbi).cell 2 _ rfl;have o5:=(HB4.o.2.below hbi).p.cell 5 _ rfl;rw[HA5.o] at o5;clear hF hbi;by_cases hvk:v<k
      .have hvl:v<H.bx.length:=by have:=HL.o;omega
       have hvn:v<s.n2:=om;obtain⟨ao',m',c',hx⟩:=HC.o _ (HB4.o.2.below HBI.o).b v hvl;obtain⟨u0,u1,u2,-,-,-,-,-,-⟩:=hx;have HFS:Hid (far H.bx[v] ⟨x,y,z,e,i,r,d,l⟩->∀ i' (hi:i'<H.bx.length),i'<v+1->far H.bx[i'] ⟨x,y,z,e,i,r,d,l⟩):=fun h1=>kR (p:=fun t=>far t ⟨x,y,z,e,i,r,d,l⟩) hvl HF.o h1;have HNF:Hid (¬ far H.bx[v] ⟨x,y,z,e,i,r,d,l⟩->¬ dw H.st H.bx):=HR.o.bf v hvl hvk;generalize H.bx[v]=b' at *;obtain⟨x',y',z',e',i',r',d',l'⟩:=b';dsimp only at u0 u1 u2;obtain⟨b1,e1⟩ : ∃ b,(x' != 0)=b:=⟨_,rfl⟩
       obtain⟨b2,e2⟩ : ∃ b,(y' == y)=b:=⟨_,rfl⟩
       obtain⟨b3,e3⟩ : ∃ b,(z' == z)=b:=⟨_,rfl⟩
       have HV:Hid (far ⟨x',y',z',e',i',r',d',l'⟩ ⟨x,y,z,e,i,r,d,l⟩↔(b1 && (b2 || b3))=false):=by
        show _↔_;have h1:=HX0.o;simp only[far,<- e1,<- e2,<- e3];by_cases hx':x'=0 <;> simp[hx',h1]
       cases b1;rotate_left
       cases b2;cases b3;all_goals
        go_wp2;go_quiet (fail);have HBJ:Hid (Bl w4 (wr.drewN nq)):=QR HBI.o nq;go_wp2;first
        | (go_roundw;(case rel=>exact⟨v+1,om,by go_num,HFS.o (HV.o.2 (by trivial)),HBJ.o⟩);(case measure=>simp[intOf];omega))
        | (go_ret;exact⟨⟨false,rfl,by simpa using HNF.o (fun h=>by have:=HV.o.1 h;simp at this)⟩,(HB4.o.2.below HBJ.o).b⟩)
      .have hve:v=k:=om;subst hve;go_wp2;go_roundw
       case rel=>first
        | exact⟨v+1,q+1,om,by go_num,by go_num,om,by have:=HN.o;simp_all,HR.o.good HOK.o,HR.o.fars HF.o,HB4.o.2.below HBI.o⟩
        | exact⟨v+1,q,om,by go_num,rfl,om,by have:=HN.o;simp_all,HR.o.good HOK.o,HR.o.fars HF.o,HB4.o.2.below HBI.o⟩
       case measure=>simp[intOf];omega
  .have hkn:k=s.n2:=om;subst hkn;have HFIN:Hid (dw H.st H.bx↔q<=1):=by
    show _↔_;rw[ze (by have:=HL.o;omega)] at hq;exact⟨fun h=>by have:=h.2.2;omega,fun h=>⟨fun j hj=>hA j hj (by have:=HL.o;omega),fun i j hi hj hij=>hD i j hi hj hij (by have:=HL.o;omega),om⟩⟩
   clear hq hA hD hS;obtain⟨b,hb⟩ : ∃ b,decide ((q:Int)<=1)=b:=⟨_,rfl⟩
   have HD:Hid (b=true↔q<=1):=by show _↔_;rw[<- hb];simp;omega
   go_wp2;go_ret;exact⟨⟨b,rfl,HD.o.trans HFIN.o.symm⟩,HS.o.b⟩
open Go.IntKind renaming i64->J,u32->zn
structure dP (H:Ho):Prop where
 cf:kU H.c0 H.c1 H.c2 H.c3=true
 fs:gV H.fs=true
 nb:(H.bx.length:Int)=H.c0
 nf:(H.ff.length:Int)<=H.c1
 nq:(H.qu.length:Int)<=H.c3
 l0:0<=H.lo
 l1:H.lo<=100000
 s0:0<=H.st
 s1:H.st<=1000000
 ff:H.ff.all dZ=true
 qu:H.qu.all ga=true
 bx:dw H.st H.bx
def vu {e:Bool} {i:Nat} {r:Bool} {d:Int} {n:Nat} (h:zFr e i r d n):vB e i r d n=true:=by
 obtain⟨rfl,rfl,rfl,rfl,rfl⟩:=h;decide
def Jp (w:World) (H:Ho) (s:Sl) (h:aK w H s) (hn:H.le 1048576) :
  Calls Tp 101 #[hoV H s] w fun o w'=>cK o (dP H)/\Bl w w':=by
 have H0:Hid (obS w H s (w.alloc (.cells (hoL H s).toArray 41))):=⟨blk.new w _ 41,qw⟩
 have HH:Hid (aK w H s):=h;have HLB:Hid (s.n2=H.bx.length/\s.n3=H.ff.length/\s.n4=H.qu.length/\s.n3<=s.k3/\s.n4<=s.k4):=⟨h.bx.len,h.ff.len,h.qu.len,h.ff.cap,h.qu.cap⟩
 have HFS:Hid (∀ W,Bl w W->Calls Tp 169 #[sL s.a1 s.n1 s.k1] W fun o w'=>o = rT (bO (gV H.fs))/\Bl W w'):=fun W hW=>km W _ _ _ _ (h.fs.below hW) (by rw[h.fs.len];exact hn.fs);have HBX:Hid (s.n2<=8->∀ W,Bl w W->Calls Tp 170 #[hoV H s] W fun o w'=>cK o (dw H.st H.bx)/\Bl W w'):=fun h8 W hW=>mg W H s (h.bx.below hW) h8;have q0:=H0.o.p.cell 0 _ rfl;have q1:=H0.o.p.cell 1 _ rfl;have q2:=H0.o.p.cell 2 _ rfl;have q3:=H0.o.p.cell 3 _ rfl;clear h hn;rw[gR];go_enter Tryz.func101,Tryz.ntmps101;go_wp2_with fail;refine (ll _ H.c0 H.c1 H.c2 H.c3).mono ?_;rintro o w1 ⟨rfl,hb1⟩;have O1:Hid (obS w H s w1):=H0.o.below hb1;have hc:=Bool.eq_false_or_eq_true (kU H.c0 H.c1 H.c2 H.c3);have HCT:Hid (∀ b,kU H.c0 H.c1 H.c2 H.c3=b->dP H->b=true):=fun b e h=>by rw[<- e];exact h.cf
 generalize hb:kU H.c0 H.c1 H.c2 H.c3=b at *;have HCE:Hid (kU H.c0 H.c1 H.c2 H.c3=b):=hb;clear q0 q1 q2 q3 hb1 H0 hb hc;cases b
 .have HB:Hid (¬ dP H):=fun h=>by have:=HCT.o _ rfl h;cases this
  go_wp2_with fail;go_ret;exact⟨⟨false,rfl,by simpa using HB.o⟩,O1.o.b⟩
 have q4:=O1.o.p.cell 4 _ rfl;go_wp2_with fail;refine (HFS.o _ O1.o.b).mono ?_;rintro o w2 ⟨rfl,hb2⟩;have O2:Hid (obS w H s w2):=O1.o.below hb2;generalize hb:gV H.fs=b at *;have HFE:Hid (gV H.fs=b):=hb;clear q4 hb2 O1 hb;cases b
 .have HB:Hid (¬ dP H):=fun h=>by have:=h.fs;rw[HFE.o] at this;cases this
  go_wp2_with fail;go_ret;exact⟨⟨false,rfl,by simpa using HB.o⟩,O2.o.b⟩
 have HNB:Hid (¬ ((s.n2:Int)=H.c0/\(s.n3:Int)<=H.c1/\(s.n4:Int)<=H.c3/\0<=H.lo/\H.lo<=100000/\0<=H.st/\H.st<=1000000)->¬ dP H):=fun h hh=>h (by have:=HLB.o;have:=hh.nb;have:=hh.nf;have:=hh.nq;have:=hh.l0;have:=hh.l1;have:=hh.s0;have:=hh.s1;omega);have q0:=O2.o.p.cell 0 _ rfl;have q1:=O2.o.p.cell 1 _ rfl;have q3:=O2.o.p.cell 3 _ rfl;have q5:=O2.o.p.cell 5 _ rfl;have q6:=O2.o.p.cell 6 _ rfl;have q7:=O2.o.p.cell 7 _ rfl;have q8:=O2.o.p.cell 8 _ rfl;have q9:=O2.o.p.cell 9 _ rfl;go_wp2_with fail
 all_goals try
  go_ret;exact⟨⟨false,rfl,by simpa using HNB.o (fun hh=>by first | omega | (have h9:=hh.1;simp_all))⟩,O2.o.b⟩
 have hb:(s.n2:Int)=H.c0:=by simp_all
 have HCB:1<=H.c0/\H.c0<=8/\1<=H.c1/\H.c1<=16/\0<=H.c2/\H.c2<=1/\1<=H.c3/\H.c3<=32:=qP HCE.o;have HNUM:Hid (((H.bx.length:Int)=H.c0/\s.n2<=8)/\(H.ff.length:Int)<=H.c1/\(H.qu.length:Int)<=H.c3/\0<=H.lo/\H.lo<=100000/\0<=H.st/\H.st<=1000000):=by have:=HLB.o;exact⟨om,om,om,om,om,om,om⟩
 have hn3:s.n3<=16:=om;have hn4:s.n4<=32:=om;clear q0 q1 q3 q5 q6 q7 q8 q9 hb HCB HNB;go_loopw [3] (fun i wr=>∃ k:Nat,k<=s.n3/\i = I J (k:Int)/\(∀ j (hj:j<H.ff.length),j<k->dZ H.ff[j]=true)/\obS w H s wr) (fun i _=>s.n3-(intOf i).toNat);case atStart=>exact⟨0,nZ _,rfl,fun j hj h=>Qz h (nN _),O2.o⟩
 case round=>
  obtain⟨k,hk,rfl,hA,hS⟩:=hrel;have HA:Hid (∀ j (hj:j<H.ff.length),j<k->dZ H.ff[j]=true):=hA;have HS:Hid (obS w H s wr):=hS;have x6:=hS.p.cell 6 _ rfl;clear hA hS;by_cases hlt:k<s.n3
  .have hkl:k<H.ff.length:=by have:=HLB.o;omega
   obtain⟨g3,o3,ha,hc⟩:=(HH.o.below HS.o.b).ff.cells (fun e=>by rw[e] at hkl;cases hkl);have hcp:=HLB.o.2.2.2.1;obtain⟨ao,m,c,hx⟩:=hc k hkl;rw[ha] at x6;have HAS:Hid (dZ H.ff[k]=true->∀ j (hj:j<H.ff.length),j<k+1->dZ H.ff[j]=true):=fun h=>iF hkl HA.o h;have HNO:Hid (dZ H.ff[k]=false->¬ dP H):=fun h hh=>by have:=hh.ff;rw[kA hkl h] at this;cases this
   generalize H.ff[k]=bk at *;obtain⟨e,i,r,d,l⟩:=bk;obtain⟨r0,r1,r2,r3,r4,hD⟩:=hx;have hM:=hD.len;dsimp only at r0 r1 r2 r3 r4 hM;have HOK:dZ ⟨e,i,r,d,l⟩=vB e i r d m:=by unfold dZ;rw[hM]
   rw[HOK] at HAS HNO;clear hc hD hM HOK ha;go_wp2_with fail;refine (ch wr e i r d ao m c).mono ?_;rintro o w4 ⟨rfl,hb4⟩;have HB4:Hid (Bl wr w4):=hb4;clear hb4 r0 r1 r2 r3 r4;obtain⟨b,hb⟩ : ∃ b,vB e i r d m=b:=⟨_,rfl⟩
   rw[hb] at HAS HNO;rw[hb];clear hb;cases b
   .go_wp2_with fail;go_ret;exact⟨⟨false,rfl,by simpa using HNO.o (by trivial)⟩,(HS.o.below HB4.o).b⟩
   .go_wp2_with fail;go_roundw;case rel=>exact⟨k+1,om,by go_num,HAS.o (by trivial),HS.o.below HB4.o⟩
    case measure=>simp[intOf];omega
  .have HFF:Hid (H.ff.all dZ=true):=jx (by have:=HLB.o;omega) HA.o;clear HA;go_wp2_with fail;clear x6;have O3:Hid (obS w H s wr):=HS.o;clear HS;go_loopw [4] (fun i wr=>∃ k:Nat,k<=s.n4/\i = I J (k:Int)/\(∀ j (hj:j<H.qu.length),j<k->ga H.qu[j]=true)/\obS w H s wr) (fun i _=>s.n4-(intOf i).toNat);case atStart=>exact⟨0,nZ _,rfl,fun j hj h=>Qz h (nN _),O3.o⟩
   case round=>
    clear hk hlt;obtain⟨k,hk,rfl,hA,hS⟩:=hrel;have HA:Hid (∀ j (hj:j<H.qu.length),j<k->ga H.qu[j]=true):=hA;have HS:Hid (obS w H s wr):=hS;have x7:=hS.p.cell 7 _ rfl;clear hA hS;by_cases hlt:k<s.n4
    .have hkl:k<H.qu.length:=by have:=HLB.o;omega
     obtain⟨g4,o4,ha,hc⟩:=(HH.o.below HS.o.b).qu.cells (fun e=>by rw[e] at hkl;cases hkl);have hcp:=HLB.o.2.2.2.2;obtain⟨ao,m,c,hx⟩:=hc k hkl;rw[ha] at x7;have HAS:Hid (ga H.qu[k]=true->∀ j (hj:j<H.qu.length),j<k+1->ga H.qu[j]=true):=fun h=>iF hkl HA.o h;have HNO:Hid (¬ ga H.qu[k]=true->¬ dP H):=fun h hh=>by have:=hh.qu;rw[kA hkl (by simpa using h)] at this;cases this
     have HRG0:=hx.range;generalize H.qu[k]=bk at *;obtain⟨x,y,z,e,i,r,d,l⟩:=bk;have hM:=hx.dat.len;dsimp only at HRG0 hM;have HRG:Hid (wr.rangeAt g4 (o4+k*8) [I J x,I J y,I J z,bO e,I zn (i:Int),bO r,I J d,sL ao m c]):=HRG0;have HW3:Hid (blk (wr.alloc (.cells #[I J x,I J y,I J z,bO e,I zn (i:Int),bO r,I J d,sL ao m c] 240)) wr.heap.size [I J x,I J y,I J z,bO e,I zn (i:Int),bO r,I J d,sL ao m c] 240/\obS w H s (wr.alloc (.cells #[I J x,I J y,I J z,bO e,I zn (i:Int),bO r,I J d,sL ao m c] 240))):=⟨blk.new wr _ 240,HS.o.below qw⟩
     have HEV:Hid (vB e i r d m=true->1<=x/\x<=12/\0<=y/\y<=9999/\0<=z/\z<=9->ga ⟨x,y,z,e,i,r,d,l⟩=true):=fun h h2=>by simp only[ga,<- hM,h];simp;omega
     have HEN:Hid (ga ⟨x,y,z,e,i,r,d,l⟩=true->vB e i r d m=true/\1<=x/\x<=12/\0<=y/\y<=9999/\0<=z/\z<=9):=fun h=>by simp only[ga,<- hM] at h;simp at h;exact⟨by simp_all,om,om,om,om,om,om⟩
     clear hx hM HRG0 hc ha;go_wp2_with (refine qG 240 HRG.o Tryz.underlying240 fw ?_)
     all_goals try
      go_ret;exact⟨⟨false,rfl,by simpa using HNO.o (fun h=>by have:=HEN.o h;omega)⟩,HW3.o.2.b⟩
     have HX:Hid (1<=x/\x<=12/\0<=y/\y<=9999/\0<=z/\z<=9):=⟨om,om,om,om,om,om⟩
     refine (gQ _ e i r d ao m c).mono ?_;rintro o w4 ⟨⟨bb,rfl,h1⟩,hb4⟩;have HB4:Hid (blk w4 wr.heap.size [I J x,I J y,I J z,bO e,I zn (i:Int),bO r,I J d,sL ao m c] 240/\obS w H s w4):=⟨HW3.o.1.below hb4,HW3.o.2.below hb4⟩
     have HZV:Hid (bb=true->vB e i r d m=true):=fun h=>vu (h1.1 h);clear h1 hb4;cases bb
     .go_wp2_with (first
       | (refine qG 47 (HB4.o.1.loadAt [I J x,I J y,I J z] [bO e,I zn (i:Int),bO r,I J d,sL ao m c] []) Tryz.underlying47 jc ?_)
       | (refine di (by rfl) 47 _ rfl wr.heap.size 3 rfl _ _ (HB4.o.1.loadAt [I J x,I J y,I J z] [bO e,I zn (i:Int),bO r,I J d,sL ao m c] []) Tryz.underlying47 rfl jc ?_))
      refine (ch _ e i r d ao m c).mono ?_;rintro o w5 ⟨rfl,hb5⟩;have HB5:Hid (obS w H s w5):=HB4.o.2.below hb5;obtain⟨b,hb⟩ : ∃ b,vB e i r d m=b:=⟨_,rfl⟩
      rw[hb] at HEV HEN;rw[hb];clear hb hb5;cases b
      .go_wp2_with fail;go_ret;exact⟨⟨false,rfl,by simpa using HNO.o (fun h=>by have:=(HEN.o h).1;simp at this)⟩,HB5.o.b⟩
      .go_wp2_with fail;go_roundw;case rel=>exact⟨k+1,om,by go_num,HAS.o (HEV.o (by trivial) HX.o),HB5.o⟩
       case measure=>simp[intOf];omega
     .go_wp2_with fail;go_roundw;case rel=>exact⟨k+1,om,by go_num,HAS.o (HEV.o (HZV.o (by trivial)) HX.o),HB4.o.2⟩
      case measure=>simp[intOf];omega
    .have HQU:Hid (H.qu.all ga=true):=jx (by have:=HLB.o;omega) HA.o
     clear HA;go_wp2_with (refine qG 41 HS.o.p.load Tryz.underlying41 (px _ _) ?_)
     rw[<- gR];refine (HBX.o HNUM.o.1.2 _ HS.o.b).mono ?_;rintro o w5 ⟨⟨bb,rfl,hbb⟩,hb5⟩;have HFIN:Hid (bb=true↔dP H):=hbb.trans ⟨fun hx=>⟨HCE.o,HFE.o,HNUM.o.1.1,HNUM.o.2.1,HNUM.o.2.2.1,HNUM.o.2.2.2.1,HNUM.o.2.2.2.2.1,HNUM.o.2.2.2.2.2.1,HNUM.o.2.2.2.2.2.2,HFF.o,HQU.o,hx⟩,fun hx=>hx.bx⟩;have HB5:Hid (Bl w w5):=(HS.o.below hb5).b;clear hbb hb5;go_wp2_with fail;go_ret;exact⟨⟨bb,rfl,HFIN.o⟩,HB5.o⟩
def ir (W:World) (M:Nat) (p1 tx:Bool) (p:Int) (e1:(p == 1)=p1) (y3:W.cell? ⟨M,3,none⟩=some (I J p)) (y9:W.cell? ⟨M,9,none⟩=some (bO tx)) :
  Calls Tp 65 #[pT (some ⟨M,0,none⟩)] W fun o w'=>o = rT (bO (p1 && tx))/\w'=W:=by
 cases p1
 .go_enter Tryz.func65,Tryz.ntmps65;go_wp2_with fail;go_ret;exact⟨rfl,rfl⟩
 .go_enter Tryz.func65,Tryz.ntmps65;go_wp2_with fail;go_ret;exact⟨rfl,rfl⟩
end Go.Proofs.YtnfmjckkibdcaaaGreatDoor
