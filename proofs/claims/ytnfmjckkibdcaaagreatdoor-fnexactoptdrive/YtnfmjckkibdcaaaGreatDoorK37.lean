import Derived.Test.YtnfmjckkibdcaaaGreatDoorK23
import Derived.Test.YtnfmjckkibdcaaaGreatDoorK16
import Derived.Test.YtnfmjckkibdcaaaGreatDoorK32
namespace Go.Proofs.YtnfmjckkibdcaaaGreatDoor
open Option renaming none->nn,some->sQ
open Go renaming World->Wd
set_option maxRecDepth 20000
open Go.RowKit
set_option linter.all false
set_option maxHeartbeats 16000000
open Go.Value renaming int->I,slice->sL,bool->bO,pointer->pT,agg->aG
open Go.IntKind renaming i64->J,u32->zn
open Go.Ending renaming returned->rT
open Go.Proofs.Tryz renaming prog->Tp
def Hf (w:Wd) (a:Option Addr) (n cap:Nat) (l:List Nat) (h:iB w a n cap l) (hn:n<=1048576) :
  Calls Tp 160 #[sL a n cap] w fun e w'=>∃ g,e = rT (sL (sQ ⟨g,0,nn⟩) n n)/\iB w' (sQ ⟨g,0,nn⟩) n n l/\Bl w w'/\w.heap.size<=g/\g<w'.heap.size/\∃ f,cm w' g n f:=by
 have hlen:=h.len;have hcp:=h.cap;by_cases hl:l=[]
 .subst hl;have hn0:n=0:=hlen;subst hn0;have HS:Hid (∀ x ∈ ([]:List Nat),x<256):=h.small;clear hlen h;go_enter Tryz.func160,Tryz.ntmps160;go_wp2_with (at_make;refine kY _ rfl (.tmp 6) (.tmp 6) rfl _ 0 rfl rfl rfl om ?_;intro w1 hrow hg1 hz1);go_loopw [4] (fun i wr=>i = I J 0/\Bl w wr/\w.heap.size<wr.heap.size) (fun _ _=>0);case atStart=>exact⟨rfl,(bW _ _).grown hg1 (nR _) (by intro k e;cases e),hz1⟩
  case round=>
   obtain⟨rfl,hb,hz⟩:=hrel;go_wp2;go_ret;exact⟨_,rfl,⟨rfl,nR _,HS.o,fun e=>Qz rfl e⟩,hb,nR _,hz,(fun _=>0),⟨fun t ht=>Qz ht (nN _),fun t ht=>Qz ht (nN _)⟩⟩
 .obtain⟨g,off,rfl,hc⟩:=h.cells hl;have hgz:g<w.heap.size:=QD w _ (hc 0 (by have:=List.length_pos_iff.2 hl;omega));have hsm:=h.small;have HL:Hid (n=l.length):=hlen;have hn1:n<=l.length:=om;have hn2:l.length<=n:=om;clear h hlen;go_enter Tryz.func160,Tryz.ntmps160;go_wp2_with (at_make;refine kY _ rfl (.tmp 6) (.tmp 6) rfl _ n rfl rfl rfl om ?_;intro w1 hrow hg1 hz1);go_loopw [4] (fun i wr=>∃ k:Nat,k<=n/\i = I J k/\cm wr w.heap.size n (fun t=>if t<k then l.getD t 0 else 0)/\Bl w wr/\w.heap.size<wr.heap.size) (fun i _=>n-(intOf i).toNat);case atStart=>exact⟨0,nZ _,rfl,hrow.of (fun t _=>by simp),(bW _ _).grown hg1 (nR _) (by intro k e;cases e),hz1⟩
  case round=>
   clear hrow hz1;obtain⟨k,hk,rfl,hrow,hb,hz⟩:=hrel;by_cases hlt:k<n
   .have hcx:wr.cell? ⟨g,off+k,nn⟩=sQ (I .u8 (l[k]:Int)):=(hb.cell (by exact hgz)).trans (hc k om);have hcy:=hrow.cell k hlt;have hfy:=hrow.free k hlt;have HG:Hid (l.getD k 0=l[k]):=eB l k om;generalize l[k]=x at *;have hne:¬ w.heap.size=g:=om;go_wp2;go_roundw;case rel=>
     refine⟨k+1,om,by go_num,hrow.set' k hlt _ ?_ ?_,hb.setCell (by exact nR _) _,by simpa using hz⟩
     .rw[zc (Nat.lt_succ_self k),HG.o]
     .intro t _ hne';by_cases h1:t<k
      .rw[zc h1,zc om]
      .rw[zb h1,zb om]
    case measure=>simp[intOf];omega
   .go_wp2;go_ret;refine⟨_,rfl,⟨HL.o,nR _,hsm,fun _=>⟨_,0,rfl,fun j hj=>?_⟩⟩,hb,nR _,hz,_,hrow⟩;have:=hrow.cell j om;rw[zf,this,zc om,eB l j hj]
def He (w:Wd) (e:Bool) (i:Nat) (r:Bool) (d:Int) (a:Option Addr) (n cap:Nat) (l:List Nat) (h:iB w a n cap l) (hn:n<=1048576) :
  Calls Tp 92 #[frV e i r d a n cap] w fun o w'=>∃ g,o = rT (frV e i r d (sQ ⟨g,0,nn⟩) n n)/\iB w' (sQ ⟨g,0,nn⟩) n n l/\Bl w w'/\w.heap.size+3<=g/\g<w'.heap.size/\∃ f,cm w' g n f:=by
 have HH:Hid (iB w a n cap l):=h;clear h;go_enter Tryz.func92,Tryz.ntmps92;go_wp2_with (go_at_call 160;refine (Hf _ a n cap l (HH.o.below ?_) hn).mono ?_)
 .exact (qw.alloc pQ _).alloc (by simp;omega) _
 .rintro o w1 ⟨g,rfl,hby,hb,hg,hgz,f,hrow⟩;have HGZ:Hid (g<w1.heap.size):=hgz;clear hgz;obtain⟨hc,hf⟩:=vl hb;have hB:Bl w w1:=((qw.alloc pQ _).alloc (by simp;omega) _).trans (hb.mono (by simp;omega));have HG:Hid (w.heap.size+1+1+1<=g):=by unfold Hid;simpa using hg
  have HY:Hid (iB w1 (sQ ⟨g,0,nn⟩) n n l/\cm w1 g n f):=⟨hby,hrow⟩
  clear hb hg hby hrow;go_wp2;refine QF (v:=frV e i r d (sQ ⟨g,0,nn⟩) n n) (by simp[results,Tryz.results92,go_sem,hc]) rfl ?_;have hg':=HG.o;refine⟨g,rfl,HY.o.1.other ?_,?_,om,by simpa using HGZ.o,f,HY.o.2.up ?_⟩
  .repeat rw[QB _ _ g _ (by show g≠_;simp;omega)]
  .repeat refine Below.setCell ?_ (by simp;try omega) _
   exact hB
  .repeat rw[QB _ _ g _ (by show g≠_;simp;omega)]
def Hz (w:Wd) (S:Sc) (a:Option Addr) (n cap:Nat) (h:iB w a n cap S.l) (hn:n<=1048576) :
  Calls Tp 47 #[scV S a n cap] w fun o w'=>∃ g,o = rT (scV S (sQ ⟨g,0,nn⟩) n n)/\iB w' (sQ ⟨g,0,nn⟩) n n S.l/\Bl w w'/\w.heap.size<=g/\g<w'.heap.size/\∃ f,cm w' g n f:=by
 have HH:Hid (iB w a n cap S.l):=h;clear h;obtain⟨f,lf,rn,lv,cr,ac,e,i,r,d,l⟩:=S;go_enter Tryz.func47,Tryz.ntmps47;go_wp2_with fail;refine (He _ e i r d a n cap l (HH.o.below ((qw.alloc pQ _).alloc (by simp;omega) _)) hn).mono ?_;rintro o w1 ⟨g,rfl,hby,hb,hg,hgz,fr,hrow⟩;have HB:Hid (Bl w w1):=((qw.alloc pQ _).alloc (by simp;omega) _).trans (hb.mono (by simp;omega));have HP:Hid (blk w1 (w.heap.size+1+1) ([I J f,I J lf,I J rn,I J lv,I J cr,I J ac]++[bO false,I zn 0,bO false,I J 0,sL nn 0 0]++[]) 49):=by
  have:=(blk.new ((w.alloc (.cells #[I J f,I J lf,I J rn,I J lv,I J cr,I J ac,bO e,I zn (i:Int),bO r,I J d,sL a n cap] 66)).alloc (.cells z11.toArray 49)) [I J f,I J lf,I J rn,I J lv,I J cr,I J ac,bO false,I zn 0,bO false,I J 0,sL nn 0 0] 49).below hb;simpa[Hid] using this
 have HR:Hid (blk w1 (w.heap.size+1) ([]++z11++[]) 49):=by
  have:=((blk.new (w.alloc (.cells #[I J f,I J lf,I J rn,I J lv,I J cr,I J ac,bO e,I zn (i:Int),bO r,I J d,sL a n cap] 66)) z11 49).alloc (.cells #[I J f,I J lf,I J rn,I J lv,I J cr,I J ac,bO false,I zn 0,bO false,I J 0,sL nn 0 0] 49)).below hb;simpa[Hid] using this
 have HG:Hid (w.heap.size+3<=g/\g<w1.heap.size/\iB w1 (sQ ⟨g,0,nn⟩) n n l/\cm w1 g n fr):=by
  simp at hg;exact⟨om,hgz,hby,hrow⟩
 clear hb hg hgz hby hrow;go_wp2_with (first
  | (refine QE (P:=Tp) rfl 47 (.tmp 25) (.tmp 24) rfl (w.heap.size+1+1) 6 #[bO e,I zn (i:Int),bO r,I J d,sL (sQ ⟨g,0,nn⟩) n n] rfl rfl (HP.o.there 6 5 pQ) gp (pP _ _ _ _ _ _ _) ?_;generalize hW2:World.setCells w1 (w.heap.size+1+1) 6 _=w2;have HW2:Hid (World.setCells w1 (w.heap.size+1+1) 6 [bO e,I zn (i:Int),bO r,I J d,sL (sQ ⟨g,0,nn⟩) n n]=w2):=hW2;have HP2:Hid (blk w2 (w.heap.size+1+1) (scL ⟨f,lf,rn,lv,cr,ac,e,i,r,d,l⟩ (sQ ⟨g,0,nn⟩) n n) 49):=(hW2 ▸ blk.put [I J f,I J lf,I J rn,I J lv,I J cr,I J ac] _ [] _ HP.o rfl);have HR2:Hid (blk w2 (w.heap.size+1) ([]++z11++[]) 49):=(hW2 ▸ HR.o.other om _ _);clear hW2)
  | (refine qG 49 HP2.o.load Tryz.underlying49 dV ?_)
  | (refine QE (P:=Tp) rfl 49 (.tmp 2) (.tmp 26) rfl (w.heap.size+1) 0 _ rfl rfl (HR2.o.there 0 11 pQ) dV (pR _ _ _ _ _ _ _ _ _ _ _ _ _) ?_;generalize hW3:World.setCells w2 (w.heap.size+1) 0 _=w3;have HW3:Hid (World.setCells w2 (w.heap.size+1) 0 (scL ⟨f,lf,rn,lv,cr,ac,e,i,r,d,l⟩ (sQ ⟨g,0,nn⟩) n n)=w3):=hW3;clear hW3))
 have e2:=HW2.o;have e3:=HW3.o;have hF:blk w3 (w.heap.size+1) (scL ⟨f,lf,rn,lv,cr,ac,e,i,r,d,l⟩ (sQ ⟨g,0,nn⟩) n n) 49:=e3 ▸ blk.put [] z11 [] _ HR2.o rfl;have hL:=QJ (P:=Tp) w3 (w.heap.size+1) 0 49 _ _ hF.load Tryz.underlying49 rfl dV;refine bC Tryz.results47 hL ?_;obtain⟨g1,g2,g3,g4⟩:=HG.o;subst e2;subst e3;have eq:(World.setCells (World.setCells w1 (w.heap.size+1+1) 6 [bO e,I zn (i:Int),bO r,I J d,sL (sQ ⟨g,0,nn⟩) n n]) (w.heap.size+1) 0 (scL ⟨f,lf,rn,lv,cr,ac,e,i,r,d,l⟩ (sQ ⟨g,0,nn⟩) n n)).heap[g]?=w1.heap[g]?:=by
  rw[sO _ _ om,sO _ _ om]
 exact⟨g,rfl,g3.other eq,sW om _ _ (sW om _ _ HB.o),om,by rw[sZ,sZ];exact g2,fr,g4.up eq⟩
def Ic (w:Wd) (S:Sc) (a:Option Addr) (n cap:Nat) (m:Nat) (hn:n<=9223372036854775807) (hm:m<=1048576) :
  Calls Tp 38 #[scV S a n cap,I J m] w fun o w'=>o = rT (I J (if (n:Int)<=(m:Int) then (m:Int)-(n:Int) else -1))/\Bl w w':=by
 obtain⟨f,lf,rn,lv,cr,ac,e,i,r,d,l⟩:=S;by_cases h:(n:Int)<=(m:Int)
 .have HC:Hid (∀ W,Calls Tp 77 #[frV e i r d a n cap,I J m] W fun o w'=>o = rT (I J ((m:Int)-(n:Int)))/\W.alloc (frC e i r d a n cap 64)=w'):=by
   intro W;have:=dF W e i r d a n cap m hn hm;rw[zc h] at this;exact this
  rw[zc h];go_enter Tryz.func38,Tryz.ntmps38;go_wp2_with (go_at_call 77;refine (HC.o _).mono ?_;rintro o w1 ⟨rfl,rfl⟩);go_ret;exact⟨rfl,qw.alloc pQ _⟩
 .have HC:Hid (∀ W,Calls Tp 77 #[frV e i r d a n cap,I J m] W fun o w'=>o = rT (I J (-1))/\W.alloc (frC e i r d a n cap 64)=w'):=by
   intro W;have:=dF W e i r d a n cap m hn hm;rw[zb h] at this;exact this
  rw[zb h];go_enter Tryz.func38,Tryz.ntmps38;go_wp2_with (go_at_call 77;refine (HC.o _).mono ?_;rintro o w1 ⟨rfl,rfl⟩);go_ret;exact⟨rfl,qw.alloc pQ _⟩
def Gz (w:Wd) (v:Int):Calls Tp 224 #[I J v] w fun o w'=>cK o (0<=v/\v<=32767)/\w'=w:=by
 go_enter Tryz.func224,Tryz.ntmps224;go_wp2;all_goals (go_ret;refine⟨⟨_,rfl,?_⟩,rfl⟩;simp;try omega)
def Jq (w:Wd) (v:Int):Calls Tp 184 #[I J v] w fun o w'=>cK o (v=0\/v=1)/\w'=w:=by
 go_enter Tryz.func184,Tryz.ntmps184;go_wp2;all_goals (go_ret;refine⟨⟨_,rfl,?_⟩,rfl⟩;simp_all)
def Gm (S:Sc):Prop:=if S.f=1\/11<S.f then S.rn=0/\S.lv=0 else 1<=S.rn/\S.rn<=5/\(S.lv=0\/S.lv=1)
def GO (w:Wd) (S:Sc) (a:Option Addr) (n cap:Nat) :
  Calls Tp 225 #[scV S a n cap] w fun o w'=>cK o (Gm S)/\Bl w w':=by
 have HL:Hid (∀ (W:Wd) (v:Int),Calls Tp 184 #[I J v] W fun o w'=>cK o (v=0\/v=1)/\w'=W):=fun W v=>Jq W v;obtain⟨f,lf,rn,lv,cr,ac,e,i,r,d,l⟩:=S;have HK:Hid (∀ b:Bool,(b=true↔(if f=1\/11<f then rn=0/\lv=0 else 1<=rn/\rn<=5/\(lv=0\/lv=1)))->(b=true↔Gm ⟨f,lf,rn,lv,cr,ac,e,i,r,d,l⟩)):=fun b h=>h;generalize Gm ⟨f,lf,rn,lv,cr,ac,e,i,r,d,l⟩=P at *;go_enter Tryz.func225,Tryz.ntmps225;go_wp2_with (go_at_call 184;refine (HL.o _ lv).mono ?_;rintro o w1 ⟨⟨bb,rfl,hbb⟩,rfl⟩;have HBB:Hid _:=hbb;clear hbb;cases bb);all_goals
  go_ret;refine⟨⟨_,rfl,HK.o _ ?_⟩,qw⟩;clear HK HL;by_cases q:f=1\/11<f
  .rw[zc q];first | (simp;done) | (simp;omega) | (simp_all;done) | (simp_all;omega)
  .rw[zb q];first | (simp;done) | (simp;omega) | (have hbb:=HBB.o;clear HBB;simp at hbb;simp;omega) | (simp_all;done) | (simp_all;omega)
def JW (f:Int) (e r:Bool) (d:Int) (h0:0<=d) (h1:d<=15):0<=rsz f e r d/\rsz f e r d<=64:=by
 unfold rsz;have:=Js r d h0 h1;split
 .omega
 .exact fX f e d h0 h1
def xr (S:Sc):Prop:=1<=S.lf/\S.lf<=rsz S.f S.e S.r S.d/\(S.f=9->(S.l.length:Int)=(rsz S.f S.e S.r S.d-S.lf+7) / 8)
def GC (w:Wd) (hg:w.rangeAt 0 0 bV) (hz:0<w.heap.size) (S:Sc) (hf:1<=S.f) (hf1:S.f<=14) (hd:0<=S.d) (hd1:S.d<=15) (a:Option Addr) (n cap:Nat) (hn:n=S.l.length) (hn8:n<=8) :
  Calls Tp 226 #[scV S a n cap] w fun o w'=>cK o (xr S)/\Bl w w':=by
 obtain⟨f,lf,rn,lv,cr,ac,e,i,r,d,l⟩:=S;simp only[] at hf hf1 hd hd1 hn;have HRO:Hid (∀ W,Bl w W->Calls Tp 254 #[I J f,frV e i r d a n cap] W fun o w'=>o = rT (aG #[I J f,I J (rsz f e r d),I J (ai f e r d)])/\Bl W w'):=fun W hW=>iv W (fun j v hv=>(hW.cell (p:=⟨0,0+j,nn⟩) hz).trans (hg j v hv)) (nL hz hW.size) f hf hf1 e i r d hd hd1 a n cap;have hs:=JW f e r d hd hd1;have HK:Hid (xr ⟨f,lf,rn,lv,cr,ac,e,i,r,d,l⟩↔(1<=lf/\lf<=rsz f e r d/\(f=9->(n:Int)=(rsz f e r d-lf+7) / 8))):=by
  unfold xr;simp only[];rw[hn];exact Iff.rfl
 clear hg hn hz;generalize xr ⟨f,lf,rn,lv,cr,ac,e,i,r,d,l⟩=P at *;generalize rsz f e r d=z at *;generalize ai f e r d=af at *;go_enter Tryz.func226,Tryz.ntmps226;go_wp2_with fail;refine (HRO.o _ qw).mono ?_;rintro o w1 ⟨rfl,hb1⟩;have P1:blk w1 w.heap.size (scL ⟨f,lf,rn,lv,cr,ac,e,i,r,d,l⟩ a n cap) 49:=(blk.new w _ 49).below hb1;have HB1:Hid (Bl w w1):=qw.trans (hb1.mono pQ);have y0:=P1.cell 0 _ rfl;have y1:=P1.cell 1 _ rfl;have y10:=P1.cell 10 _ rfl;clear P1 hb1 HRO;have hfld:∀ W:Wd,(Instr.field 299 (aG #[I J f,I J z,I J af]) 1).run Tp W = .ok (I J z) W:=fun W=>by kernel_rfl
 by_cases c1:lf<1
 .go_wp2_with fail;go_ret;refine⟨⟨_,rfl,?_⟩,HB1.o⟩;rw[HK.o];clear HK;simp;omega
 .by_cases c2:z<lf
  .go_wp2_with fail;go_ret;refine⟨⟨_,rfl,?_⟩,HB1.o⟩;rw[HK.o];clear HK;simp;omega
  .have hq:(z-lf+8-1).tdiv 8=(z-lf+7) / 8:=by
    rw[Qk om];omega
   have hQ0:0<=(z-lf+7) / 8:=om;have hQ8:(z-lf+7) / 8<=100:=om;generalize hQ:(z-lf+7) / 8=Q at *;have HQ:Hid ((z-lf+7) / 8=Q):=hQ;clear hQ;by_cases c9:f=9
   .have q9:(f != 9)=false:=by simpa using c9
    have H9:Hid (f=9):=c9;clear c9;go_wp2_with fail;go_ret;refine⟨⟨_,rfl,?_⟩,HB1.o⟩;rw[HK.o];have h9:=H9.o;clear HK;simp;omega
   .have q9:(f != 9)=true:=by simpa using c9
    have H9:Hid (¬ f=9):=c9;clear c9;go_wp2_with fail;go_ret;refine⟨⟨_,rfl,?_⟩,HB1.o⟩;rw[HK.o];have h9:=H9.o;clear HK;simp;omega
def JE (S:Sc):okS S↔((1<=S.f/\S.f<=14)/\(S.i<536870912/\0<=S.d/\S.d<=15/\S.l.length<=8)/\(0<=S.cr/\S.cr<=32767)/\(0<=S.ac/\S.ac<=32767)/\Gm S/\xr S):=by
 obtain⟨f,lf,rn,lv,cr,ac,e,i,r,d,l⟩:=S;have hz9:∀ h:f=9,bh f e d=if d > 8 then 64 else 8*d:=fun h=>by unfold bh;rw[h];rfl
 have hr9:∀ h:f=9,rsz f e r d=8*dS r d:=fun h=>zc h;have hrn:∀ h:¬ f=9,rsz f e r d=bh f e d:=fun h=>zb h;unfold okS Gm xr;simp only[];generalize bh f e d=z at *;generalize rsz f e r d=y at *;by_cases h9:f=9
 .have e1:=hz9 h9;have e2:=hr9 h9;have q:¬ (f=1\/11<f):=om;rw[zb q];unfold dS at e2;cases r
  .simp at e2;simp only[eq_self,true_and];by_cases h8:d > 8
   .rw[zc h8] at e1;omega
   .rw[zb h8] at e1;omega
  .simp at e2;simp only[Bool.true_eq_false,false_and,imp_false];omega
 .have e2:=hrn h9;by_cases q:f=1\/11<f
  .rw[zc q];omega
  .rw[zb q];omega
def GB (w:Wd) (hg:w.rangeAt 0 0 bV) (hz:0<w.heap.size) (S:Sc) (a:Option Addr) (n cap:Nat) (hn:n=S.l.length) (hn1:n<=1048576) :
  Calls Tp 165 #[scV S a n cap] w fun o w'=>cK o (okS S)/\Bl w w':=by
 have HIR:Hid (∀ (W:Wd) (v:Int),Calls Tp 224 #[I J v] W fun o w'=>cK o (0<=v/\v<=32767)/\w'=W):=fun W v=>Gz W v;have HSR:Hid (∀ W:Wd,Calls Tp 225 #[scV S a n cap] W fun o w'=>cK o (Gm S)/\Bl W w'):=fun W=>GO W S a n cap;have HSL:Hid (1<=S.f->S.f<=14->0<=S.d->S.d<=15->n<=8->∀ W:Wd,Bl w W->Calls Tp 226 #[scV S a n cap] W fun o w'=>cK o (xr S)/\Bl W w'):=fun h1 h2 h3 h4 h5 W hW=>GC W (fun j v hv=>(hW.cell (p:=⟨0,0+j,nn⟩) hz).trans (hg j v hv)) (nL hz hW.size) S h1 h2 h3 h4 a n cap hn h5;have hK0:=JE S;rw[<- hn] at hK0;have HK:Hid (okS S↔((1<=S.f/\S.f<=14)/\(S.i<536870912/\0<=S.d/\S.d<=15/\n<=8)/\(0<=S.cr/\S.cr<=32767)/\(0<=S.ac/\S.ac<=32767)/\Gm S/\xr S)):=hK0;clear hg hz hn hK0;generalize okS S=P at *;generalize Gm S=PR at *;generalize xr S=PL at *;obtain⟨f,lf,rn,lv,cr,ac,e,i,r,d,l⟩:=S;simp only[] at HK HSL;have hA:Bl w (w.alloc (.cells (scL ⟨f,lf,rn,lv,cr,ac,e,i,r,d,l⟩ a n cap).toArray 49)):=qw;have HA:Hid (Bl w (w.alloc (.cells (scL ⟨f,lf,rn,lv,cr,ac,e,i,r,d,l⟩ a n cap).toArray 49))/\blk (w.alloc (.cells (scL ⟨f,lf,rn,lv,cr,ac,e,i,r,d,l⟩ a n cap).toArray 49)) w.heap.size (scL ⟨f,lf,rn,lv,cr,ac,e,i,r,d,l⟩ a n cap) 49):=⟨hA,blk.new w _ 49⟩
 clear hA;by_cases hf:1<=f/\f<=14
 .obtain⟨hf1,hf2⟩:=hf;by_cases hK:i<536870912/\0<=d/\d<=15/\n<=8
  .obtain⟨hi,hd0,hd1,hn8⟩:=hK;have qi:decide ((i:Int)<=536870911)=true:=qE om;have HI:Hid (i<536870912):=hi;clear hi;go_enter Tryz.func165,Tryz.ntmps165;go_wp2_with fail;refine (HIR.o _ cr).mono ?_;rintro o w1 ⟨⟨b1,rfl,h1⟩,rfl⟩;have H1:Hid (b1=true↔(0<=cr/\cr<=32767)):=h1;clear h1;cases b1
   .go_wp2_with fail;go_ret;refine⟨⟨_,rfl,?_⟩,HA.o.1⟩;rw[HK.o];simp only[qN,false_iff];intro hh;exact Qz (H1.o.2 hh.2.2.1) (by decide)
   .go_wp2_with fail;refine (HIR.o _ ac).mono ?_;rintro o w2 ⟨⟨b2,rfl,h2⟩,rfl⟩;have H2:Hid (b2=true↔(0<=ac/\ac<=32767)):=h2;clear h2;cases b2
    .go_wp2_with fail;go_ret;refine⟨⟨_,rfl,?_⟩,HA.o.1⟩;rw[HK.o];simp only[qN,false_iff];intro hh;exact Qz (H2.o.2 hh.2.2.2.1) (by decide)
    .go_wp2_with fail;refine (HSR.o _).mono ?_;rintro o w3 ⟨⟨b3,rfl,h3⟩,hb3⟩;have H3:Hid (b3=true↔PR):=h3;have HB3:Hid (Bl w w3):=HA.o.1.trans (hb3.mono HA.o.1.size);have HP3:Hid (blk w3 w.heap.size (scL ⟨f,lf,rn,lv,cr,ac,e,i,r,d,l⟩ a n cap) 49):=HA.o.2.below hb3;clear h3 hb3;cases b3
     .go_wp2_with fail;go_ret;refine⟨⟨_,rfl,?_⟩,HB3.o⟩;rw[HK.o];simp only[qN,false_iff];intro hh;exact Qz (H3.o.2 hh.2.2.2.2.1) (by decide)
     .go_wp2_with (refine di (by first | rfl | (simp[Region.wanted,yielded];done)) 49 (.tmp 1) rfl w.heap.size 0 rfl _ _ HP3.o.load Tryz.underlying49 rfl dV ?_);refine (HSL.o hf1 hf2 hd0 hd1 hn8 _ HB3.o).mono ?_;rintro o w4 ⟨⟨b4,rfl,h4⟩,hb4⟩;have H4:Hid (b4=true↔PL):=h4;have HB4:Hid (Bl w w4):=HB3.o.trans (hb4.mono HB3.o.size)
      clear h4 hb4;have HFT:Hid (∀ b:Bool,(b=true↔PL)->(b=true↔P)):=fun b hb=>by
       rw[HK.o,hb];exact⟨fun hp=>⟨⟨hf1,hf2⟩,⟨HI.o,hd0,hd1,hn8⟩,H1.o.1 pQ,H2.o.1 pQ,H3.o.1 pQ,hp⟩,fun hh=>hh.2.2.2.2.2⟩
      go_wp2_with fail;go_ret;exact⟨⟨b4,rfl,HFT.o b4 H4.o⟩,HB4.o⟩
  .go_enter Tryz.func165,Tryz.ntmps165;go_upto_region 3 with fail
   go_cut [3] (fun s3 wx=>s3 = bO false/\wx=w.alloc (.cells (scL ⟨f,lf,rn,lv,cr,ac,e,i,r,d,l⟩ a n cap).toArray 49));case first=>
    by_cases hi:i<536870912
    .have qi:decide ((i:Int)<=536870911)=true:=qE om;have hK2:d<0\/15<d\/8<n:=by
      rcases Int.lt_or_le d 0 with h0|h0
      .exact qr h0
      .rcases Int.lt_or_le 15 d with h1|h1
       .exact qy (qr h1)
       .rcases Nat.lt_or_ge 8 n with h2|h2
        .exact qy (qy h2)
        .exact Qz ⟨hi,h0,h1,h2⟩ hK
     clear hK hi;by_cases c1:d<0
     .clear hK2;go_wp2_with fail;go_meet;exact⟨rfl,rfl⟩
     .by_cases c2:15<d
      .clear hK2;go_wp2_with fail;go_meet;exact⟨rfl,rfl⟩
      .have c3:8<n:=om;have q8:decide ((n:Int)<=8)=false:=qo om;clear hK2;go_wp2_with fail;go_meet;exact⟨rfl,rfl⟩
    .have qi:decide ((i:Int)<=536870911)=false:=qo om;clear hi hK;go_wp2_with fail;go_meet;exact⟨rfl,rfl⟩
   case rest=>
    obtain⟨rfl,rfl⟩:=hcut;have HKK:Hid (¬ (i<536870912/\0<=d/\d<=15/\n<=8)):=hK;clear hK;go_wp2_with fail;go_ret;refine⟨⟨_,rfl,?_⟩,HA.o.1⟩;rw[HK.o];simp only[qN,false_iff];intro hh;exact HKK.o hh.2.1
 .have hf':f<1\/14<f:=om;have HF:Hid (¬ (1<=f/\f<=14)):=hf;clear hf;rcases hf' with h|h
  all_goals
   go_enter Tryz.func165,Tryz.ntmps165;go_wp2_with fail;go_ret;refine⟨⟨_,rfl,?_⟩,HA.o.1⟩;rw[HK.o];simp only[qN,false_iff];intro hh;exact HF.o hh.1
end Go.Proofs.YtnfmjckkibdcaaaGreatDoor
