import Derived.Test.YtgfolecanghhhaaGreatK22
namespace Go.Proofs.YtgfolecanghhhaaGreat
open Go.Proofs.Tryz
open Option renaming none->nn,some->sQ
set_option maxRecDepth 20000
open Go.RowKit
set_option linter.all false
set_option maxHeartbeats 16000000
open Go.Value renaming int->I,slice->sL,bool->bO,pointer->pT,agg->aG
open Go.IntKind renaming i64->J
open Go.Ending renaming returned->rT
open Go.Proofs.Tryz renaming prog->Tp
section
variable {w w' w0:World} {B ga:Nat} {L p:List Nat} {v:Value}
def swZ (s:ByteArray):Nat × List Nat × Bool:=if okT s 4000=true then swF (lt s) (lt s).length 0 else (8,[],false)
structure wlI (w0:World) (B ga:Nat) (L:List Nat) (v:Value) (p:List Nat) (w:World):Prop where
 own:aa w B v p
 row:su w ga L.length (fun t=>L.getD t 0)
 lt:ga<w.heap.size
 ne:v.ownBlock≠sQ ga
 bel:Below B w0 w
 le:B<=w.heap.size
def su.block {g n:Nat} {f:Nat->Nat} (h:su w g n f) (hb:w'.heap[g]?=w.heap[g]?):su w' g n f:=
 ⟨fun t ht=>by rw[<- h.cell t ht];simp only[World.cell?,hb],fun t ht=>by rw[<- h.free t ht];simp only[World.frozen?,hb]⟩
def wlI.below (h:wlI w0 B ga L v p w) (hb:Bl w w'):wlI w0 B ga L v p w':=
 ⟨h.own.below hb,h.row.block (hb.block ga h.lt),nL h.lt hb.size,h.ne,h.bel.trans (hb.mono h.le),nT h.le hb.size⟩
def wlI.app {v':Value} {p':List Nat} (h:wlI w0 B ga L v p w) (ho:aa w' B v' p') (hb:Below B w0 w') (hk:∀ g,g<w.heap.size->v.ownBlock≠sQ g->w'.heap[g]?=w.heap[g]?/\v'.ownBlock≠sQ g) (hz:w.heap.size<=w'.heap.size):wlI w0 B ga L v' p' w':=
 ⟨ho,h.row.block (hk ga h.lt h.ne).1,nL h.lt hz,(hk ga h.lt h.ne).2,hb,nT h.le hz⟩
def Fm (s:ByteArray) (w:World):∃ cap w',(convert 9 65 (.string s)).run Tp w = .ok (sL (sQ ⟨w.heap.size,0,nn⟩) s.size cap) w'/\su w' w.heap.size s.size (fun t=>(lt s).getD t 0)/\Bl w w'/\w'.heap.size=w.heap.size+1:=by
 refine⟨_,_,run_bytes_of_string w 9 65 5 s underlying9 underlying65 underlying5,sK w.drew s _,(bW w.heap.size w).drew.alloc (nR _) _,pQ⟩
def jd (L:List Nat) (f i:Nat):swF L (f+1) i=if av (sw L i).1=true then swF L f (i+1) else (7,(sw L i).2.1,false):=rfl
def AO (L:List Nat) (k:Nat) (h:(sw L k).2.2=true):∃ m,k=m+1:=by
 cases k with
 | zero=>cases h
 | succ m=>exact⟨m,rfl⟩
def wE (s:ByteArray) (w:World) (hs:s.size<=maxLen) (hk:okT s 4000=true) :
  Calls Tp 32 #[.string s] w fun e w'=>∃ v,e = rT (.tuple #[I J ((swZ s).1:Nat),v,bO (swZ s).2.2])/\aa w' w.heap.size v (swZ s).2.1/\Bl w w':=by
 have hsz:=gj hk;have HZ:Hid (swZ s=swF (lt s) s.size 0):=by unfold Hid swZ;rw[qc hk,ba]
 have HK:Hid (∀ x ∈ lt s,M.isL x):=gC hk;have HKK:Hid (okT s 4000=true):=hk;clear hk;have hs':s.size<=100000:=om;have HS:Hid (s.size<=maxLen):=hs;clear hs;obtain⟨cap,wc,hcv,hrow,hbc,hzc⟩:=Fm s (w.alloc (.cells #[] 5));go_enter func32,ntmps32;go_wp2_with (go_at_call 69;refine (dD _ _ _ HS.o).mono ?_;rw[HKK.o];rintro e w1 ⟨rfl,rfl⟩);have st0:wlI w w.heap.size (w.heap.size+1) (lt s) (sL (sQ ⟨w.heap.size,0,nn⟩) 0 0) [] wc:=by
  have e:(w.alloc (.cells #[] 5)).heap.size=w.heap.size+1:=pQ;unfold Bl at hbc;rw[e] at hrow hbc hzc;refine⟨(gB w w.heap.size (nR _)).below (by unfold Bl;rw[e];exact hbc),by rw[ba];exact hrow,om,by simp[Value.ownBlock],Zw.trans (hbc.mono om),om⟩
 clear hcv hrow hbc hzc;generalize hga:w.heap.size+1=ga at *;have HLen:Hid ((lt s).length=s.size):=ba s;generalize hLs:lt s=L at *;clear hLs;go_loopw [5,7,8,9] (fun v c d i wr=>∃ k:Nat,k<=s.size/\i = I J k/\c = I J ((sw L k).1:Nat)/\d = bO (sw L k).2.2/\wlI w w.heap.size ga L v (sw L k).2.1 wr/\swF L s.size 0=swF L (s.size-k) k) (fun _ _ _ i _=>s.size-(intOf i).toNat);case atStart=>exact⟨0,nZ _,rfl,rfl,rfl,st0,rfl⟩
 case round=>
  clear st0;obtain⟨k,hk,rfl,rfl,rfl,st,hsw⟩:=hrel;by_cases hlt:k<s.size
  .have hnk:s.size-k=(s.size-(k+1))+1:=om;rw[hnk] at hsw;rw[jd] at hsw;by_cases hgo:av (sw L k).1=true
   .rw[qc hgo] at hsw;have hL:k<L.length:=by rw[HLen.o];exact hlt
    have hv:M.isL (L.getD k 0):=by
     have e:L.getD k 0=L[k]:=by simp[hL]
     rw[e];exact HK.o _ (qn hL)
    have hpl:=sE L k;have hps:∀ x ∈ (sw L k).2.1,x<256:=fun x hx=>by rcases gZ L HK.o k (by rw[HLen.o];exact hk) x hx with h | h <;> omega
    have ck:=st.row.cell k hL;have HST:Hid (sw L (k+1)=dW L k (sw L k)):=rfl;have HSW:Hid (swF L s.size 0=swF L (s.size-(k+1)) (k+1)):=hsw;have HD0:Hid ((sw L k).2.2=true->∃ m,k=m+1):=AO L k;have hcode:(sw L k).1=0\/(sw L k).1=1:=by simpa[av] using hgo
    have hvx:L.getD k 0<256:=by rcases hv with h | h <;> omega
    clear hsw hgo hnk;unfold dW at HST;generalize (sw L k).1=code at *;generalize (sw L k).2.1=p at *;generalize (sw L k).2.2=d at *;have ST:Hid (wlI w w.heap.size ga L u5 p wr):=st;have HV:Hid (M.isL (L.getD k 0)):=hv;have hl1:(lt s).length=(lt s).length:=rfl;clear st hv hl1;rcases hcode with rfl|rfl
    .cases d
     ·
      have HR2:Hid (sw L (k+1)=(cF p (L.getD k 0),p++[L.getD k 0],cW (fun t=>L.getD t 0) (k+1) && (decide (ar (p++[L.getD k 0])<=10) || decide (ar (p++[L.getD k 0])=11)))):=HST.o;clear HST HD0;have HK1:Hid ((k:Int)+1=((k+1:Nat):Int)):=by unfold Hid;omega
      have hps3:∀ x ∈ p++[L.getD k 0],x<256:=by
       intro x hx;rw[qB,Qt] at hx;rcases hx with hx|rfl
       .exact hps x hx
       .exact hvx
      obtain⟨ao,cp,rfl,hby⟩:=ST.o.own.bytes hps;have HC:Hid (∀ w',Bl wr w'->w'.cell? ⟨ga,k,nn⟩=sQ (I .u8 (L.getD k 0:Nat))):=fun w' hb=>(ST.o.below hb).row.cell k hL;have HL90:Hid (Calls Tp 70 #[sL ao p.length cp,I .u8 (L.getD k 0:Nat)] wr fun e w'=>e = rT (I J (cF p (L.getD k 0):Nat))/\Bl wr w'):=lp wr ao _ cp p (L.getD k 0) HV.o hby om;clear hby hps;generalize L.getD k 0=c at *;go_wp2_with fail;refine HL90.o.mono ?_;rintro e w2 ⟨rfl,hb2⟩;have st2:=ST.o.below hb2;have ck2:=HC.o w2 hb2;clear ck HC HL90 ST hb2;generalize cF p c=code2 at *;go_wp2_with (at_builtin;refine ny w w2 rfl (.tmp 47) (.tmp 52) rfl w.heap.size _ p c _ rfl rfl st2.own rfl om st2.le st2.bel ?_);intro v3 w3 ho3 hb3 hk3 hz3;have st3:=st2.app ho3 hb3 hk3 hz3;clear st2 ho3 hb3 hk3 hz3 ck2;have row3:su w3 ga s.size (fun t=>L.getD t 0):=by rw[<- HLen.o];exact st3.row
      go_wp2_with fail;rw[HK1.o];refine (fN _ ga s.size cap (k+1) _ row3 om om).mono ?_;rintro e w4 ⟨rfl,q,rfl⟩;have st4:wlI w w.heap.size ga L _ (p++[c]) (w3.drewN q):=st3.below (QQ (bW _ _) q);clear row3;cases hD:cW (fun t=>L.getD t 0) (k+1)
      .have HR3:Hid (sw L (k+1)=(code2,(p++[c]),false)):=by unfold Hid;rw[HR2.o,hD];rfl
       clear HR2 hD;go_wp2;go_roundw;case rel=>exact⟨k+1,om,by go_num,by rw[HR3.o] <;> rfl,by rw[HR3.o],by rw[HR3.o];exact st4,HSW.o⟩
       case measure=>simp[intOf];omega
      .have HR3:Hid (sw L (k+1)=(code2,(p++[c]),decide (ar ((p++[c]))<=10) || decide (ar ((p++[c]))=11))):=by unfold Hid;rw[HR2.o,hD];rfl
       clear HR2 hD;obtain⟨ao3,cp3,rfl,hby3⟩:=st4.own.bytes hps3;have H68:Hid (Calls Tp 33 #[sL ao3 ((p++[c])).length cp3] (w3.drewN q) fun e w'=>e = rT (I J (ar ((p++[c])):Nat))/\w3.drewN q=w'):=cC _ ao3 _ cp3 _ hby3 (by first | omega | (simp;omega));have ST4:Hid (wlI w w.heap.size ga L (sL ao3 ((p++[c])).length cp3) ((p++[c])) (w3.drewN q)):=st4;clear st4 hby3;generalize ar ((p++[c]))=F at *;generalize (p++[c])=p3 at *;by_cases hF:F<=10
       .have hF':(F:Int)<=10:=om;have HR4:Hid (sw L (k+1)=(code2,p3,true)):=by unfold Hid;rw[HR3.o,qD hF];rfl
        clear HR3 hF;go_wp2_with (go_at_call 33;refine H68.o.mono ?_;rintro e w5 ⟨rfl,rfl⟩);go_roundw;case rel=>exact⟨k+1,om,by go_num,by rw[HR4.o] <;> rfl,by rw[HR4.o],by rw[HR4.o];exact ST4.o,HSW.o⟩
        case measure=>simp[intOf];omega
       .have hF':¬ (F:Int)<=10:=om;have HR4:Hid (sw L (k+1)=(code2,p3,((F:Int) == 11))):=by
         unfold Hid;rw[HR3.o,qo hF,Bool.false_or];congr 2;rw[qk];simp;omega
        have HFn:Hid (decide ((F:Int)<=10)=false):=qo hF';clear HR3 hF;go_wp2_with (go_at_call 33;refine H68.o.mono ?_;rintro e w5 ⟨rfl,rfl⟩);go_roundw;case rel=>exact⟨k+1,om,by go_num,by rw[HR4.o] <;> rfl,by rw[HR4.o,HFn.o] <;> rfl,by rw[HR4.o];exact ST4.o,HSW.o⟩
        case measure=>simp[intOf];omega
     ·
      obtain⟨m,hm⟩:=HD0.o rfl;have HR2:Hid (sw L (k+1)=(if L.getD k 0=L.getD m 0 then 3 else 0,p,cW (fun t=>L.getD t 0) (k+1) && (decide (ar p<=10) || decide (ar p=11)))):=by have:=HST.o;rw[show k-1=m by omega] at this;exact this
      clear HST HD0;have HK1:Hid ((k:Int)+1=((k+1:Nat):Int)):=by unfold Hid;omega
      have hps3:=hps;have hkm:(k:Int)-1=(m:Int):=om;have cm:wr.cell? ⟨ga,m,nn⟩=sQ (I .u8 (L.getD m 0:Nat)):=ST.o.row.cell m om;have st3:=ST.o.below (bW wr.heap.size wr).drew;clear ST hps HV;have hmlt:(m:Int)<(s.size:Int):=om;have hm0:(0:Int)<=(m:Int):=om;clear hm;by_cases hc:L.getD k 0=L.getD m 0
      .have hc':((L.getD k 0:Int) == (L.getD m 0:Int))=true:=by rw[hc];exact beq_self_eq_true _
       have HR2':Hid (sw L (k+1)=(3,p,cW (fun t=>L.getD t 0) (k+1) && (decide (ar p<=10) || decide (ar p=11)))):=by unfold Hid;rw[HR2.o,qc hc]
       clear HR2 hc;have HR2:=HR2';clear HR2';generalize L.getD k 0=c at *;generalize L.getD m 0=c1 at *;go_wp2;go_region;all_goals
        go_wp2_with fail;generalize wr.drew=wd at *;have row3:su wd ga s.size (fun t=>L.getD t 0):=by rw[<- HLen.o];exact st3.row
        go_wp2_with fail;rw[HK1.o];refine (fN _ ga s.size cap (k+1) _ row3 om om).mono ?_;rintro e w4 ⟨rfl,q,rfl⟩;have st4:wlI w w.heap.size ga L _ p (wd.drewN q):=st3.below (QQ (bW _ _) q);clear row3;cases hD:cW (fun t=>L.getD t 0) (k+1)
        .have HR3:Hid (sw L (k+1)=(3,p,false)):=by unfold Hid;rw[HR2.o,hD];rfl
         clear HR2 hD;go_wp2;go_roundw;case rel=>exact⟨k+1,om,by go_num,by rw[HR3.o] <;> rfl,by rw[HR3.o],by rw[HR3.o];exact st4,HSW.o⟩
         case measure=>simp[intOf];omega
        .have HR3:Hid (sw L (k+1)=(3,p,decide (ar (p)<=10) || decide (ar (p)=11))):=by unfold Hid;rw[HR2.o,hD];rfl
         clear HR2 hD;obtain⟨ao3,cp3,rfl,hby3⟩:=st4.own.bytes hps3;have H68:Hid (Calls Tp 33 #[sL ao3 (p).length cp3] (wd.drewN q) fun e w'=>e = rT (I J (ar (p):Nat))/\wd.drewN q=w'):=cC _ ao3 _ cp3 _ hby3 (by first | omega | (simp;omega));have ST4:Hid (wlI w w.heap.size ga L (sL ao3 (p).length cp3) (p) (wd.drewN q)):=st4;clear st4 hby3;generalize ar (p)=F at *;generalize p=p3 at *;by_cases hF:F<=10
         .have hF':(F:Int)<=10:=om;have HR4:Hid (sw L (k+1)=(3,p3,true)):=by unfold Hid;rw[HR3.o,qD hF];rfl
          clear HR3 hF;go_wp2_with (go_at_call 33;refine H68.o.mono ?_;rintro e w5 ⟨rfl,rfl⟩);go_roundw;case rel=>exact⟨k+1,om,by go_num,by rw[HR4.o] <;> rfl,by rw[HR4.o],by rw[HR4.o];exact ST4.o,HSW.o⟩
          case measure=>simp[intOf];omega
         .have hF':¬ (F:Int)<=10:=om;have HR4:Hid (sw L (k+1)=(3,p3,((F:Int) == 11))):=by
           unfold Hid;rw[HR3.o,qo hF,Bool.false_or];congr 2;rw[qk];simp;omega
          have HFn:Hid (decide ((F:Int)<=10)=false):=qo hF';clear HR3 hF;go_wp2_with (go_at_call 33;refine H68.o.mono ?_;rintro e w5 ⟨rfl,rfl⟩);go_roundw;case rel=>exact⟨k+1,om,by go_num,by rw[HR4.o] <;> rfl,by rw[HR4.o,HFn.o] <;> rfl,by rw[HR4.o];exact ST4.o,HSW.o⟩
          case measure=>simp[intOf];omega
      .have hc':((L.getD k 0:Int) == (L.getD m 0:Int))=false:=by rw[beq_eq_false_iff_ne];omega
       have HR2':Hid (sw L (k+1)=(0,p,cW (fun t=>L.getD t 0) (k+1) && (decide (ar p<=10) || decide (ar p=11)))):=by unfold Hid;rw[HR2.o,qa hc]
       clear HR2 hc;have HR2:=HR2';clear HR2';generalize L.getD k 0=c at *;generalize L.getD m 0=c1 at *;go_wp2;go_region;all_goals
        go_wp2_with fail;generalize wr.drew=wd at *;have row3:su wd ga s.size (fun t=>L.getD t 0):=by rw[<- HLen.o];exact st3.row
        go_wp2_with fail;rw[HK1.o];refine (fN _ ga s.size cap (k+1) _ row3 om om).mono ?_;rintro e w4 ⟨rfl,q,rfl⟩;have st4:wlI w w.heap.size ga L _ p (wd.drewN q):=st3.below (QQ (bW _ _) q);clear row3;cases hD:cW (fun t=>L.getD t 0) (k+1)
        .have HR3:Hid (sw L (k+1)=(0,p,false)):=by unfold Hid;rw[HR2.o,hD];rfl
         clear HR2 hD;go_wp2;go_roundw;case rel=>exact⟨k+1,om,by go_num,by rw[HR3.o] <;> rfl,by rw[HR3.o],by rw[HR3.o];exact st4,HSW.o⟩
         case measure=>simp[intOf];omega
        .have HR3:Hid (sw L (k+1)=(0,p,decide (ar (p)<=10) || decide (ar (p)=11))):=by unfold Hid;rw[HR2.o,hD];rfl
         clear HR2 hD;obtain⟨ao3,cp3,rfl,hby3⟩:=st4.own.bytes hps3;have H68:Hid (Calls Tp 33 #[sL ao3 (p).length cp3] (wd.drewN q) fun e w'=>e = rT (I J (ar (p):Nat))/\wd.drewN q=w'):=cC _ ao3 _ cp3 _ hby3 (by first | omega | (simp;omega));have ST4:Hid (wlI w w.heap.size ga L (sL ao3 (p).length cp3) (p) (wd.drewN q)):=st4;clear st4 hby3;generalize ar (p)=F at *;generalize p=p3 at *;by_cases hF:F<=10
         .have hF':(F:Int)<=10:=om;have HR4:Hid (sw L (k+1)=(0,p3,true)):=by unfold Hid;rw[HR3.o,qD hF];rfl
          clear HR3 hF;go_wp2_with (go_at_call 33;refine H68.o.mono ?_;rintro e w5 ⟨rfl,rfl⟩);go_roundw;case rel=>exact⟨k+1,om,by go_num,by rw[HR4.o] <;> rfl,by rw[HR4.o],by rw[HR4.o];exact ST4.o,HSW.o⟩
          case measure=>simp[intOf];omega
         .have hF':¬ (F:Int)<=10:=om;have HR4:Hid (sw L (k+1)=(0,p3,((F:Int) == 11))):=by
           unfold Hid;rw[HR3.o,qo hF,Bool.false_or];congr 2;rw[qk];simp;omega
          have HFn:Hid (decide ((F:Int)<=10)=false):=qo hF';clear HR3 hF;go_wp2_with (go_at_call 33;refine H68.o.mono ?_;rintro e w5 ⟨rfl,rfl⟩);go_roundw;case rel=>exact⟨k+1,om,by go_num,by rw[HR4.o] <;> rfl,by rw[HR4.o,HFn.o] <;> rfl,by rw[HR4.o];exact ST4.o,HSW.o⟩
          case measure=>simp[intOf];omega
    .cases d
     ·
      have HR2:Hid (sw L (k+1)=(cF p (L.getD k 0),p++[L.getD k 0],cW (fun t=>L.getD t 0) (k+1) && (decide (ar (p++[L.getD k 0])<=10) || decide (ar (p++[L.getD k 0])=11)))):=HST.o;clear HST HD0;have HK1:Hid ((k:Int)+1=((k+1:Nat):Int)):=by unfold Hid;omega
      have hps3:∀ x ∈ p++[L.getD k 0],x<256:=by
       intro x hx;rw[qB,Qt] at hx;rcases hx with hx|rfl
       .exact hps x hx
       .exact hvx
      obtain⟨ao,cp,rfl,hby⟩:=ST.o.own.bytes hps;have HC:Hid (∀ w',Bl wr w'->w'.cell? ⟨ga,k,nn⟩=sQ (I .u8 (L.getD k 0:Nat))):=fun w' hb=>(ST.o.below hb).row.cell k hL;have HL90:Hid (Calls Tp 70 #[sL ao p.length cp,I .u8 (L.getD k 0:Nat)] wr fun e w'=>e = rT (I J (cF p (L.getD k 0):Nat))/\Bl wr w'):=lp wr ao _ cp p (L.getD k 0) HV.o hby om;clear hby hps;generalize L.getD k 0=c at *;go_wp2_with fail;refine HL90.o.mono ?_;rintro e w2 ⟨rfl,hb2⟩;have st2:=ST.o.below hb2;have ck2:=HC.o w2 hb2;clear ck HC HL90 ST hb2;generalize cF p c=code2 at *;go_wp2_with (at_builtin;refine ny w w2 rfl (.tmp 47) (.tmp 52) rfl w.heap.size _ p c _ rfl rfl st2.own rfl om st2.le st2.bel ?_);intro v3 w3 ho3 hb3 hk3 hz3;have st3:=st2.app ho3 hb3 hk3 hz3;clear st2 ho3 hb3 hk3 hz3 ck2;have row3:su w3 ga s.size (fun t=>L.getD t 0):=by rw[<- HLen.o];exact st3.row
      go_wp2_with fail;rw[HK1.o];refine (fN _ ga s.size cap (k+1) _ row3 om om).mono ?_;rintro e w4 ⟨rfl,q,rfl⟩;have st4:wlI w w.heap.size ga L _ (p++[c]) (w3.drewN q):=st3.below (QQ (bW _ _) q);clear row3;cases hD:cW (fun t=>L.getD t 0) (k+1)
      .have HR3:Hid (sw L (k+1)=(code2,(p++[c]),false)):=by unfold Hid;rw[HR2.o,hD];rfl
       clear HR2 hD;go_wp2;go_roundw;case rel=>exact⟨k+1,om,by go_num,by rw[HR3.o] <;> rfl,by rw[HR3.o],by rw[HR3.o];exact st4,HSW.o⟩
       case measure=>simp[intOf];omega
      .have HR3:Hid (sw L (k+1)=(code2,(p++[c]),decide (ar ((p++[c]))<=10) || decide (ar ((p++[c]))=11))):=by unfold Hid;rw[HR2.o,hD];rfl
       clear HR2 hD;obtain⟨ao3,cp3,rfl,hby3⟩:=st4.own.bytes hps3;have H68:Hid (Calls Tp 33 #[sL ao3 ((p++[c])).length cp3] (w3.drewN q) fun e w'=>e = rT (I J (ar ((p++[c])):Nat))/\w3.drewN q=w'):=cC _ ao3 _ cp3 _ hby3 (by first | omega | (simp;omega));have ST4:Hid (wlI w w.heap.size ga L (sL ao3 ((p++[c])).length cp3) ((p++[c])) (w3.drewN q)):=st4;clear st4 hby3;generalize ar ((p++[c]))=F at *;generalize (p++[c])=p3 at *;by_cases hF:F<=10
       .have hF':(F:Int)<=10:=om;have HR4:Hid (sw L (k+1)=(code2,p3,true)):=by unfold Hid;rw[HR3.o,qD hF];rfl
        clear HR3 hF;go_wp2_with (go_at_call 33;refine H68.o.mono ?_;rintro e w5 ⟨rfl,rfl⟩);go_roundw;case rel=>exact⟨k+1,om,by go_num,by rw[HR4.o] <;> rfl,by rw[HR4.o],by rw[HR4.o];exact ST4.o,HSW.o⟩
        case measure=>simp[intOf];omega
       .have hF':¬ (F:Int)<=10:=om;have HR4:Hid (sw L (k+1)=(code2,p3,((F:Int) == 11))):=by
         unfold Hid;rw[HR3.o,qo hF,Bool.false_or];congr 2;rw[qk];simp;omega
        have HFn:Hid (decide ((F:Int)<=10)=false):=qo hF';clear HR3 hF;go_wp2_with (go_at_call 33;refine H68.o.mono ?_;rintro e w5 ⟨rfl,rfl⟩);go_roundw;case rel=>exact⟨k+1,om,by go_num,by rw[HR4.o] <;> rfl,by rw[HR4.o,HFn.o] <;> rfl,by rw[HR4.o];exact ST4.o,HSW.o⟩
        case measure=>simp[intOf];omega
     ·
      obtain⟨m,hm⟩:=HD0.o rfl;have HR2:Hid (sw L (k+1)=(if L.getD k 0=L.getD m 0 then 3 else 0,p,cW (fun t=>L.getD t 0) (k+1) && (decide (ar p<=10) || decide (ar p=11)))):=by have:=HST.o;rw[show k-1=m by omega] at this;exact this
      clear HST HD0;have HK1:Hid ((k:Int)+1=((k+1:Nat):Int)):=by unfold Hid;omega
      have hps3:=hps;have hkm:(k:Int)-1=(m:Int):=om;have cm:wr.cell? ⟨ga,m,nn⟩=sQ (I .u8 (L.getD m 0:Nat)):=ST.o.row.cell m om;have st3:=ST.o.below (bW wr.heap.size wr).drew;clear ST hps HV;have hmlt:(m:Int)<(s.size:Int):=om;have hm0:(0:Int)<=(m:Int):=om;clear hm;by_cases hc:L.getD k 0=L.getD m 0
      .have hc':((L.getD k 0:Int) == (L.getD m 0:Int))=true:=by rw[hc];exact beq_self_eq_true _
       have HR2':Hid (sw L (k+1)=(3,p,cW (fun t=>L.getD t 0) (k+1) && (decide (ar p<=10) || decide (ar p=11)))):=by unfold Hid;rw[HR2.o,qc hc]
       clear HR2 hc;have HR2:=HR2';clear HR2';generalize L.getD k 0=c at *;generalize L.getD m 0=c1 at *;go_wp2;go_region;all_goals
        go_wp2_with fail;generalize wr.drew=wd at *;have row3:su wd ga s.size (fun t=>L.getD t 0):=by rw[<- HLen.o];exact st3.row
        go_wp2_with fail;rw[HK1.o];refine (fN _ ga s.size cap (k+1) _ row3 om om).mono ?_;rintro e w4 ⟨rfl,q,rfl⟩;have st4:wlI w w.heap.size ga L _ p (wd.drewN q):=st3.below (QQ (bW _ _) q);clear row3;cases hD:cW (fun t=>L.getD t 0) (k+1)
        .have HR3:Hid (sw L (k+1)=(3,p,false)):=by unfold Hid;rw[HR2.o,hD];rfl
         clear HR2 hD;go_wp2;go_roundw;case rel=>exact⟨k+1,om,by go_num,by rw[HR3.o] <;> rfl,by rw[HR3.o],by rw[HR3.o];exact st4,HSW.o⟩
         case measure=>simp[intOf];omega
        .have HR3:Hid (sw L (k+1)=(3,p,decide (ar (p)<=10) || decide (ar (p)=11))):=by unfold Hid;rw[HR2.o,hD];rfl
         clear HR2 hD;obtain⟨ao3,cp3,rfl,hby3⟩:=st4.own.bytes hps3;have H68:Hid (Calls Tp 33 #[sL ao3 (p).length cp3] (wd.drewN q) fun e w'=>e = rT (I J (ar (p):Nat))/\wd.drewN q=w'):=cC _ ao3 _ cp3 _ hby3 (by first | omega | (simp;omega));have ST4:Hid (wlI w w.heap.size ga L (sL ao3 (p).length cp3) (p) (wd.drewN q)):=st4;clear st4 hby3;generalize ar (p)=F at *;generalize p=p3 at *;by_cases hF:F<=10
         .have hF':(F:Int)<=10:=om;have HR4:Hid (sw L (k+1)=(3,p3,true)):=by unfold Hid;rw[HR3.o,qD hF];rfl
          clear HR3 hF;go_wp2_with (go_at_call 33;refine H68.o.mono ?_;rintro e w5 ⟨rfl,rfl⟩);go_roundw;case rel=>exact⟨k+1,om,by go_num,by rw[HR4.o] <;> rfl,by rw[HR4.o],by rw[HR4.o];exact ST4.o,HSW.o⟩
          case measure=>simp[intOf];omega
         .have hF':¬ (F:Int)<=10:=om;have HR4:Hid (sw L (k+1)=(3,p3,((F:Int) == 11))):=by
           unfold Hid;rw[HR3.o,qo hF,Bool.false_or];congr 2;rw[qk];simp;omega
          have HFn:Hid (decide ((F:Int)<=10)=false):=qo hF';clear HR3 hF;go_wp2_with (go_at_call 33;refine H68.o.mono ?_;rintro e w5 ⟨rfl,rfl⟩);go_roundw;case rel=>exact⟨k+1,om,by go_num,by rw[HR4.o] <;> rfl,by rw[HR4.o,HFn.o] <;> rfl,by rw[HR4.o];exact ST4.o,HSW.o⟩
          case measure=>simp[intOf];omega
      .have hc':((L.getD k 0:Int) == (L.getD m 0:Int))=false:=by rw[beq_eq_false_iff_ne];omega
       have HR2':Hid (sw L (k+1)=(0,p,cW (fun t=>L.getD t 0) (k+1) && (decide (ar p<=10) || decide (ar p=11)))):=by unfold Hid;rw[HR2.o,qa hc]
       clear HR2 hc;have HR2:=HR2';clear HR2';generalize L.getD k 0=c at *;generalize L.getD m 0=c1 at *;go_wp2;go_region;all_goals
        go_wp2_with fail;generalize wr.drew=wd at *;have row3:su wd ga s.size (fun t=>L.getD t 0):=by rw[<- HLen.o];exact st3.row
        go_wp2_with fail;rw[HK1.o];refine (fN _ ga s.size cap (k+1) _ row3 om om).mono ?_;rintro e w4 ⟨rfl,q,rfl⟩;have st4:wlI w w.heap.size ga L _ p (wd.drewN q):=st3.below (QQ (bW _ _) q);clear row3;cases hD:cW (fun t=>L.getD t 0) (k+1)
        .have HR3:Hid (sw L (k+1)=(0,p,false)):=by unfold Hid;rw[HR2.o,hD];rfl
         clear HR2 hD;go_wp2;go_roundw;case rel=>exact⟨k+1,om,by go_num,by rw[HR3.o] <;> rfl,by rw[HR3.o],by rw[HR3.o];exact st4,HSW.o⟩
         case measure=>simp[intOf];omega
        .have HR3:Hid (sw L (k+1)=(0,p,decide (ar (p)<=10) || decide (ar (p)=11))):=by unfold Hid;rw[HR2.o,hD];rfl
         clear HR2 hD;obtain⟨ao3,cp3,rfl,hby3⟩:=st4.own.bytes hps3;have H68:Hid (Calls Tp 33 #[sL ao3 (p).length cp3] (wd.drewN q) fun e w'=>e = rT (I J (ar (p):Nat))/\wd.drewN q=w'):=cC _ ao3 _ cp3 _ hby3 (by first | omega | (simp;omega));have ST4:Hid (wlI w w.heap.size ga L (sL ao3 (p).length cp3) (p) (wd.drewN q)):=st4;clear st4 hby3;generalize ar (p)=F at *;generalize p=p3 at *;by_cases hF:F<=10
         .have hF':(F:Int)<=10:=om;have HR4:Hid (sw L (k+1)=(0,p3,true)):=by unfold Hid;rw[HR3.o,qD hF];rfl
          clear HR3 hF;go_wp2_with (go_at_call 33;refine H68.o.mono ?_;rintro e w5 ⟨rfl,rfl⟩);go_roundw;case rel=>exact⟨k+1,om,by go_num,by rw[HR4.o] <;> rfl,by rw[HR4.o],by rw[HR4.o];exact ST4.o,HSW.o⟩
          case measure=>simp[intOf];omega
         .have hF':¬ (F:Int)<=10:=om;have HR4:Hid (sw L (k+1)=(0,p3,((F:Int) == 11))):=by
           unfold Hid;rw[HR3.o,qo hF,Bool.false_or];congr 2;rw[qk];simp;omega
          have HFn:Hid (decide ((F:Int)<=10)=false):=qo hF';clear HR3 hF;go_wp2_with (go_at_call 33;refine H68.o.mono ?_;rintro e w5 ⟨rfl,rfl⟩);go_roundw;case rel=>exact⟨k+1,om,by go_num,by rw[HR4.o] <;> rfl,by rw[HR4.o,HFn.o] <;> rfl,by rw[HR4.o];exact ST4.o,HSW.o⟩
          case measure=>simp[intOf];omega
   .rw[qa hgo] at hsw;have HR:Hid (swZ s=(7,(sw L k).2.1,false)):=by unfold Hid;rw[HZ.o];exact hsw
    have n0:(((sw L k).1:Int) != 0)=true:=by simp[av] at hgo;simp;omega
    have n1:(((sw L k).1:Int) != 1)=true:=by simp[av] at hgo;simp;omega
    have ho:=st.own;have hb:=st.bel;clear hsw hgo st hnk;generalize (sw L k).1=code at *;generalize (sw L k).2.1=p at *;generalize (sw L k).2.2=d at *;go_wp2;refine QE (v:=.tuple #[I J 7,u5,bO false]) (by simp[results,results32,go_sem]) rfl ⟨u5,by rw[HR.o];rfl,by rw[HR.o];exact ho,hb⟩
  .have hke:s.size-k=0:=om;rw[hke] at hsw;have HR:Hid (swZ s=sw L k):=by unfold Hid;rw[HZ.o];exact hsw
   have ho:=st.own;have hb:=st.bel;clear hsw st hke;generalize sw L k=r at *;go_wp2;refine QE (v:=.tuple #[I J (r.1:Nat),u5,bO r.2.2]) (by simp[results,results32,go_sem]) rfl ⟨u5,by rw[HR.o],by rw[HR.o];exact ho,hb⟩
def tv (s:ByteArray) (w:World) (hs:s.size<=maxLen) :
  Calls Tp 32 #[.string s] w fun e w'=>∃ v,e = rT (.tuple #[I J ((swZ s).1:Nat),v,bO (swZ s).2.2])/\aa w' w.heap.size v (swZ s).2.1/\Bl w w':=by
 by_cases hk:okT s 4000=true
 .exact wE s w hs hk
 .have hk':okT s 4000=false:=by simpa using hk
  have HZ:Hid (swZ s=(8,[],false)):=by unfold Hid swZ;rw[qa hk]
  have HS:Hid (s.size<=maxLen):=hs;clear hk hs;go_enter func32,ntmps32;go_wp2_with (go_at_call 69;refine (dD _ _ _ HS.o).mono ?_;rw[hk'];rintro e w1 ⟨rfl,rfl⟩);refine QE (v:=.tuple #[I J 8,sL (sQ ⟨w.heap.size,0,nn⟩) 0 0,bO false]) (by simp[results,results32,go_sem]) rfl ⟨_,by rw[HZ.o];rfl,by rw[HZ.o];exact gB w w.heap.size (nR _),Zw⟩
def sjV (code:Nat) (p:List Nat) (d:Bool):Value:=if av code=true then aG #[I J (code:Int),I J (ar p:Nat),bO d,bO (gn p)] else aG #[I J (code:Int),I J 0,bO false,bO false]
def uu (L:List Nat):∀ f i,(swF L f i).2.1.length<=f+i
 | 0,i=>by have:=sE L i;show (sw L i).2.1.length<=_;omega
 | f+1,i=>by
  rw[jd];split
  .have:=uu L f (i+1);omega
  .have:=sE L i;show (sw L i).2.1.length<=_;omega
def mP (L:List Nat) (h:∀ x ∈ L,M.isL x):∀ f i,f+i<=L.length->∀ x ∈ (swF L f i).2.1,M.isL x
 | 0,i,hi=>gZ L h i om
 | f+1,i,hi=>by
  rw[jd];split
  .exact mP L h f (i+1) om
  .exact gZ L h i om
def vJ (s:ByteArray):(swZ s).2.1.length<=4000/\∀ x ∈ (swZ s).2.1,M.isL x:=by
 unfold swZ;split
 .rename_i hk;have:=gj hk;have h1:=uu (lt s) (lt s).length 0;refine⟨?_,mP (lt s) (gC hk) _ 0 om⟩;rw[ba] at h1 ⊢;omega
 .exact⟨pQ,pQ⟩
def lU (s:ByteArray) (w:World) (hs:s.size<=maxLen) :
  Calls Tp 16 #[.string s] w fun e w'=>e = rT (sjV (swZ s).1 (swZ s).2.1 (swZ s).2.2)/\Bl w w':=by
 have HS:Hid (s.size<=maxLen):=hs;clear hs;obtain⟨hpl,hps⟩:=vJ s;go_enter func16,ntmps16;go_wp2_with fail;refine (tv s _ HS.o).mono ?_;rintro e w1 ⟨v,rfl,ho,hb1⟩;obtain⟨hr,hb⟩:=zt hb1;obtain⟨ao,cap,rfl,hby⟩:=ho.bytes (fun x hx=>by rcases hps x hx with h | h <;> omega);have H68:Hid (Calls Tp 33 #[sL ao (swZ s).2.1.length cap] w1 fun e w'=>e = rT (I J (ar (swZ s).2.1:Nat))/\w1=w'):=cC w1 ao _ cap _ hby om;have H69:Hid (Calls Tp 34 #[sL ao (swZ s).2.1.length cap] w1 fun e w'=>e = rT (bO (gn (swZ s).2.1))/\Bl w1 w'):=ia w1 ao _ cap _ hby om;clear hb1 ho hby hps;have HZ:Hid (swZ s=((swZ s).1,(swZ s).2.1,(swZ s).2.2)):=rfl;generalize hp:(swZ s).2.1=p at *;generalize hcd:(swZ s).1=code at *;generalize hdd:(swZ s).2.2=d at *;clear hp hcd hdd;by_cases hgo:av code=true
 .have hc2:code=0\/code=1:=by simpa[av] using hgo
  clear hgo;rcases hc2 with rfl|rfl
  .go_wp2_with (first | (go_at_call 33;refine H68.o.mono ?_;rintro e w2 ⟨rfl,rfl⟩) | (go_at_call 34;refine H69.o.mono ?_;rintro e w2 ⟨rfl,hb2⟩;obtain⟨x0,x1,x2,x3,d0,d1,d2,d3,z0,z1,z2,z3⟩:=zu ⟨_,_,_,_,(hb2.block _ (QX hr)).trans hr⟩));refine QE (v:=sjV 0 p d) ?_ rfl ⟨by rw[HZ.o],?_⟩
   .simp[results,results16,go_sem,sjV,av,d0,d1,d2,d3]
   .exact be4 _ _ _ _ (hb.trans (hb2.mono hb.size)) (nR _)
  .go_wp2_with (first | (go_at_call 33;refine H68.o.mono ?_;rintro e w2 ⟨rfl,rfl⟩) | (go_at_call 34;refine H69.o.mono ?_;rintro e w2 ⟨rfl,hb2⟩;obtain⟨x0,x1,x2,x3,d0,d1,d2,d3,z0,z1,z2,z3⟩:=zu ⟨_,_,_,_,(hb2.block _ (QX hr)).trans hr⟩));refine QE (v:=sjV 1 p d) ?_ rfl ⟨by rw[HZ.o],?_⟩
   .simp[results,results16,go_sem,sjV,av,d0,d1,d2,d3]
   .exact be4 _ _ _ _ (hb.trans (hb2.mono hb.size)) (nR _)
 .have n0:((code:Int) != 0)=true:=by simp[av] at hgo;simp;omega
  have n1:((code:Int) != 1)=true:=by simp[av] at hgo;simp;omega
  obtain⟨x0,x1,x2,x3,d0,d1,d2,d3,z0,z1,z2,z3⟩:=zu ⟨_,_,_,_,hr⟩;have HG:Hid (¬ av code=true):=hgo;clear hgo;go_wp2;refine QE (v:=sjV code p d) ?_ rfl ⟨by rw[HZ.o],?_⟩
  .simp[results,results16,go_sem,sjV,HG.o,d0,d1,d2,d3]
  .exact be4 _ _ _ _ hb (nR _)
end
section
variable {p:List Nat}
def cv (p:List Nat):Nat:=aY p+8*kP p
def aq (n H E:Nat):Nat:=
 if n=0 then 1 else if n<12 then 2 else if n=12 then 3 else if n=13 then 4
 else if n<H then (if H<=n+4 then 8 else if H=19 then 7 else if n<32 then 5 else if n=32 then 6 else 7)
 else if n<E then 9 else if n<E+15 then 10 else if n<E+18 then n-E-4 else if n<E+25 then 14 else 15
def aT (n H E:Nat):Nat:=
 if n=0 then 0 else if n<12 then n-1 else if n=12 then 0 else if n=13 then 0
 else if n<H then (if H<=n+4 then n+4-H else if H=19 then 0 else if n<32 then n-14 else if n=32 then 0 else n-33)
 else if n<E then n-H else if n<E+15 then n-E else if n<E+18 then 0 else if n<E+25 then n-E-18 else 0
def bz (p:List Nat):aY p=19\/aY p=39:=by unfold aY;split <;> simp
def dG (p:List Nat):ar p=aq p.length (aY p) (cv p):=by
 have h:=bz p;unfold ar aq aR cv;by_cases h14:p.length<14
 .rw[qc h14];dsimp only;by_cases h0:p.length=0
  .simp[h0]
  .by_cases h1:p.length<12
   .simp[h0,h1]
   .by_cases h2:p.length=12
    .simp[h2]
    .have h3:p.length=13:=om;simp[h3]
 .rw[qa h14];by_cases hH:p.length<aY p
  .simp[hH]
  .simp[hH]
def yp (p:List Nat) (c j:Nat):(p++[c]).getD j 0=if j<p.length then p.getD j 0 else if j=p.length then c else 0:=by
 simp only[ql,List.getElem?_append];split
 .rfl
 .split
  .rename_i h;simp[h]
  .rename_i h1 h2;have:j-p.length≠0:=om;simp[this]
def Gi (p:List Nat) (j:Nat) (h:p.length<=j):p.getD j 0=0:=by simp[ql,h]
def cT (p:List Nat) (c:Nat) (h:p.length≠13):aY (p++[c])=aY p:=by
 unfold aY;rw[yp];split
 .rfl
 .rw[qa (show ¬ 13=p.length by omega),Gi p 13 om]
def jM (p:List Nat) (c j:Nat) (h:j<=p.length):(p++[c]).drop j=p.drop j++[c]:=by
 rw[List.drop_append_of_le_length h]
def dC (p:List Nat) (c j m:Nat) (h:j+m<=p.length):((p++[c]).drop j).take m=(p.drop j).take m:=by
 rw[jM _ _ _ om,Qq (by rw[Qg];omega)]
def jW (p:List Nat) (c j m:Nat) (h:p.length<j):((p++[c]).drop j).take m=(p.drop j).take m:=by
 rw[qq (by simp;omega),qq om]
def dX (p:List Nat) (c j m:Nat) (h1:j<=p.length) (h2:p.length<j+m):((p++[c]).drop j).take m=(p.drop j).take m++[c]:=by
 rw[jM _ _ _ h1,qf (by simp;omega),qf (by simp;omega)]
def mZ (p:List Nat) (c:Nat) (h:aY p<=p.length):kP (p++[c])=kP p:=by
 have hH:=bz p;unfold kP;have e1:aY (p++[c])=aY p:=cT p c om;have e2:kl (p++[c])=kl p:=by
  unfold kl;have hh:aY p=if p.getD 13 0=49 then 39 else 19:=rfl
  rw[yp,yp,yp,qc (show 13<p.length by omega),qc (show 12<p.length by omega)];split
  .rename_i h13;rw[qc h13] at hh;rw[qc (show 32<p.length by omega)]
  .rfl
 rw[e1,e2,dC _ _ _ _ om]
def fj (p:List Nat) (c:Nat) (h:aY p<=p.length):cv (p++[c])=cv p:=by
 have hH:=bz p;unfold cv;rw[mZ p c h,cT p c om]
def dN (q:List Nat):List Nat:=(List.range ((q.length+7) / 8)).map fun j=>cJ ((q.drop (8*j)).take 8)
def rX (p:List Nat):List Nat:=p.map (·-48)
def zD (p:List Nat):List Nat:=if p.length<aY p then p else p.take (cv p)
def CL (p:List Nat):List Nat:=if p.length<aY p then [] else (p.take (cv p)).drop (aY p)
def Dk (p:List Nat):List Nat:=if p.length<aY p then [] else (p.drop (cv p)).take 15
def idL (p:List Nat):List Nat:=(p.drop 1).take 11++(if p.getD 13 0=49 then (p.drop 14).take 18 else [])
structure Vals (k:Wk) (p:List Nat):Prop where
 ext:k.ext=decide (p.getD 13 0=49)
 rtr:k.rtr=if 32<p.length/\p.getD 13 0=49 then decide (p.getD 32 0=49) else decide (p.getD 12 0=49)
 dlc:k.dlc=cJ ((p.drop (aY p-4)).take 4)
 sum:k.sum=M.i8 (rX (zD p))
 crc:k.crc=cJ (Dk p)
 id:k.id=cJ (idL p)
 data:k.data=dN (CL p)
structure Rel (k:Wk) (p:List Nat):Prop extends Vals k p where
 field:k.field=aq p.length (aY p) (cv p)
 taken:k.taken=aT p.length (aY p) (cv p)
def i9 (q:List Nat) (j:Nat) (h:j<(dN q).length):(dN q)[j]=cJ ((q.drop (8*j)).take 8):=by simp[dN]
def rU (q:List Nat) (c:Nat) (hc:M.isL c):dN (q++[c])=cY (dN q) q.length (c-48):=by
 have hv:eu 0 c=c-48:=by rcases hc with rfl | rfl <;> rfl
 have hv2:∀ v,eu v c=2*v+(c-48):=by intro v;rcases hc with rfl | rfl <;> rfl
 unfold cY;have hl:(dN q).length=(q.length+7) / 8:=by simp[dN]
 split
 .rename_i h;unfold dN;rw[qe,qm,show (q.length+1+7) / 8=(q.length+7) / 8+1 by omega,List.range_succ,List.map_append];congr 1
  .apply Qm;intro j hj;rw[List.mem_range] at hj;rw[dC _ _ _ _ om]
  .rw[List.map_singleton,dX _ _ _ _ om om,qq om];simp[cJ,hv]
 .rename_i h;have hm:(q.length+1+7) / 8=(q.length+7) / 8:=om;have hlast:(dN q).getD ((dN q).length-1) 0=cJ (q.drop (8*(q.length / 8))):=by
   rw[hl];unfold dN;rw[ql,List.getElem?_map,List.getElem?_range om];show cJ _=_;rw[show (q.length+7) / 8-1=q.length / 8 by omega,qf (by rw[Qg];omega)]
  rw[hlast,hl];apply List.ext_getElem
  .simp[dN,hm]
  .intro j h1 h2;have hj:j<(q.length+7) / 8:=by simpa[dN] using h2
   rw[List.getElem_set];split
   .rename_i hjj;rw[i9,dX _ _ _ _ om om,dE,hv2,qf (by rw[Qg];omega)];have:cJ (q.drop (8*j))<128:=by
     refine nL (nE _) ?_;rw[Qg];exact nT (qt (by decide) (show q.length-8*j<=7 by omega)) (by decide)
    rw[show q.length / 8=j by omega];omega
   .rw[i9,i9,dC _ _ _ _ om]
def zm (k:Wk) (b:Nat):(k.keep b).ext=if k.field=4 then decide (b=1) else k.ext:=by
 unfold Wk.keep Wk.keep1;grind
def zl (k:Wk) (b:Nat):(k.keep b).rtr=if k.field=3\/k.field=6 then decide (b=1) else k.rtr:=by
 unfold Wk.keep Wk.keep1;grind
def wK (k:Wk) (b:Nat):(k.keep b).dlc=if k.field=8 then 2*k.dlc+b else k.dlc:=by
 unfold Wk.keep Wk.keep1;grind
def zk (k:Wk) (b:Nat):(k.keep b).sum=if k.field<=9 then M.dM k.sum b else k.sum:=by
 unfold Wk.keep Wk.keep1;grind
def zo (k:Wk) (b:Nat):(k.keep b).crc=if k.field=10 then 2*k.crc+b else k.crc:=by
 unfold Wk.keep Wk.keep1;grind
def Br (k:Wk) (b:Nat):(k.keep b).id=if k.field=2\/k.field=5 then 2*k.id+b else k.id:=by
 unfold Wk.keep Wk.keep1;grind
def jJ (k:Wk) (b:Nat):(k.keep b).data=if k.field=9 then cY k.data k.taken b else k.data:=by
 unfold Wk.keep Wk.keep1;grind
def fN4 (n H E:Nat) (h:H=19\/H=39) (hE:H<=E):aq n H E=4↔n=13:=by unfold aq;grind (splits:=16)
def fN3 (n H E:Nat) (h:H=19\/H=39) (hE:H<=E):aq n H E=3↔n=12:=by unfold aq;grind (splits:=16)
def fN6 (n H E:Nat) (h:H=19\/H=39) (hE:H<=E):aq n H E=6↔n=32/\H=39:=by unfold aq;grind (splits:=16)
def fN2 (n H E:Nat) (h:H=19\/H=39) (hE:H<=E):aq n H E=2↔1<=n/\n<12:=by unfold aq;grind (splits:=16)
def fN5 (n H E:Nat) (h:H=19\/H=39) (hE:H<=E):aq n H E=5↔14<=n/\n<32/\H=39:=by unfold aq;grind (splits:=16)
def fN8 (n H E:Nat) (h:H=19\/H=39) (hE:H<=E):aq n H E=8↔H<=n+4/\n<H:=by unfold aq;grind (splits:=16)
def fN9 (n H E:Nat) (h:H=19\/H=39) (hE:H<=E):aq n H E=9↔H<=n/\n<E:=by unfold aq;grind (splits:=16)
def MO (n H E:Nat) (h:H=19\/H=39) (hE:H<=E):aq n H E=10↔E<=n/\n<E+15:=by unfold aq;grind (splits:=16)
def Fg (n H E:Nat) (h:H=19\/H=39) (hE:H<=E):aq n H E<=9↔n<E:=by unfold aq;grind (splits:=16)
def cI (p:List Nat):aY p<=cv p:=by unfold cv;omega
def Cj (n H E H' E' N':Nat) (h:H=19\/H=39) (h':H'=19\/H'=39) (hE:H<=E) (hE':E'=H'+8*N') (h13:n≠13->H'=H) (hEE:H<=n->E'=E) (hn:n<H\/n<E+25) (D:Nat) (hD:H'<=n+1->D=N') (X:Bool) (hX:13<=n->(X=true↔H'=39)) (fs fa:Nat)
  (hfs:fs=if aq n H E=2 then 11 else if aq n H E=5 then 18 else if aq n H E=7 then (if X=true then 2 else 1) else if aq n H E=8 then 4 else if aq n H E=9 then 8*D else if aq n H E=10 then 15 else if aq n H E=14 then 7 else 1)
  (hfa:fa=if aq n H E=4/\X=false then 7 else if aq n H E=8/\D=0 then 10 else aq n H E+1) :
  (aT n H E+1=fs->aq (n+1) H' E'=fa/\aT (n+1) H' E'=0)/\(aT n H E+1≠fs->aq (n+1) H' E'=aq n H E/\aT (n+1) H' E'=aT n H E+1):=by
 by_cases a:n<14
 .have c:n=0\/(1<=n/\n<11)\/n=11\/n=12\/n=13:=om;rcases c with rfl|c|rfl|rfl|rfl
  .simp only[aq,aT] at *;grind
  .have e1:aq n H E=2:=by rw[fN2 _ _ _ h hE];omega
   have e2:aq (n+1) H' E'=2:=by rw[fN2 _ _ _ h' om];omega
   have e3:aT n H E=n-1:=by unfold aT;grind
   have e4:aT (n+1) H' E'=n:=by unfold aT;grind
   rw[e1] at hfs hfa ⊢;grind
  .simp only[aq,aT] at *;grind
  .simp only[aq,aT] at *;grind
  .have hX:=hX (nR _);rcases h' with rfl|rfl
   .have:X=false:=by cases X <;> simp_all
    simp[aq,aT,this] at *;grind
   .have:X=true:=by rw[hX]
    simp[aq,aT,this] at *;grind
 .have h0:=h13 om;subst h0;have hX:=hX om;by_cases b:n<H'
  .rcases h with rfl|rfl
   .have hx:X=false:=by cases X <;> simp_all
    have c:n=14\/(15<=n/\n<18)\/n=18:=om;rcases c with rfl|c|rfl
    .simp[aq,aT,hx] at *;grind
    .have e1:aq n 19 E=8:=by rw[fN8 _ _ _ pQ hE];omega
     have e2:aq (n+1) 19 E'=8:=by rw[fN8 _ _ _ pQ om];omega
     have e3:aT n 19 E=n-15:=by unfold aT;grind
     have e4:aT (n+1) 19 E'=n-14:=by unfold aT;grind
     rw[e1] at hfs hfa ⊢;grind
    .have hD:=hD om;subst hD;have e1:aq 18 19 E=8:=by rw[fN8 _ _ _ pQ hE];omega
     have e3:aT 18 19 E=3:=by unfold aT;grind
     have e4:aT 19 19 E'=0:=by unfold aT;grind
     have e5:aq 19 19 E'=if D=0 then 10 else 9:=by unfold aq;grind
     rw[e1] at hfs hfa ⊢;grind
   .have hx:X=true:=by rw[hX]
    have c:(14<=n/\n<31)\/n=31\/n=32\/n=33\/n=34\/(35<=n/\n<38)\/n=38:=om;rcases c with c|rfl|rfl|rfl|rfl|c|rfl
    .have e1:aq n 39 E=5:=by rw[fN5 _ _ _ pQ hE];omega
     have e2:aq (n+1) 39 E'=5:=by rw[fN5 _ _ _ pQ om];omega
     have e3:aT n 39 E=n-14:=by unfold aT;grind (splits:=14)
     have e4:aT (n+1) 39 E'=n-13:=by unfold aT;grind (splits:=14)
     rw[e1] at hfs hfa ⊢;grind
    .simp[aq,aT,hx] at *;grind
    .simp[aq,aT,hx] at *;grind
    .simp[aq,aT,hx] at *;grind
    .simp[aq,aT,hx] at *;grind
    .have e1:aq n 39 E=8:=by rw[fN8 _ _ _ pQ hE];omega
     have e2:aq (n+1) 39 E'=8:=by rw[fN8 _ _ _ pQ om];omega
     have e3:aT n 39 E=n-35:=by unfold aT;grind
     have e4:aT (n+1) 39 E'=n-34:=by unfold aT;grind
     rw[e1] at hfs hfa ⊢;grind
    .have hD:=hD om;subst hD;have e1:aq 38 39 E=8:=by rw[fN8 _ _ _ pQ hE];omega
     have e3:aT 38 39 E=3:=by unfold aT;grind
     have e4:aT 39 39 E'=0:=by unfold aT;grind
     have e5:aq 39 39 E'=if D=0 then 10 else 9:=by unfold aq;grind
     rw[e1] at hfs hfa ⊢;grind
  .have hEE:=hEE om;have hD:=hD om;subst hD;clear hX;have hge:19<=H':=om;have F:∀ m,H'<=m->aq m H' E=if m<E then 9 else if m<E+15 then 10 else if m<E+18 then m-E-4 else if m<E+25 then 14 else 15:=by
    intro m hm;unfold aq;rw[qa om,qa om,qa om,qa om,qa om]
   have T:∀ m,H'<=m->aT m H' E=if m<E then m-H' else if m<E+15 then m-E else if m<E+18 then 0 else if m<E+25 then m-E-18 else 0:=by
    intro m hm;unfold aT;rw[qa om,qa om,qa om,qa om,qa om]
   rw[hEE,F (n+1) om,T (n+1) om,T n om,hfs,hfa,F n om];clear F T hfs hfa h13 h';have hE2:E=H'+8*D:=om;clear hE' hEE;rcases (show n<E\/(E<=n/\n<E+15)\/n=E+15\/n=E+16\/n=E+17\/(E+18<=n/\n<E+25) by omega) with c|c|rfl|rfl|rfl|c
   .simp only[c];grind
   .have c1:¬ n<E:=om;simp only[c,c1];grind
   .simp;grind
   .simp;grind
   .simp;grind
   .have c1:¬ n<E:=om;have c2:¬ n<E+15:=om;have c3:¬ n<E+18:=om;simp only[c,c1,c2,c3];grind
def Bu {c:Nat} (hc:M.isL c):decide (c-48=1)=decide (c=49)/\∀ v,eu v c=2*v+(c-48):=by
 rcases hc with rfl | rfl <;> exact⟨rfl,fun _=>rfl⟩
def lL (l:List Nat) (c:Nat):rX (l++[c])=rX l++[c-48]:=by simp[rX]
def jl (p:List Nat):aY p=39↔p.getD 13 0=49:=by unfold aY;split <;> simp_all
def vy (k:Wk) (p:List Nat) (c:Nat) (hc:M.isL c) (h:Rel k p) (hn:p.length<aY p\/p.length<cv p+25):Vals (k.keep (c-48)) (p++[c]):=by
 have hH:=bz p;have hE:=cI p;obtain⟨hb1,hb2⟩:=Bu hc;have hf:=h.field;have hHs:p.length=13\/aY (p++[c])=aY p:=by
  by_cases e:p.length=13
  .exact .inl e
  .exact .inr (cT p c e)
 constructor
 .rw[zm,hf];simp only[fN4 _ _ _ hH hE];rw[hb1,h.ext,yp];by_cases e:p.length=13
  .rw[qc e,qa om,qc e.symm]
  .rw[qa e];by_cases e2:13<p.length
   .rw[qc e2]
   .rw[qa e2,qa (show ¬ 13=p.length by omega),Gi p 13 om]
 .rw[zl,hf];simp only[fN3 _ _ _ hH hE,fN6 _ _ _ hH hE,jl];rw[hb1,h.rtr];simp only[yp,qe,qm];have hne:¬ (0:Nat)=49:=by decide
  by_cases e12:p.length<12
  .have:=Gi p 13 om;have:=Gi p 12 om;grind
  .by_cases e13:p.length<=13
   .have:=Gi p 13 om;grind
   .grind
 .rw[wK,hf];simp only[fN8 _ _ _ hH hE];rw[h.dlc];by_cases e13:p.length=13
  .rw[qa om];have hH':=bz (p++[c]);rw[qq om,qq (by simp;omega)]
  .rw[cT p c e13];split
   .rw[dX _ _ _ _ om om,dE,hb2]
   .by_cases e:p.length<aY p
    .rw[jW _ _ _ _ om]
    .rw[dC _ _ _ _ om]
 .rw[zk,hf];simp only[Fg _ _ _ hH hE];rw[h.sum];unfold zD;rw[qe,qm];have hH':=bz (p++[c]);have hE':=cI (p++[c]);by_cases e1:p.length<aY p
  .rw[qc e1,qc om,<- M.xl,<- lL];congr 2;split
   .rfl
   .rw[qf (by simp;omega)]
  .have e3:aY (p++[c])=aY p:=cT p c om;have e4:cv (p++[c])=cv p:=fj p c om;rw[qa e1,qa (show ¬ p.length+1<aY (p++[c]) by omega),e4];by_cases e2:p.length<cv p
   .rw[qc e2,qf om,qf (by simp;omega),<- M.xl,<- lL]
   .rw[qa e2,Qq om]
 .rw[zo,hf];simp only[MO _ _ _ hH hE];rw[h.crc];unfold Dk;rw[qe,qm];have hH':=bz (p++[c]);have hE':=cI (p++[c]);by_cases e1:p.length<aY p
  .rw[qc e1,qa (show ¬ (_/\_) by omega)];split
   .rfl
   .rw[qq (by simp;omega)];rfl
  .have e3:aY (p++[c])=aY p:=cT p c om;have e4:cv (p++[c])=cv p:=fj p c om;rw[qa e1,qa (show ¬ p.length+1<aY (p++[c]) by omega),e4];split
   .rw[dX _ _ _ _ om om,dE,hb2]
   .by_cases e:p.length<cv p
    .rw[jW _ _ _ _ om]
    .rw[dC _ _ _ _ om]
 .rw[Br,hf];simp only[fN2 _ _ _ hH hE,fN5 _ _ _ hH hE,jl];rw[h.id];unfold idL;rw[yp];by_cases e1:p.length=0
  .have:p=[]:=by simpa using e1
   subst this;rfl
  .by_cases e2:p.length<12
   .rw[qc om,qa (show ¬ 13<p.length by omega),qa (show ¬ 13=p.length by omega),Gi p 13 om,dX _ _ _ _ om om,qa (by decide),Qv,qa (by decide),Qv,dE,hb2]
   .rw[dC p c 1 11 om];by_cases e3:p.length<14
    .rw[qa om,qq (show (p++[c]).length<=14 by simp;omega),qq (show p.length<=14 by omega)];simp
    .rw[qc (show 13<p.length by omega)];by_cases e5:p.getD 13 0=49
     .rw[qc e5,qc e5];split
      .rw[dX _ _ _ _ om om,<- qp,dE,hb2]
      .rw[dC _ _ _ _ om]
     .rw[qa e5,qa e5,qa om]
 .rw[jJ,hf];simp only[fN9 _ _ _ hH hE];rw[h.data,h.taken];unfold CL;rw[qe,qm];have hH':=bz (p++[c]);have hE':=cI (p++[c]);by_cases e1:p.length<aY p
  .rw[qc e1,qa (show ¬ (_/\_) by omega)];split
   .rfl
   .rw[qq (by simp;omega)]
  .have e3:aY (p++[c])=aY p:=cT p c om;have e4:cv (p++[c])=cv p:=fj p c om;rw[qa e1,qa (show ¬ p.length+1<aY (p++[c]) by omega),e3,e4];by_cases e2:p.length<cv p
   .rw[qc om,qf (show p.length<=cv p by omega),qf (by simp;omega),jM _ _ _ om,rU _ _ hc];congr 1;rw[Qg];unfold aT;rw[qa om,qa om,qa om,qa om,qa om,qc e2]
   .rw[qa om,Qq om]
def BR (k:Wk) (p:List Nat) (h:Vals k p) (hn:aY p<=p.length):k.dlen=kP p:=by
 have hH:=bz p;have hi:=jl p;unfold Wk.dlen kP;have e:k.rtr=kl p:=by
  rw[h.rtr];unfold kl;grind
 rw[e,h.dlc]
def ym (k:Wk) (p:List Nat) (c:Nat) (hc:M.isL c) (h:Rel k p) (hn:p.length<aY p\/p.length<cv p+25):Rel ((k.keep (c-48)).adv) (p++[c]):=by
 have hv:=vy k p c hc h hn;have hH:=bz p;have hH':=bz (p++[c]);have hE:=cI p
 have hN:=Cj p.length (aY p) (cv p) (aY (p++[c])) (cv (p++[c])) (kP (p++[c])) hH hH' hE rfl (cT p c) (fj p c) hn (k.keep (c-48)).dlen
  (fun e=>BR _ _ hv (by simpa using e)) (k.keep (c-48)).ext (fun e=>by rw[hv.ext,jl];simp) ((k.keep (c-48)).fsize k.field) ((k.keep (c-48)).fafter k.field)
  (by unfold Wk.fsize;rw[h.field]) (by unfold Wk.fafter;rw[h.field])
 have hl:(p++[c]).length=p.length+1:=pQ;unfold Wk.adv;rw[Hw,fC];split
 .rename_i e;rw[h.taken] at e;have:=hN.1 e;exact { ext:=hv.ext,rtr:=hv.rtr,dlc:=hv.dlc,sum:=hv.sum,crc:=hv.crc,id:=hv.id,data:=hv.data,field:=by rw[hl];exact this.1.symm,taken:=by rw[hl];exact this.2.symm }
 .rename_i e;rw[h.taken] at e;have:=hN.2 e;exact { ext:=hv.ext,rtr:=hv.rtr,dlc:=hv.dlc,sum:=hv.sum,crc:=hv.crc,id:=hv.id,data:=hv.data,field:=by rw[hl,this.1];exact h.field,taken:=by rw[hl,this.2];show k.taken+1=_;rw[h.taken] }
def Rel.heard {k:Wk} (h:Rel k p) (c:Nat):Rel (k.heard c) p:={ ext:=h.ext,rtr:=h.rtr,dlc:=h.dlc,sum:=h.sum,crc:=h.crc,id:=h.id,data:=h.data,field:=h.field,taken:=h.taken }
def Rel.code {k:Wk} (h:Rel k p) (c:Nat):Rel { k with code:=c } p:={ ext:=h.ext,rtr:=h.rtr,dlc:=h.dlc,sum:=h.sum,crc:=h.crc,id:=h.id,data:=h.data,field:=h.field,taken:=h.taken }
def yn:Rel Wk.init []:={ ext:=rfl,rtr:=rfl,dlc:=rfl,sum:=rfl,crc:=rfl,id:=rfl,data:=rfl,field:=rfl,taken:=rfl }
def ve (n H E:Nat) (h:H=19\/H=39) (hE:H<=E):10<aq n H E↔E+15<=n:=by unfold aq;grind (splits:=16)
def oT (l:List Nat):Bool:=decide (¬ ((aR l).2=0\/l.length<(aR l).2+15)) && decide (M.i8 ((l.take (aR l).2).map (·-48))=cJ ((l.drop (aR l).2).take 15))
def rQ (p:List Nat) (hp:∀ x ∈ p,M.isL x):gn p=oT p:=by
 unfold gn oT;have hle:=(jk p).2;rw[jN (p.take (aR p).2) (fun x hx=>hp x (qK hx)) (by rw[qj];omega)];congr 1;rw[qk];simp only[qP];omega
def rP {k:Wk} (h:Rel k p) (hp:∀ x ∈ p,M.isL x):k.crcOk=gn p:=by
 rw[rQ p hp];have hH:=bz p;have hE:=cI p;unfold Wk.crcOk oT;rw[h.field,h.crc,h.sum];by_cases e:p.length<cv p+15
 .have e1:¬ 10<aq p.length (aY p) (cv p):=by rw[ve _ _ _ hH hE];omega
  have e2:(aR p).2=0\/p.length<(aR p).2+15:=by
   unfold aR;split
   .simp
   .split
    .simp
    .exact .inr e
  simp[e1,e2]
 .have e1:10<aq p.length (aY p) (cv p):=by rw[ve _ _ _ hH hE];omega
  have e2:(aR p).2=cv p:=by unfold aR;rw[qa om,qa om];rfl
  have e3:¬ ((aR p).2=0\/p.length<(aR p).2+15):=by rw[e2];omega
  simp only[e1,e2];unfold zD Dk;rw[qa om,qa om];unfold rX;have e4:¬ (cv p=0\/p.length<cv p+15):=om;simp only[e4];simp only[decide_true,not_false_eq_true,Bool.true_and];rw[qk];simp only[qP];exact eq_comm
def uT (h:aY p<=p.length):(aR p).2=cv p:=by
 have hH:=bz p;unfold aR;rw[qa om,qa om];rfl
def Fi (n H E:Nat) (h:H=19\/H=39) (hE:H<=E):aq n H E=14↔E+18<=n/\n<E+25:=by unfold aq;grind (splits:=16)
def Fh (n H E:Nat) (h:H=19\/H=39) (hE:H<=E):¬ aq n H E<=14↔E+25<=n:=by unfold aq;grind (splits:=16)
def Bj {k:Wk} (h:Rel k p) (hp:∀ x ∈ p,M.isL x) (c:Nat) (hc:M.isL c):k.plainCode (c-48)=cF p c:=by
 have hH:=bz p;have hE:=cI p;have hfl:=dG p;have hco:=rP h hp;have hf:=h.field;unfold Wk.plainCode cF;rw[hfl,<- hf,hco];by_cases f1:k.field=1
 .rw[qc f1,qc f1];rcases hc with rfl | rfl <;> rfl
 .rw[qa f1,qa f1];by_cases f11:k.field=11
  .rw[qc f11,qc f11];rcases hc with rfl | rfl <;> rfl
  .rw[qa f11,qa f11];by_cases f13:k.field=13
   .rw[qc f13,qc f13];rcases hc with rfl|rfl
    .simp[Wk.form]
    .simp[Wk.form]
   .rw[qa f13,qa f13];by_cases f14:k.field=14
    .rw[qc f14,qc f14];have hr:=(Fi _ _ _ hH hE).1 (hf ▸ f14);have ht:k.taken=p.length-cv p-18:=by
      rw[h.taken];unfold aT;rw[qa om,qa om,qa om,qa om,qa om,qa om,qa om,qa om,qc om]
     rw[uT om];unfold Wk.eofCode Wk.form;simp only[f14,true_and];rcases hc with rfl | rfl <;> simp <;> grind
    .rw[qa f14,qa f14]
def pM {L:List Nat} (h:∀ x ∈ L,M.isL x) (i:Nat) (hi:i<L.length):M.isL (L.getD i 0):=by
 have e:L.getD i 0=L[i]:=by simp[hi]
 rw[e];exact h _ (qn hi)
def cq (L:List Nat) (i:Nat) (hi:i<L.length):L.take (i+1)=L.take i++[L.getD i 0]:=by
 have e:L.getD i 0=L[i]:=by simp[hi]
 rw[e,qg hi]
def i6 (L:List Nat) (h:∀ x ∈ L,M.isL x):∀ i,i<=L.length->(cW (fun t=>L.getD t 0) i=true↔5<=(M.eP (L.take i)).2):=by
 intro i hi;by_cases h5:5<=i
 .obtain⟨m,rfl⟩ : ∃ m,i=m+5:=⟨i-5,om⟩
  have e:L.take (m+5)=L.take m++[L.getD m 0]++[L.getD (m+1) 0]++[L.getD (m+2) 0]++[L.getD (m+3) 0]++[L.getD (m+4) 0]:=by
   rw[cq L (m+4) om,cq L (m+3) om,cq L (m+2) om,cq L (m+1) om,cq L m om]
  rw[e,M.FG];simp only[cW,show m+5-1=m+4 by omega,show m+5-2=m+3 by omega,show m+5-3=m+2 by omega,show m+5-4=m+1 by omega,show m+5-5=m by omega];simp;constructor
  .rintro⟨⟨⟨a,b⟩,c⟩,d⟩;exact⟨a,b,c,d⟩
  .rintro⟨a,b,c,d⟩;exact⟨⟨⟨a,b⟩,c⟩,d⟩
 .have:=M.Et (L.take i);rw[qj] at this;simp[cW];omega
structure Cp (L:List Nat) (i:Nat) (k:Wk):Prop where
 rel:Rel k (sw L i).2.1
 code:k.code=(sw L i).1
 due:k.due=(sw L i).2.2
 last:k.last=M.eP (L.take i)
 run:k.field<=11->k.last.2<=5
 inn:k.field<=14
def EC (L:List Nat):Cp L 0 Wk.init:=⟨yn,rfl,rfl,by simp[Wk.init,M.eP],fun _=>by decide,by decide⟩
def Wk.keepadv_last (k:Wk) (b:Nat):((k.keep b).adv).last=k.last:=by rw[Jo,jI]
def oW (k:Wk) (b:Nat):k.field<=((k.keep b).adv).field:=by
 unfold Wk.adv;rw[fC];split
 .show _<=Wk.fafter _ _;unfold Wk.fafter;split
  .omega
  .split <;> omega
 .exact nR _
def zR (L:List Nat) (hL:∀ x ∈ L,M.isL x) (j:Nat) (hj:j<=L.length) (k:Wk) (p:List Nat) (hr:Rel k p) (hl:k.last=M.eP (L.take j)) (hrun:k.field<=11->k.last.2<=5) :
  k.due=(cW (fun t=>L.getD t 0) j && (decide (ar p<=10) || decide (ar p=11))):=by
 have hf:ar p=k.field:=by rw[dG,hr.field]
 have hd:=i6 L hL j hj;rw[<- hl] at hd;rw[qk];unfold Wk.due;simp only[qw,Bool.or_eq_true,qP];rw[hd,hf];constructor
 .rintro⟨a,b⟩;exact⟨om,om⟩
 .rintro⟨a,b⟩;exact⟨om,by have:=hrun om;omega⟩
def vQ (L:List Nat) (hL:∀ x ∈ L,M.isL x) (i:Nat) (hi:i<L.length) (k:Wk) (h:Cp L i k) :
  (k.take (L.getD i 0)).2=(sw L (i+1)).1/\Vals (k.take (L.getD i 0)).1 (sw L (i+1)).2.1 /\
  (av (sw L (i+1)).1=true->Cp L (i+1) { (k.take (L.getD i 0)).1 with code:=(k.take (L.getD i 0)).2 }):=by
 have hc:=pM hL i hi;have ht:M.eP (L.take (i+1))=M.gl k.last (L.getD i 0):=by rw[cq L i hi,M.de,h.last]
 have hs:sw L (i+1)=dW L i (sw L i):=rfl;have hlen:(sw L i).2.1.length<aY (sw L i).2.1\/(sw L i).2.1.length<cv (sw L i).2.1+25:=by
  have a:=h.rel.field;have b:=h.inn;have c:=Fh (sw L i).2.1.length _ _ (bz (sw L i).2.1) (cI (sw L i).2.1);omega
 by_cases hd:k.due=true
 .have hsd:(sw L i).2.2=true:=by rw[<- h.due];exact hd
  have hk:k.field<=11/\k.last.2=5:=by simpa[Wk.due] using hd
  obtain⟨m,rfl⟩ : ∃ m,i=m+1:=by
   cases i with
   | zero=>cases hsd
   | succ m=>exact⟨m,rfl⟩
  have hlast:k.last.1=L.getD m 0:=by rw[h.last,cq L m om,M.de,M.rv]
  by_cases he:L.getD (m+1) 0=k.last.1
  .have e1:k.take (L.getD (m+1) 0)=(k,3):=by unfold Wk.take;rw[qc ⟨hd,he⟩]
   have e2:(sw L (m+1+1)).1=3:=by
    rw[hs];show (if (sw L (m+1)).2.2=true then _ else _)=3;rw[qc hsd,qc (by rw[he,hlast];rfl)]
   have e3:(sw L (m+1+1)).2.1=(sw L (m+1)).2.1:=by
    rw[hs];show (if (sw L (m+1)).2.2=true then _ else _)=_;rw[qc hsd]
   rw[e1,e2,e3];refine⟨rfl,h.rel.toVals,fun hg=>?_⟩;cases hg
  .have e1:k.take (L.getD (m+1) 0)=(k.heard (L.getD (m+1) 0),0):=by unfold Wk.take;rw[qa (fun a=>he a.2),qc hd]
   have e2:(sw L (m+1+1)).1=0:=by
    rw[hs];show (if (sw L (m+1)).2.2=true then _ else _)=0;rw[qc hsd,qa (by rw[Nat.add_sub_cancel,<- hlast];exact he)]
   have e3:(sw L (m+1+1)).2.1=(sw L (m+1)).2.1:=by
    rw[hs];show (if (sw L (m+1)).2.2=true then _ else _)=_;rw[qc hsd]
   have e4:(sw L (m+1+1)).2.2=(cW (fun t=>L.getD t 0) (m+1+1) && (decide (ar (sw L (m+1+1)).2.1<=10) || decide (ar (sw L (m+1+1)).2.1=11))):=rfl;rw[e1,e2,e3];have hr:=h.rel.heard (L.getD (m+1) 0);have hl2:(k.heard (L.getD (m+1) 0)).last=M.eP (L.take (m+1+1)):=ht.symm;have hrun2:(k.heard (L.getD (m+1) 0)).field<=11->(k.heard (L.getD (m+1) 0)).last.2<=5:=by
    intro _;show (M.gl k.last _).2<=5;unfold M.gl;rw[qa he];show 1<=5;decide
   refine⟨rfl,hr.toVals,fun _=>⟨?_,e2.symm,?_,hl2,hrun2,h.inn⟩⟩
   .rw[e3];exact hr.code 0
   .rw[e4,e3];exact zR L hL (m+1+1) hi (k.heard (L.getD (m+1) 0)) _ hr hl2 hrun2
 .have hsd:¬ (sw L i).2.2=true:=by rw[<- h.due];exact hd
  have e1:k.take (L.getD i 0)=(((k.heard (L.getD i 0)).keep (L.getD i 0-48)).adv,(k.heard (L.getD i 0)).plainCode (L.getD i 0-48)):=by
   unfold Wk.take;rw[qa (fun a=>hd a.1),qa hd]
  have e2:(sw L (i+1)).1=cF (sw L i).2.1 (L.getD i 0):=by
   rw[hs];show (if (sw L i).2.2=true then _ else _)=_;rw[qa hsd]
  have e3:(sw L (i+1)).2.1=(sw L i).2.1++[L.getD i 0]:=by
   rw[hs];show (if (sw L i).2.2=true then _ else _)=_;rw[qa hsd]
  have e4:(sw L (i+1)).2.2=(cW (fun t=>L.getD t 0) (i+1) && (decide (ar (sw L (i+1)).2.1<=10) || decide (ar (sw L (i+1)).2.1=11))):=rfl;have hr:=ym _ _ _ hc (h.rel.heard (L.getD i 0)) hlen;have hlk:=Bj (h.rel.heard (L.getD i 0)) (gZ L hL i om) (L.getD i 0) hc;have hl2:(((k.heard (L.getD i 0)).keep (L.getD i 0-48)).adv).last=M.eP (L.take (i+1)):=by rw[Wk.keepadv_last];exact ht.symm
  have hrun2:(((k.heard (L.getD i 0)).keep (L.getD i 0-48)).adv).field<=11->(((k.heard (L.getD i 0)).keep (L.getD i 0-48)).adv).last.2<=5:=by
   intro hf;have h1:=oW (k.heard (L.getD i 0)) (L.getD i 0-48);have h2:k.field<=11:=nT h1 hf;rw[Wk.keepadv_last];show (M.gl k.last _).2<=5;have h3:=M.eR k.last (L.getD i 0);have h4:=h.run h2;have h5:¬ k.last.2=5:=fun e=>hd (by simp[Wk.due,h2,e]);omega
  rw[e1,e3];refine⟨by rw[e2];exact hlk,hr.toVals,fun hg=>⟨?_,by rw[e2];exact hlk,?_,hl2,hrun2,?_⟩⟩
  .rw[e3];exact hr.code _
  .rw[e4,e3];exact zR L hL (i+1) hi (((k.heard (L.getD i 0)).keep (L.getD i 0-48)).adv) _ hr hl2 hrun2
  .show (((k.heard (L.getD i 0)).keep (L.getD i 0-48)).adv).field<=14;rw[hr.field];have hH:=bz (sw L i).2.1;have hE:=cI (sw L i).2.1;have a:=Fh ((sw L i).2.1++[L.getD i 0]).length _ _ (bz ((sw L i).2.1++[L.getD i 0])) (cI ((sw L i).2.1++[L.getD i 0]));rw[qe,qm] at a ⊢;refine Classical.byContradiction fun hno=>?_;have hno:=a.1 hno;have hH':=bz ((sw L i).2.1++[L.getD i 0]);have hE':=cI ((sw L i).2.1++[L.getD i 0]);have b1:aY (sw L i).2.1<=(sw L i).2.1.length:=by
    have:=cT (sw L i).2.1 (L.getD i 0) om;omega
   have b2:=fj (sw L i).2.1 (L.getD i 0) b1;have b3:(sw L i).2.1.length=cv (sw L i).2.1+24:=om;have b4:ar (sw L i).2.1=14:=by rw[dG,Fi _ _ _ hH hE];omega
   rw[e2] at hg;unfold cF at hg;rw[b4,uT b1] at hg;simp[b3,av] at hg;split at hg <;> omega
def Vals.code {k:Wk} (h:Vals k p) (c:Nat):Vals { k with code:=c } p:={ ext:=h.ext,rtr:=h.rtr,dlc:=h.dlc,sum:=h.sum,crc:=h.crc,id:=h.id,data:=h.data }
def mK (L:List Nat) (hL:∀ x ∈ L,M.isL x):∀ f i (k:Wk),i+f=L.length->Cp L i k->av (sw L i).1=true ->
  (k.over (L.drop i)).code=(swF L f i).1/\(av (swF L f i).1=true->(k.over (L.drop i)).field=ar (swF L f i).2.1/\(k.over (L.drop i)).due=(swF L f i).2.2/\(k.over (L.drop i)).crcOk=gn (swF L f i).2.1) /\
  ((swF L f i).1≠7->Vals (k.over (L.drop i)) (swF L f i).2.1)
 | 0,i,k,hi,h,hg=>by
  rw[qq om];show k.code=(sw L i).1/\(_->k.field=ar (sw L i).2.1/\k.due=(sw L i).2.2/\k.crcOk=gn (sw L i).2.1)/\(_->Vals k (sw L i).2.1)
  exact⟨h.code,fun _=>⟨by rw[dG,h.rel.field],h.due,rP h.rel (gZ L hL i om)⟩,fun _=>h.rel.toVals⟩
 | f+1,i,k,hi,h,hg=>by
  have hlt:i<L.length:=om;have e:L.getD i 0=L[i]:=by simp[hlt]
  obtain⟨s1,s2,s3⟩:=vQ L hL i hlt k h;have ed:L.drop i=L.getD i 0 :: L.drop (i+1):=by rw[e];exact List.drop_eq_getElem_cons hlt
  have eF:swF L (f+1) i=swF L f (i+1):=by
   show (if av (sw L i).1=true then _ else _)=_;rw[qc hg]
  rw[ed,eF]
  have eo:k.over (L.getD i 0 :: L.drop (i+1))=if av (k.take (L.getD i 0)).2=true then Wk.over { (k.take (L.getD i 0)).1 with code:=(k.take (L.getD i 0)).2 } (L.drop (i+1))
   else if L.drop (i+1)=[] then { (k.take (L.getD i 0)).1 with code:=(k.take (L.getD i 0)).2 } else { (k.take (L.getD i 0)).1 with code:=7 }:=rfl
  rw[eo];by_cases hg2:av (sw L (i+1)).1=true
  .rw[qc (by rw[s1];exact hg2)];exact mK L hL f (i+1) _ om (s3 hg2) hg2
  .rw[qa (by rw[s1];exact hg2)];cases f with
   | zero=>
    rw[qc (qq om)];show (k.take (L.getD i 0)).2=(sw L (i+1)).1/\(av (sw L (i+1)).1=true->_)/\(_->Vals _ (sw L (i+1)).2.1)
    exact⟨s1,fun a=>Qy a hg2,fun _=>s2.code _⟩
   | succ f=>
    have hne:¬ L.drop (i+1)=[]:=by rw[List.drop_eq_nil_iff];omega
    have eF2:swF L (f+1) (i+1)=(7,(sw L (i+1)).2.1,false):=by
     show (if av (sw L (i+1)).1=true then _ else _)=_;rw[qa hg2]
    rw[qa hne,eF2];refine⟨rfl,fun a=>?_,fun a=>Qy rfl a⟩;cases a
def o9 (L:List Nat) (hL:∀ x ∈ L,M.isL x) :
  (Wk.init.over L).code=(swF L L.length 0).1/\(av (swF L L.length 0).1=true->(Wk.init.over L).field=ar (swF L L.length 0).2.1/\(Wk.init.over L).due=(swF L L.length 0).2.2/\(Wk.init.over L).crcOk=gn (swF L L.length 0).2.1) /\
  ((swF L L.length 0).1≠7->Vals (Wk.init.over L) (swF L L.length 0).2.1):=by
 have:=mK L hL L.length 0 Wk.init om (EC L) rfl;rwa [List.drop_zero] at this
def tD (s:ByteArray):gH (bH s)=sjV (swZ s).1 (swZ s).2.1 (swZ s).2.2:=by
 unfold bH swZ;by_cases hk:okT s 4000=true
 .rw[qc hk,qc hk];obtain⟨h1,h2,-⟩:=o9 (lt s) (gC hk);unfold gH sjV;rw[h1];by_cases hg:av (swF (lt s) (lt s).length 0).1=true
  .obtain⟨h3,h4,h5⟩:=h2 hg;rw[qc hg,qc hg,h3,h4,h5]
  .rw[qa hg,qa hg]
 .rw[qa hk,qa hk];rfl
def Kf (c:Nat) (p:List Nat) (d:Bool):∃ c' f':Nat,∃ d' o':Bool,sjV c p d = aG #[I J (c':Int),I J (f':Int),bO d',bO o']:=by
 unfold sjV;split
 .exact⟨_,_,_,_,rfl⟩
 .exact⟨_,0,_,_,rfl⟩
end
open Go.IntKind renaming i64->J,u32->Zk
section
variable {w:World} {B:Nat} {v:Value} {l:List Nat}
def we (k:Wk):Wk:=if k.code=1\/k.code=2 then k else Wk.zero
def Mu {w1:World} (h:Below (w.alloc (.cells #[bO false,I Zk 0,bO false,I J 0,sL nn 0 0] 67)).heap.size (w.alloc (.cells #[bO false,I Zk 0,bO false,I J 0,sL nn 0 0] 67)) w1) :
  w1.heap[w.heap.size]?=sQ (.cells #[bO false,I Zk 0,bO false,I J 0,sL nn 0 0] 67 (0,0))/\Bl w w1:=by
 refine⟨(h.block _ pQ).trans (QN w _),?_⟩;exact Zw.trans (h.mono pQ)
def aa.lower {B':Nat} (h:aa w B v l) (hB:B'<=B):aa w B' v l:=by
 obtain⟨h1,h2|⟨g,cap,cur,rfl,hb,rest⟩⟩:=h
 .exact⟨h1,.inl h2⟩
 .exact⟨h1,.inr ⟨g,cap,cur,rfl,nT hB hb,rest⟩⟩
def xf.set5 {w0:World} {g:Nat} {W:World} (h:xf w0 B g v l W) (x0 x1 x2 x3 x4:Value):xf w0 B g v l (((((W.setCell ⟨g,0,nn⟩ x0).setCell ⟨g,1,nn⟩ x1).setCell ⟨g,2,nn⟩ x2).setCell ⟨g,3,nn⟩ x3).setCell ⟨g,4,nn⟩ x4):=
 ((((h.set 0 x0).set 1 x1).set 2 x2).set 3 x3).set 4 x4
def JM (s:ByteArray) (w:World) :
  Calls Tp 288 #[.string s] w fun e w'=>∃ ao cap,e = rT (.tuple #[frV (we (bH s)).ext (we (bH s)).id (we (bH s)).rtr ((we (bH s)).dlc:Int) ao (we (bH s)).data.length cap,I J ((bH s).code:Int)])/\aa w' w.heap.size (sL ao (we (bH s)).data.length cap) (we (bH s)).data/\Bl w w':=by
 go_enter func288,ntmps288;go_wp2_with fail;refine (sk s _).mono ?_;rintro e w1 ⟨ao,cap,rfl,ho,hb1⟩;obtain⟨hr,hb⟩:=Mu hb1;have ho':aa w1 w.heap.size (sL ao (bH s).data.length cap) (bH s).data:=ho.lower pQ;clear hb1 ho;generalize hz:bH s=k at *;have HZ:Hid (bH s=k):=hz;clear hz;unfold Wk.val;have hw:bG (w1.alloc (.cells #[I J (k.field:Int),I J (k.taken:Int),I .i32 (k.last.1:Int),I J (k.last.2:Int),I J (k.sum:Int),I J (k.crc:Int),bO k.ext,I Zk (k.id:Int),bO k.rtr,I J (k.dlc:Int),sL ao k.data.length cap,I J (k.code:Int)] 214)) w1.heap.size k (sL ao k.data.length cap):=QN w1 _;have he:xf w w.heap.size w.heap.size (sL ao k.data.length cap) k.data (w1.alloc (.cells #[I J (k.field:Int),I J (k.taken:Int),I .i32 (k.last.1:Int),I J (k.last.2:Int),I J (k.sum:Int),I J (k.crc:Int),bO k.ext,I Zk (k.id:Int),bO k.rtr,I J (k.dlc:Int),sL ao k.data.length cap,I J (k.code:Int)] 214)):=⟨QM ho' _,⟨_,(Below.heap_alloc w1 _ w.heap.size (QX hr)).trans hr⟩,hb.alloc hb.size _,nR _⟩
 have hrr:(w1.alloc (.cells #[I J (k.field:Int),I J (k.taken:Int),I .i32 (k.last.1:Int),I J (k.last.2:Int),I J (k.sum:Int),I J (k.crc:Int),bO k.ext,I Zk (k.id:Int),bO k.rtr,I J (k.dlc:Int),sL ao k.data.length cap,I J (k.code:Int)] 214)).heap[w.heap.size]?=sQ (.cells #[bO false,I Zk 0,bO false,I J 0,sL nn 0 0] 67 (0,0)):=(Below.heap_alloc w1 _ w.heap.size (QX hr)).trans hr;obtain⟨c0,c1,c2,c3,c4,c5,c6,c7,c8,c9,c10,c11⟩:=hw.cells;have d0:(w1.alloc (.cells #[I J (k.field:Int),I J (k.taken:Int),I .i32 (k.last.1:Int),I J (k.last.2:Int),I J (k.sum:Int),I J (k.crc:Int),bO k.ext,I Zk (k.id:Int),bO k.rtr,I J (k.dlc:Int),sL ao k.data.length cap,I J (k.code:Int)] 214)).cell? ⟨w.heap.size,0,nn⟩=sQ (bO false):=by simp[World.cell?,hrr]
 have d1:(w1.alloc (.cells #[I J (k.field:Int),I J (k.taken:Int),I .i32 (k.last.1:Int),I J (k.last.2:Int),I J (k.sum:Int),I J (k.crc:Int),bO k.ext,I Zk (k.id:Int),bO k.rtr,I J (k.dlc:Int),sL ao k.data.length cap,I J (k.code:Int)] 214)).cell? ⟨w.heap.size,1,nn⟩=sQ (I Zk 0):=by simp[World.cell?,hrr]
 have d2:(w1.alloc (.cells #[I J (k.field:Int),I J (k.taken:Int),I .i32 (k.last.1:Int),I J (k.last.2:Int),I J (k.sum:Int),I J (k.crc:Int),bO k.ext,I Zk (k.id:Int),bO k.rtr,I J (k.dlc:Int),sL ao k.data.length cap,I J (k.code:Int)] 214)).cell? ⟨w.heap.size,2,nn⟩=sQ (bO false):=by simp[World.cell?,hrr]
 have d3:(w1.alloc (.cells #[I J (k.field:Int),I J (k.taken:Int),I .i32 (k.last.1:Int),I J (k.last.2:Int),I J (k.sum:Int),I J (k.crc:Int),bO k.ext,I Zk (k.id:Int),bO k.rtr,I J (k.dlc:Int),sL ao k.data.length cap,I J (k.code:Int)] 214)).cell? ⟨w.heap.size,3,nn⟩=sQ (I J 0):=by simp[World.cell?,hrr]
 have d4:(w1.alloc (.cells #[I J (k.field:Int),I J (k.taken:Int),I .i32 (k.last.1:Int),I J (k.last.2:Int),I J (k.sum:Int),I J (k.crc:Int),bO k.ext,I Zk (k.id:Int),bO k.rtr,I J (k.dlc:Int),sL ao k.data.length cap,I J (k.code:Int)] 214)).cell? ⟨w.heap.size,4,nn⟩=sQ (sL nn 0 0):=by simp[World.cell?,hrr]
 have z0:(w1.alloc (.cells #[I J (k.field:Int),I J (k.taken:Int),I .i32 (k.last.1:Int),I J (k.last.2:Int),I J (k.sum:Int),I J (k.crc:Int),bO k.ext,I Zk (k.id:Int),bO k.rtr,I J (k.dlc:Int),sL ao k.data.length cap,I J (k.code:Int)] 214)).frozen? ⟨w.heap.size,0,nn⟩=false:=by simp[World.frozen?,hrr]
 have z1:(w1.alloc (.cells #[I J (k.field:Int),I J (k.taken:Int),I .i32 (k.last.1:Int),I J (k.last.2:Int),I J (k.sum:Int),I J (k.crc:Int),bO k.ext,I Zk (k.id:Int),bO k.rtr,I J (k.dlc:Int),sL ao k.data.length cap,I J (k.code:Int)] 214)).frozen? ⟨w.heap.size,1,nn⟩=false:=by simp[World.frozen?,hrr]
 have z2:(w1.alloc (.cells #[I J (k.field:Int),I J (k.taken:Int),I .i32 (k.last.1:Int),I J (k.last.2:Int),I J (k.sum:Int),I J (k.crc:Int),bO k.ext,I Zk (k.id:Int),bO k.rtr,I J (k.dlc:Int),sL ao k.data.length cap,I J (k.code:Int)] 214)).frozen? ⟨w.heap.size,2,nn⟩=false:=by simp[World.frozen?,hrr]
 have z3:(w1.alloc (.cells #[I J (k.field:Int),I J (k.taken:Int),I .i32 (k.last.1:Int),I J (k.last.2:Int),I J (k.sum:Int),I J (k.crc:Int),bO k.ext,I Zk (k.id:Int),bO k.rtr,I J (k.dlc:Int),sL ao k.data.length cap,I J (k.code:Int)] 214)).frozen? ⟨w.heap.size,3,nn⟩=false:=by simp[World.frozen?,hrr]
 have z4:(w1.alloc (.cells #[I J (k.field:Int),I J (k.taken:Int),I .i32 (k.last.1:Int),I J (k.last.2:Int),I J (k.sum:Int),I J (k.crc:Int),bO k.ext,I Zk (k.id:Int),bO k.rtr,I J (k.dlc:Int),sL ao k.data.length cap,I J (k.code:Int)] 214)).frozen? ⟨w.heap.size,4,nn⟩=false:=by simp[World.frozen?,hrr]
 have HE:Hid (xf w w.heap.size w.heap.size (sL ao k.data.length cap) k.data (w1.alloc (.cells #[I J (k.field:Int),I J (k.taken:Int),I .i32 (k.last.1:Int),I J (k.last.2:Int),I J (k.sum:Int),I J (k.crc:Int),bO k.ext,I Zk (k.id:Int),bO k.rtr,I J (k.dlc:Int),sL ao k.data.length cap,I J (k.code:Int)] 214))):=he;clear hr hb hw he hrr ho';by_cases hc:k.code=1\/k.code=2
 .have HD:Hid (we (bH s)=k):=by unfold Hid;rw[HZ.o];unfold we;rw[qc hc]
  have h12:(((k.code:Int) != 1)=false/\((k.code:Int) != 2)=true)\/(((k.code:Int) != 1)=true/\((k.code:Int) != 2)=false):=by
   rcases hc with h | h <;> rw[h] <;> decide
  clear hc;rcases h12 with⟨h1,h2⟩|⟨h1,h2⟩
  .go_wp2;generalize w1.alloc (.cells #[I J (k.field:Int),I J (k.taken:Int),I .i32 (k.last.1:Int),I J (k.last.2:Int),I J (k.sum:Int),I J (k.crc:Int),bO k.ext,I Zk (k.id:Int),bO k.rtr,I J (k.dlc:Int),sL ao k.data.length cap,I J (k.code:Int)] 214)=W at *;generalize w1.heap.size=b at *;go_region;all_goals
    go_wp2;refine QE (v:=.tuple #[frV k.ext k.id k.rtr (k.dlc:Int) ao k.data.length cap,I J (k.code:Int)]) ?_ rfl ⟨ao,cap,by rw[HD.o,HZ.o],?_⟩
    .simp[results,results288,go_sem,d0,d1,d2,d3,d4]
    .rw[HD.o];have:=HE.o.drew.set5 (bO k.ext) (I Zk (k.id:Int)) (bO k.rtr) (I J (k.dlc:Int)) (sL ao k.data.length cap);exact⟨this.own,this.bel⟩
  .go_wp2;generalize w1.alloc (.cells #[I J (k.field:Int),I J (k.taken:Int),I .i32 (k.last.1:Int),I J (k.last.2:Int),I J (k.sum:Int),I J (k.crc:Int),bO k.ext,I Zk (k.id:Int),bO k.rtr,I J (k.dlc:Int),sL ao k.data.length cap,I J (k.code:Int)] 214)=W at *;generalize w1.heap.size=b at *;go_region;all_goals
    go_wp2;refine QE (v:=.tuple #[frV k.ext k.id k.rtr (k.dlc:Int) ao k.data.length cap,I J (k.code:Int)]) ?_ rfl ⟨ao,cap,by rw[HD.o,HZ.o],?_⟩
    .simp[results,results288,go_sem,d0,d1,d2,d3,d4]
    .rw[HD.o];have:=HE.o.drew.set5 (bO k.ext) (I Zk (k.id:Int)) (bO k.rtr) (I J (k.dlc:Int)) (sL ao k.data.length cap);exact⟨this.own,this.bel⟩
 .have HD:Hid (we (bH s)=Wk.zero):=by unfold Hid;rw[HZ.o];unfold we;rw[qa hc]
  have h1:((k.code:Int) != 1)=true:=by simp;omega
  have h2:((k.code:Int) != 2)=true:=by simp;omega
  clear hc;go_wp2;generalize w1.alloc (.cells #[I J (k.field:Int),I J (k.taken:Int),I .i32 (k.last.1:Int),I J (k.last.2:Int),I J (k.sum:Int),I J (k.crc:Int),bO k.ext,I Zk (k.id:Int),bO k.rtr,I J (k.dlc:Int),sL ao k.data.length cap,I J (k.code:Int)] 214)=W at *;generalize w1.heap.size=b at *;go_region;all_goals
   go_wp2;refine QE (v:=.tuple #[frV false 0 false 0 nn 0 0,I J (k.code:Int)]) ?_ rfl ⟨nn,0,by rw[HD.o,HZ.o];rfl,?_⟩
   .simp[results,results288,go_sem,d0,d1,d2,d3,d4]
   .rw[HD.o];have:=HE.o.drew.set5 (bO false) (I Zk 0) (bO false) (I J 0) (sL nn 0 0);exact⟨pL _ _,this.bel⟩
def IK (p:List Nat):kP p<=8:=by unfold kP;split <;> omega
end
end Go.Proofs.YtgfolecanghhhaaGreat
