import Derived.Test.YtgfolecanghhhaaGreatK38
import Derived.Test.YtgfolecanghhhaaGreatK27
import Derived.Test.YtgfolecanghhhaaGreatK22
namespace Go.Proofs.YtgfolecanghhhaaGreat
open Go.RowKit
set_option linter.all false
def imB (E hd:ByteArray):Prop:=hd.size<E.size/\∀ i (h:i<hd.size) (h':i<E.size),hd[i].toNat=if i=E.size-9 then 48 else E[i].toNat
def tI (E:ByteArray) (i:Nat) (h:i<E.size):E[i]=E.data.toList[i]'(by rw[<- Go.Lib.size_eq];exact h):=by
 rw[Array.getElem_toList];rfl
def LC (E hd:ByteArray):imB E hd↔imP E.data.toList hd.data.toList:=by
 have s1:=Go.Lib.size_eq E;have s2:=Go.Lib.size_eq hd;constructor
 .rintro⟨h1,H⟩;refine⟨om,fun i h h'=>?_⟩;have:=H i om om;rw[tI E i om,tI hd i om] at this;rw[<- s1];split at this
  .rename_i e;rw[qc e];exact UInt8.toNat_inj.1 this
  .rename_i e;rw[qa e];exact UInt8.toNat_inj.1 this
 .rintro⟨h1,H⟩;refine⟨om,fun i h h'=>?_⟩;have:=H i om om;rw[tI E i h',tI hd i h,this];by_cases e:i=E.size-9
  .rw[qc e,qc om];rfl
  .rw[qa e,qa om]
def BC (E hd:ByteArray) (h:10<=E.size):imB E hd↔(hd.size<(jQ E).size/\Go.Lib.hasPrefix (jQ E).data.toList hd.data.toList=true):=by
 rw[LC,<- BA,<- xy E h,<- Go.Lib.size_eq,<- Go.Lib.size_eq]
def hkP (C:Co) (hd:ByteArray) (vc:Nat):Prop:=if C.p=1 then (if C.tx=true then imB (dq C) hd else (hd.size≠0/\(vc=0\/vc=1))) else hd.size=0
def fH (C:Co) (hd:ByteArray) (vc:Nat):Prop:=MV C/\hkP C hd vc
open Go.Proofs.Tryz
set_option maxRecDepth 20000
set_option maxHeartbeats 16000000
open Go.Value renaming int->I,slice->sL,bool->bO,pointer->pT,agg->aG
open Go.IntKind renaming i64->J
open Go.Ending renaming returned->rT
open Go.Proofs.Tryz renaming prog->Tp
def AP (l:List Nat) (h:∀ x ∈ l,M.isL x) (i:Nat) (hi:i<(ae l).size):(ae l)[i].toNat=48\/(ae l)[i].toNat=49:=by
 have hl:i<l.length:=by rw[<- aN];exact hi
 have e:(ae l)[i].toNat=l[i] % 256:=by
  rw[tI _ i hi];simp[ae]
 have h2:=h l[i] (qn hl);rw[e];rcases h2 with h2 | h2 <;> rw[h2] <;> decide
def zP (e:Bool) (i:Nat) (r:Bool) (d:Int) (l:List Nat) (h:vB e i r d l.length=true) (hl:l.length<=8):10<=(eV e i r d l.length l).size/\(eV e i r d l.length l).size<=1000/\∀ k (hk:k<(eV e i r d l.length l).size),(eV e i r d l.length l)[k].toNat=48\/(eV e i r d l.length l)[k].toNat=49:=by
 have e1:eV e i r d l.length l=ae (M.fP (ab e i r d.toNat l)++List.replicate 10 49):=by unfold eV;rw[qc h]
 rw[e1];have hL:∀ x ∈ M.fP (ab e i r d.toNat l)++List.replicate 10 49,M.isL x:=by
  intro x hx;rcases List.mem_append.1 hx with h1|h1
  .exact M.Em _ (cQ e i r d.toNat l) x h1
  .exact qx (List.eq_of_mem_replicate h1)
 refine⟨?_,?_,fun k hk=>AP _ hL k hk⟩
 .rw[aN,qe,List.length_replicate];omega
 .rw[aN,qe,List.length_replicate];have h1:=M.El (ab e i r d.toNat l);have h2:=ew e i r d.toNat l;split at h2 <;> omega
def iA (C:Co) (h:MV C) (hw:wrP C.ho.bx):10<=(dq C).size/\(dq C).size<=1000/\∀ i (hi:i<(dq C).size),(dq C)[i].toNat=48\/(dq C)[i].toNat=49:=by
 have hk:=kC hw;have h1:=h.h.bx.1 (onI C.ho.bx) hk;have hx:C.ho.bx[onI C.ho.bx].x≠0:=by
  have:=List.findIdx_getElem (xs:=C.ho.bx) (p:=fun b:R8=>b.x == 2 || b.x == 3) (w:=hk);intro e;have h2:(C.ho.bx[onI C.ho.bx].x == 2 || C.ho.bx[onI C.ho.bx].x == 3)=true:=this;rw[e] at h2;simp at h2
 unfold cZ at h1;rw[qa hx] at h1;rw[jq C hk];have hv:=h1.2.2.2;generalize C.ho.bx[onI C.ho.bx]=b at *;exact zP _ _ _ _ _ hv (cN hv).2.2.2.2
def ze (w:World) (C:Co) (s:Sl) (hd:ByteArray) (vc vf:Nat) (vd vo:Bool) (h:aK w C.ho s) (hn:C.ho.le 1048576)
  (hj:∀ W,Calls Tp 16 #[.string hd] W fun o w'=>o = rT (aG #[I J (vc:Int),I J (vf:Int),bO vd,bO vo])/\Bl W w') :
  Calls Tp 12 #[aG (rfL C s hd).toArray] w fun o w'=>cK o (fH C hd vc)/\Bl w w':=by
 have H0:Hid (blk (w.alloc (.cells (rfL C s hd).toArray 45)) w.heap.size (rfL C s hd) 45/\Bl w (w.alloc (.cells (rfL C s hd).toArray 45))):=⟨blk.new w _ 45,Zw⟩
 have HJ:=ah hj;obtain⟨v0,hv0⟩ : ∃ v0,v0=w.alloc (.cells (rfL C s hd).toArray 45):=⟨_,rfl⟩
 rw[<- hv0] at H0;by_cases hok:MV C
 .have HV:=ah (FP v0 C s (h.below H0.o.2) hn hok);have hn2:s.n2<=8:=by have h1:=h.bx.len;have h2:=hok.h.n2;omega
  have HWR:Hid (C.p=1->C.tx=true->wrP C.ho.bx):=fun h1 h2=>hok.s.1 ⟨h1,h2⟩;have HIM:Hid (C.p=1->C.tx=true->∀ V,Bl w V->Calls Tp 27 #[aG (coL C s).toArray] V fun o w'=>∃ (e:Bool) (i:Nat) (r:Bool) (d:Int) (ao:Option Addr) (m c:Nat) (l:Unit),o = rT (frV e i r d ao m c)/\Bl V w'/\Calls Tp 26 #[frV e i r d ao m c] w' fun o w2=>o = rT (.string (dq C))/\Bl w' w2):=fun h1 h2 V hV=>m5 V C s (h.below hV) hn2 (HWR.o h1 h2);have HSZ:Hid (C.p=1->C.tx=true->10<=(dq C).size/\(dq C).size<=1000/\∀ i (hi:i<(dq C).size),(dq C)[i].toNat=48\/(dq C)[i].toNat=49):=fun h1 h2=>iA C hok (HWR.o h1 h2);have HOK:Hid (fH C hd vc↔hkP C hd vc):=⟨fun x=>x.2,fun x=>⟨hok,x⟩⟩
  clear h hn hj hok;go_enter func12,ntmps12;go_upto_region 1 with fail
  rw[<- hv0];clear hv0;go_wp2_with (refine ZG 43 (fZ H0.o.1) underlying43 (cy C s) ?_);refine HV.o.mono ?_;rintro o w1 ⟨rfl,hb1⟩;have H1:=ah (qG (H0.o.1.below hb1) (H0.o.2.trans (hb1.mono H0.o.2.size)));have y0:=H1.o.1.cell 0 (I J C.p) rfl;have y6:=H1.o.1.cell 6 (bO C.tx) rfl;have y21:=H1.o.1.cell 21 (.string hd) rfl;clear hb1 HV H0;obtain⟨p1,ep,np,fp⟩ : ∃ b:Bool,(C.p == 1)=b/\(C.p != 1) = !b/\Hid (b=true↔C.p=1):=⟨_,rfl,rfl,by show _↔_;simp⟩
  cases p1
  .go_wp2_with fail;go_ret;refine⟨⟨_,rfl,?_⟩,H1.o.2⟩;rw[HOK.o];unfold hkP;rw[qa (by simpa using fp.o)];simp
  .have hp:C.p=1:=fp.o.1 rfl;have HP:=ah hp;rw[hp] at y0;clear fp hp;obtain⟨tx,et⟩ : ∃ b,C.tx=b:=⟨_,rfl⟩
   have HT:=ah et;rw[et] at y6;clear et;go_wp2_with fail;refine (HJ.o _).mono ?_;rintro o w2 ⟨rfl,hb2⟩;have H2:Hid (blk w2 w.heap.size (rfL C s hd) 45/\Bl w w2/\blk (w2.alloc (.cells [I J 0,I J 0,bO false,bO false].toArray 57)) w2.heap.size [I J 0,I J 0,bO false,bO false] 57):=⟨H1.o.1.below hb2,H1.o.2.trans (hb2.mono H1.o.2.size),blk.new w2 _ 57⟩
   clear hb2 H1 y0 y6 y21;go_upto_region 6 with (refine Zs 57 [I J (vc:Int),I J (vf:Int),bO vd,bO vo].toArray (H2.o.2.2.there 0 4 pQ) kr (QK (by simp[Value.oneCell'])) ?_;generalize hW3:World.setCells _ w2.heap.size 0 _=w3;have HW3:Hid (_=w3):=hW3;clear hW3)
   have H3:Hid (blk w3 w.heap.size (rfL C s hd) 45/\Bl w w3/\blk w3 w2.heap.size [I J (vc:Int),I J (vf:Int),bO vd,bO vo] 57):=by
    have e:(w2.alloc (.cells [I J 0,I J 0,bO false,bO false].toArray 57)).setCells w2.heap.size 0 [I J (vc:Int),I J (vf:Int),bO vd,bO vo]=w3:=HW3.o;have hb:Bl w2 w3:=by rw[<- e];exact sW (nR _) 0 _ Zw
    refine⟨H2.o.1.below hb,H2.o.2.1.trans (hb.mono H2.o.2.1.size),?_⟩;rw[<- e];have:=blk.put [] [I J 0,I J 0,bO false,bO false] [] [I J (vc:Int),I J (vf:Int),bO vd,bO vo] (w:=w2.alloc (.cells [I J 0,I J 0,bO false,bO false].toArray 57)) (b:=w2.heap.size) (T:=57) (by simpa using H2.o.2.2) rfl;simpa using this
   clear H2 HW3;have y6:=H3.o.1.cell 6 (bO C.tx) rfl;have y21:=H3.o.1.cell 21 (.string hd) rfl;have z0:=H3.o.2.2.cell 0 (I J (vc:Int)) rfl;rw[HT.o] at y6;cases tx
   .have HK:Hid (fH C hd vc↔(hd.size≠0/\(vc=0\/vc=1))):=by
     show _↔_;rw[HOK.o];unfold hkP;rw[qc HP.o,qa (by rw[HT.o];simp)]
    clear HOK;by_cases h0:hd.size=0
    .have g0:¬ (0:Int)<(hd.size:Int):=om;go_wp2_with fail;go_ret;exact⟨⟨false,rfl,⟨fun x=>(by cases x),fun x=>Qy h0 (HK.o.1 x).1⟩⟩,H3.o.2.1⟩
    .have g0:(0:Int)<(hd.size:Int):=om;by_cases c0:vc=0
     .have b0:((vc:Int) == 0)=true:=by simp[c0]
      go_wp2_with fail;go_ret;exact⟨⟨true,rfl,⟨fun _=>HK.o.2 ⟨h0,qr c0⟩,fun _=>rfl⟩⟩,H3.o.2.1⟩
     .have b0:((vc:Int) == 0)=false:=by simp[c0]
      obtain⟨b1,e1,f1⟩ : ∃ b:Bool,((vc:Int) == 1)=b/\Hid (b=true↔vc=1):=⟨_,rfl,by show _↔_;simp;omega⟩
      go_wp2_with fail;go_ret;refine⟨⟨b1,rfl,?_⟩,H3.o.2.1⟩;rw[HK.o,f1.o];exact⟨fun x=>⟨h0,qx x⟩,fun x=>by rcases x.2 with y | y;exact Qy y c0;exact y⟩
   .have HK:Hid (fH C hd vc↔imB (dq C) hd):=by
     show _↔_;rw[HOK.o];unfold hkP;rw[qc HP.o,qc HT.o]
    have hsz:=HSZ.o HP.o HT.o;have HIM:=ah (HIM.o HP.o HT.o);clear HOK HSZ HWR HP HT z0;generalize dq C=E at *;go_wp2_with (refine ZG 43 (fZ H3.o.1) underlying43 (cy C s) ?_);refine (HIM.o w3 H3.o.2.1).mono ?_;rintro o w4 ⟨e,i,r,d,ao,m,c,_,rfl,hb4,hE⟩;have HE:=ah hE;have H4:=ah (qG (H3.o.1.below hb4) (H3.o.2.1.trans (hb4.mono H3.o.2.1.size)));clear hE hb4 H3 y6 y21;go_wp2_with fail;refine HE.o.mono ?_;rintro o w5 ⟨rfl,hb5⟩;have H5:=ah (qG (H4.o.1.below hb5) (H4.o.2.trans (hb5.mono H4.o.2.size)));have y21:=H5.o.1.cell 21 (.string hd) rfl;clear hb5 H4 HE HIM;by_cases hlt:¬ hd.size<E.size
    .have g0:(E.size:Int)<=(hd.size:Int):=om;go_wp2_with fail;go_ret;exact⟨⟨false,rfl,⟨fun x=>(by cases x),fun x=>Qy (HK.o.1 x).1 hlt⟩⟩,H5.o.2⟩
    have hlt:hd.size<E.size:=Classical.not_not.1 hlt;have g0:¬ (E.size:Int)<=(hd.size:Int):=om;have hd1:hd.size<=1048576:=om;have hwr:IntKind.i64.wrap ((E.size:Int)-9)=((E.size-9:Nat):Int):=by rw[QR];omega
    have HSZ:=ah hsz;go_wp2_with fail;clear hsz;go_loopw [6] (fun t wr=>∃ k:Nat,k<=hd.size/\t = I J (k:Int)/\(∀ i (h:i<hd.size) (h':i<E.size),i<k->hd[i].toNat=if i=E.size-9 then 48 else E[i].toNat)/\wr=w5) (fun t _=>hd.size-(intOf t).toNat);case atStart=>exact⟨0,nZ _,rfl,fun i h h' h0=>Qy h0 (nN _),rfl⟩
    case round=>
     obtain⟨k,hk,rfl,hd0,hwv⟩:=hrel;have hwv:=hwv.symm;subst hwv;have HD0:=ah hd0;clear hd0;by_cases hkl:k<hd.size
     .have hke:k<E.size:=om;by_cases hka:k=E.size-9
      .have e9:((k:Int) == ((E.size-9:Nat):Int))=true:=by simp[hka]
       have HKA:=ah hka;clear hka;by_cases hx:hd[k].toNat=48
       .have n1:((hd[k].toNat:Int) != 48)=false:=by simp[hx]
        have HXX:=ah hx;clear hx;go_wp2_with fail;go_roundw;case rel=>
         refine⟨k+1,om,by go_num,fun i h h' hi=>?_,trivial⟩;by_cases e:i=k
         .subst e;rw[qc HKA.o];exact HXX.o
         .exact HD0.o i h h' om
        case measure=>simp[intOf];omega
       .have n1:((hd[k].toNat:Int) != 48)=true:=by simp;omega
        have HXX:=ah hx;clear hx;go_wp2_with fail;go_ret;refine⟨⟨false,rfl,⟨fun x=>(by cases x),fun x=>?_⟩⟩,H5.o.2⟩;have h2:=(HK.o.1 x).2 k hkl hke;rw[qc HKA.o] at h2;exact Qy h2 HXX.o
      .have e9:((k:Int) == ((E.size-9:Nat):Int))=false:=by simp;omega
       have HKA:=ah hka;clear hka;by_cases hx:hd[k].toNat=E[k].toNat
       .have n1:((hd[k].toNat:Int) != (E[k].toNat:Int))=false:=by simp[hx]
        have HXX:=ah hx;clear hx;go_wp2_with fail;go_roundw;case rel=>
         refine⟨k+1,om,by go_num,fun i h h' hi=>?_,trivial⟩;by_cases e:i=k
         .subst e;rw[qa HKA.o];exact HXX.o
         .exact HD0.o i h h' om
        case measure=>simp[intOf];omega
       .have n1:((hd[k].toNat:Int) != (E[k].toNat:Int))=true:=by simp;omega
        have HXX:=ah hx;clear hx;go_wp2_with fail;go_ret;refine⟨⟨false,rfl,⟨fun x=>(by cases x),fun x=>?_⟩⟩,H5.o.2⟩;have h2:=(HK.o.1 x).2 k hkl hke;rw[qa HKA.o] at h2;exact Qy h2 HXX.o
     .go_wp2_with fail;go_ret;exact⟨⟨true,rfl,⟨fun _=>HK.o.2 ⟨hlt,fun i h h'=>HD0.o i h h' om⟩,fun _=>rfl⟩⟩,H5.o.2⟩
 .have HV:=ah (Fv v0 C s (h.below H0.o.2) hn hok);have HOK:Hid (¬ fH C hd vc):=fun x=>hok x.1;clear h hn hj hok;go_enter func12,ntmps12;go_upto_region 1 with fail
  rw[<- hv0];clear hv0;go_wp2_with (refine ZG 43 (fZ H0.o.1) underlying43 (cy C s) ?_);refine HV.o.mono ?_;rintro o w1 ⟨rfl,hb1⟩;have H1:=ah (H0.o.2.trans (hb1.mono H0.o.2.size));clear hb1;go_wp2_with fail;go_ret;exact⟨⟨false,rfl,⟨fun x=>(by cases x),fun x=>Qy x HOK.o⟩⟩,H1.o⟩
open Option renaming none->nn,some->sQ
def zA (W:World) (M R:Nat) (p:Int) (tx:Bool) (hd:ByteArray) (em:Bool) (e1:(p == 1)=false) (he:hd.toList.isEmpty=em) (y0:W.cell? ⟨R,0,nn⟩=sQ (pT (sQ ⟨M,0,nn⟩))) (y1:W.cell? ⟨R,1,nn⟩=sQ (.string hd)) (y3:W.cell? ⟨M,3,nn⟩=sQ (I J p)) (y9:W.cell? ⟨M,9,nn⟩=sQ (bO tx)) :
  Calls Tp 38 #[pT (sQ ⟨R,0,nn⟩)] W fun o w'=>o = rT (bO em)/\w'=W:=by
 have HS:Hid (Calls Tp 86 #[pT (sQ ⟨M,0,nn⟩)] W fun o w'=>o = rT (bO false)/\w'=W):=ir W M false tx p e1 y3 y9;go_enter func38,ntmps38;go_wp2_with fail;refine HS.o.mono ?_;rintro o w1 ⟨rfl,rfl⟩;go_wp2_with fail;go_ret;exact⟨rfl,rfl⟩
def BN (vc vf:Nat) (vd vo:Bool):∀ w:World,(Instr.field 57 (aG #[I J (vc:Int),I J (vf:Int),bO vd,bO vo]) 0).run Tp w = .ok (I J (vc:Int)) w:=fun _=>by kernel_rfl
def tF (W:World) (M R:Nat) (hd:ByteArray) (em:Bool) (vc vf:Nat) (vd vo g:Bool) (hj:∀ W,Calls Tp 92 #[.string hd] W fun o w'=>o = rT (aG #[I J (vc:Int),I J (vf:Int),bO vd,bO vo])/\Bl W w') (eg:decide (vc=0\/vc=1)=g) (he:hd.toList.isEmpty=em) (y0:W.cell? ⟨R,0,nn⟩=sQ (pT (sQ ⟨M,0,nn⟩))) (y1:W.cell? ⟨R,1,nn⟩=sQ (.string hd)) (y3:W.cell? ⟨M,3,nn⟩=sQ (I J 1)) (y9:W.cell? ⟨M,9,nn⟩=sQ (bO false)) :
  Calls Tp 38 #[pT (sQ ⟨R,0,nn⟩)] W fun o w'=>o = rT (bO (!em && g))/\Bl W w':=by
 have HS:Hid (Calls Tp 86 #[pT (sQ ⟨M,0,nn⟩)] W fun o w'=>o = rT (bO false)/\w'=W):=ir W M true false 1 rfl y3 y9;have HJ:=ah hj;have HG:Hid (∀ W,Calls Tp 91 #[I J (vc:Int)] W fun o w'=>o = rT (bO g)/\W=w'):=fun W=>by rw[<- eg];exact iZ vc W
 have hf:=BN vc vf vd vo;have HR:=ah (bW W.heap.size W);clear hj eg;cases em
 .go_enter func38,ntmps38;go_wp2_with fail;refine HS.o.mono ?_;rintro o w1 ⟨rfl,rfl⟩;go_wp2_with fail;refine (HJ.o _).mono ?_;rintro o w2 ⟨rfl,hb2⟩;have HB:=ah hb2;clear hb2;go_wp2_with fail;refine (HG.o _).mono ?_;rintro o w3 ⟨rfl,rfl⟩;go_wp2_with fail;go_ret;exact⟨rfl,HB.o⟩
 .go_enter func38,ntmps38;go_wp2_with fail;refine HS.o.mono ?_;rintro o w1 ⟨rfl,rfl⟩;go_wp2_with fail;go_ret;exact⟨rfl,HR.o⟩
def tE (W:World) (M R P:Nat) (hd:ByteArray) (e:Bool) (i:Nat) (r:Bool) (d:Int) (l:List Nat) (E:ByteArray) (hE:eV e i r d l.length l=E) (h10:10<=E.size) (h1000:E.size<=1000) (lt pre:Bool) (el:lt=true↔hd.size<(jQ E).size) (ep:Go.Lib.hasPrefix (jQ E).data.toList hd.data.toList=pre)
  (y0:W.cell? ⟨R,0,nn⟩=sQ (pT (sQ ⟨M,0,nn⟩))) (y1:W.cell? ⟨R,1,nn⟩=sQ (.string hd)) (x0:W.cell? ⟨M,0,nn⟩=sQ (pT (sQ ⟨P,0,nn⟩))) (y3:W.cell? ⟨M,3,nn⟩=sQ (I J 1)) (y9:W.cell? ⟨M,9,nn⟩=sQ (bO true))
  (hs:∀ V,Bl W V->Calls Tp 89 #[pT (sQ ⟨P,0,nn⟩)] V fun o w'=>∃ ao m c,o = rT (frV e i r d ao m c)/\iB w' ao m c l/\Bl V w') :
  Calls Tp 38 #[pT (sQ ⟨R,0,nn⟩)] W fun o w'=>o = rT (bO (lt && pre))/\Bl W w':=by
 have HS:Hid (Calls Tp 86 #[pT (sQ ⟨M,0,nn⟩)] W fun o w'=>o = rT (bO true)/\w'=W):=ir W M true true 1 rfl y3 y9;have HC:Hid (∀ V,Bl W V->V.cell? ⟨R,1,nn⟩=sQ (.string hd)):=fun V hV=>(hV.cell (by exact QC W _ y1)).trans y1;have HSD:=ru hs
 have HEN:Hid (∀ V ao m c,iB V ao m c l->Calls Tp 88 #[frV e i r d ao m c] V fun o w'=>o = rT (.string E)/\Bl V w'):=fun V ao m c hV=>by
  have:=tT V e i r d ao m c l hV;rw[hV.len,hE] at this;rw[hV.len];exact this
 have HAK:Hid (∀ V,Calls Tp 87 #[.string E] V fun o w'=>o = rT (.string (jQ E))/\Bl V w'):=fun V=>Cm V E h10 om;have HPR:Hid (∀ V,Calls Tp 90 #[.string (jQ E),.string hd] V fun o w'=>o = rT (bO pre)/\w'=V):=fun V=>by rw[<- ep];exact Tryz.strings_HasPrefix (jQ E) hd V
 clear hs y3 y9 hE ep;generalize jQ E=A at *;go_enter func38,ntmps38;go_wp2_with fail;refine HS.o.mono ?_;rintro o w1 ⟨rfl,rfl⟩;clear HS;go_wp2_with fail;refine (HSD.o _ (bW _ _)).mono ?_;rintro o w2 ⟨ao,m,c,rfl,hq,hb2⟩;have H2:=ru (qG hq hb2);clear hq hb2;go_wp2_with fail;refine (HEN.o _ _ _ _ H2.o.1).mono ?_;rintro o w3 ⟨rfl,hb3⟩;have H3:=ru (H2.o.2.trans (hb3.mono H2.o.2.size));clear hb3 H2;go_wp2_with fail;refine (HAK.o _).mono ?_;rintro o w4 ⟨rfl,hb4⟩;have H4:=ru (H3.o.trans (hb4.mono H3.o.size));clear hb4 H3;have y1':=HC.o w4 H4.o;cases lt
 .have hl:¬ hd.size<A.size:=fun x=>by have:=el.2 x;cases this
  clear el;go_wp2_with fail;go_ret;exact⟨rfl,H4.o⟩
 .have hl:hd.size<A.size:=el.1 rfl;clear el;go_wp2_with fail;refine (HPR.o _).mono ?_;rintro o w5 ⟨rfl,rfl⟩;go_wp2_with fail;go_ret;exact⟨rfl,H4.o⟩
def LO (W:World) (M R P:Nat) (hd:ByteArray) (e:Bool) (i:Nat) (r:Bool) (d:Int) (l:List Nat) (E:ByteArray) (hE:eV e i r d l.length l=E) (x:Nat) (hx:x=48\/x=49) (hix:∀ w,(Instr.index 9 (.string E) (I J (hd.size:Int))).run Tp w = .ok (I .u8 (x:Int)) w)
  (y0:W.cell? ⟨R,0,nn⟩=sQ (pT (sQ ⟨M,0,nn⟩))) (y1:W.cell? ⟨R,1,nn⟩=sQ (.string hd)) (x0:W.cell? ⟨M,0,nn⟩=sQ (pT (sQ ⟨P,0,nn⟩))) (y3:W.cell? ⟨M,3,nn⟩=sQ (I J 1)) (y9:W.cell? ⟨M,9,nn⟩=sQ (bO true))
  (hs:∀ V,Bl W V->Calls Tp 89 #[pT (sQ ⟨P,0,nn⟩)] V fun o w'=>∃ ao m c,o = rT (frV e i r d ao m c)/\iB w' ao m c l/\Bl V w') :
  Calls Tp 287 #[pT (sQ ⟨R,0,nn⟩)] W fun o w'=>o = rT (I J ((x:Int)-48))/\Bl W w':=by
 have HS:Hid (Calls Tp 86 #[pT (sQ ⟨M,0,nn⟩)] W fun o w'=>o = rT (bO true)/\w'=W):=ir W M true true 1 rfl y3 y9;have HC:Hid (∀ V,Bl W V->V.cell? ⟨R,1,nn⟩=sQ (.string hd)):=fun V hV=>(hV.cell (by exact QC W _ y1)).trans y1;have HSD:=ru hs
 have HEN:Hid (∀ V ao m c,iB V ao m c l->Calls Tp 88 #[frV e i r d ao m c] V fun o w'=>o = rT (.string E)/\Bl V w'):=fun V ao m c hV=>by
  have:=tT V e i r d ao m c l hV;rw[hV.len,hE] at this;rw[hV.len];exact this
 clear hs y3 y9 hE;rcases hx with rfl|rfl
 all_goals
  go_enter func287,ntmps287;go_wp2_with fail;refine HS.o.mono ?_;rintro o w1 ⟨rfl,rfl⟩;clear HS;go_upto_region 2 with fail
  go_region_with (first
   | (go_at_call 89;refine (HSD.o _ (bW _ _).drew).mono ?_;rintro o w2 ⟨ao,m,c,rfl,hq,hb2⟩;have H2:=ru (qG hq ((bW w1.heap.size w1).drew.trans hb2));have y1':=HC.o w2 H2.o.2;clear hq hb2)
   | (go_at_call 88;refine (HEN.o _ _ _ _ H2.o.1).mono ?_;rintro o w3 ⟨rfl,hb3⟩;have H3:=ru (H2.o.2.trans (hb3.mono H2.o.2.size));have y1'':=HC.o w3 H3.o;clear hb3))
  all_goals
   go_wp2_with fail;go_ret;exact⟨rfl,H3.o⟩
def LP (W:World) (M R:Nat) (hd:ByteArray) (vc vf:Nat) (vd vo v12:Bool) (hj:∀ W,Calls Tp 92 #[.string hd] W fun o w'=>o = rT (aG #[I J (vc:Int),I J (vf:Int),bO vd,bO vo])/\Bl W w') (ev:((vf:Int) == 12)=v12) (y0:W.cell? ⟨R,0,nn⟩=sQ (pT (sQ ⟨M,0,nn⟩))) (y1:W.cell? ⟨R,1,nn⟩=sQ (.string hd)) (y3:W.cell? ⟨M,3,nn⟩=sQ (I J 1)) (y9:W.cell? ⟨M,9,nn⟩=sQ (bO false)) :
  Calls Tp 287 #[pT (sQ ⟨R,0,nn⟩)] W fun o w'=>o = rT (I J (if (v12 && vo)=true then 0 else 1))/\Bl W w':=by
 have HS:Hid (Calls Tp 86 #[pT (sQ ⟨M,0,nn⟩)] W fun o w'=>o = rT (bO false)/\w'=W):=ir W M true false 1 rfl y3 y9;have HJ:=ah hj;clear hj;cases v12;all_goals
  go_enter func287,ntmps287;go_wp2_with fail;refine HS.o.mono ?_;rintro o w1 ⟨rfl,rfl⟩;clear HS;go_wp2_with fail;refine (HJ.o _).mono ?_;rintro o w2 ⟨rfl,hb2⟩;have H2:Hid (Bl w1 w2/\blk (w2.alloc (.cells [I J 0,I J 0,bO false,bO false].toArray 57)) w2.heap.size [I J 0,I J 0,bO false,bO false] 57):=⟨hb2,blk.new w2 _ 57⟩
  clear hb2;go_upto_region 5 with (refine Zs 57 [I J (vc:Int),I J (vf:Int),bO vd,bO vo].toArray (H2.o.2.there 0 4 pQ) kr (QK (by simp[Value.oneCell'])) ?_;generalize hW3:World.setCells _ w2.heap.size 0 _=w3;have HW3:Hid (_=w3):=hW3;clear hW3)
  have H3:Hid (Bl w1 w3/\blk w3 w2.heap.size [I J (vc:Int),I J (vf:Int),bO vd,bO vo] 57):=by
   have e:(w2.alloc (.cells [I J 0,I J 0,bO false,bO false].toArray 57)).setCells w2.heap.size 0 [I J (vc:Int),I J (vf:Int),bO vd,bO vo]=w3:=HW3.o;have hb:Bl w2 w3:=by rw[<- e];exact sW (nR _) 0 _ Zw
   refine⟨H2.o.1.trans (hb.mono H2.o.1.size),?_⟩;rw[<- e];have:=blk.put [] [I J 0,I J 0,bO false,bO false] [] [I J (vc:Int),I J (vf:Int),bO vd,bO vo] (w:=w2.alloc (.cells [I J 0,I J 0,bO false,bO false].toArray 57)) (b:=w2.heap.size) (T:=57) (by simpa using H2.o.2) rfl;simpa using this
  clear H2 HW3;have z1:=H3.o.2.cell 1 (I J (vf:Int)) rfl;have z3:=H3.o.2.cell 3 (bO vo) rfl;cases vo;all_goals
   go_wp2_with fail;refine (KC _ _).mono ?_;rintro o w4 ⟨rfl,rfl⟩;go_wp2_with fail;go_ret;exact⟨rfl,H3.o.1⟩
end Go.Proofs.YtgfolecanghhhaaGreat
