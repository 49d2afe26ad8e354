import Derived.Test.YtgfolecanghhhaaGreatK35
import Derived.Test.YtgfolecanghhhaaGreatK31
import Derived.Test.YtgfolecanghhhaaGreatK34
import Derived.Deep.CutBlock
namespace Go.Proofs.YtgfolecanghhhaaGreat
open Go.Proofs.Tryz
set_option maxRecDepth 20000
open Go.RowKit
set_option linter.all false
set_option maxHeartbeats 16000000
open Go.Value renaming int->I,slice->sL,bool->bO,pointer->pT,agg->aG
open Go.IntKind renaming i64->J
open Go.Ending renaming returned->rT
open Go.Proofs.Tryz renaming prog->Tp
section
variable {κ κ' κ0 : Nat -> Nat} {C : Co} {s : Sl} {w : World}
def Hv (h:hG κ C.ho s w) (hb:bdQ 1000 C.ho):Calls Tp 60 #[aG (coL C s).toArray] w (cA w κ (ovC C)):=by
 have F0:Hid _:=fc.new2 h;have HB:=eE hb;have HR:Hid (ovC C = { { C with ho:=pH C.ho (ev3 9 0 0) } with p:=2,ct:=0,ov:=true }):=rfl;have HSY:Hid (∀ W,hG κ C.ho s W->Calls Tp 122 #[aG (coL C s).toArray,I J 9,I J 0,I J 0] W (cA W κ { C with ho:=pH C.ho (ev3 9 0 0) })):=fun W hW=>IL hW 9 0 0 hb;generalize ({ C with ho:=pH C.ho (ev3 9 0 0) }:Co)=X at *;clear h hb;go_enter func60,ntmps60;go_wp2_with (refine fc.ld F0.o ?_);refine (HSY.o _ F0.o.g).mono ?_;rintro o w2 ⟨s2,κ2,rfl,G2⟩;have F2:Hid _:=F0.o.call G2.o;clear HSY G2;go_upto_region 2 with (refine fc.sv F2.o ?_;intro w3 F3)
 simp only[Act.put];have y0:=F3.o.p.cell 0 (I J X.p) rfl;have y1:=F3.o.p.cell 1 (I J X.ct) rfl;have y4:=F3.o.p.cell 4 (bO X.ov) rfl;have z0:=F3.o.p.free 0;have z1:=F3.o.p.free 1;have z4:=F3.o.p.free 4;have F9:Hid _:=(((F3.o.set 0 (I J 2) { X with p:=2 } rfl).set 1 (I J 0) { X with p:=2,ct:=0 } rfl).set 4 (bO true) { X with p:=2,ct:=0,ov:=true } rfl)
 go_upto_region 5 with fail
 generalize World.setCell (World.setCell (World.setCell w3 _ _) _ _) _ _=w9 at *;go_wp2_with (first | (refine fc.ld F9.o ?_) | (refine fc.rt F9.o ?_;intro w8 b8 G8));refine bC results60 (tW b8) ?_;rw[HR.o];exact⟨s2,κ2,rfl,G8⟩
def He (h:hG κ C.ho s w) (k:Int) (hok:MV C) (hp:C.p≠7) (hn:C.ho.le 1048576):Calls Tp 58 #[aG (coL C s).toArray,I J k] w (cA w κ (af C (aS C k))):=by
 have F0:Hid _:=fc.new2 h;obtain⟨es,hes⟩ : ∃ es,stZ C.te C.re=es:=⟨_,rfl⟩
 obtain⟨fv,hfv⟩ : ∃ fv:Int,fv=if C.tx then 1 else 0:=⟨_,rfl⟩
 have hbd:=hok.h.bd;have hte:0<=C.te/\C.te<256:=⟨hok.m.te.1,by have:=hok.m.te.2;have:C.te≠256:=fun e=>hp (hok.m.of.2 e);omega⟩
 have HES:Hid (∀ W,Calls Tp 56 #[aG (coL C s).toArray] W fun o w'=>o = rT (I J es)/\Bl W w'):=fun W=>by
  have:=Gm W C s;rw[show esZ C.p C.te C.re=es by rw[<- hes];unfold esZ stZ;rw[qa hp,qa (show ¬ C.te=256 by omega)]] at this;exact this
 have HEN:Hid (tlC (Im (ob (Gh C k) (fwZ C.tx (GR C k) C.p k))) es=af C (aS C k)):=by rw[<- hes];exact LG hp k
 obtain⟨H1,eH1⟩ : ∃ H1,pH C.ho (ev3 8 k fv)=H1:=⟨_,rfl⟩
 have hb1:bdQ 901 H1:=by rw[<- eH1];exact hbd.post _
 have HFH:Hid (Cz H1 false=vw C k):=by show _=_;unfold vw;rw[<- eH1,hfv]
 have HNR:Hid ((C.p == 1 && C.tx)=false->vw C k=H1):=fun hh=>by rw[<- HFH.o,<- eH1];exact Ll hok k fv (by simpa using hh)
 have HSY:Hid (∀ W κ,hG κ C.ho s W->Calls Tp 122 #[aG (coL C s).toArray,I J 8,I J k,I J fv] W (cA W κ { C with ho:=H1 })):=fun W κ hW=>by rw[<- eH1];exact IL hW 8 k fv (hbd.up (by decide))
 have HRE:Hid (∀ W κ s',hG κ H1 s' W->Calls Tp 123 #[aG (hoL H1 s').toArray,bO false] W (hA W κ (vw C k))):=fun W κ s' hW=>by rw[<- HFH.o];exact Iu hW false (by rw[<- eH1];show C.ho.bx.length<=1000;have:=hok.h.n2;omega) (hb1.up (by decide)).q hb1.lo (by rw[<- eH1];exact hn.bd)
 have HBH:Hid (bdQ 902 (vw C k)):=by rw[<- HFH.o];exact hb1.rel false
 have HAD:Hid (∀ W n s',0<=n/\n<=8->Calls Tp 121 #[aG (coL (Gh C k) s').toArray,I J n] W fun o w'=>o = rT (aG (coL (ob (Gh C k) n) s').toArray)/\Bl W w'):=fun W n s' hn=>GW W (Gh C k) s' n hn hte hok.m.re;have HTL:Hid (∀ W κ X s',hG κ X.ho s' W->X.ho=vw C k->Calls Tp 63 #[aG (coL X s').toArray,I J es] W (cA W κ (tlC X es))):=fun W κ X s' hW e=>Hu hW es (by rw[e];exact HBH.o.up (by decide));have HFV:Hid ((C.tx=true->fv=1)/\(C.tx=false->fv=0)):=⟨fun e=>by rw[hfv,e];rfl,fun e=>by rw[hfv,e];rfl⟩
 obtain⟨oq,eoq⟩ : ∃ b,((es == 1) && C.tx && (k == 5))=b:=⟨_,rfl⟩
 have HM:Hid (Gh C k = { { C with ho:=vw C k } with wk:=es == 1,ow:=oq }):=by show _=_;rw[<- eoq];unfold Gh GR LH;rw[hes]
 have HOQ:Hid (((es == 1) && C.tx && (k == 5))=oq):=eoq;have HNZ:Hid (ob (Gh C k) 0=Gh C k):=Mw _ hte hok.m.re;clear h hok hp hn hes hfv hbd hte eH1 hb1 eoq;go_enter func58,ntmps58;go_wp2_with (refine fc.ld F0.o ?_);refine (HES.o _).mono ?_;rintro o w1 ⟨rfl,hb1⟩;have F1:Hid (fc2 w κ κ C s C.ho s w1):=F0.o.below hb1;obtain⟨tx,etx⟩ : ∃ tx,C.tx=tx:=⟨_,rfl⟩
 have y6:=F1.o.p.cell 6 (bO C.tx) rfl;rw[etx] at y6;have HTX:Hid (C.tx=tx):=etx;rw[etx] at HFV;clear F0 hb1 HES etx;go_upto_if 10 with fail
 go_cut [6] (fun s6 wx=>s6 = I J fv/\wx=w1);case first=>
  cases tx
  .go_wp2_with fail;go_meet;case rel=>exact⟨by rw[HFV.o.2 trivial],rfl⟩
  .go_wp2_with fail;go_meet;case rel=>exact⟨by rw[HFV.o.1 trivial],rfl⟩
 case rest=>
 obtain⟨rfl,hw⟩:=hcut;subst hw;go_wp2_with (refine fc.ld F1.o ?_);refine (HSY.o _ κ F1.o.g).mono ?_;rintro o w2 ⟨s2,κ2,rfl,G2⟩;have F2:Hid (fc2 w κ κ2 C s H1 s2 w2):=F1.o.call G2.o;clear G2 y6 F1 HSY HFV;go_upto_region 6 with (refine fc.sv F2.o ?_;intro w3 F3)
 have y0:=F3.o.p.cell 0 (I J C.p) rfl;have y6:=F3.o.p.cell 6 (bO C.tx) rfl;rw[HTX.o] at y6;obtain⟨b1,eb1⟩ : ∃ b,(C.p == 1)=b:=⟨_,rfl⟩
 simp only[Act.put];go_cut [21] (fun s21 wx=>s21 = bO (b1 && tx)/\wx=w3);case first=>
  cases b1 <;> cases tx <;> (
   go_wp2_with fail;go_meet
   case rel=>exact⟨rfl,rfl⟩)
 case rest=>
 obtain⟨rfl,hw⟩:=hcut;subst hw;rw[eb1,HTX.o] at HNR;clear eb1 y0 y6 F2;obtain⟨b2,eb2⟩ : ∃ b,(b1 && tx)=b:=⟨_,rfl⟩
 rw[eb2];rw[eb2] at HNR;clear eb2;go_upto_if 21 with fail
 go_cut [] (fun wx=>∃ s3 κ3,Hid (fc2 w κ κ3 { C with ho:=vw C k } s3 (vw C k) s3 wx));case first=>
  cases b2
  .go_wp2_with fail;go_meet;case rel=>exact⟨s2,κ2,by rw[HNR.o trivial];exact F3.o⟩
  .go_wp2_with (refine fc.lh F3.o ?_);refine (HRE.o _ κ2 s2 F3.o.g).mono ?_;rintro o w4 ⟨s4,κ4,rfl,G4⟩;have F4:Hid (fc2 w κ κ4 { C with ho:=H1 } s2 (vw C k) s4 w4):=F3.o.call G4.o;clear G4;go_wp2_with (refine fc.sh F4.o ?_;intro w5 F5);go_meet;case rel=>exact⟨s4,κ4,F5.o⟩
 case rest=>
 obtain⟨s3,κ3,F5⟩:=hcut;clear F3 HRE HNR HFH;have f3:=F5.o.p.free 3;obtain⟨wk,ewk⟩ : ∃ b,(es == 1)=b:=⟨_,rfl⟩
 have y3:=F5.o.p.cell 3 (bO C.wk) rfl;go_upto_region 9 with fail
 have F6:Hid (fc2 w κ κ3 { C with wk:=wk,ho:=vw C k } s3 (vw C k) s3 (World.setCell wc ⟨w.heap.size,3,none⟩ (bO wk))):=F5.o.set 3 (bO wk) _ rfl;generalize World.setCell wc ⟨w.heap.size,3,none⟩ (bO wk)=w6 at *;clear f3 y3 F5;have y3:=F6.o.p.cell 3 (bO wk) rfl;have y6:=F6.o.p.cell 6 (bO C.tx) rfl;have f5:=F6.o.p.free 5;obtain⟨k5,ek5⟩ : ∃ b,(k == 5)=b:=⟨_,rfl⟩
 rw[HTX.o] at y6;rw[HTX.o,ek5,ewk] at HOQ;rw[ewk] at HM;have y5:=F6.o.p.cell 5 (bO C.ow) rfl;go_cut [] (fun wx=>Hid (fc2 w κ κ3 (Gh C k) s3 (vw C k) s3 wx));case first=>
  cases wk <;> cases tx <;> cases k5 <;> (
   go_wp2_with fail;go_meet
   case rel=>rw[HM.o];exact F6.o.set 5 _ _ (by first | (rw[<- HOQ.o];rfl) | (rw[HOQ.o];rfl)))
 case rest=>
 have F7:=hcut;clear hcut F6 y3 y5 y6 f5 HM ek5 ewk HOQ;have y0:=F7.o.p.cell 0 (I J C.p) rfl;have y5:=F7.o.p.cell 5 (bO (GR C k)) rfl;have y6:=F7.o.p.cell 6 (bO C.tx) rfl;obtain⟨ow,eow⟩ : ∃ b,GR C k=b:=⟨_,rfl⟩
 rw[eow] at y5 HEN;rw[HTX.o] at y6 HEN;clear eow;go_upto_if 41 with fail
 go_cut [] (fun wx=>Hid (fc2 w κ κ3 (ob (Gh C k) (fwZ tx ow C.p k)) s3 (vw C k) s3 wx));case first=>
  obtain⟨p2,ep2⟩ : ∃ b,(C.p == 2)=b:=⟨_,rfl⟩
  obtain⟨k6,ek6⟩ : ∃ b,(k == 6)=b:=⟨_,rfl⟩
  have en6:(k != 6) = !k6:=by rw[<- ek6];rfl
  obtain⟨fz,ez⟩ : ∃ fz,fwZ tx ow C.p k=fz:=⟨_,rfl⟩
  have HFZ:Hid (fwZ tx ow C.p k=fz):=ez;unfold fwZ at ez;rw[ep2,ek6] at ez
  cases tx <;> cases ow <;> cases k6 <;> cases p2 <;> (
   simp at ez
   subst ez;go_wp2_with (refine fc.ld F7.o ?_)
   first
    | (go_meet;case rel=>rw[HFZ.o,HNZ.o];exact F7.o)
    | (refine (HAD.o _ _ s3 (by decide)).mono ?_;rintro o w8 ⟨rfl,hb8⟩;have F8:Hid _:=F7.o.below hb8;clear hb8;go_wp2_with (refine fc.sv F8.o ?_;intro w9 F9);go_meet;case rel=>rw[HFZ.o];exact F9.o))
 case rest=>
 obtain⟨X3,eX3⟩ : ∃ X,ob (Gh C k) (fwZ tx ow C.p k)=X:=⟨_,rfl⟩
 have HX3:Hid (X3.ho=vw C k):=by show _=_;rw[<- eX3];exact IY _ _
 rw[eX3] at hcut HEN;have F9:=hcut;clear hcut eX3 HAD HNZ F7 y0 y5 y6;have y0:=F9.o.p.cell 0 (I J X3.p) rfl;have y1:=F9.o.p.cell 1 (I J X3.ct) rfl;have y2:=F9.o.p.cell 2 (I J X3.lv) rfl;have y4:=F9.o.p.cell 4 (bO X3.ov) rfl;have f0:=F9.o.p.free 0;have f1:=F9.o.p.free 1;have f2:=F9.o.p.free 2;have f4:=F9.o.p.free 4;obtain⟨p7,ep7⟩ : ∃ b,(X3.p == 7)=b:=⟨_,rfl⟩
 have en7:(X3.p != 7) = !p7:=by rw[<- ep7];rfl
 go_upto_if 60 with fail
 go_cut [] (fun wx=>Hid (fc2 w κ κ3 (Im X3) s3 (vw C k) s3 wx));case first=>
  cases p7
  .have HFL:Hid (Im X3 = { X3 with p:=2,ct:=0,lv:=0,ov:=false }):=qa (by simpa using ep7);go_wp2_with fail;go_meet;case rel=>rw[HFL.o];exact (((F9.o.set 0 (I J 2) { X3 with p:=2 } rfl).set 1 (I J 0) { X3 with p:=2,ct:=0 } rfl).set 2 (I J 0) { X3 with p:=2,ct:=0,lv:=0 } rfl).set 4 (bO false) _ rfl
  .have HFL:Hid (Im X3=X3):=qc (by simpa using ep7);go_wp2_with fail;go_meet;case rel=>rw[HFL.o];exact F9.o
 case rest=>
 obtain⟨X4,eX4⟩ : ∃ X,Im X3=X:=⟨_,rfl⟩
 have HX4:Hid (X4.ho=vw C k):=by show _=_;rw[<- eX4,<- HX3.o];unfold Im;split <;> rfl
 rw[eX4] at hcut HEN;have FA:=hcut;clear hcut eX4 F9 y0 y1 y2 y4 f0 f1 f2 f4 ep7 en7;go_wp2_with (refine fc.ld FA.o ?_);refine (HTL.o _ κ3 X4 s3 (by rw[HX4.o];exact FA.o.g) HX4.o).mono ?_;rintro o w10 ⟨s10,κ10,rfl,G10⟩;have FB:Hid _:=FA.o.call G10.o;clear G10 HTL FA;go_wp2_with (refine fc.rt FB.o ?_;intro w8 b8 G8);refine bC results58 (tW b8) ?_;rw[<- HEN.o];exact⟨s10,κ10,rfl,G8⟩
end
section
variable {H:Ho} {n:Nat} {C:Co}
def dP.dl (h:dP H):H.fs.length<=1000/\H.ff.length<=1000/\H.qu.length<=900/\(1<=H.c1/\H.c1<=1000/\(H.ff.length:Int)<=H.c1)/\(H.c2=0\/H.c2=1):=by
 have h1:=qO h.cf;have h2:=h.nq;have h3:=h.nf;have h4:=h.fs;unfold gV at h4;rw[qw] at h4;have h5:=qO h4.1;omega
def bdQ.fHo (h:bdQ n H) (L:List R5):bdQ n (fHo H L):=⟨h.q,h.lo⟩
def bdQ.del (h:bdQ n H) (F:R5):bdQ (n+2) (f9 H F):=by
 unfold f9;split
 .split
  .split
   .exact (h.post _).up om
   .split
    .exact h.up om
    .exact (((h.post _).fHo _).post _)
  .exact ((h.fHo _).post _).up om
 .exact h.up om
def LI (hok:MV C) (hp:C.p=1) (k:Int) (F:R5):tlC (aw C k F) (esZ C.p C.te C.re)=af C (aw C k F):=by
 have ht:C.te≠256:=fun e=>by have:=hok.m.of.2 e;omega
 have ht2:=hok.m.te;have e0:esZ C.p C.te C.re=stZ C.te C.re:=by unfold esZ stZ;rw[qa om,qa ht]
 have e1:(aw C k F).p≠7/\(aw C k F).te≠256:=by
  unfold aw;split
  .refine⟨by show (5:Int)≠7;decide,?_⟩;show s7 C.te≠256;unfold s7;omega
  .split
   .exact⟨by show C.p≠7;omega,ht⟩
   .split
    .exact⟨by show (5:Int)≠7;decide,ht⟩
    .split
     .exact⟨by show (2:Int)≠7;decide,ht⟩
     .split
      .exact⟨by show C.p≠7;omega,ht⟩
      .exact⟨om,ht⟩
 rw[e0];unfold af;rw[qa (fun x=>e1.2 x.1)];unfold tlC tS;have e2:esZ (aw C k F).p (aw C k F).te (aw C k F).re=stZ (aw C k F).te (aw C k F).re:=by unfold esZ stZ;rw[qa e1.1,qa e1.2]
 rw[e2]
abbrev fc3 (w:World) (κ0:Nat->Nat) (FL:List Value) (κ:Nat->Nat) (C:Co) (s0:Sl) (H:Ho) (s:Sl) (W:World):Prop:=fc w κ0 w.heap.size (w.heap.size+1+1) (w.heap.size+1) FL 67 κ C s0 H s W
def Gx {κ:Nat->Nat} {w:World} {s:Sl} (h:hG κ C.ho s w) (k:Int) (F:R5) (fa:Option Addr) (fm fcp:Nat) (hok:MV C) (hp:C.p=1) (hn:C.ho.le 1048576) (hf:k=2->∃ fg,fa=some ⟨fg,0,none⟩/\iB w (some ⟨fg,0,none⟩) fm fcp F.l/\fg<w.heap.size/\κ fg=0) (hfm:fm<=1048576) :
  Calls Tp 66 #[aG (coL C s).toArray,I J k,frV F.e F.i F.r F.d fa fm fcp] w (cA w κ (af C (aw C k F))):=by
 have F0:Hid _:=fc.new3 h [bO F.e,I .u32 (F.i:Int),bO F.r,I J F.d,sL fa fm fcp];obtain⟨es,hes⟩ : ∃ es,esZ C.p C.te C.re=es:=⟨_,rfl⟩
 have HEN:=eE (LI hok hp k F);rw[hes] at HEN;have hbd:=hok.h.bd
 have HES:Hid (∀ W,Calls Tp 56 #[aG (coL C s).toArray] W fun o w'=>o = rT (I J es)/\Bl W w'):=fun W=>by
  have:=Gm W C s;rw[hes] at this;exact this
 have hdl:=hok.h.dl;have HRE:Hid (∀ W b,hG κ C.ho s W->Calls Tp 123 #[aG (hoL C.ho s).toArray,bO b] W (hA W κ (Cz C.ho b))):=fun W b hW=>Iu hW b (by have:=hok.h.n2;omega) (hbd.up om).q hbd.lo hn.bd
 have HDE:Hid (k=2->∀ W,mvH κ w κ W->hG κ C.ho s W->Calls Tp 126 #[aG (hoL C.ho s).toArray,frV F.e F.i F.r F.d fa fm fcp] W (hA W κ (f9 C.ho F))):=fun e W hm hW=>by
  obtain⟨fg,rfl,h1,h2,h3⟩:=hf e;exact Kv hW F fg fm fcp (hm.bytes h1 h2 h3) ⟨nL h2 hm.s,h3⟩ hfm hdl.1 hdl.2.1 hdl.2.2.1 hbd.lo hn.fd hdl.2.2.2.1.1
 have HOV:Hid (∀ W,hG κ C.ho s W->Calls Tp 60 #[aG (coL C s).toArray] W (cA W κ (ovC C))):=fun W hW=>Hv hW (hbd.up om);have HBD:Hid (bdQ 1000 (aw C k F).ho):=by
  show bdQ 1000 _;unfold aw;split
  .exact (hbd.rel true).up om
  .split
   .exact (hbd.del F).up om
   .split
    .exact hbd.up om
    .split
     .exact (hbd.post _).up om
     .split
      .exact (hbd.rel false).up om
      .exact hbd.up om
 have HTL:Hid (∀ W κ s',hG κ (aw C k F).ho s' W->Calls Tp 63 #[aG (coL (aw C k F) s').toArray,I J es] W (cA W κ (af C (aw C k F)))):=fun W κ s' hW=>by rw[<- HEN.o];exact Hu hW es HBD.o
 have HTE:Hid (0<=C.te/\C.te<=256):=hok.m.te;have HRR:Hid (0<=C.re/\C.re<=255):=hok.m.re;clear h hok hp hn hf hes hbd hdl HBD HEN;obtain⟨b1,e1,_,f1⟩:=eqB k 1;obtain⟨b2,e2,_,f2⟩:=eqB k 2;obtain⟨b3,e3,_,f3⟩:=eqB k 3;obtain⟨b4,e4,_,f4⟩:=eqB k 4;obtain⟨b5,e5,_,f5⟩:=eqB k 5;have HFI:Hid (aw C k F=if b1=true then { C with ho:=Cz C.ho true,te:=s7 C.te,p:=5 } else if b2=true then { C with ho:=f9 C.ho F,re:=s7 (min C.re 128) } else if b3=true then { C with p:=5 } else if b4=true then ovC C else if b5=true then { C with ho:=Cz C.ho false,tx:=false } else C):=by
  show _=_;unfold aw;simp only[f1.o,f2.o,f3.o,f4.o,f5.o]
 clear f1 f3 f4 f5;go_enter func66,ntmps66;go_wp2_with (refine fc.ld F0.o ?_);refine (HES.o _).mono ?_;rintro o w1 ⟨rfl,hb1⟩;have H1:Hid (fc3 w κ [bO F.e,I .u32 (F.i:Int),bO F.r,I J F.d,sL fa fm fcp] κ C s C.ho s w1):=F0.o.below hb1;clear F0 hb1 HES;go_upto_block 0 with fail
 go_cut [] (fun wx=>∃ s3 κ3,Hid (fc3 w κ [bO F.e,I .u32 (F.i:Int),bO F.r,I J F.d,sL fa fm fcp] κ3 (aw C k F) s3 (aw C k F).ho s3 wx));case first=>
  cases b1;case true=>
   have HR:Hid (aw C k F = { C with ho:=Cz C.ho true,te:=s7 C.te,p:=5 }):=HFI.o;clear HFI e2 e3 e4 e5 HDE HOV;go_wp2_with (refine fc.lh H1.o ?_);refine (HRE.o _ true H1.o.g).mono ?_;rintro o w2 ⟨s4,κ4,rfl,G4⟩;have H2:Hid _:=H1.o.call G4.o;clear G4 H1 HRE;go_upto_region 5 with (refine fc.sh H2.o ?_;intro w3 H3)
   have y9:=H3.o.p.cell 9 (I J C.te) rfl;have z9:=H3.o.p.free 9;have y0:=H3.o.p.cell 0 (I J C.p) rfl;have z0:=H3.o.p.free 0;have ht:=HTE.o;obtain⟨bt,ebt,fbt⟩:=ltB 0 C.te;cases bt
   .have HT:Hid (s7 C.te=C.te):=by
     have:¬ 0<C.te:=fun x=>by have:=fbt.o.2 x;cases this
     show s7 _=_;unfold s7;omega
    clear fbt;go_wp2_with fail;go_meet;case rel=>
     rw[HR.o,HT.o];exact⟨s4,_,H3.o.set 0 (I J 5) { C with ho:=Cz C.ho true,p:=5 } rfl⟩
   .have HT:Hid (s7 C.te=C.te-1):=by
     have:=fbt.o.1 rfl;show s7 _=_;unfold s7;omega
    clear fbt;go_wp2_with fail;go_meet;case rel=>
     rw[HR.o,HT.o];exact⟨s4,_,(H3.o.set 9 (I J (C.te-1)) { C with ho:=Cz C.ho true,te:=C.te-1 } rfl).set 0 (I J 5) { C with ho:=Cz C.ho true,te:=C.te-1,p:=5 } rfl⟩
  cases b2;case true=>
   have HR:Hid (aw C k F = { C with ho:=f9 C.ho F,re:=s7 (min C.re 128) }):=HFI.o;clear HFI e3 e4 e5 HRE HOV;go_wp2_with (first | (refine fc.lh H1.o ?_) | (refine Zi 67 [bO F.e,I .u32 (F.i:Int),bO F.r,I J F.d,sL fa fm fcp] H1.o.f.load underlying67 jc ?_));refine (HDE.o (f2.o.1 trivial) _ H1.o.m H1.o.g).mono ?_;rintro o w2 ⟨s4,κ4,rfl,G4⟩;have H2:Hid _:=H1.o.call G4.o;clear G4 H1 HDE;go_upto_region 10 with (refine fc.sh H2.o ?_;intro w3 H3)
   have y9:=H3.o.p.cell 10 (I J C.re) rfl;have z9:=H3.o.p.free 10;have hr:=HRR.o;obtain⟨bt,ebt,fbt⟩:=ltB 127 C.re;cases bt
   .have h1:¬ 127<C.re:=fun x=>by have:=fbt.o.2 x;cases this
    obtain⟨bu,ebu,fbu⟩:=ltB 0 C.re;cases bu
    .have HT:Hid (s7 (min C.re 128)=C.re):=by
      have:¬ 0<C.re:=fun x=>by have:=fbu.o.2 x;cases this
      show s7 _=_;unfold s7;omega
     clear fbt fbu h1;go_wp2_with fail;go_meet;case rel=>
      rw[HR.o,HT.o];exact⟨s4,_,H3.o⟩
    .have HT:Hid (s7 (min C.re 128)=C.re-1):=by
      have:=fbu.o.1 rfl;show s7 _=_;unfold s7;omega
     clear fbt fbu h1;go_wp2_with fail;go_meet;case rel=>
      rw[HR.o,HT.o];exact⟨s4,_,H3.o.set 10 (I J (C.re-1)) { C with ho:=f9 C.ho F,re:=C.re-1 } rfl⟩
   .have HT:Hid (s7 (min C.re 128)=127):=by
     have:=fbt.o.1 rfl;show s7 _=_;unfold s7;omega
    clear fbt;go_wp2_with fail;go_meet;case rel=>
     rw[HR.o,HT.o];exact⟨s4,_,H3.o.set 10 (I J 127) { C with ho:=f9 C.ho F,re:=127 } rfl⟩
  have HV:=H1;clear HDE;cases b3;case true=>
   have HR:Hid (aw C k F = { C with p:=5 }):=HFI.o;have y0:=H1.o.p.cell 0 (I J C.p) rfl;have z0:=H1.o.p.free 0;clear HFI e4 e5 HRE HOV;go_wp2_with fail;go_meet;case rel=>
    rw[HR.o];exact⟨s,_,HV.o.set 0 (I J 5) { C with p:=5 } rfl⟩
  cases b4;case true=>
   have HR:Hid (aw C k F=ovC C):=HFI.o;clear HFI e5 HRE HV;go_wp2_with (refine fc.ld H1.o ?_);refine (HOV.o _ H1.o.g).mono ?_;rintro o w2 ⟨s4,κ4,rfl,G4⟩;have H2:Hid _:=H1.o.call G4.o;clear G4 H1 HOV;go_wp2_with (refine fc.sv H2.o ?_;intro w3 H3);go_meet;case rel=>
    rw[HR.o];exact⟨s4,_,H3.o⟩
  cases b5;case true=>
   have HR:Hid (aw C k F = { C with ho:=Cz C.ho false,tx:=false }):=HFI.o;clear HFI HOV HV;go_wp2_with (refine fc.lh H1.o ?_);refine (HRE.o _ false H1.o.g).mono ?_;rintro o w2 ⟨s4,κ4,rfl,G4⟩;have H2:Hid _:=H1.o.call G4.o;clear G4 H1 HRE;go_upto_region 20 with (refine fc.sh H2.o ?_;intro w3 H3)
   have y6:=H3.o.p.cell 6 (bO C.tx) rfl;have z6:=H3.o.p.free 6;go_wp2_with fail;go_meet;case rel=>
    rw[HR.o];exact⟨s4,_,H3.o.set 6 (bO false) { C with ho:=Cz C.ho false,tx:=false } rfl⟩
  have HR:Hid (aw C k F=C):=HFI.o;go_wp2_with fail;go_meet;case rel=>
   rw[HR.o];exact⟨s,_,HV.o⟩
 case rest=>
 obtain⟨s3,κ3,H3⟩:=hcut;clear H1 HRE HDE HOV HFI HTE HRR e1 e2 e3 e4 e5 f2;generalize aw C k F=X at *;go_wp2_with (refine fc.ld H3.o ?_);refine (HTL.o _ κ3 s3 H3.o.g).mono ?_;rintro o w4 ⟨s4,κ4,rfl,G4⟩;have H4:Hid _:=H3.o.call G4.o;clear G4 H3 HTL;go_wp2_with (refine fc.rt H4.o ?_;intro w8 b8 G8);exact bC results66 (tW b8) ⟨s4,κ4,rfl,G8⟩
end
open Option renaming none->nn,some->sQ
def ofI (A:Co):Co:=if A.te=256/\A.p≠7 then vv A else A
def Lx {κ:Nat->Nat} (w:World) (C:Co) (s:Sl) (bit:Int) (hc:0<=C.ct/\C.ct<=200) (hn:0<=C.rn/\C.rn<128) (h:hG κ C.ho s w) :
  Calls Tp 62 #[aG (coL C s).toArray,I J bit] w (cA w κ (ofC C bit)):=by
 have H0:Hid (fc2 w κ κ C s C.ho s ((w.alloc (.cells (coL C s).toArray 43)).alloc (.cells zY.toArray 43))):=fc.new2 h;have er:(C.rn == 128)=false:=by simp;omega
 have hw:=pf hc;have hw2:=pf (n:=C.rn) om;clear h hc hn;have y1:=H0.o.p.cell 1 (I J C.ct) rfl;have y7:=H0.o.p.cell 7 (bO C.ak) rfl;have y8:=H0.o.p.cell 8 (I J C.rn) rfl;have z1:=H0.o.p.free 1;have z8:=H0.o.p.free 8;obtain⟨ak,eak⟩ : ∃ b,C.ak=b:=⟨_,rfl⟩
 rw[eak] at y7;have fak:Hid (ak=true↔C.ak=true):=by show _↔_;rw[eak]
 clear eak;obtain⟨b,e,_,fb⟩:=eqB bit 0;obtain⟨c,e2,_,fcc⟩:=eqB (C.ct+1) 11;obtain⟨d,e3,_,fd⟩:=eqB (C.rn+1) 128;generalize hW0:((w.alloc (.cells (coL C s).toArray 43)).alloc (.cells zY.toArray 43))=W0 at *;go_enter func62,ntmps62;cases ak
 .have HR:Hid (ofC C bit=C):=by show _=_;unfold ofC;rw[qa (by simpa using fak.o)]
  have HV9:Hid (fc2 w κ κ C s C.ho s W0):=H0.o;go_upto_region 2 with fail
  go_wp2_with (first | (refine fc.ld HV9.o ?_) | (refine fc.rt (C2:=C) (s2:=s) HV9.o ?_;intro w11 b11 R11));refine bC results62 (tW b11) ?_;rw[HR.o];exact⟨_,_,rfl,R11⟩
 .cases b
  .cases c
   .have HR:Hid (ofC C bit = { C with ct:=C.ct+1 }):=by show _=_;unfold ofC;rw[qc (by simpa using fak.o),qa (by simpa using fb.o),qa (by simpa using fcc.o)]
    have HV9:Hid (fc2 w κ κ { C with ct:=(C.ct+1) } s C.ho s (World.setCell W0 ⟨w.heap.size,1,nn⟩ (I J (C.ct+1)))):=(H0.o.set 1 (I J (C.ct+1)) { C with ct:=(C.ct+1) } rfl)
    go_upto_region 12 with fail
    generalize (World.setCell W0 ⟨w.heap.size,1,nn⟩ (I J (C.ct+1)))=w9 at *;go_wp2_with (first | (refine fc.ld HV9.o ?_) | (refine fc.rt (C2:={ C with ct:=(C.ct+1) }) (s2:=s) HV9.o ?_;intro w11 b11 R11));refine bC results62 (tW b11) ?_;rw[HR.o];exact⟨_,_,rfl,R11⟩
   .cases d
    .have HR:Hid (ofC C bit = { C with ct:=0,rn:=C.rn+1 }):=by show _=_;unfold ofC;rw[qc (by simpa using fak.o),qa (by simpa using fb.o),qc (by simpa using fcc.o),qa (by simpa using fd.o)]
     have HV9:Hid (fc2 w κ κ { C with ct:=0,rn:=(C.rn+1) } s C.ho s (World.setCell (World.setCell (World.setCell W0 ⟨w.heap.size,1,nn⟩ (I J (C.ct+1))) ⟨w.heap.size,1,nn⟩ (I J 0)) ⟨w.heap.size,8,nn⟩ (I J (C.rn+1)))):=(((H0.o.set 1 (I J (C.ct+1)) { C with ct:=(C.ct+1) } rfl).set 1 (I J 0) { C with ct:=0 } rfl).set 8 (I J (C.rn+1)) { C with ct:=0,rn:=(C.rn+1) } rfl)
     go_upto_region 12 with fail
     generalize (World.setCell (World.setCell (World.setCell W0 ⟨w.heap.size,1,nn⟩ (I J (C.ct+1))) ⟨w.heap.size,1,nn⟩ (I J 0)) ⟨w.heap.size,8,nn⟩ (I J (C.rn+1)))=w9 at *;go_wp2_with (first | (refine fc.ld HV9.o ?_) | (refine fc.rt (C2:={ C with ct:=0,rn:=(C.rn+1) }) (s2:=s) HV9.o ?_;intro w11 b11 R11));refine bC results62 (tW b11) ?_;rw[HR.o];exact⟨_,_,rfl,R11⟩
    .have HR:Hid (ofC C bit=bkC C):=by show _=_;unfold ofC;rw[qc (by simpa using fak.o),qa (by simpa using fb.o),qc (by simpa using fcc.o),qc (by simpa using fd.o)]
     have HV9:Hid (fc2 w κ κ { C with ct:=0,rn:=(C.rn+1) } s C.ho s (World.setCell (World.setCell (World.setCell W0 ⟨w.heap.size,1,nn⟩ (I J (C.ct+1))) ⟨w.heap.size,1,nn⟩ (I J 0)) ⟨w.heap.size,8,nn⟩ (I J (C.rn+1)))):=(((H0.o.set 1 (I J (C.ct+1)) { C with ct:=(C.ct+1) } rfl).set 1 (I J 0) { C with ct:=0 } rfl).set 8 (I J (C.rn+1)) { C with ct:=0,rn:=(C.rn+1) } rfl)
     go_upto_region 11 with fail
     generalize (World.setCell (World.setCell (World.setCell W0 ⟨w.heap.size,1,nn⟩ (I J (C.ct+1))) ⟨w.heap.size,1,nn⟩ (I J 0)) ⟨w.heap.size,8,nn⟩ (I J (C.rn+1)))=w9 at *;have q11:=HV9.o.p.cell 11 (I J C.ho.c0) rfl;have q12:=HV9.o.p.cell 12 (I J C.ho.c1) rfl;have q13:=HV9.o.p.cell 13 (I J C.ho.c2) rfl;have q14:=HV9.o.p.cell 14 (I J C.ho.c3) rfl;have q15:=HV9.o.p.cell 15 (sL s.a1 s.n1 s.k1) rfl;have q16:=HV9.o.p.cell 16 (sL s.a2 s.n2 s.k2) rfl;have q17:=HV9.o.p.cell 17 (sL s.a3 s.n3 s.k3) rfl;have q18:=HV9.o.p.cell 18 (sL s.a4 s.n4 s.k4) rfl;have q19:=HV9.o.p.cell 19 (I J C.ho.lo) rfl;have q20:=HV9.o.p.cell 20 (I J C.ho.st) rfl;go_wp2_with (refine fc.rt (C2:=(bkC C)) (s2:=s) HV9.o ?_;intro w11 b11 R11);refine bC results62 (tW b11) ?_;rw[HR.o];exact⟨_,_,rfl,R11⟩
  .have HR:Hid (ofC C bit = { C with ct:=0 }):=by show _=_;unfold ofC;rw[qc (by simpa using fak.o),qc (by simpa using fb.o)]
   have HV9:Hid (fc2 w κ κ { C with ct:=0 } s C.ho s (World.setCell W0 ⟨w.heap.size,1,nn⟩ (I J 0))):=(H0.o.set 1 (I J 0) { C with ct:=0 } rfl)
   go_upto_region 5 with fail
   generalize (World.setCell W0 ⟨w.heap.size,1,nn⟩ (I J 0))=w9 at *;go_wp2_with (first | (refine fc.ld HV9.o ?_) | (refine fc.rt (C2:={ C with ct:=0 }) (s2:=s) HV9.o ?_;intro w11 b11 R11));refine bC results62 (tW b11) ?_;rw[HR.o];exact⟨_,_,rfl,R11⟩
section
variable {A X:Co} {bit:Int}
def Ia (Y:Co) (n:Int):((oX Y Y.tx n).te=256/\ob Y n=vv (oX Y Y.tx n))\/((oX Y Y.tx n).te≠256/\ob Y n=oX Y Y.tx n):=by
 unfold ob;split
 .rename_i e;exact qr ⟨e,rfl⟩
 .rename_i e;exact qx ⟨e,rfl⟩
def GZ (Y:Co) (b:Bool) (n:Int):(oX Y b n).p=Y.p:=by unfold oX;split <;> rfl
def s8 (h:A.te≠256):ofI A=A:=qa fun x=>h x.1
def JY (h:A.te=256) (hp:A.p≠7):ofI A=vv A:=qc ⟨h,hp⟩
def ID (X:Co) (bit:Int):(wfX X bit).te=X.te/\(wfX X bit).re=X.re/\(wfX X bit).ho=X.ho:=by unfold wfX;split <;> (try split) <;> exact⟨rfl,rfl,rfl⟩
def L0 (X:Co) (bit:Int):(wfX X bit).p=3\/(wfX X bit).p=X.p:=by unfold wfX;split <;> (try split) <;> first | exact qr rfl | exact qx rfl
def Lv {A':Co} (h:A.te=A'.te/\A.re=A'.re/\A.ho=A'.ho):vv A=vv A':=by unfold vv;rw[h.1,h.2.1,h.2.2]
def Mc (h:X.te=256) (hp:X.p≠7):vv X=ofI (wfX X bit):=by
 have h1:=ID X bit;rw[JY (by rw[h1.1];exact h) (by rcases L0 X bit with e | e <;> rw[e];decide;exact hp)];exact (Lv h1).symm
def Mv {Y:Co} {n:Int} (hp:Y.p≠7):(ob Y n).p=7↔(oX Y Y.tx n).te=256:=by
 rcases Ia Y n with⟨e1,e2⟩|⟨e1,e2⟩
 .rw[e2];exact⟨fun _=>e1,fun _=>rfl⟩
 .rw[e2,GZ];exact⟨fun x=>Qy x hp,fun x=>Qy x e1⟩
def Lo (h:¬ (0<X.ct/\bit=X.lv)) (hc:0<=X.ct):wfX X bit = { X with ct:=1,lv:=bit }:=by
 unfold wfX;by_cases e:bit=X.lv
 .have e0:X.ct=0:=by have:¬ 0<X.ct:=fun x=>h ⟨x,e⟩;omega
  rw[qc e,e0];rfl
 .rw[qa e]
def K0 {κ:Nat->Nat} (w:World) (C:Co) (s:Sl) (bit:Int) (hc:0<=C.ct/\C.ct<=200) (ht:0<=C.te/\C.te<256) (hr:0<=C.re/\C.re<=255) (hp:C.p≠7) (h:hG κ C.ho s w) :
  Calls Tp 57 #[aG (coL C s).toArray,I J bit] w (cA w κ (ofI (wfX (wfO C bit) bit))):=by
 have H0:Hid (fc2 w κ κ C s C.ho s ((w.alloc (.cells (coL C s).toArray 43)).alloc (.cells zY.toArray 43))):=fc.new2 h;have HAD:Hid (∀ W,Calls Tp 121 #[aG (coL { C with ow:=false } s).toArray,I J 8] W fun o w'=>o = rT (aG (coL (ob { C with ow:=false } 8) s).toArray)/\Bl W w'):=fun W=>GW W { C with ow:=false } s 8 (by decide) ht hr;have HC:=DU (qG hc (qG ht hp));clear h hc ht hr hp;have y5:=H0.o.p.cell 5 (bO C.ow) rfl;have z5:=H0.o.p.free 5;obtain⟨ow,eow⟩ : ∃ b,C.ow=b:=⟨_,rfl⟩
 rw[eow] at y5;have HOW:=DU eow;clear eow;obtain⟨b,e,_,fb⟩:=eqB bit 0;generalize hW0:((w.alloc (.cells (coL C s).toArray 43)).alloc (.cells zY.toArray 43))=W0 at *;go_enter func57,ntmps57;go_upto_region 1 with fail
 try rw[hW0]
 go_cut [10] (fun x wx=>x = bO (ow && b)/\wx=W0);case first=>
  cases ow <;> cases b <;> (
   go_wp2_with fail;go_meet
   case rel=>exact⟨rfl,rfl⟩)
 case rest=>
 obtain⟨rfl,hw⟩:=hcut;have hw:=hw.symm;subst hw;obtain⟨c,ec⟩ : ∃ c,(ow && b)=c:=⟨_,rfl⟩
 rw[ec];have HE:Hid (wfO C bit=if c=true then oX { C with ow:=false } C.tx 8 else C):=by
  have hc:(C.ow=true/\bit=0)↔c=true:=by rw[<- ec,HOW.o,<- fb.o];cases ow <;> cases b <;> simp
  show _=_;unfold wfO;simp only[hc]
 clear ec e fb HOW hW0;go_upto_if 10 with fail
 go_cut [] (fun wx=>Hid (fc2 w κ κ (wfO C bit) s (wfO C bit).ho s wx)/\Hid ((wfO C bit).te≠256));case first=>
  cases c
  .go_wp2_with fail;go_meet;case rel=>rw[HE.o];exact⟨H0.o,by have:=HC.o.2.1.2;exact fun x=>by rw[show (if false=true then oX { C with ow:=false } C.tx 8 else C)=C from rfl] at x;omega⟩
  .have HV1:Hid (fc2 w κ κ { C with ow:=false } s C.ho s (World.setCell W0 ⟨w.heap.size,5,nn⟩ (bO false))):=(H0.o.set 5 (bO false) { C with ow:=false } rfl)
   go_upto_region 3 with fail
   generalize (World.setCell W0 ⟨w.heap.size,5,nn⟩ (bO false))=w1 at *;go_wp2_with (refine fc.ld HV1.o ?_);refine (HAD.o _).mono ?_;rintro o w8 ⟨rfl,hb8⟩;have HV8:Hid (fc2 w κ _ { C with ow:=false } s C.ho s w8):=HV1.o.below hb8;clear hb8 HV1;go_upto_region 4 with (refine fc.sv (C2:=(ob { C with ow:=false } 8)) (s2:=s) HV8.o ?_;intro w9 HV9)
   simp only[Act.put];have HX7:Hid ((ob { C with ow:=false } 8).p=7↔(oX { C with ow:=false } C.tx 8).te=256):=Mv HC.o.2.2;have HX2:=DU (Ia { C with ow:=false } 8);have HXh:Hid ((ob { C with ow:=false } 8).ho=C.ho):=IY { C with ow:=false } 8;obtain⟨X,eX⟩ : ∃ X,ob { C with ow:=false } 8=X:=⟨_,rfl⟩
   rw[eX] at HV9 HX7 HX2 HXh;clear eX HV8 HAD;have y0:=HV9.o.p.cell 0 (I J X.p) rfl;obtain⟨p7,e7,_,f7⟩:=eqB X.p 7;cases p7
   .go_wp2_with fail;go_meet;case rel=>
     have n7:¬ (oX { C with ow:=false } C.tx 8).te=256:=fun x=>by have:=f7.o.2 (HX7.o.2 x);cases this
     have eX:X=oX { C with ow:=false } C.tx 8:=by rcases HX2.o with⟨a,_⟩ | ⟨_,a⟩;exact Qy a n7;exact a
     rw[HE.o];refine⟨?_,n7⟩;show fc2 w κ κ (oX { C with ow:=false } C.tx 8) s (oX { C with ow:=false } C.tx 8).ho s _;rw[<- eX,HXh.o];exact HV9.o
   .have HR:Hid (X=ofI (wfX (wfO C bit) bit)):=by
     have n7:(oX { C with ow:=false } C.tx 8).te=256:=HX7.o.1 (f7.o.1 rfl);have eX:X=vv (oX { C with ow:=false } C.tx 8):=by rcases HX2.o with⟨_,a⟩ | ⟨a,_⟩;exact a;exact Qy n7 a
     show _=_;rw[eX,HE.o];exact Mc n7 (by show (oX { C with ow:=false } C.tx 8).p≠7;rw[GZ];exact HC.o.2.2)
    rw[<- HXh.o] at HV9;go_upto_region 5 with fail
    go_wp2_with (first | (refine fc.ld HV9.o ?_) | (refine fc.rt (C2:=X) (s2:=s) HV9.o ?_;intro w11 b11 R11));refine bC results57 (tW b11) ?_;rw[<- HR.o];exact⟨_,_,rfl,R11⟩
 case rest=>
 have HCX:Hid (0<=(wfO C bit).ct/\(wfO C bit).ct<=200):=by rw[KG];exact HC.o.1
 have HOF:Hid (ofI (wfX (wfO C bit) bit)=wfX (wfO C bit) bit):=s8 (by rw[(ID _ _).1];exact hcut.2.o);have hct:=hcut.1;obtain⟨X,eX⟩ : ∃ X,wfO C bit=X:=⟨_,rfl⟩
 have HEX:=DU eX;rw[eX] at hct HCX;clear hcut eX HE HAD HC H0 y5 z5;have H0:=hct;clear hct;have hw:=pf HCX.o;have y0:=H0.o.p.cell 0 (I J X.p) rfl;have y1:=H0.o.p.cell 1 (I J X.ct) rfl;have y2:=H0.o.p.cell 2 (I J X.lv) rfl;have y3:=H0.o.p.cell 3 (bO X.wk) rfl;have y5:=H0.o.p.cell 5 (bO X.ow) rfl;have z0:=H0.o.p.free 0;have z1:=H0.o.p.free 1;have z2:=H0.o.p.free 2;have z3:=H0.o.p.free 3;have z5:=H0.o.p.free 5;obtain⟨c0,e0,f0⟩:=ltB 0 X.ct;obtain⟨bl,el,_,fl⟩:=eqB bit X.lv;obtain⟨d,ed,_,fd⟩:=eqB (X.ct+1) 6;go_upto_region 6 with fail
 go_cut [26] (fun x wx=>x = bO (c0 && bl)/\wx=wc);case first=>
  cases c0 <;> cases bl <;> (
   go_wp2_with fail;go_meet
   case rel=>exact⟨rfl,rfl⟩)
 case rest=>
 obtain⟨rfl,hw1⟩:=hcut;have hw1:=hw1.symm;subst hw1;obtain⟨m,em⟩ : ∃ m,(c0 && bl)=m:=⟨_,rfl⟩
 rw[em];have fm:Hid (m=true↔(0<X.ct/\bit=X.lv)):=by show _↔_;rw[<- em,<- f0.o,<- fl.o];cases c0 <;> cases bl <;> simp
 clear em e0 el f0 fl;cases m
 .have HR:Hid (wfX X bit = { X with ct:=1,lv:=bit }):=Lo (by simpa using fm.o) HCX.o.1;have HV9:Hid (fc2 w κ κ { X with ct:=1,lv:=bit } s X.ho s (World.setCell (World.setCell wc ⟨w.heap.size,1,nn⟩ (I J 1)) ⟨w.heap.size,2,nn⟩ (I J bit))):=((H0.o.set 1 (I J 1) { X with ct:=1 } rfl).set 2 (I J bit) { X with ct:=1,lv:=bit } rfl)
  go_upto_region 16 with fail
  generalize (World.setCell (World.setCell wc ⟨w.heap.size,1,nn⟩ (I J 1)) ⟨w.heap.size,2,nn⟩ (I J bit))=w9 at *;go_wp2_with (first | (refine fc.ld HV9.o ?_) | (refine fc.rt (C2:={ X with ct:=1,lv:=bit }) (s2:=s) HV9.o ?_;intro w11 b11 R11));refine bC results57 (tW b11) ?_;rw[HOF.o,HEX.o,HR.o];exact⟨_,_,rfl,R11⟩
 .cases d
  .have HR:Hid (wfX X bit = { X with ct:=X.ct+1,lv:=bit }):=by show _=_;unfold wfX;rw[qc (fm.o.1 rfl).2,qa (by simpa using fd.o)]
   have HV9:Hid (fc2 w κ κ { X with ct:=(X.ct+1),lv:=bit } s X.ho s (World.setCell (World.setCell wc ⟨w.heap.size,1,nn⟩ (I J (X.ct+1))) ⟨w.heap.size,2,nn⟩ (I J bit))):=((H0.o.set 1 (I J (X.ct+1)) { X with ct:=(X.ct+1) } rfl).set 2 (I J bit) { X with ct:=(X.ct+1),lv:=bit } rfl)
   go_upto_region 16 with fail
   generalize (World.setCell (World.setCell wc ⟨w.heap.size,1,nn⟩ (I J (X.ct+1))) ⟨w.heap.size,2,nn⟩ (I J bit))=w9 at *;go_wp2_with (first | (refine fc.ld HV9.o ?_) | (refine fc.rt (C2:={ X with ct:=(X.ct+1),lv:=bit }) (s2:=s) HV9.o ?_;intro w11 b11 R11));refine bC results57 (tW b11) ?_;rw[HOF.o,HEX.o,HR.o];exact⟨_,_,rfl,R11⟩
  .have HR:Hid (wfX X bit = { X with p:=3,ct:=0,lv:=0,wk:=false,ow:=false }):=by show _=_;unfold wfX;rw[qc (fm.o.1 rfl).2,qc (by simpa using fd.o)]
   have HV9:Hid (fc2 w κ κ { X with p:=3,ct:=0,lv:=0,wk:=false,ow:=false } s X.ho s (World.setCell (World.setCell (World.setCell (World.setCell (World.setCell (World.setCell (World.setCell wc ⟨w.heap.size,1,nn⟩ (I J (X.ct+1))) ⟨w.heap.size,2,nn⟩ (I J bit)) ⟨w.heap.size,0,nn⟩ (I J 3)) ⟨w.heap.size,1,nn⟩ (I J 0)) ⟨w.heap.size,2,nn⟩ (I J 0)) ⟨w.heap.size,3,nn⟩ (bO false)) ⟨w.heap.size,5,nn⟩ (bO false))):=(((((((H0.o.set 1 (I J (X.ct+1)) { X with ct:=(X.ct+1) } rfl).set 2 (I J bit) { X with ct:=(X.ct+1),lv:=bit } rfl).set 0 (I J 3) { X with ct:=(X.ct+1),lv:=bit,p:=3 } rfl).set 1 (I J 0) { X with lv:=bit,p:=3,ct:=0 } rfl).set 2 (I J 0) { X with p:=3,ct:=0,lv:=0 } rfl).set 3 (bO false) { X with p:=3,ct:=0,lv:=0,wk:=false } rfl).set 5 (bO false) { X with p:=3,ct:=0,lv:=0,wk:=false,ow:=false } rfl)
   go_upto_region 16 with fail
   generalize (World.setCell (World.setCell (World.setCell (World.setCell (World.setCell (World.setCell (World.setCell wc ⟨w.heap.size,1,nn⟩ (I J (X.ct+1))) ⟨w.heap.size,2,nn⟩ (I J bit)) ⟨w.heap.size,0,nn⟩ (I J 3)) ⟨w.heap.size,1,nn⟩ (I J 0)) ⟨w.heap.size,2,nn⟩ (I J 0)) ⟨w.heap.size,3,nn⟩ (bO false)) ⟨w.heap.size,5,nn⟩ (bO false))=w9 at *;go_wp2_with (first | (refine fc.ld HV9.o ?_) | (refine fc.rt (C2:={ X with p:=3,ct:=0,lv:=0,wk:=false,ow:=false }) (s2:=s) HV9.o ?_;intro w11 b11 R11));refine bC results57 (tW b11) ?_;rw[HOF.o,HEX.o,HR.o];exact⟨_,_,rfl,R11⟩
end
def Jp {X:Co} {n:Int} (hp:X.p≠7):ob X n=ofI (oX X X.tx n):=by
 rcases Ia X n with⟨a,b⟩|⟨a,b⟩
 .rw[b,JY a (by rw[GZ];exact hp)]
 .rw[b,s8 a]
def LV (C:Co) (b:Bool) (n m k:Int):{ oX { C with ct:=m } b n with ct:=k }=oX { C with ct:=k } b n:=by unfold oX;split <;> rfl
def K6 {κ:Nat->Nat} (w:World) (C:Co) (s:Sl) (bit:Int) (hc:0<=C.ct/\C.ct<=200) (ht:0<=C.te/\C.te<256) (hr:0<=C.re/\C.re<=255) (hp:C.p≠7) (h:hG κ C.ho s w) :
  Calls Tp 59 #[aG (coL C s).toArray,I J bit] w (cA w κ (ofI (waC C bit))):=by
 have H0:Hid (fc2 w κ κ C s C.ho s ((w.alloc (.cells (coL C s).toArray 43)).alloc (.cells zY.toArray 43))):=fc.new2 h;have HAD:Hid (∀ W X,X.te=C.te->X.re=C.re->Calls Tp 121 #[aG (coL X s).toArray,I J 8] W fun o w'=>o = rT (aG (coL (ob X 8) s).toArray)/\Bl W w'):=fun W X e1 e2=>GW W X s 8 (by decide) (by rw[e1];exact ht) (by rw[e2];exact hr);have HC:=DU (qG ht hp);have hw:=pf hc;clear h hc ht hr hp;have y0:=H0.o.p.cell 0 (I J C.p) rfl;have y1:=H0.o.p.cell 1 (I J C.ct) rfl;have y4:=H0.o.p.cell 4 (bO C.ov) rfl;have y6:=H0.o.p.cell 6 (bO C.tx) rfl;have z0:=H0.o.p.free 0;have z1:=H0.o.p.free 1;obtain⟨tx,etx⟩ : ∃ b,C.tx=b:=⟨_,rfl⟩
 obtain⟨ov,eov⟩ : ∃ b,C.ov=b:=⟨_,rfl⟩
 rw[etx] at y6;rw[eov] at y4;obtain⟨b,e,_,fb⟩:=eqB bit 1;obtain⟨d1,e1,_,f1⟩:=eqB (C.ct+1) 1;obtain⟨d8,e8,_,f8⟩:=eqB (C.ct+1) 8;obtain⟨d16,e16,_,f16⟩:=eqB (C.ct+1) 16;have HQ:Hid (waC C bit=if b=true then { C with p:=4,ct:=1 } else if ((d1 && !tx && !ov) || d8)=true then oX { C with ct:=C.ct+1 } C.tx 8 else if d16=true then { oX { C with ct:=C.ct+1 } C.tx 8 with ct:=8 } else { C with ct:=C.ct+1 }):=by
  show _=_;have h1:(((d1 && !tx && !ov) || d8)=true)↔((C.ct+1=1/\C.tx=false/\C.ov=false)\/C.ct+1=8):=by rw[<- f1.o,<- f8.o,etx,eov];cases d1 <;> cases tx <;> cases ov <;> cases d8 <;> simp
  unfold waC;simp only[h1,fb.o,f16.o]
 have HX8:Hid (d16=true->d8=false/\d1=false):=fun x=>by
  have h1:=f16.o.1 x;refine⟨?_,?_⟩
  .cases d8
   .rfl
   .have:=f8.o.1 rfl;omega
  .cases d1
   .rfl
   .have:=f1.o.1 rfl;omega
 have HTO:=DU (qG etx eov);clear fb f1 f8 f16 etx eov;generalize hW0:((w.alloc (.cells (coL C s).toArray 43)).alloc (.cells zY.toArray 43))=W0 at *;go_enter func59,ntmps59;cases b;case true=>
  have HR:Hid (ofI (waC C bit) = { C with p:=4,ct:=1 }):=by
   show _=_;rw[HQ.o];exact s8 (by have:=HC.o.1.2;intro x;have x:C.te=256:=x;omega)
  have HV9:Hid (fc2 w κ κ { C with p:=4,ct:=1 } s C.ho s (World.setCell (World.setCell W0 ⟨w.heap.size,0,none⟩ (I J 4)) ⟨w.heap.size,1,none⟩ (I J 1))):=((H0.o.set 0 (I J 4) { C with p:=4 } rfl).set 1 (I J 1) { C with p:=4,ct:=1 } rfl)
  go_upto_region 4 with fail
  generalize (World.setCell (World.setCell W0 ⟨w.heap.size,0,none⟩ (I J 4)) ⟨w.heap.size,1,none⟩ (I J 1))=w9 at *;go_wp2_with (first | (refine fc.ld HV9.o ?_) | (refine fc.rt (C2:={ C with p:=4,ct:=1 }) (s2:=s) HV9.o ?_;intro w11 b11 R11));refine bC results59 (tW b11) ?_;rw[HR.o];exact⟨_,_,rfl,R11⟩
 case false=>
 go_upto_if 18 with fail
 go_cut [] (fun wx=>Hid (fc2 w κ κ (if d16=true then { C with ct:=8 } else { C with ct:=C.ct+1 }) s C.ho s wx));case first=>
  cases d16
  .have HV1:Hid (fc2 w κ κ { C with ct:=(C.ct+1) } s C.ho s (World.setCell W0 ⟨w.heap.size,1,none⟩ (I J (C.ct+1)))):=(H0.o.set 1 (I J (C.ct+1)) { C with ct:=(C.ct+1) } rfl)
   go_wp2_with fail;go_meet;case rel=>exact HV1.o
  .have HV1:Hid (fc2 w κ κ { C with ct:=8 } s C.ho s (World.setCell (World.setCell W0 ⟨w.heap.size,1,none⟩ (I J (C.ct+1))) ⟨w.heap.size,1,none⟩ (I J 8))):=((H0.o.set 1 (I J (C.ct+1)) { C with ct:=(C.ct+1) } rfl).set 1 (I J 8) { C with ct:=8 } rfl)
   go_wp2_with fail;go_meet;case rel=>exact HV1.o
 case rest=>
 have HV2:=hcut;have YY:Hid (((if d16=true then { C with ct:=8 } else { C with ct:=C.ct+1 })).te=C.te/\((if d16=true then { C with ct:=8 } else { C with ct:=C.ct+1 })).re=C.re/\((if d16=true then { C with ct:=8 } else { C with ct:=C.ct+1 })).ho=C.ho/\((if d16=true then { C with ct:=8 } else { C with ct:=C.ct+1 })).tx=C.tx/\((if d16=true then { C with ct:=8 } else { C with ct:=C.ct+1 })).p=C.p/\((if d16=true then { C with ct:=8 } else { C with ct:=C.ct+1 })).ov=C.ov):=by cases d16 <;> exact⟨rfl,rfl,rfl,rfl,rfl,rfl⟩
 clear hcut y0 y1 y4 y6 z0 z1;obtain⟨X,eX⟩ : ∃ X,(if d16=true then { C with ct:=8 } else { C with ct:=C.ct+1 })=X:=⟨_,rfl⟩
 rw[eX] at HV2 YY;have HEX:=DU eX;clear eX H0;have y4:=HV2.o.p.cell 4 (bO X.ov) rfl;have y6:=HV2.o.p.cell 6 (bO X.tx) rfl;rw[YY.o.2.2.2.2.2,HTO.o.2] at y4;rw[YY.o.2.2.2.1,HTO.o.1] at y6;go_upto_region 9 with fail
 go_cut [39] (fun x wx=>x = bO (d8 || d16 || (d1 && !tx && !ov))/\wx=wc);case first=>
  clear HQ HX8 HTO YY HEX;have hh:(d8=true)\/(d8=false/\d16=true)\/(d8=false/\d16=false/\d1=true/\tx=true)\/(d8=false/\d16=false/\d1=true/\tx=false/\ov=true)\/(d8=false/\d16=false/\d1=true/\tx=false/\ov=false)\/(d8=false/\d16=false/\d1=false):=by cases d8 <;> cases d16 <;> cases d1 <;> cases tx <;> cases ov <;> simp
  rcases hh with rfl | ⟨rfl,rfl⟩ | ⟨rfl,rfl,rfl,rfl⟩ | ⟨rfl,rfl,rfl,rfl,rfl⟩ | ⟨rfl,rfl,rfl,rfl,rfl⟩ | ⟨rfl,rfl,rfl⟩ <;> (
   go_wp2_with fail;go_meet
   case rel=>exact⟨rfl,rfl⟩)
 case rest=>
 obtain⟨rfl,hw1⟩:=hcut;have hw1:=hw1.symm;subst hw1;obtain⟨m,em⟩ : ∃ m,(d8 || d16 || (d1 && !tx && !ov))=m:=⟨_,rfl⟩
 rw[em];have HM:=DU em;rw[<- YY.o.2.2.1] at HV2;have HR:Hid (ofI (waC C bit)=if m=true then ob X 8 else X):=by
  show _=_;have h8:=HX8.o;rw[HQ.o,<- HM.o];by_cases h16:d16=true
  .have h:=h8 h16;rw[h16,h.1,h.2];have ex:X = { C with ct:=8 }:=by rw[<- HEX.o,qc h16]
   show ofI { oX { C with ct:=C.ct+1 } C.tx 8 with ct:=8 }=ob X 8;rw[LV,ex,Jp (X:={ C with ct:=8 }) (n:=8) HC.o.2]
  .have h16':d16=false:=by simpa using h16
   have ex:X = { C with ct:=C.ct+1 }:=by rw[<- HEX.o,qa h16]
   rw[h16',ex,Jp (X:={ C with ct:=C.ct+1 }) (n:=8) HC.o.2];by_cases hq:((d1 && !tx && !ov) || d8)=true
   .have hq2:(d8 || false || (d1 && !tx && !ov))=true:=by rw[Bool.or_false,Bool.or_comm];exact hq
    rw[qa (by decide),qc hq,qc hq2]
   .have hq2:¬ (d8 || false || (d1 && !tx && !ov))=true:=by rw[Bool.or_false,Bool.or_comm];exact hq
    rw[qa (by decide),qa hq,qa (by decide),qa hq2];exact s8 (by have:=HC.o.1.2;intro x;have x:C.te=256:=x;omega)
 clear em HM HQ HX8 HTO HEX y4 y6 e1 e8 e16;cases m;case false=>
  go_upto_region 11 with fail
  go_wp2_with (first | (refine fc.ld HV2.o ?_) | (refine fc.rt (C2:=X) (s2:=s) HV2.o ?_;intro w11 b11 R11));refine bC results59 (tW b11) ?_;rw[HR.o];exact⟨_,_,rfl,R11⟩
 case true=>
  go_wp2_with (refine fc.ld HV2.o ?_);refine (HAD.o _ X YY.o.1 YY.o.2.1).mono ?_;rintro o w8 ⟨rfl,hb8⟩;have HV8:Hid (fc2 w κ _ X s X.ho s w8):=HV2.o.below hb8;clear hb8 HV2;go_upto_region 11 with (refine fc.sv (C2:=(ob X 8)) (s2:=s) HV8.o ?_;intro w9 HV9)
  simp only[Act.put];have HXh:Hid (X.ho=(ob X 8).ho):=(IY X 8).symm;rw[HXh.o] at HV9;go_wp2_with (first | (refine fc.ld HV9.o ?_) | (refine fc.rt (C2:=(ob X 8)) (s2:=s) HV9.o ?_;intro w11 b11 R11));refine bC results59 (tW b11) ?_;rw[HR.o];exact⟨_,_,rfl,R11⟩
def Ly {κ:Nat->Nat} (w:World) (C:Co) (s:Sl) (bit r:Int) (hbit:bit=0\/bit=1) (hc:0<=C.ct/\C.ct<=2) (ht:C.te≠256) (hp:C.p≠7) (hb:bdQ 1000 C.ho) (hn2:C.ho.bx.length<=8) (hbr:wv C.ho.bx r) (h:hG κ C.ho s w) :
  Calls Tp 61 #[aG (coL C s).toArray,I J bit] w (cA w κ (gpC C bit r)):=by
 have H0:Hid (fc2 w κ κ C s C.ho s ((w.alloc (.cells (coL C s).toArray 43)).alloc (.cells zY.toArray 43))):=fc.new2 h;have hw:=pf (n:=C.ct) om;obtain⟨z,ez⟩ : ∃ z,esZ C.p C.te C.re=z:=⟨_,rfl⟩
 have HES:Hid (∀ W,Calls Tp 56 #[aG (coL C s).toArray] W fun o w'=>o = rT (I J z)/\Bl W w'):=fun W=>by rw[<- ez];exact Gm W C s
 obtain⟨b1,e1,_,_⟩:=eqB z 1;obtain⟨tx,etx⟩ : ∃ b,C.tx=b:=⟨_,rfl⟩
 have HM:Hid (msB C=(tx && b1)):=by
  show _=_;unfold msB;rw[etx,<- e1,<- ez];unfold esZ stZ;rw[qa hp,qa ht]
 have HOV:Hid (∀ W κ,hG κ C.ho s W->Calls Tp 60 #[aG (coL C s).toArray] W (cA W κ (ovC C))):=fun W κ hW=>Hv hW hb
 have HBE:Hid (∀ W κ,hG κ C.ho s W->Calls Tp 124 #[aG (hoL C.ho s).toArray] W fun o w'=>o = rT (I J r)/\Bl W w'):=fun W κ hW=>by
  rw[<- Gt];refine (JI W C.ho s hW.is.bx (by rw[hW.n2];exact hn2)).mono ?_;rintro o w' ⟨r',rfl,h1,h2⟩;exact⟨by rw[IB h1 hbr],h2⟩
 have HTK:Hid (∀ W κ,hG κ C.ho s W->Calls Tp 125 #[aG (hoL C.ho s).toArray,I J r] W (hA W κ (eQ C.ho r))):=fun W κ hW=>Md hW r om;have y6:=H0.o.p.cell 6 (bO C.tx) rfl;rw[etx] at y6;obtain⟨b,e,_,fb⟩:=eqB bit 1;obtain⟨c3,e3,f3⟩:=ltB (C.ct+1) 3;obtain⟨c2,e2,f2⟩:=ltB C.ct 2;have HB0:Hid (b=false->bit=0):=fun x=>by rcases hbit with h0 | h0;exact h0;have:=fb.o.2 h0;rw[x] at this;cases this
 have HC:=DU hc;clear h ez etx hbit hc ht hp hb hn2 hbr;go_enter func61,ntmps61;go_upto_region 1 with fail
 go_cut [5] (fun x wx=>x = bO (tx && b1)/\Hid (fc2 w κ κ C s C.ho s wx));case first=>
  cases tx
  .go_wp2_with fail;go_meet;case rel=>exact⟨rfl,H0.o⟩
  .go_wp2_with (refine di (by first | rfl | (simp[Region.wanted,yielded];done)) 43 (.tmp 2) rfl w.heap.size 0 rfl (coL C s) _ H0.o.p.load underlying43 rfl (cy _ _) ?_);refine (HES.o _).mono ?_;rintro o w1 ⟨rfl,hb1⟩;have H1:Hid (fc2 w κ _ C s C.ho s w1):=H0.o.below hb1
   clear hb1;cases b1 <;> (
    go_wp2_with fail;go_meet
    case rel=>exact⟨rfl,H1.o⟩)
 case rest=>
 obtain⟨rfl,H1⟩:=hcut;rw[<- HM.o];clear H0 y6 HES HM e1;obtain⟨ms,ems⟩ : ∃ b,msB C=b:=⟨_,rfl⟩
 rw[ems];have HMS:=DU ems;clear ems;have y0:=H1.o.p.cell 0 (I J C.p) rfl;have y1:=H1.o.p.cell 1 (I J C.ct) rfl;have y6:=H1.o.p.cell 6 (bO C.tx) rfl;have z0:=H1.o.p.free 0;have z1:=H1.o.p.free 1;have z6:=H1.o.p.free 6;cases b;case true=>
  have h1:=fb.o.1 rfl;cases c3;case true=>
   have HR:Hid (gpC C bit r = { C with ct:=C.ct+1 }):=by show _=_;unfold gpC;rw[h1,qa (by decide),qa (by have:=f3.o.1 rfl;omega)]
   clear h1;have HV9:Hid (fc2 w κ κ { C with ct:=(C.ct+1) } s C.ho s (World.setCell wc ⟨w.heap.size,1,nn⟩ (I J (C.ct+1)))):=(H1.o.set 1 (I J (C.ct+1)) { C with ct:=(C.ct+1) } rfl)
   go_upto_region 5 with fail
   generalize (World.setCell wc ⟨w.heap.size,1,nn⟩ (I J (C.ct+1)))=w9 at *;go_wp2_with (first | (refine fc.ld HV9.o ?_) | (refine fc.rt (C2:={ C with ct:=(C.ct+1) }) (s2:=s) HV9.o ?_;intro w11 b11 R11));refine bC results61 (tW b11) ?_;rw[HR.o];exact⟨_,_,rfl,R11⟩
  case false=>
  have HR:Hid (gpC C bit r=if ms=true then { C with ct:=0,p:=6 } else { C with ct:=0,p:=0,tx:=false }):=by
   show _=_;have h3:C.ct+1=3:=by
    have h4:¬ C.ct+1<3:=fun x=>by have:=f3.o.2 x;cases this
    have:=HC.o;omega
   unfold gpC;rw[h1,qa (by decide),qc h3];unfold lgC;rw[show msB { C with ct:=C.ct+1 }=ms from HMS.o]
  clear h1;cases ms
  .have HV9:Hid (fc2 w κ κ { C with ct:=0,p:=0,tx:=false } s C.ho s (World.setCell (World.setCell (World.setCell (World.setCell wc ⟨w.heap.size,1,nn⟩ (I J (C.ct+1))) ⟨w.heap.size,1,nn⟩ (I J 0)) ⟨w.heap.size,0,nn⟩ (I J 0)) ⟨w.heap.size,6,nn⟩ (bO false))):=((((H1.o.set 1 (I J (C.ct+1)) { C with ct:=(C.ct+1) } rfl).set 1 (I J 0) { C with ct:=0 } rfl).set 0 (I J 0) { C with ct:=0,p:=0 } rfl).set 6 (bO false) { C with ct:=0,p:=0,tx:=false } rfl)
   go_upto_region 11 with fail
   generalize (World.setCell (World.setCell (World.setCell (World.setCell wc ⟨w.heap.size,1,nn⟩ (I J (C.ct+1))) ⟨w.heap.size,1,nn⟩ (I J 0)) ⟨w.heap.size,0,nn⟩ (I J 0)) ⟨w.heap.size,6,nn⟩ (bO false))=w9 at *;go_wp2_with (first | (refine fc.ld HV9.o ?_) | (refine fc.rt (C2:={ C with ct:=0,p:=0,tx:=false }) (s2:=s) HV9.o ?_;intro w11 b11 R11));refine bC results61 (tW b11) ?_;rw[HR.o];exact⟨_,_,rfl,R11⟩
  .have HV9:Hid (fc2 w κ κ { C with ct:=0,p:=6 } s C.ho s (World.setCell (World.setCell (World.setCell (World.setCell wc ⟨w.heap.size,1,nn⟩ (I J (C.ct+1))) ⟨w.heap.size,1,nn⟩ (I J 0)) ⟨w.heap.size,0,nn⟩ (I J 0)) ⟨w.heap.size,0,nn⟩ (I J 6))):=((((H1.o.set 1 (I J (C.ct+1)) { C with ct:=(C.ct+1) } rfl).set 1 (I J 0) { C with ct:=0 } rfl).set 0 (I J 0) { C with ct:=0,p:=0 } rfl).set 0 (I J 6) { C with ct:=0,p:=6 } rfl)
   go_upto_region 11 with fail
   generalize (World.setCell (World.setCell (World.setCell (World.setCell wc ⟨w.heap.size,1,nn⟩ (I J (C.ct+1))) ⟨w.heap.size,1,nn⟩ (I J 0)) ⟨w.heap.size,0,nn⟩ (I J 0)) ⟨w.heap.size,0,nn⟩ (I J 6))=w9 at *;go_wp2_with (first | (refine fc.ld HV9.o ?_) | (refine fc.rt (C2:={ C with ct:=0,p:=6 }) (s2:=s) HV9.o ?_;intro w11 b11 R11));refine bC results61 (tW b11) ?_;rw[HR.o];exact⟨_,_,rfl,R11⟩
 case false=>
 have h0:=HB0.o rfl;cases c2;case true=>
  have HR:Hid (gpC C bit r=ovC C):=by show _=_;unfold gpC;rw[qc h0,qc (f2.o.1 rfl)]
  clear h0;go_upto_region 13 with fail
  go_wp2_with (refine fc.ld H1.o ?_);refine (HOV.o _ _ H1.o.g).mono ?_;rintro o w2 ⟨s2,κ2,rfl,G2⟩;have HV2:Hid (fc2 w κ _ C s (ovC C).ho s2 w2):=H1.o.call G2.o;clear G2 H1;go_wp2_with (refine fc.rt (C2:=(ovC C)) (s2:=s2) HV2.o ?_;intro w11 b11 R11);refine bC results61 (tW b11) ?_;rw[HR.o];exact⟨_,_,rfl,R11⟩
 case false=>
 have HGP:Hid (gpC C bit r=jnC C r):=by show _=_;unfold gpC;rw[qc h0,qa (fun x=>by have:=f2.o.2 x;cases this)]
 have HV3:Hid (fc2 w κ κ { C with ct:=0,p:=1 } s C.ho s (World.setCell (World.setCell wc ⟨w.heap.size,1,nn⟩ (I J 0)) ⟨w.heap.size,0,nn⟩ (I J 1))):=((H1.o.set 1 (I J 0) { C with ct:=0 } rfl).set 0 (I J 1) { C with ct:=0,p:=1 } rfl)
 clear h0;go_upto_region 16 with fail
 generalize (World.setCell (World.setCell wc ⟨w.heap.size,1,nn⟩ (I J 0)) ⟨w.heap.size,0,nn⟩ (I J 1))=w3 at *;go_wp2_with (refine fc.lh HV3.o ?_);refine (HBE.o _ _ HV3.o.g).mono ?_;rintro o w4 ⟨rfl,hb4⟩;have HV4:Hid (fc2 w κ _ { C with ct:=0,p:=1 } s C.ho s w4):=HV3.o.below hb4;clear hb4 HV3 y0 y1 y6 z0 z1 z6 HBE HOV;have y6:=HV4.o.p.cell 6 (bO C.tx) rfl;have z6:=HV4.o.p.free 6;obtain⟨br,ebr⟩ : ∃ b,decide (0<=r)=b:=⟨_,rfl⟩
 cases br
 .have HV5:Hid (fc2 w κ κ { C with ct:=0,p:=1,tx:=false } s C.ho s (World.setCell w4 ⟨w.heap.size,6,nn⟩ (bO false))):=HV4.o.set 6 (bO false) { C with ct:=0,p:=1,tx:=false } rfl;have HR:Hid (jnC C r = { C with p:=1,ct:=0,tx:=false }):=by show _=_;unfold jnC;rw[ebr,HMS.o];rfl
  go_upto_region 20 with fail
  generalize (World.setCell w4 ⟨w.heap.size,6,nn⟩ (bO false))=w5 at *;go_wp2_with (first | (refine fc.ld HV5.o ?_) | (refine fc.rt (C2:={ C with ct:=0,p:=1,tx:=false }) (s2:=s) HV5.o ?_;intro w11 b11 R11));refine bC results61 (tW b11) ?_;rw[HGP.o,HR.o];exact⟨_,_,rfl,R11⟩
 .cases ms
  .have HV5:Hid (fc2 w κ κ { C with ct:=0,p:=1,tx:=true } s C.ho s (World.setCell w4 ⟨w.heap.size,6,nn⟩ (bO true))):=HV4.o.set 6 (bO true) { C with ct:=0,p:=1,tx:=true } rfl;have HR:Hid (jnC C r = { C with p:=1,ct:=0,tx:=true,ho:=eQ C.ho r }):=by show _=_;unfold jnC;rw[ebr,HMS.o];rfl
   go_upto_region 19 with fail
   generalize (World.setCell w4 ⟨w.heap.size,6,nn⟩ (bO true))=w5 at *;go_wp2_with (refine fc.lh HV5.o ?_);refine (HTK.o _ _ HV5.o.g).mono ?_;rintro o w6 ⟨s6,κ6,rfl,G2⟩;have HV6:Hid (fc2 w κ _ { C with ct:=0,p:=1,tx:=true } s (eQ C.ho r) s6 w6):=HV5.o.call G2.o;clear G2 HV5 HTK;go_upto_region 20 with (refine fc.sh (H2:=(eQ C.ho r)) (s2:=s6) HV6.o ?_;intro w7 HV7)
   simp only[Act.put];obtain⟨Z,eZ⟩ : ∃ Z:Co,Z = { C with p:=1,ct:=0,tx:=true,ho:=eQ C.ho r }:=⟨_,rfl⟩
   have HV8:Hid (fc2 w κ κ6 Z s6 Z.ho s6 w7):=by rw[eZ];exact HV7.o
   rw[<- eZ] at HR;clear HV7 HV6 eZ;go_wp2_with (first | (refine fc.ld HV8.o ?_) | (refine fc.rt (C2:=Z) (s2:=s6) HV8.o ?_;intro w11 b11 R11));refine bC results61 (tW b11) ?_;rw[HGP.o,HR.o];exact⟨_,_,rfl,R11⟩
  .have HV5:Hid (fc2 w κ κ { C with ct:=0,p:=1,tx:=false } s C.ho s (World.setCell w4 ⟨w.heap.size,6,nn⟩ (bO false))):=HV4.o.set 6 (bO false) { C with ct:=0,p:=1,tx:=false } rfl;have HR:Hid (jnC C r = { C with p:=1,ct:=0,tx:=false }):=by show _=_;unfold jnC;rw[ebr,HMS.o];rfl
   go_upto_region 20 with fail
   generalize (World.setCell w4 ⟨w.heap.size,6,nn⟩ (bO false))=w5 at *;go_wp2_with (first | (refine fc.ld HV5.o ?_) | (refine fc.rt (C2:={ C with ct:=0,p:=1,tx:=false }) (s2:=s) HV5.o ?_;intro w11 b11 R11));refine bC results61 (tW b11) ?_;rw[HGP.o,HR.o];exact⟨_,_,rfl,R11⟩
section
variable {C:Co}
def Lr (C A:Co) (h:A.p=7->A.te=256):tlC (ofI A) (stZ C.te C.re)=af C A:=by
 have e1:∀ X:Co,(X.p=7↔X.te=256)->∀ b,tlC X b=tS X b:=fun X hx b=>by
  unfold tlC tS esZ stZ;by_cases e:X.te=256
  .rw[qc (hx.2 e),qc e]
  .rw[qa (fun x=>e (hx.1 x)),qa e]
 unfold af;show tlC (ofI A) _=tS (ofI A) _;refine e1 _ ?_ _;unfold ofI;split
 .rename_i e;exact⟨fun _=>e.1,fun _=>rfl⟩
 .rename_i e;refine⟨h,fun x=>?_⟩;by_cases hp:A.p=7
  .exact hp
  .exact Qy ⟨x,hp⟩ e
def My (C:Co) (b:Int):(wfO C b).p=C.p:=by unfold wfO;split;exact GZ _ _ _;rfl
def KF (C:Co) (b:Int):(wfO C b).ho=C.ho:=by unfold wfO;split;unfold oX;split <;> rfl;rfl
def JZ (C:Co):(lgC C).p≠7/\(lgC C).ho=C.ho/\(lgC C).te=C.te:=by unfold lgC;split;exact⟨by show (6:Int)≠7;decide,rfl,rfl⟩;exact⟨by show (0:Int)≠7;decide,rfl,rfl⟩
def J0 (C:Co) (r:Int):(jnC C r).p≠7/\((jnC C r).ho=eQ C.ho r\/(jnC C r).ho=C.ho)/\(jnC C r).te=C.te:=by unfold jnC;split;exact⟨by show (1:Int)≠7;decide,qr rfl,rfl⟩;exact⟨by show (1:Int)≠7;decide,qx rfl,rfl⟩
def Hx (h:C.p≠7) (b r:Int):(gpC C b r).p≠7/\(gpC C b r).te=C.te:=by
 unfold gpC;split
 .split
  .exact⟨by show (2:Int)≠7;decide,rfl⟩
  .exact⟨(J0 C r).1,(J0 C r).2.2⟩
 .split
  .exact⟨(JZ _).1,(JZ _).2.2⟩
  .exact⟨h,rfl⟩
def Mf (h:C.p≠7) (b r:Int):(aP C b r).p≠7:=by
 unfold aP;split
 .unfold idC;split
  .show (1:Int)≠7;decide
  .exact h
 split
 .unfold flC;split
  .rcases L0 (wfO C b) b with e|e
   .rw[e];decide
   .rw[e,My];exact h
  split
  .show (2:Int)≠7;decide
  split
  .show (3:Int)≠7;decide
  .exact h
 split
 .unfold waC;split
  .show (4:Int)≠7;decide
  split
  .rw[GZ];exact h
  split
  .show (oX _ _ _).p≠7;rw[GZ];exact h
  .exact h
 split
 .unfold dlC;split
  .split
   .show (2:Int)≠7;decide
   .show (2:Int)≠7;decide
  .split
   .show (5:Int)≠7;decide
   .exact h
 split
 .exact (Hx h b r).1
 split
 .unfold suC;split
  .show (1:Int)≠7;decide
  split
  .show (0:Int)≠7;decide
  .exact h
 first | exact h | (split <;> first | (rename_i e;exact Qy e h) | exact h)
def L9 (b:Int) (h:C.p=7):((ofC C b).p=7/\(ofC C b).te=C.te)\/ofC C b=bkC C:=by
 unfold ofC;split
 .split
  .exact qr ⟨h,rfl⟩
  split
  .split
   .exact qx rfl
   .exact qr ⟨h,rfl⟩
  .exact qr ⟨h,rfl⟩
 .exact qr ⟨h,rfl⟩
def Lq (h:C.p=7) (b r:Int):aP C b r=ofC C b:=by unfold aP;simp[h]
def MA (hok:MV C) (b r:Int) (h:(aP C b r).p=7):(aP C b r).te=256:=by
 by_cases e:C.p=7
 .rw[Lq e] at h ⊢;rcases L9 b e with⟨_,h2⟩|h2
  .rw[h2];exact hok.m.of.1 e
  .rw[h2] at h;cases h
 .exact Qy h (Mf e b r)
def Lw (b:Int) (h:C.p=7):ofI (ofC C b)=ofC C b:=by
 unfold ofI;rw[qa];rintro⟨h1,h2⟩;rcases L9 b h with⟨h3,_⟩|h3
 .exact h2 h3
 .rw[h3] at h1;cases h1
def bdQ.take {n:Nat} {H:Ho} (h:bdQ n H) (r:Int):bdQ n (eQ H r):=⟨h.q,h.lo⟩
def KL (h:bdQ 900 C.ho) (b r:Int):bdQ 902 (aP C b r).ho:=by
 have h0:bdQ 902 C.ho:=h.up (by decide)
 have hf:∀ k,bdQ 902 (aS C k).ho:=fun k=>by
  have e:(aS C k).ho=vw C k:=by show (oX (Gh C k) C.tx _).ho=_;unfold oX;split <;> rfl
  rw[e];exact (h.post _).rel false
 have ho:bdQ 902 (ovC C).ho:=(h.post _).up (by decide)
 have ha:∀ X n,X.ho=C.ho->bdQ 902 (oX X C.tx n).ho:=fun X n e=>by
  have:(oX X C.tx n).ho=X.ho:=by unfold oX;split <;> rfl
  rw[this,e];exact h0
 unfold aP;split
 .unfold idC;split <;> exact h0
 split
 .unfold flC;split
  .rw[(ID _ _).2.2,KF];exact h0
  split
  .exact hf 1
  split <;> exact h0
 split
 .unfold waC;split
  .exact h0
  split
  .exact ha _ _ rfl
  split
  .exact ha { C with ct:=C.ct+1 } 8 rfl
  .exact h0
 split
 .unfold dlC;split
  .split
   .exact ho
   .exact hf 3
  .split <;> exact h0
 split
 .unfold gpC;split
  .split
   .exact ho
   .rcases (J0 C r).2.1 with e|e
    .rw[e];exact h0.take r
    .rw[e];exact h0
  .split
   .rw[(JZ _).2.1];exact h0
   .exact h0
 split
 .unfold suC;split
  .exact h0
  split <;> exact h0
 split
 .unfold ofC;split
  .split
   .exact h0
   split
   .split <;> exact h0
   .exact h0
  .exact h0
 .exact h0
def Mm (A:Co):(ofI A).ho=A.ho:=by unfold ofI;split <;> rfl
def JG {κ:Nat->Nat} (w:World) (C:Co) (s:Sl) (k r:Int) (hk:k=0\/k=1) (hok:MV C) (h1:C.p≠1) (hn:C.ho.le 1048576) (hb:wv C.ho.bx r) (h:hG κ C.ho s w) :
  Calls Tp 29 #[aG (coL C s).toArray,I J k] w (cA w κ (af C (aP C k r))):=by
 have H0:Hid (fc2 w κ κ C s C.ho s ((w.alloc (.cells (coL C s).toArray 43)).alloc (.cells zY.toArray 43))):=fc.new2 h;have hc:=hok.ct;have hw:=pf hc;have HOK:=DU hok;have hte:C.p≠7->0<=C.te/\C.te<256:=fun hp=>⟨hok.m.te.1,by have:=hok.m.te.2;have:C.te≠256:=fun e=>hp (hok.m.of.2 e);omega⟩
 obtain⟨es,hes⟩ : ∃ es,stZ C.te C.re=es:=⟨_,rfl⟩
 have HES:Hid (∀ W,Calls Tp 56 #[aG (coL C s).toArray] W fun o w'=>o = rT (I J es)/\Bl W w'):=fun W=>by
  have h1:=Gm W C s;have h2:esZ C.p C.te C.re=es:=by
   rw[<- hes];unfold esZ stZ;by_cases e:C.p=7
   .rw[qc e,qc (hok.m.of.1 e)]
   .rw[qa e,qa (fun x=>e (hok.m.of.2 x))]
  rw[h2] at h1;exact h1
 have hbd:=hok.h.bd;have HFT0:Hid (C.p≠7->∀ kk W κ,hG κ C.ho s W->Calls Tp 58 #[aG (coL C s).toArray,I J kk] W (cA W κ (af C (aS C kk)))):=fun hp kk W κ hW=>He hW kk hok hp hn;have HWE0:Hid (C.p≠7->∀ W κ,hG κ C.ho s W->Calls Tp 57 #[aG (coL C s).toArray,I J k] W (cA W κ (ofI (wfX (wfO C k) k)))):=fun hp W κ hW=>K0 W C s k hc (hte hp) hok.m.re hp hW;have HWA0:Hid (C.p≠7->∀ W κ,hG κ C.ho s W->Calls Tp 59 #[aG (coL C s).toArray,I J k] W (cA W κ (ofI (waC C k)))):=fun hp W κ hW=>K6 W C s k hc (hte hp) hok.m.re hp hW;have HOV:Hid (∀ W κ,hG κ C.ho s W->Calls Tp 60 #[aG (coL C s).toArray] W (cA W κ (ovC C))):=fun W κ hW=>Hv hW (hbd.up (by decide));have HGA:Hid (C.p=5->∀ W κ,hG κ C.ho s W->Calls Tp 61 #[aG (coL C s).toArray,I J k] W (cA W κ (gpC C k r))):=fun e W κ hW=>Ly W C s k r hk (by have h1:=hok.m.ct;rw[e] at h1;exact h1) (fun x=>by have:=hok.m.of.2 x;rw[e] at this;cases this) (by rw[e];decide) (hbd.up (by decide)) hok.h.n2 hb hW;have HFF:Hid (∀ W κ,hG κ C.ho s W->Calls Tp 62 #[aG (coL C s).toArray,I J k] W (cA W κ (ofC C k))):=fun W κ hW=>Lx W C s k hc hok.m.rn hW;have HD4:Hid (C.p=4->1<=C.ct/\C.ct<=7):=fun e=>by have h1:=hok.m.ct;rw[e] at h1;exact h1
 have HOF:Hid (C.p=7->ofI (ofC C k)=ofC C k):=fun e=>Lw k e;have HEN:Hid (tlC (ofI (aP C k r)) es=af C (aP C k r)):=by rw[<- hes];exact Lr C _ (MA hok k r)
 have HTL:Hid (∀ W κ X s',X.ho=(aP C k r).ho->hG κ X.ho s' W->Calls Tp 63 #[aG (coL X s').toArray,I J es] W (cA W κ (tlC X es))):=fun W κ X s' e hW=>Hu hW es (by rw[e];exact (KL hbd k r).up (by decide));have hq:C.p=0\/C.p=2\/C.p=3\/C.p=4\/C.p=5\/C.p=6\/C.p=7:=by have:=hok.m.p;omega
 have HPQ:=DU hq;clear h hok h1 hn hb hc hte hbd hes hq hk;obtain⟨b0,e0,_,f0⟩:=eqB k 0;obtain⟨b1,e1,_,f1⟩:=eqB k 1;obtain⟨d6,e6,_,f6⟩:=eqB (C.ct+1) 6;obtain⟨d8,e8,_,f8⟩:=eqB (C.ct+1) 8;obtain⟨c7,e7,g7⟩:=ltB C.ct 7;obtain⟨wk,ewk⟩ : ∃ b,C.wk=b:=⟨_,rfl⟩
 have fwk:Hid (wk=true↔C.wk=true):=by show _↔_;rw[ewk]
 have HWK:=DU ewk;clear ewk;go_enter func29,ntmps29;go_wp2_with (refine fc.ld H0.o ?_);refine (HES.o _).mono ?_;rintro o w1 ⟨rfl,hb1⟩;have H1:Hid (fc2 w κ _ C s C.ho s w1):=H0.o.below hb1;clear H0 hb1 HES;have y0:=H1.o.p.cell 0 (I J C.p) rfl;have y1:=H1.o.p.cell 1 (I J C.ct) rfl;have y3:=H1.o.p.cell 3 (bO C.wk) rfl;have y4:=H1.o.p.cell 4 (bO C.ov) rfl;have y6:=H1.o.p.cell 6 (bO C.tx) rfl;have z0:=H1.o.p.free 0;have z1:=H1.o.p.free 1;have z4:=H1.o.p.free 4;have z6:=H1.o.p.free 6;rw[HWK.o] at y3;go_upto_region 2 with fail
 go_cut [9] (fun x wx=>x = I J C.p/\wx=w1);case first=>
  go_wp2_with fail;go_meet;case rel=>exact⟨rfl,rfl⟩
 case rest=>
 obtain⟨rfl,hw1⟩:=hcut;have hw1:=hw1.symm;subst hw1;go_upto_block 0 with fail
 go_cut [] (fun wx=>∃ s' κ',Hid (fc2 w κ κ' (ofI (aP C k r)) s' (ofI (aP C k r)).ho s' wx));case first=>
  rcases HPQ.o with ep|ep|ep|ep|ep|ep|ep
  .have hp7:C.p≠7:=by rw[ep];decide
   have HFT:=DU (HFT0.o hp7);have HWE:=DU (HWE0.o hp7);have HWA:=DU (HWA0.o hp7);have HGT:Hid ((gpC C k r).te≠256):=by show _≠_;rw[(Hx hp7 k r).2];exact fun x=>hp7 (HOK.o.m.of.2 x)
   clear hp7 HFT0 HWE0 HWA0;have w0:(C.p == 0)=true:=by rw[ep];decide
   have w2:(C.p == 2)=false:=by rw[ep];decide
   have w3:(C.p == 3)=false:=by rw[ep];decide
   have w4:(C.p == 4)=false:=by rw[ep];decide
   have w5:(C.p == 5)=false:=by rw[ep];decide
   have w6:(C.p == 6)=false:=by rw[ep];decide
   have w7:(C.p == 7)=false:=by rw[ep];decide
   have HEP:=DU ep;clear ep;have HTE:Hid (C.te≠256):=fun x=>by have:=HOK.o.m.of.2 x;rw[HEP.o] at this;cases this
   have hS:aP C k r=idC C k:=by unfold aP;simp[HEP.o]
   cases b0
   .have HR:Hid (ofI (aP C k r)=C):=by
     show _=_;rw[hS];unfold idC;rw[qa (by simpa using f0.o)];exact s8 (fun x=>HTE.o x)
    clear hS;go_wp2_with fail;go_meet;case rel=>exact⟨s,_,by rw[HR.o];exact H1.o⟩
   .have HR:Hid (ofI (aP C k r) = { C with p:=1 }):=by
     show _=_;rw[hS];unfold idC;rw[qc (by simpa using f0.o)];exact s8 (fun x=>HTE.o x)
    clear hS;have HV9:Hid (fc2 w κ κ { C with p:=1 } s C.ho s (World.setCell w1 ⟨w.heap.size,0,nn⟩ (I J 1))):=(H1.o.set 0 (I J 1) { C with p:=1 } rfl)
    go_wp2_with fail;go_meet;case rel=>exact⟨s,_,by rw[HR.o];exact HV9.o⟩
  .have hp7:C.p≠7:=by rw[ep];decide
   have HFT:=DU (HFT0.o hp7);have HWE:=DU (HWE0.o hp7);have HWA:=DU (HWA0.o hp7);have HGT:Hid ((gpC C k r).te≠256):=by show _≠_;rw[(Hx hp7 k r).2];exact fun x=>hp7 (HOK.o.m.of.2 x)
   clear hp7 HFT0 HWE0 HWA0;have w0:(C.p == 0)=false:=by rw[ep];decide
   have w2:(C.p == 2)=true:=by rw[ep];decide
   have w3:(C.p == 3)=false:=by rw[ep];decide
   have w4:(C.p == 4)=false:=by rw[ep];decide
   have w5:(C.p == 5)=false:=by rw[ep];decide
   have w6:(C.p == 6)=false:=by rw[ep];decide
   have w7:(C.p == 7)=false:=by rw[ep];decide
   have HEP:=DU ep;clear ep;have HTE:Hid (C.te≠256):=fun x=>by have:=HOK.o.m.of.2 x;rw[HEP.o] at this;cases this
   have hS:aP C k r=flC C k:=by unfold aP;simp[HEP.o]
   cases wk
   .cases b1
    .cases d6
     .have HR:Hid (ofI (aP C k r) = { C with ct:=C.ct+1 }):=by
       show _=_;rw[hS];unfold flC;rw[qa (by simpa using fwk.o),qa (by simpa using f1.o),qa (by simpa using f6.o)];exact s8 (fun x=>HTE.o x)
      clear hS;have HV9:Hid (fc2 w κ κ { C with ct:=(C.ct+1) } s C.ho s (World.setCell w1 ⟨w.heap.size,1,nn⟩ (I J (C.ct+1)))):=(H1.o.set 1 (I J (C.ct+1)) { C with ct:=(C.ct+1) } rfl)
      go_wp2_with fail;go_meet;case rel=>exact⟨s,_,by rw[HR.o];exact HV9.o⟩
     .have HR:Hid (ofI (aP C k r) = { C with p:=3,ct:=0 }):=by
       show _=_;rw[hS];unfold flC;rw[qa (by simpa using fwk.o),qa (by simpa using f1.o),qc (by simpa using f6.o)];exact s8 (fun x=>HTE.o x)
      clear hS;have HV9:Hid (fc2 w κ κ { C with p:=3,ct:=0 } s C.ho s (World.setCell (World.setCell (World.setCell w1 ⟨w.heap.size,1,nn⟩ (I J (C.ct+1))) ⟨w.heap.size,0,nn⟩ (I J 3)) ⟨w.heap.size,1,nn⟩ (I J 0))):=(((H1.o.set 1 (I J (C.ct+1)) { C with ct:=(C.ct+1) } rfl).set 0 (I J 3) { C with ct:=(C.ct+1),p:=3 } rfl).set 1 (I J 0) { C with p:=3,ct:=0 } rfl)
      go_wp2_with fail;go_meet;case rel=>exact⟨s,_,by rw[HR.o];exact HV9.o⟩
    .have HR:Hid (aP C k r=aS C 1):=by
      show _=_;rw[hS];unfold flC;rw[qa (by simpa using fwk.o),qc (by simpa using f1.o)]
     clear hS;go_wp2_with (refine fc.ld H1.o ?_);refine (HFT.o 1 _ _ H1.o.g).mono ?_;rintro o w2 ⟨s2,κ2,rfl,G2⟩;have HV2:Hid (fc2 w κ _ C s (af C (aS C 1)).ho s2 w2):=H1.o.call G2.o;clear G2;go_wp2_with (refine fc.rt (C2:=(af C (aS C 1))) (s2:=s2) HV2.o ?_;intro w11 b11 R11);refine bC results29 (tW b11) ?_;rw[HR.o];exact⟨_,_,rfl,R11⟩
   .have HR:Hid (ofI (aP C k r)=ofI (wfX (wfO C k) k)):=by
     show _=_;rw[hS];unfold flC;rw[qc (by simpa using fwk.o)]
    clear hS;go_wp2_with (refine fc.ld H1.o ?_);refine (HWE.o _ _ H1.o.g).mono ?_;rintro o w2 ⟨s2,κ2,rfl,G2⟩;have HV2:Hid (fc2 w κ _ C s (ofI (wfX (wfO C k) k)).ho s2 w2):=H1.o.call G2.o;clear G2;go_wp2_with (refine fc.sv (C2:=(ofI (wfX (wfO C k) k))) (s2:=s2) HV2.o ?_;intro w9 HV9);go_meet;case rel=>exact⟨s2,_,by rw[HR.o];exact HV9.o⟩
  .have hp7:C.p≠7:=by rw[ep];decide
   have HFT:=DU (HFT0.o hp7);have HWE:=DU (HWE0.o hp7);have HWA:=DU (HWA0.o hp7);have HGT:Hid ((gpC C k r).te≠256):=by show _≠_;rw[(Hx hp7 k r).2];exact fun x=>hp7 (HOK.o.m.of.2 x)
   clear hp7 HFT0 HWE0 HWA0;have w0:(C.p == 0)=false:=by rw[ep];decide
   have w2:(C.p == 2)=false:=by rw[ep];decide
   have w3:(C.p == 3)=true:=by rw[ep];decide
   have w4:(C.p == 4)=false:=by rw[ep];decide
   have w5:(C.p == 5)=false:=by rw[ep];decide
   have w6:(C.p == 6)=false:=by rw[ep];decide
   have w7:(C.p == 7)=false:=by rw[ep];decide
   have HEP:=DU ep;clear ep;have HTE:Hid (C.te≠256):=fun x=>by have:=HOK.o.m.of.2 x;rw[HEP.o] at this;cases this
   have hS:aP C k r=waC C k:=by unfold aP;simp[HEP.o]
   have HR:Hid (ofI (aP C k r)=ofI (waC C k)):=by show _=_;rw[hS]
   clear hS;go_wp2_with (refine fc.ld H1.o ?_);refine (HWA.o _ _ H1.o.g).mono ?_;rintro o w2 ⟨s2,κ2,rfl,G2⟩;have HV2:Hid (fc2 w κ _ C s (ofI (waC C k)).ho s2 w2):=H1.o.call G2.o;clear G2;go_wp2_with (refine fc.sv (C2:=(ofI (waC C k))) (s2:=s2) HV2.o ?_;intro w9 HV9);go_meet;case rel=>exact⟨s2,_,by rw[HR.o];exact HV9.o⟩
  .have hp7:C.p≠7:=by rw[ep];decide
   have HFT:=DU (HFT0.o hp7);have HWE:=DU (HWE0.o hp7);have HWA:=DU (HWA0.o hp7);have HGT:Hid ((gpC C k r).te≠256):=by show _≠_;rw[(Hx hp7 k r).2];exact fun x=>hp7 (HOK.o.m.of.2 x)
   clear hp7 HFT0 HWE0 HWA0;have w0:(C.p == 0)=false:=by rw[ep];decide
   have w2:(C.p == 2)=false:=by rw[ep];decide
   have w3:(C.p == 3)=false:=by rw[ep];decide
   have w4:(C.p == 4)=true:=by rw[ep];decide
   have w5:(C.p == 5)=false:=by rw[ep];decide
   have w6:(C.p == 6)=false:=by rw[ep];decide
   have w7:(C.p == 7)=false:=by rw[ep];decide
   have HEP:=DU ep;clear ep;have HTE:Hid (C.te≠256):=fun x=>by have:=HOK.o.m.of.2 x;rw[HEP.o] at this;cases this
   have hS:aP C k r=dlC C k:=by unfold aP;simp[HEP.o]
   cases b0
   .cases d8
    .have HR:Hid (ofI (aP C k r) = { C with ct:=C.ct+1 }):=by
      show _=_;rw[hS];unfold dlC;rw[qa (by simpa using f0.o),qa (by simpa using f8.o)];exact s8 (fun x=>HTE.o x)
     clear hS;have HV9:Hid (fc2 w κ κ { C with ct:=(C.ct+1) } s C.ho s (World.setCell w1 ⟨w.heap.size,1,nn⟩ (I J (C.ct+1)))):=(H1.o.set 1 (I J (C.ct+1)) { C with ct:=(C.ct+1) } rfl)
     go_wp2_with fail;go_meet;case rel=>exact⟨s,_,by rw[HR.o];exact HV9.o⟩
    .have HR:Hid (ofI (aP C k r) = { C with p:=5,ct:=0,ov:=false }):=by
      show _=_;rw[hS];unfold dlC;rw[qa (by simpa using f0.o),qc (by simpa using f8.o)];exact s8 (fun x=>HTE.o x)
     clear hS;have HV9:Hid (fc2 w κ κ { C with p:=5,ct:=0,ov:=false } s C.ho s (World.setCell (World.setCell (World.setCell (World.setCell w1 ⟨w.heap.size,1,nn⟩ (I J (C.ct+1))) ⟨w.heap.size,0,nn⟩ (I J 5)) ⟨w.heap.size,1,nn⟩ (I J 0)) ⟨w.heap.size,4,nn⟩ (bO false))):=((((H1.o.set 1 (I J (C.ct+1)) { C with ct:=(C.ct+1) } rfl).set 0 (I J 5) { C with ct:=(C.ct+1),p:=5 } rfl).set 1 (I J 0) { C with p:=5,ct:=0 } rfl).set 4 (bO false) { C with p:=5,ct:=0,ov:=false } rfl)
     go_wp2_with fail;go_meet;case rel=>exact⟨s,_,by rw[HR.o];exact HV9.o⟩
   .cases c7
    .have h7:C.ct=7:=by
      have h8:¬ C.ct<7:=fun x=>by have:=g7.o.2 x;cases this
      have:=HD4.o HEP.o;omega
     have HR:Hid (ofI (aP C k r)=ovC C):=by
      show _=_;rw[hS];unfold dlC;rw[qc (by simpa using f0.o),qc h7];exact s8 (fun x=>HTE.o x)
     clear hS;clear h7;go_wp2_with (refine fc.ld H1.o ?_);refine (HOV.o _ _ H1.o.g).mono ?_;rintro o w2 ⟨s2,κ2,rfl,G2⟩;have HV2:Hid (fc2 w κ _ C s (ovC C).ho s2 w2):=H1.o.call G2.o;clear G2;go_wp2_with (refine fc.sv (C2:=(ovC C)) (s2:=s2) HV2.o ?_;intro w9 HV9);go_meet;case rel=>exact⟨s2,_,by rw[HR.o];exact HV9.o⟩
    .have h7:¬ C.ct=7:=by have:=g7.o.1 rfl;omega
     have HR:Hid (aP C k r=aS C 3):=by
      show _=_;rw[hS];unfold dlC;rw[qc (by simpa using f0.o),qa h7]
     clear hS;clear h7;go_wp2_with (refine fc.ld H1.o ?_);refine (HFT.o 3 _ _ H1.o.g).mono ?_;rintro o w2 ⟨s2,κ2,rfl,G2⟩;have HV2:Hid (fc2 w κ _ C s (af C (aS C 3)).ho s2 w2):=H1.o.call G2.o;clear G2;go_wp2_with (refine fc.rt (C2:=(af C (aS C 3))) (s2:=s2) HV2.o ?_;intro w11 b11 R11);refine bC results29 (tW b11) ?_;rw[HR.o];exact⟨_,_,rfl,R11⟩
  .have hp7:C.p≠7:=by rw[ep];decide
   have HFT:=DU (HFT0.o hp7);have HWE:=DU (HWE0.o hp7);have HWA:=DU (HWA0.o hp7);have HGT:Hid ((gpC C k r).te≠256):=by show _≠_;rw[(Hx hp7 k r).2];exact fun x=>hp7 (HOK.o.m.of.2 x)
   clear hp7 HFT0 HWE0 HWA0;have w0:(C.p == 0)=false:=by rw[ep];decide
   have w2:(C.p == 2)=false:=by rw[ep];decide
   have w3:(C.p == 3)=false:=by rw[ep];decide
   have w4:(C.p == 4)=false:=by rw[ep];decide
   have w5:(C.p == 5)=true:=by rw[ep];decide
   have w6:(C.p == 6)=false:=by rw[ep];decide
   have w7:(C.p == 7)=false:=by rw[ep];decide
   have HEP:=DU ep;clear ep;have HTE:Hid (C.te≠256):=fun x=>by have:=HOK.o.m.of.2 x;rw[HEP.o] at this;cases this
   have hS:aP C k r=gpC C k r:=by unfold aP;simp[HEP.o]
   have HR:Hid (ofI (aP C k r)=gpC C k r):=by show _=_;rw[hS];exact s8 (HGT.o)
   clear hS;go_wp2_with (refine fc.ld H1.o ?_);refine ((HGA.o HEP.o) _ _ H1.o.g).mono ?_;rintro o w2 ⟨s2,κ2,rfl,G2⟩;have HV2:Hid (fc2 w κ _ C s (gpC C k r).ho s2 w2):=H1.o.call G2.o;clear G2;go_wp2_with (refine fc.sv (C2:=(gpC C k r)) (s2:=s2) HV2.o ?_;intro w9 HV9);go_meet;case rel=>exact⟨s2,_,by rw[HR.o];exact HV9.o⟩
  .have hp7:C.p≠7:=by rw[ep];decide
   have HFT:=DU (HFT0.o hp7);have HWE:=DU (HWE0.o hp7);have HWA:=DU (HWA0.o hp7);have HGT:Hid ((gpC C k r).te≠256):=by show _≠_;rw[(Hx hp7 k r).2];exact fun x=>hp7 (HOK.o.m.of.2 x)
   clear hp7 HFT0 HWE0 HWA0;have w0:(C.p == 0)=false:=by rw[ep];decide
   have w2:(C.p == 2)=false:=by rw[ep];decide
   have w3:(C.p == 3)=false:=by rw[ep];decide
   have w4:(C.p == 4)=false:=by rw[ep];decide
   have w5:(C.p == 5)=false:=by rw[ep];decide
   have w6:(C.p == 6)=true:=by rw[ep];decide
   have w7:(C.p == 7)=false:=by rw[ep];decide
   have HEP:=DU ep;clear ep;have HTE:Hid (C.te≠256):=fun x=>by have:=HOK.o.m.of.2 x;rw[HEP.o] at this;cases this
   have hS:aP C k r=suC C k:=by unfold aP;simp[HEP.o]
   cases b0
   .cases d8
    .have HR:Hid (ofI (aP C k r) = { C with ct:=C.ct+1 }):=by
      show _=_;rw[hS];unfold suC;rw[qa (by simpa using f0.o),qa (by simpa using f8.o)];exact s8 (fun x=>HTE.o x)
     clear hS;have HV9:Hid (fc2 w κ κ { C with ct:=(C.ct+1) } s C.ho s (World.setCell w1 ⟨w.heap.size,1,nn⟩ (I J (C.ct+1)))):=(H1.o.set 1 (I J (C.ct+1)) { C with ct:=(C.ct+1) } rfl)
     go_wp2_with fail;go_meet;case rel=>exact⟨s,_,by rw[HR.o];exact HV9.o⟩
    .have HR:Hid (ofI (aP C k r) = { C with p:=0,ct:=0,tx:=false }):=by
      show _=_;rw[hS];unfold suC;rw[qa (by simpa using f0.o),qc (by simpa using f8.o)];exact s8 (fun x=>HTE.o x)
     clear hS;have HV9:Hid (fc2 w κ κ { C with p:=0,ct:=0,tx:=false } s C.ho s (World.setCell (World.setCell (World.setCell (World.setCell w1 ⟨w.heap.size,1,nn⟩ (I J (C.ct+1))) ⟨w.heap.size,0,nn⟩ (I J 0)) ⟨w.heap.size,1,nn⟩ (I J 0)) ⟨w.heap.size,6,nn⟩ (bO false))):=((((H1.o.set 1 (I J (C.ct+1)) { C with ct:=(C.ct+1) } rfl).set 0 (I J 0) { C with ct:=(C.ct+1),p:=0 } rfl).set 1 (I J 0) { C with p:=0,ct:=0 } rfl).set 6 (bO false) { C with p:=0,ct:=0,tx:=false } rfl)
     go_wp2_with fail;go_meet;case rel=>exact⟨s,_,by rw[HR.o];exact HV9.o⟩
   .have HR:Hid (ofI (aP C k r) = { C with p:=1,ct:=0,tx:=false }):=by
     show _=_;rw[hS];unfold suC;rw[qc (by simpa using f0.o)];exact s8 (fun x=>HTE.o x)
    clear hS;have HV9:Hid (fc2 w κ κ { C with p:=1,ct:=0,tx:=false } s C.ho s (World.setCell (World.setCell (World.setCell w1 ⟨w.heap.size,0,nn⟩ (I J 1)) ⟨w.heap.size,1,nn⟩ (I J 0)) ⟨w.heap.size,6,nn⟩ (bO false))):=(((H1.o.set 0 (I J 1) { C with p:=1 } rfl).set 1 (I J 0) { C with p:=1,ct:=0 } rfl).set 6 (bO false) { C with p:=1,ct:=0,tx:=false } rfl)
    go_wp2_with fail;go_meet;case rel=>exact⟨s,_,by rw[HR.o];exact HV9.o⟩
  .have w0:(C.p == 0)=false:=by rw[ep];decide
   have w2:(C.p == 2)=false:=by rw[ep];decide
   have w3:(C.p == 3)=false:=by rw[ep];decide
   have w4:(C.p == 4)=false:=by rw[ep];decide
   have w5:(C.p == 5)=false:=by rw[ep];decide
   have w6:(C.p == 6)=false:=by rw[ep];decide
   have w7:(C.p == 7)=true:=by rw[ep];decide
   have HEP:=DU ep;clear ep;have hS:aP C k r=ofC C k:=by unfold aP;simp[HEP.o]
   have HR:Hid (ofI (aP C k r)=ofC C k):=by show _=_;rw[hS];exact HOF.o HEP.o
   clear hS;go_wp2_with (refine fc.ld H1.o ?_);refine (HFF.o _ _ H1.o.g).mono ?_;rintro o w2 ⟨s2,κ2,rfl,G2⟩;have HV2:Hid (fc2 w κ _ C s (ofC C k).ho s2 w2):=H1.o.call G2.o;clear G2;go_wp2_with (refine fc.sv (C2:=(ofC C k)) (s2:=s2) HV2.o ?_;intro w9 HV9);go_meet;case rel=>exact⟨s2,_,by rw[HR.o];exact HV9.o⟩
 case rest=>
 obtain⟨s5,κ5,HV5⟩:=hcut;obtain⟨X,eX⟩ : ∃ X,ofI (aP C k r)=X:=⟨_,rfl⟩
 have HXh:Hid (X.ho=(aP C k r).ho):=by rw[<- eX];exact Mm _
 rw[eX] at HV5 HEN;clear eX H1 HFT0 HWE0 HWA0 HOV HGA HFF HOF HD4;go_wp2_with (refine fc.ld HV5.o ?_);refine (HTL.o _ _ X s5 HXh.o HV5.o.g).mono ?_;rintro o w10 ⟨s10,κ10,rfl,G2⟩;have HVB:Hid (fc2 w κ _ X s5 (tlC X es).ho s10 w10):=HV5.o.call G2.o;clear G2 HTL HV5;go_wp2_with (refine fc.rt (C2:=(tlC X es)) (s2:=s10) HVB.o ?_;intro w11 b11 R11);refine bC results29 (tW b11) ?_;rw[<- HEN.o];exact⟨_,_,rfl,R11⟩
end
end Go.Proofs.YtgfolecanghhhaaGreat
