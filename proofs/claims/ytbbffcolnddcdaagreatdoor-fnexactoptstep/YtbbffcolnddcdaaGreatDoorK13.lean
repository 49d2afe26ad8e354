import Derived.Test.YtbbffcolnddcdaaGreatDoorK12
import Derived.Deep.DeepCutAuto
namespace Go.Proofs.YtbbffcolnddcdaaGreatDoor
open Go.Proofs.Tryz
set_option maxRecDepth 20000
open Go.RowKit
set_option linter.all false
set_option maxHeartbeats 16000000
open Go.Value renaming int->I,slice->sL,bool->bO,pointer->pT,agg->aG
open Go.IntKind renaming i64->J
open Go.Ending renaming returned->rT
open Go.Proofs.Tryz renaming prog->Tp
def k0(p:Int):(decide (p<0)||decide (7<p))=false↔(0<=p/\p<=7):=pQ
def k1(t r:Int):(decide (t<0)||decide (256<t)||decide (r<0)||decide (255<r))=false↔((0<=t/\t<=256)/\(0<=r/\r<=255)):=by simp;omega
def k2(p t:Int):((p==7) !=(t==256))=false↔(p=7↔t=256):=by
 generalize c:(p==7)=a;generalize d:(t==256)=b;have e:a=true↔p=7:=by rw[<- c];simp
 have f:b=true↔t=256:=by rw[<- d];simp
 rw[<- e,<- f];cases a<;>cases b<;>simp
def k3(a b c l:Int):(decide (c<a)||decide (b<c)||decide (l<0)||decide (1<l))=false↔((a<=c/\c<=b)/\(0<=l/\l<=1)):=by simp;omega
def k4(l p c:Int)(wk:Bool):(l==1&& !(p==2&&wk&&decide (0<c)))=false↔(l=1->p=2/\wk=true/\0<c):=by cases wk<;>simp
def k5(p:Int)(wk ov:Bool):(wk&&(!(p==2)||ov))=false↔(wk=true->p=2/\ov=false):=by cases wk<;>simp
def k6(p:Int)(ov:Bool):(ov&& !(p==2)&& !(p==3)&& !(p==4))=false↔(ov=true->p=2\/p=3\/p=4):=by cases ov<;>simp;omega
def k7(ow wk tx:Bool):(ow&& !(wk&&tx))=false↔(ow=true->wk=true/\tx=true):=by cases ow<;>simp
def k8(p:Int)(tx:Bool):(tx&&(p==7||p==0))=false↔(tx=true->p≠7/\p≠0):=by cases tx<;>simp
def k9(p:Int)(tx:Bool):(p==6&& !tx)=false↔(p=6->tx=true):=by cases tx<;>simp
def k10(p:Int)(a:Bool):(a&& !(p==7))=false↔(a=true->p=7):=by cases a<;>simp
def k11(r:Int):(decide (r<0)||decide (128<=r))=false↔(0<=r/\r<128):=pQ
def k12(r p c:Int)(ak:Bool):(!ak&&(!(r==0)||(p==7&& !(c==0))))=false↔(ak=false->r=0/\(p=7->c=0)):=by cases ak<;>simp
def l4B(C:Co):Bool:=!(decide (C.p<0)||decide (7<C.p))&& !(decide (C.te<0)||decide (256<C.te)||decide (C.re<0)||decide (255<C.re))&& !((C.p==7) !=(C.te==256))&& !(decide (C.ct<(rLo C.p))||decide ((rHi C.p)<C.ct)||decide (C.lv<0)||decide (1<C.lv))&& !((C.lv==1)&& !((C.p==2)&&C.wk&&decide (0<C.ct)))&& !(C.wk&&(!(C.p==2)||C.ov))&& !(C.ov&& !(C.p==2)&& !(C.p==3)&& !(C.p==4))&& !(C.ow&& !(C.wk&&C.tx))&& !(C.tx&&((C.p==7)||(C.p==0)))&& !((C.p==6)&& !C.tx)&& !(C.ak&& !(C.p==7))&& !(decide (C.rn<0)||decide (128<=C.rn))&& !(!C.ak&&(!(C.rn==0)||((C.p==7)&& !(C.ct==0))))
def EZ(C:Co):l4B C=true↔okM C:=by
 unfold l4B;simp only[Q3,Bool.not_eq_true'];rw[k0,k1,k2,k3,k4,k5,k6,k7,k8,k9,k10,k11,k12];exact⟨fun⟨⟨⟨⟨⟨⟨⟨⟨⟨⟨⟨⟨a,a1⟩,a2⟩,a3⟩,a4⟩,e⟩,f⟩,g⟩,i⟩,j⟩,b⟩,c⟩,d⟩=>⟨a,a1.1,a1.2,a2,a3.1,a3.2,a4,e,f,g,i,j,b,c,d⟩,fun h=>⟨⟨⟨⟨⟨⟨⟨⟨⟨⟨⟨⟨h.p,h.te,h.re⟩,h.of⟩,h.ct,h.lv⟩,h.l1⟩,h.wk⟩,h.ov⟩,h.ow⟩,h.tx⟩,h.t6⟩,h.ak⟩,h.rn⟩,h.na⟩⟩
def GG(w:World)(C:Co)(s:Sl)(VP WP:Prop)(hv:∀W,Bl w W->ce 99 #[aG (hoL C.ho s).toArray] W fun o w'=>bH o VP/\Bl W w')
  (hz:VP->∀W,Bl w W->ce 70 #[aG (hoL C.ho s).toArray] W fun o w'=>∃r:Int,o=rT (I J r)/\(0<=r↔WP)/\Bl W w') :
  ce 43 #[aG (coL C s).toArray] w fun o w'=>bH o (VP/\okM C/\((C.p=1/\C.tx=true)↔WP))/\Bl w w':=by
 obtain⟨X,HX⟩:∃X:Prop,Hid (X↔(VP/\okM C/\((C.p=1/\C.tx=true)↔WP))):=⟨_,Iff.rfl⟩
 rw[<- HX.o];rw[<- EZ]at HX;have H0:Hid (ctS w w.heap.size C s (w.alloc (.cells (coL C s).toArray 52))):=ctS.new w C s;obtain⟨bo,HVP,HV⟩:∃b:Bool,Hid (b=true↔VP)/\Hid (∀W,Bl w W->ce 99 #[aG (hoL C.ho s).toArray] W fun o w'=>o=rT (bO b)/\Bl W w'):=by
  rcases Classical.em VP with hx|hx
  .exact⟨true,by show _↔_;simp[hx],fun W hW=>(hv W hW).mono fun o w' ⟨⟨b,e,f⟩,hb⟩=>⟨by rw[e,f.2 hx],hb⟩⟩
  .exact⟨false,by show _↔_;simp[hx],fun W hW=>(hv W hW).mono fun o w' ⟨⟨b,e,f⟩,hb⟩=>⟨by rw[e];cases b;rfl;exact Qj (f.1 rfl) hx,hb⟩⟩
 have HZ:Hid (VP->∀W,Bl w W->ce 70 #[aG (hoL C.ho s).toArray] W fun o w'=>∃r:Int,o=rT (I J r)/\(0<=r↔WP)/\Bl W w'):=hz;have HRM:Hid (∀W,ce 100 #[I J C.p] W fun o w'=>o=rT (.tuple #[I J (rLo C.p),I J (rHi C.p)])/\W=w'):=fun W=>um W C.p;have HB:Hid (l4B C=(!(decide (C.p<0)||decide (7<C.p))&& !(decide (C.te<0)||decide (256<C.te)||decide (C.re<0)||decide (255<C.re))&& !((C.p==7) !=(C.te==256))&& !(decide (C.ct<(rLo C.p))||decide ((rHi C.p)<C.ct)||decide (C.lv<0)||decide (1<C.lv))&& !((C.lv==1)&& !((C.p==2)&&C.wk&&decide (0<C.ct)))&& !(C.wk&&(!(C.p==2)||C.ov))&& !(C.ov&& !(C.p==2)&& !(C.p==3)&& !(C.p==4))&& !(C.ow&& !(C.wk&&C.tx))&& !(C.tx&&((C.p==7)||(C.p==0)))&& !((C.p==6)&& !C.tx)&& !(C.ak&& !(C.p==7))&& !(decide (C.rn<0)||decide (128<=C.rn))&& !(!C.ak&&(!(C.rn==0)||((C.p==7)&& !(C.ct==0)))))):=rfl;have HPT:Hid ((C.p=1/\C.tx=true)↔((C.p==1)&&C.tx)=true):=by show _↔_;simp
 rw[HPT.o]at HX;obtain⟨p0,ep0⟩:∃b:Bool,decide (C.p<0)=b:=⟨_,rfl⟩
 obtain⟨p8,ep8⟩:∃b:Bool,decide (7<C.p)=b:=⟨_,rfl⟩
 obtain⟨t0,et0⟩:∃b:Bool,decide (C.te<0)=b:=⟨_,rfl⟩
 obtain⟨t8,et8⟩:∃b:Bool,decide (256<C.te)=b:=⟨_,rfl⟩
 obtain⟨r0,er0⟩:∃b:Bool,decide (C.re<0)=b:=⟨_,rfl⟩
 obtain⟨r8,er8⟩:∃b:Bool,decide (255<C.re)=b:=⟨_,rfl⟩
 obtain⟨p7,ep7,np7⟩:∃b:Bool,(C.p==7)=b/\(C.p !=7)= !b:=⟨_,rfl,rfl⟩
 obtain⟨t6,et6,nt6⟩:∃b:Bool,(C.te==256)=b/\(C.te !=256)= !b:=⟨_,rfl,rfl⟩
 obtain⟨c0,ec0⟩:∃b:Bool,decide (C.ct<(rLo C.p))=b:=⟨_,rfl⟩
 obtain⟨c8,ec8⟩:∃b:Bool,decide ((rHi C.p)<C.ct)=b:=⟨_,rfl⟩
 obtain⟨l0,el0⟩:∃b:Bool,decide (C.lv<0)=b:=⟨_,rfl⟩
 obtain⟨l8,el8⟩:∃b:Bool,decide (1<C.lv)=b:=⟨_,rfl⟩
 obtain⟨p2,ep2,np2⟩:∃b:Bool,(C.p==2)=b/\(C.p !=2)= !b:=⟨_,rfl,rfl⟩
 obtain⟨l1,el1,nl1⟩:∃b:Bool,(C.lv==1)=b/\(C.lv !=1)= !b:=⟨_,rfl,rfl⟩
 obtain⟨cp,ecp⟩:∃b:Bool,decide (0<C.ct)=b:=⟨_,rfl⟩
 obtain⟨p3,ep3,np3⟩:∃b:Bool,(C.p==3)=b/\(C.p !=3)= !b:=⟨_,rfl,rfl⟩
 obtain⟨p4,ep4,np4⟩:∃b:Bool,(C.p==4)=b/\(C.p !=4)= !b:=⟨_,rfl,rfl⟩
 obtain⟨pz,epz,npz⟩:∃b:Bool,(C.p==0)=b/\(C.p !=0)= !b:=⟨_,rfl,rfl⟩
 obtain⟨p6,ep6,np6⟩:∃b:Bool,(C.p==6)=b/\(C.p !=6)= !b:=⟨_,rfl,rfl⟩
 obtain⟨q0,eq0⟩:∃b:Bool,decide (C.rn<0)=b:=⟨_,rfl⟩
 obtain⟨q8,eq8⟩:∃b:Bool,decide (128<=C.rn)=b:=⟨_,rfl⟩
 obtain⟨rz,erz,nrz⟩:∃b:Bool,(C.rn==0)=b/\(C.rn !=0)= !b:=⟨_,rfl,rfl⟩
 obtain⟨cz,ecz,ncz⟩:∃b:Bool,(C.ct==0)=b/\(C.ct !=0)= !b:=⟨_,rfl,rfl⟩
 obtain⟨p1,ep1,np1⟩:∃b:Bool,(C.p==1)=b/\(C.p !=1)= !b:=⟨_,rfl,rfl⟩
 obtain⟨wk,ewk⟩:∃b:Bool,C.wk=b:=⟨_,rfl⟩
 obtain⟨ov,eov⟩:∃b:Bool,C.ov=b:=⟨_,rfl⟩
 obtain⟨ow,eow⟩:∃b:Bool,C.ow=b:=⟨_,rfl⟩
 obtain⟨tx,etx⟩:∃b:Bool,C.tx=b:=⟨_,rfl⟩
 obtain⟨ak,eak⟩:∃b:Bool,C.ak=b:=⟨_,rfl⟩
 rw[ep0,ep8,et0,et8,er0,er8,ep7,et6,ec0,ec8,el0,el8,ep2,el1,ecp,ep3,ep4,epz,ep6,eq0,eq8,erz,ecz,ewk,eov,eow,etx,eak]at HB;rw[ep1,etx]at HX;clear hv hz HPT;go_enter func43,ntmps43;go_upto_region 1 with fail
 go_cut [21] (fun x wx=>x=bO (!bo||p0||p8)/\Hid (ctS w w.heap.size C s wx));case first=>
  as_aux_lemma=>
  clear HX HB;have hh:(bo=true/\p0=true)\/(bo=true/\p0=false/\p8=true)\/(bo=true/\p0=false/\p8=false)\/(bo=false):=by cases bo<;>cases p0<;>cases p8<;>simp
  rcases hh with⟨rfl,rfl⟩|⟨rfl,rfl,rfl⟩|⟨rfl,rfl,rfl⟩|rfl<;>(
   go_wp2_with(refine ZG 50 H0.o.p.hostAt underlying50 (jv C.ho s) ?_)
   refine(HV.o _ H0.o.b).mono ?_
   rintro o w1 ⟨rfl,hb1⟩;have H1:Hid (ctS w w.heap.size C s w1):=H0.o.below hb1
   have y0:=H1.o.p.cell 0 (I J C.p) rfl
   clear hb1;go_wp2_with fail;go_meet
   case rel=>exact⟨rfl,H1.o⟩)
 case rest=>
 obtain⟨rfl,H1⟩:=hcut;obtain⟨c0',g⟩:∃b,(!bo||p0||p8)=b:=⟨_,rfl⟩
 rw[g];have G0:Hid ((!bo||p0||p8)=c0'):=g;clear g H0 HV;cases c0';case true=>
  go_wp2_with fail;go_ret;refine⟨⟨_,rfl,?_⟩,H1.o.b⟩;rw[HX.o,<- HVP.o,HB.o];have g:=G0.o;cases bo<;>cases p0<;>cases p8<;>simp_all
 case false=>
 have HG:Hid (bo=true/\(p0||p8)=false):=by
  have g:=G0.o;cases bo<;>cases p0<;>cases p8<;>simp_all
 have y0:=H1.o.p.cell 0 (I J C.p) rfl;have y1:=H1.o.p.cell 1 (I J C.ct) rfl;have y2:=H1.o.p.cell 2 (I J C.lv) rfl;have y3:=H1.o.p.cell 3 (bO C.wk) rfl;have y4:=H1.o.p.cell 4 (bO C.ov) rfl;have y5:=H1.o.p.cell 5 (bO C.ow) rfl;have y6:=H1.o.p.cell 6 (bO C.tx) rfl;have y7:=H1.o.p.cell 7 (bO C.ak) rfl;have y8:=H1.o.p.cell 8 (I J C.rn) rfl;have y9:=H1.o.p.cell 9 (I J C.te) rfl;have y10:=H1.o.p.cell 10 (I J C.re) rfl;rw[ewk]at y3;rw[eov]at y4;rw[eow]at y5;rw[etx]at y6;rw[eak]at y7;clear ewk eov eow etx eak G0;go_upto_region 3 with fail
 go_cut [39] (fun x wx=>x=bO (t0||t8||r0||r8)/\wx=wc);case first=>
  as_aux_lemma=>
  clear HX HB;have hh:(t0=true)\/(t0=false/\t8=true)\/(t0=false/\t8=false/\r0=true)\/(t0=false/\t8=false/\r0=false/\r8=true)\/(t0=false/\t8=false/\r0=false/\r8=false):=by cases t0<;>cases t8<;>cases r0<;>cases r8<;>simp
  rcases hh with rfl|⟨rfl,rfl⟩|⟨rfl,rfl,rfl⟩|⟨rfl,rfl,rfl,rfl⟩|⟨rfl,rfl,rfl,rfl⟩<;>(
   go_wp2_with fail;go_meet
   case rel=>exact⟨rfl,rfl⟩)
 case rest=>
 obtain⟨rfl,hw⟩:=hcut;subst hw;obtain⟨c1,g⟩:∃b,(t0||t8||r0||r8)=b:=⟨_,rfl⟩
 rw[g];have G1:Hid ((t0||t8||r0||r8)=c1):=g;clear g;cases c1;case true=>
  as_aux_lemma=>
  go_wp2_with fail;go_ret;refine⟨⟨_,rfl,?_⟩,H1.o.b⟩;rw[HX.o,HB.o,G1.o];simp
 case false=>
 go_upto_region 6 with fail
 go_cut [47] (fun x wx=>x=bO (p7 !=t6)/\wx=wc);case first=>
  as_aux_lemma=>
  clear HX HB;have hh:(p7=true/\t6=true)\/(p7=true/\t6=false)\/(p7=false/\t6=true)\/(p7=false/\t6=false):=by cases p7<;>cases t6<;>simp
  rcases hh with⟨rfl,rfl⟩|⟨rfl,rfl⟩|⟨rfl,rfl⟩|⟨rfl,rfl⟩<;>(
   go_wp2_with fail;go_meet
   case rel=>exact⟨rfl,rfl⟩)
 case rest=>
 obtain⟨rfl,hw⟩:=hcut;subst hw;obtain⟨c2,g⟩:∃b,(p7 !=t6)=b:=⟨_,rfl⟩
 rw[g];have G2:Hid ((p7 !=t6)=c2):=g;clear g;cases c2;case true=>
  as_aux_lemma=>
  go_wp2_with fail;go_ret;refine⟨⟨_,rfl,?_⟩,H1.o.b⟩;rw[HX.o,HB.o,G2.o];simp
 case false=>
 go_upto_region 9 with(go_at_call 100;refine(HRM.o _).mono ?_;rintro o w2 ⟨rfl,rfl⟩)
 go_cut [73] (fun x wx=>x=bO (c0||c8||l0||l8)/\wx=wc);case first=>
  as_aux_lemma=>
  clear HX HB;have hh:(c0=true)\/(c0=false/\c8=true)\/(c0=false/\c8=false/\l0=true)\/(c0=false/\c8=false/\l0=false/\l8=true)\/(c0=false/\c8=false/\l0=false/\l8=false):=by cases c0<;>cases c8<;>cases l0<;>cases l8<;>simp
  rcases hh with rfl|⟨rfl,rfl⟩|⟨rfl,rfl,rfl⟩|⟨rfl,rfl,rfl,rfl⟩|⟨rfl,rfl,rfl,rfl⟩<;>(
   go_wp2_with fail;go_meet
   case rel=>exact⟨rfl,rfl⟩)
 case rest=>
 obtain⟨rfl,hw⟩:=hcut;subst hw;obtain⟨c3,g⟩:∃b,(c0||c8||l0||l8)=b:=⟨_,rfl⟩
 rw[g];have G3:Hid ((c0||c8||l0||l8)=c3):=g;clear g;cases c3;case true=>
  as_aux_lemma=>
  go_wp2_with fail;go_ret;refine⟨⟨_,rfl,?_⟩,H1.o.b⟩;rw[HX.o,HB.o,G3.o];simp
 case false=>
 go_upto_region 12 with fail
 go_cut [92] (fun x wx=>x=bO (l1&& !(p2&&wk&&cp))/\wx=wc);case first=>
  as_aux_lemma=>
  clear HX HB;have hh:(l1=true/\p2=true/\wk=true/\cp=true)\/(l1=true/\p2=true/\wk=true/\cp=false)\/(l1=true/\p2=true/\wk=false)\/(l1=true/\p2=false)\/(l1=false):=by cases l1<;>cases p2<;>cases wk<;>cases cp<;>simp
  rcases hh with⟨rfl,rfl,rfl,rfl⟩|⟨rfl,rfl,rfl,rfl⟩|⟨rfl,rfl,rfl⟩|⟨rfl,rfl⟩|rfl<;>(
   go_wp2_with fail;go_meet
   case rel=>exact⟨rfl,rfl⟩)
 case rest=>
 obtain⟨rfl,hw⟩:=hcut;subst hw;obtain⟨c4,g⟩:∃b,(l1&& !(p2&&wk&&cp))=b:=⟨_,rfl⟩
 rw[g];have G4:Hid ((l1&& !(p2&&wk&&cp))=c4):=g;clear g;cases c4;case true=>
  as_aux_lemma=>
  go_wp2_with fail;go_ret;refine⟨⟨_,rfl,?_⟩,H1.o.b⟩;rw[HX.o,HB.o,G4.o];simp
 case false=>
 go_upto_region 14 with fail
 go_cut [102] (fun x wx=>x=bO (wk&&(!p2||ov))/\wx=wc);case first=>
  as_aux_lemma=>
  clear HX HB;have hh:(wk=true/\p2=true/\ov=true)\/(wk=true/\p2=true/\ov=false)\/(wk=true/\p2=false)\/(wk=false):=by cases wk<;>cases p2<;>cases ov<;>simp
  rcases hh with⟨rfl,rfl,rfl⟩|⟨rfl,rfl,rfl⟩|⟨rfl,rfl⟩|rfl<;>(
   go_wp2_with fail;go_meet
   case rel=>exact⟨rfl,rfl⟩)
 case rest=>
 obtain⟨rfl,hw⟩:=hcut;subst hw;obtain⟨c5,g⟩:∃b,(wk&&(!p2||ov))=b:=⟨_,rfl⟩
 rw[g];have G5:Hid ((wk&&(!p2||ov))=c5):=g;clear g;cases c5;case true=>
  as_aux_lemma=>
  go_wp2_with fail;go_ret;refine⟨⟨_,rfl,?_⟩,H1.o.b⟩;rw[HX.o,HB.o,G5.o];simp
 case false=>
 go_upto_region 16 with fail
 go_cut [118] (fun x wx=>x=bO (ov&& !p2&& !p3&& !p4)/\wx=wc);case first=>
  as_aux_lemma=>
  clear HX HB;have hh:(ov=true/\p2=true)\/(ov=true/\p2=false/\p3=true)\/(ov=true/\p2=false/\p3=false/\p4=true)\/(ov=true/\p2=false/\p3=false/\p4=false)\/(ov=false):=by cases ov<;>cases p2<;>cases p3<;>cases p4<;>simp
  rcases hh with⟨rfl,rfl⟩|⟨rfl,rfl,rfl⟩|⟨rfl,rfl,rfl,rfl⟩|⟨rfl,rfl,rfl,rfl⟩|rfl<;>(
   go_wp2_with fail;go_meet
   case rel=>exact⟨rfl,rfl⟩)
 case rest=>
 obtain⟨rfl,hw⟩:=hcut;subst hw;obtain⟨c6,g⟩:∃b,(ov&& !p2&& !p3&& !p4)=b:=⟨_,rfl⟩
 rw[g];have G6:Hid ((ov&& !p2&& !p3&& !p4)=c6):=g;clear g;cases c6;case true=>
  as_aux_lemma=>
  go_wp2_with fail;go_ret;refine⟨⟨_,rfl,?_⟩,H1.o.b⟩;rw[HX.o,HB.o,G6.o];simp
 case false=>
 go_upto_region 18 with fail
 go_cut [129] (fun x wx=>x=bO (ow&& !(wk&&tx))/\wx=wc);case first=>
  as_aux_lemma=>
  clear HX HB;have hh:(ow=true/\wk=true/\tx=true)\/(ow=true/\wk=true/\tx=false)\/(ow=true/\wk=false)\/(ow=false):=by cases ow<;>cases wk<;>cases tx<;>simp
  rcases hh with⟨rfl,rfl,rfl⟩|⟨rfl,rfl,rfl⟩|⟨rfl,rfl⟩|rfl<;>(
   go_wp2_with fail;go_meet
   case rel=>exact⟨rfl,rfl⟩)
 case rest=>
 obtain⟨rfl,hw⟩:=hcut;subst hw;obtain⟨c7,g⟩:∃b,(ow&& !(wk&&tx))=b:=⟨_,rfl⟩
 rw[g];have G7:Hid ((ow&& !(wk&&tx))=c7):=g;clear g;cases c7;case true=>
  as_aux_lemma=>
  go_wp2_with fail;go_ret;refine⟨⟨_,rfl,?_⟩,H1.o.b⟩;rw[HX.o,HB.o,G7.o];simp
 case false=>
 go_upto_region 20 with fail
 go_cut [139] (fun x wx=>x=bO (tx&&(p7||pz))/\wx=wc);case first=>
  as_aux_lemma=>
  clear HX HB;have hh:(tx=true/\p7=true)\/(tx=true/\p7=false/\pz=true)\/(tx=true/\p7=false/\pz=false)\/(tx=false):=by cases tx<;>cases p7<;>cases pz<;>simp
  rcases hh with⟨rfl,rfl⟩|⟨rfl,rfl,rfl⟩|⟨rfl,rfl,rfl⟩|rfl<;>(
   go_wp2_with fail;go_meet
   case rel=>exact⟨rfl,rfl⟩)
 case rest=>
 obtain⟨rfl,hw⟩:=hcut;subst hw;obtain⟨c8,g⟩:∃b,(tx&&(p7||pz))=b:=⟨_,rfl⟩
 rw[g];have G8:Hid ((tx&&(p7||pz))=c8):=g;clear g;cases c8;case true=>
  as_aux_lemma=>
  go_wp2_with fail;go_ret;refine⟨⟨_,rfl,?_⟩,H1.o.b⟩;rw[HX.o,HB.o,G8.o];simp
 case false=>
 go_upto_region 22 with fail
 go_cut [147] (fun x wx=>x=bO (p6&& !tx)/\wx=wc);case first=>
  as_aux_lemma=>
  clear HX HB;have hh:(p6=true/\tx=true)\/(p6=true/\tx=false)\/(p6=false):=by cases p6<;>cases tx<;>simp
  rcases hh with⟨rfl,rfl⟩|⟨rfl,rfl⟩|rfl<;>(
   go_wp2_with fail;go_meet
   case rel=>exact⟨rfl,rfl⟩)
 case rest=>
 obtain⟨rfl,hw⟩:=hcut;subst hw;obtain⟨c9,g⟩:∃b,(p6&& !tx)=b:=⟨_,rfl⟩
 rw[g];have G9:Hid ((p6&& !tx)=c9):=g;clear g;cases c9;case true=>
  as_aux_lemma=>
  go_wp2_with fail;go_ret;refine⟨⟨_,rfl,?_⟩,H1.o.b⟩;rw[HX.o,HB.o,G9.o];simp
 case false=>
 go_upto_region 24 with fail
 go_cut [153] (fun x wx=>x=bO (ak&& !p7)/\wx=wc);case first=>
  as_aux_lemma=>
  clear HX HB;have hh:(ak=true/\p7=true)\/(ak=true/\p7=false)\/(ak=false):=by cases ak<;>cases p7<;>simp
  rcases hh with⟨rfl,rfl⟩|⟨rfl,rfl⟩|rfl<;>(
   go_wp2_with fail;go_meet
   case rel=>exact⟨rfl,rfl⟩)
 case rest=>
 obtain⟨rfl,hw⟩:=hcut;subst hw;obtain⟨c10,g⟩:∃b,(ak&& !p7)=b:=⟨_,rfl⟩
 rw[g];have G10:Hid ((ak&& !p7)=c10):=g;clear g;cases c10;case true=>
  as_aux_lemma=>
  go_wp2_with fail;go_ret;refine⟨⟨_,rfl,?_⟩,H1.o.b⟩;rw[HX.o,HB.o,G10.o];simp
 case false=>
 go_upto_region 26 with fail
 go_cut [161] (fun x wx=>x=bO (q0||q8)/\wx=wc);case first=>
  as_aux_lemma=>
  clear HX HB;have hh:(q0=true)\/(q0=false/\q8=true)\/(q0=false/\q8=false):=by cases q0<;>cases q8<;>simp
  rcases hh with rfl|⟨rfl,rfl⟩|⟨rfl,rfl⟩<;>(
   go_wp2_with fail;go_meet
   case rel=>exact⟨rfl,rfl⟩)
 case rest=>
 obtain⟨rfl,hw⟩:=hcut;subst hw;obtain⟨c11,g⟩:∃b,(q0||q8)=b:=⟨_,rfl⟩
 rw[g];have G11:Hid ((q0||q8)=c11):=g;clear g;cases c11;case true=>
  as_aux_lemma=>
  go_wp2_with fail;go_ret;refine⟨⟨_,rfl,?_⟩,H1.o.b⟩;rw[HX.o,HB.o,G11.o];simp
 case false=>
 go_upto_region 28 with fail
 go_cut [177] (fun x wx=>x=bO (!ak&&(!rz||(p7&& !cz)))/\wx=wc);case first=>
  as_aux_lemma=>
  clear HX HB;have hh:(ak=true)\/(ak=false/\rz=true/\p7=true/\cz=true)\/(ak=false/\rz=true/\p7=true/\cz=false)\/(ak=false/\rz=true/\p7=false)\/(ak=false/\rz=false):=by cases ak<;>cases rz<;>cases p7<;>cases cz<;>simp
  rcases hh with rfl|⟨rfl,rfl,rfl,rfl⟩|⟨rfl,rfl,rfl,rfl⟩|⟨rfl,rfl,rfl⟩|⟨rfl,rfl⟩<;>(
   go_wp2_with fail;go_meet
   case rel=>exact⟨rfl,rfl⟩)
 case rest=>
 obtain⟨rfl,hw⟩:=hcut;subst hw;obtain⟨c12,g⟩:∃b,(!ak&&(!rz||(p7&& !cz)))=b:=⟨_,rfl⟩
 rw[g];have G12:Hid ((!ak&&(!rz||(p7&& !cz)))=c12):=g;clear g;cases c12;case true=>
  as_aux_lemma=>
  go_wp2_with fail;go_ret;refine⟨⟨_,rfl,?_⟩,H1.o.b⟩;rw[HX.o,HB.o,G12.o];simp
 case false=>
 go_upto_region 30 with fail
 go_cut [7] (fun x wx=>x=bO (p1&&tx)/\wx=wc);case first=>
  clear HX HB;cases p1<;>cases tx<;>(
   go_wp2_with fail;go_meet
   case rel=>exact⟨rfl,rfl⟩)
 case rest=>
 obtain⟨rfl,hw⟩:=hcut;subst hw;rw[HB.o,HG.o.2,G1.o,G2.o,G3.o,G4.o,G5.o,G6.o,G7.o,G8.o,G9.o,G10.o,G11.o,G12.o]at HX;have HZ1:=HZ.o (HVP.o.1 HG.o.1) wc H1.o.b;obtain⟨z,ez⟩:∃z,(p1&&tx)=z:=⟨_,rfl⟩
 rw[ez]at HX ⊢;have HZ2:Hid (ce 70 #[aG (hoL C.ho s).toArray] wc fun o w'=>∃r:Int,o=rT (I J r)/\(0<=r↔WP)/\Bl wc w'):=HZ1;clear HZ1 HZ ez;go_wp2_with(refine ZG 50 H1.o.p.hostAt underlying50 (jv C.ho s) ?_);refine HZ2.o.mono ?_;rintro o w2 ⟨r,rfl,hr,hb2⟩;obtain⟨br,ebr⟩:∃b:Bool,decide (0<=r)=b:=⟨_,rfl⟩
 have HR:Hid (br=true↔WP):=by show _↔_;rw[<- hr,<- ebr];simp
 have HB2:Hid (Bl w w2):=H1.o.b.trans (hb2.mono H1.o.b.size);clear hr hb2 HZ2;go_wp2_with fail;go_ret;refine⟨⟨_,rfl,?_⟩,HB2.o⟩;rw[HX.o,<- HR.o,<- HVP.o,HG.o.1];cases z<;>cases br<;>simp
end Go.Proofs.YtbbffcolnddcdaaGreatDoor
