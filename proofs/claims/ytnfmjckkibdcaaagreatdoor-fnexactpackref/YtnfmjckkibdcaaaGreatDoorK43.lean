import Derived.Test.YtnfmjckkibdcaaaGreatDoorK00
import Derived.Test.YtnfmjckkibdcaaaGreatDoorK39
import Derived.Test.YtnfmjckkibdcaaaGreatDoorK22
namespace Go.Proofs.YtnfmjckkibdcaaaGreatDoor
open Option renaming none->nn,some->sQ
set_option maxRecDepth 20000
open Go.RowKit
set_option linter.all false
set_option maxHeartbeats 16000000
open Go.Value renaming int->I,slice->sL,bool->bO,pointer->pT,agg->aG
open Go.IntKind renaming i64->J
open Go.Ending renaming returned->rT
open Go.Proofs.Tryz renaming prog->Tp
def zA (W:World) (M R:Nat) (p:Int) (tx:Bool) (hd:ByteArray) (em:Bool) (e1:(p == 1)=false) (he:hd.toList.isEmpty=em) (y0:W.cell? ⟨R,0,nn⟩=sQ (pT (sQ ⟨M,0,nn⟩))) (y1:W.cell? ⟨R,1,nn⟩=sQ (.string hd)) (y3:W.cell? ⟨M,3,nn⟩=sQ (I J p)) (y9:W.cell? ⟨M,9,nn⟩=sQ (bO tx)) :
  Calls Tp 62 #[pT (sQ ⟨R,0,nn⟩)] W fun o w'=>o = rT (bO em)/\w'=W:=by
 have HS:Hid (Calls Tp 65 #[pT (sQ ⟨M,0,nn⟩)] W fun o w'=>o = rT (bO false)/\w'=W):=ir W M false tx p e1 y3 y9;go_enter Tryz.func62,Tryz.ntmps62;go_wp2_with fail;refine HS.o.mono ?_;rintro o w1 ⟨rfl,rfl⟩;go_wp2_with fail;go_ret;exact⟨rfl,rfl⟩
def BN (vc vf:Nat) (vd vo:Bool):∀ w:World,(Instr.field 118 (aG #[I J (vc:Int),I J (vf:Int),bO vd,bO vo]) 0).run Tp w = .ok (I J (vc:Int)) w:=fun _=>by kernel_rfl
def tF (W:World) (M R:Nat) (hd:ByteArray) (em:Bool) (vc vf:Nat) (vd vo g:Bool) (hj:∀ W,Calls Tp 129 #[.string hd] W fun o w'=>o = rT (aG #[I J (vc:Int),I J (vf:Int),bO vd,bO vo])/\Bl W w') (eg:decide (vc=0\/vc=1)=g) (he:hd.toList.isEmpty=em) (y0:W.cell? ⟨R,0,nn⟩=sQ (pT (sQ ⟨M,0,nn⟩))) (y1:W.cell? ⟨R,1,nn⟩=sQ (.string hd)) (y3:W.cell? ⟨M,3,nn⟩=sQ (I J 1)) (y9:W.cell? ⟨M,9,nn⟩=sQ (bO false)) :
  Calls Tp 62 #[pT (sQ ⟨R,0,nn⟩)] W fun o w'=>o = rT (bO (!em && g))/\Bl W w':=by
 have HS:Hid (Calls Tp 65 #[pT (sQ ⟨M,0,nn⟩)] W fun o w'=>o = rT (bO false)/\w'=W):=ir W M true false 1 rfl y3 y9;have HJ:=ah hj;have HG:Hid (∀ W,Calls Tp 128 #[I J (vc:Int)] W fun o w'=>o = rT (bO g)/\W=w'):=fun W=>by rw[<- eg];exact iZ vc W
 have hf:=BN vc vf vd vo;have HR:=ah (bW W.heap.size W);clear hj eg;cases em
 .go_enter Tryz.func62,Tryz.ntmps62;go_wp2_with fail;refine HS.o.mono ?_;rintro o w1 ⟨rfl,rfl⟩;go_wp2_with fail;refine (HJ.o _).mono ?_;rintro o w2 ⟨rfl,hb2⟩;have HB:=ah hb2;clear hb2;go_wp2_with fail;refine (HG.o _).mono ?_;rintro o w3 ⟨rfl,rfl⟩;go_wp2_with fail;go_ret;exact⟨rfl,HB.o⟩
 .go_enter Tryz.func62,Tryz.ntmps62;go_wp2_with fail;refine HS.o.mono ?_;rintro o w1 ⟨rfl,rfl⟩;go_wp2_with fail;go_ret;exact⟨rfl,HR.o⟩
def tE (W:World) (M R P:Nat) (hd:ByteArray) (e:Bool) (i:Nat) (r:Bool) (d:Int) (l:List Nat) (E:ByteArray) (hE:eV e i r d l.length l=E) (h10:10<=E.size) (h1000:E.size<=1000) (lt pre:Bool) (el:lt=true↔hd.size<(jQ E).size) (ep:Go.Lib.hasPrefix (jQ E).data.toList hd.data.toList=pre)
  (y0:W.cell? ⟨R,0,nn⟩=sQ (pT (sQ ⟨M,0,nn⟩))) (y1:W.cell? ⟨R,1,nn⟩=sQ (.string hd)) (x0:W.cell? ⟨M,0,nn⟩=sQ (pT (sQ ⟨P,0,nn⟩))) (y3:W.cell? ⟨M,3,nn⟩=sQ (I J 1)) (y9:W.cell? ⟨M,9,nn⟩=sQ (bO true))
  (hs:∀ V,Bl W V->Calls Tp 67 #[pT (sQ ⟨P,0,nn⟩)] V fun o w'=>∃ ao m c,o = rT (frV e i r d ao m c)/\iB w' ao m c l/\Bl V w') :
  Calls Tp 62 #[pT (sQ ⟨R,0,nn⟩)] W fun o w'=>o = rT (bO (lt && pre))/\Bl W w':=by
 have HS:Hid (Calls Tp 65 #[pT (sQ ⟨M,0,nn⟩)] W fun o w'=>o = rT (bO true)/\w'=W):=ir W M true true 1 rfl y3 y9;have HC:Hid (∀ V,Bl W V->V.cell? ⟨R,1,nn⟩=sQ (.string hd)):=fun V hV=>(hV.cell (by exact QD W _ y1)).trans y1;have HSD:=ru hs
 have HEN:Hid (∀ V ao m c,iB V ao m c l->Calls Tp 126 #[frV e i r d ao m c] V fun o w'=>o = rT (.string E)/\Bl V w'):=fun V ao m c hV=>by
  have:=tT V e i r d ao m c l hV;rw[hV.len,hE] at this;rw[hV.len];exact this
 have HAK:Hid (∀ V,Calls Tp 125 #[.string E] V fun o w'=>o = rT (.string (jQ E))/\Bl V w'):=fun V=>Cm V E h10 om;have HPR:Hid (∀ V,Calls Tp 127 #[.string (jQ E),.string hd] V fun o w'=>o = rT (bO pre)/\w'=V):=fun V=>by rw[<- ep];exact Tryz.strings_HasPrefix (jQ E) hd V
 clear hs y3 y9 hE ep;generalize jQ E=A at *;go_enter Tryz.func62,Tryz.ntmps62;go_wp2_with fail;refine HS.o.mono ?_;rintro o w1 ⟨rfl,rfl⟩;clear HS;go_wp2_with fail;refine (HSD.o _ (bW _ _)).mono ?_;rintro o w2 ⟨ao,m,c,rfl,hq,hb2⟩;have H2:=ru (qH hq hb2);clear hq hb2;go_wp2_with fail;refine (HEN.o _ _ _ _ H2.o.1).mono ?_;rintro o w3 ⟨rfl,hb3⟩;have H3:=ru (H2.o.2.trans (hb3.mono H2.o.2.size));clear hb3 H2;go_wp2_with fail;refine (HAK.o _).mono ?_;rintro o w4 ⟨rfl,hb4⟩;have H4:=ru (H3.o.trans (hb4.mono H3.o.size));clear hb4 H3;have y1':=HC.o w4 H4.o;cases lt
 .have hl:¬ hd.size<A.size:=fun x=>by have:=el.2 x;cases this
  clear el;go_wp2_with fail;go_ret;exact⟨rfl,H4.o⟩
 .have hl:hd.size<A.size:=el.1 rfl;clear el;go_wp2_with fail;refine (HPR.o _).mono ?_;rintro o w5 ⟨rfl,rfl⟩;go_wp2_with fail;go_ret;exact⟨rfl,H4.o⟩
end Go.Proofs.YtnfmjckkibdcaaaGreatDoor
