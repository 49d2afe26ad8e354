import Derived.Test.YtnfmjckkibdcaaaGreatDoorK43
import Derived.Test.YtnfmjckkibdcaaaGreatDoorK47
import Derived.Test.YtnfmjckkibdcaaaGreatDoorK27
namespace Go.Proofs.YtnfmjckkibdcaaaGreatDoor
open Option renaming none->nn,some->sQ
open Go renaming World->Wd
set_option maxRecDepth 20000
open Go.RowKit
set_option linter.all false
set_option maxHeartbeats 16000000
open Go.Value renaming int->I,slice->sL,bool->bO,pointer->pT,agg->aG
open Go.IntKind renaming i64->J
open Go.Ending renaming returned->rT
open Go.Proofs.Tryz renaming prog->Tp
variable {C:Co} {w w':Wd} {R:Nat}
def xg (hd:ByteArray):hd.toList.isEmpty=true↔hd.size=0:=by
 rw[List.isEmpty_iff_length_eq_zero,Go.Lib.toList_data,<- Go.Lib.size_eq]
def mx.holds {w0:Wd} {M:Nat} {G:Lg} {f1 f3 nm:Nat} {W:Wd} (h:mx w0 M G f1 f3 nm C W) (hok:g9 C) (R:Nat) (hd:ByteArray) (vc vf:Nat) (vd vo:Bool) (hR:blk W R [pT (sQ ⟨M,0,nn⟩),.string hd] 130)
  (hj:∀ W,Calls Tp 129 #[.string hd] W fun o w'=>o = rT (aG #[I J (vc:Int),I J (vf:Int),bO vd,bO vo])/\Bl W w') :
  Calls Tp 62 #[pT (sQ ⟨R,0,nn⟩)] W fun o w'=>cK o (hkP C hd vc)/\Bl W w':=by
 have y0:=hR.cell 0 (pT (sQ ⟨M,0,nn⟩)) rfl;have y1:=hR.cell 1 (.string hd) rfl;have x0:=h.m.cell 0 (pT (sQ ⟨G.P,0,nn⟩)) rfl;have y3:=h.m.cell 3 (I J C.p) rfl;have y9:=h.m.cell 9 (bO C.tx) rfl;have he:=xg hd;by_cases hp:C.p=1
 .rw[hp] at y3;cases ht:C.tx
  .rw[ht] at y9;refine (tF W M R hd _ vc vf vd vo _ hj rfl rfl y0 y1 y3 y9).mono ?_;rintro o w' ⟨rfl,h2⟩;refine⟨⟨_,rfl,?_⟩,h2⟩;unfold hkP;rw[qc hp,qa (by rw[ht];decide),ne_eq,<- not_congr he];simp
  .rw[ht] at y9;have hw:=hok.s.1 ⟨hp,ht⟩;have hk:=kC hw;have hz:=iA C hok hw;refine (tE W M R G.P hd _ _ _ _ _ (dq C) (jq C hk).symm hz.1 hz.2.1 (decide (hd.size<(jQ (dq C)).size)) _ pQ rfl y0 y1 x0 y3 y9 (fun Y hY=>?_)).mono ?_
   .obtain⟨hs,D,hc⟩:=h.below hY;exact jZ Y G.P G.gb G.n2 G.kb C.ho.bx _ hk (hc.h.p.cell 5 _ rfl) (hc.h.x.is hc.h.bd.nk) hc.h.bd.m2 (fun z hz=>(oU hz hw).1)
   rintro o w' ⟨rfl,h2⟩;refine⟨⟨_,rfl,?_⟩,h2⟩;unfold hkP;rw[qc hp,qc ht,BC _ _ hz.1];simp
 .refine (zA W M R C.p C.tx hd _ (by simpa using hp) rfl y0 y1 y3 y9).mono ?_;rintro o w' ⟨rfl,rfl⟩;refine⟨⟨_,rfl,?_⟩,bW _ _⟩;unfold hkP;rw[qa hp];exact he
def opR (w:Wd) (C:Co) (hd:ByteArray) (R:Nat) (w':Wd):Prop:=∃ (w0:Wd) (M:Nat) (G:Lg) (nm:Nat),mx w0 M G 0 0 nm C w'/\Bl w w0/\blk w' R [pT (sQ ⟨M,0,nn⟩),.string hd] 130/\R≠M/\R≠G.gb
def opR.below {hd:ByteArray} {w2:Wd} (h:opR w C hd R w') (hb:Bl w' w2):opR w C hd R w2:=by
 obtain⟨w0,M,G,nm,h1,h2,h3,h4⟩:=h;exact⟨w0,M,G,nm,h1.below hb,h2,h3.below hb,h4⟩
def opR.since {hd:ByteArray} (h:opR w C hd R w'):Bl w w':=by
 obtain⟨w0,M,G,nm,⟨_,_,h1⟩,h2,h3,h4⟩:=h;exact h2.trans (h1.h.b.mono h2.size)
def sR (w:Wd) (C:Co) (s:Sl) (hd:ByteArray) (vc vf:Nat) (vd vo:Bool) (hj:∀ W,Calls Tp 129 #[.string hd] W fun o w'=>o = rT (aG #[I J (vc:Int),I J (vf:Int),bO vd,bO vo])/\Bl W w') (h:aK w C.ho s) (hs:dz s) (hok:g9 C) (hm:C.ho.le 1048576) :
  Calls Tp 26 #[aG (rfL C s hd).toArray] w fun o w'=>∃ R b,o = rT (.tuple #[pT (sQ ⟨R,0,nn⟩),bO b])/\(b=true↔hkP C hd vc)/\opR w C hd R w':=by
 have H0:Hid (blk (w.alloc (.cells (rfL C s hd).toArray 57)) w.heap.size (rfL C s hd) 57/\Bl w (w.alloc (.cells (rfL C s hd).toArray 57))):=⟨blk.new w _ 57,(bW _ _).alloc (nR _) _⟩
 have HV:Hid (∀ X,Bl w X->Calls Tp 60 #[aG (coL C s).toArray] X fun o w'=>o = rT (bO true)/\Bl X w'):=fun X hX=>(iJ X C s (h.below hX) hm).mono fun o w' ⟨⟨b,h1,h2⟩,h3⟩=>⟨by rw[h1,h2.2 hok],h3⟩
 have HO:Hid (∀ X,Bl w X->Calls Tp 61 #[aG (coL C s).toArray] X fun o w'=>∃ M,o = rT (pT (sQ ⟨M,0,nn⟩))/\opn X C M w'):=fun X hX=>EJ X C s (h.below hX) hs hok hm;have HOK:=ah hok;have HJ:=ah hj;clear h hs hok hm hj;obtain⟨v0,hv0⟩ : ∃ v0,v0=w.alloc (.cells (rfL C s hd).toArray 57):=⟨_,rfl⟩
 rw[<- hv0] at H0;go_enter Tryz.func26,Tryz.ntmps26;go_upto_region 1 with fail
 rw[<- hv0];clear hv0;go_wp2_with (first | (refine QA (P:=Tp) rfl 43 _ rfl w.heap.size 0 rfl (coL C s) _ (eH H0.o.1) Tryz.underlying43 rfl (cy C s) ?_));refine (HV.o _ H0.o.2).mono ?_;rintro o w1 ⟨rfl,hb1⟩;have H1:=DU (qH (H0.o.1.below hb1) (H0.o.2.trans (hb1.mono H0.o.2.size)));clear hb1 H0 HV;go_wp2_with fail;refine QK (S:=fun X=>blk X w.heap.size (rfL C s hd) 57) kr ?_;have hS:blk (World.drew w1) w.heap.size (rfL C s hd) 57:=H1.o.1.below (bW _ _).drew;have HB1:Hid (Bl w (World.drew w1)):=H1.o.2.drew;clear H1;change wpAnyH Tp _ _ _ _ _ _ _ (World.drew w1);generalize World.drew w1=v0 at *;refine wV 0 (pT (sQ ⟨w.heap.size,0,nn⟩)) ?_ hS ?_
 .intro W hSw;clear hS;go_simp
 simp only[Act.put,aA,aB,aC,aD,aE];refine wU 1 (aG (coL C s).toArray) rfl (QM (by rfl) 43 _ rfl w.heap.size 0 rfl (coL C s) _ (fun X h=>eH h) Tryz.underlying43 rfl (cy C s)) hS ?_;simp only[aZ];refine wV 3 (pT (sQ ⟨w.heap.size,21,nn⟩)) ?_ hS ?_
 .intro W hSw;clear hS;go_simp
 simp only[aZ];refine wV 4 (.string hd) ?_ hS ?_
 .intro W hSw;clear hS;have y:=hSw.cell 21 (.string hd) rfl;go_simp
 simp only[aZ];refine QG (rs:=[2]) kr pQ ?_;refine Q9 rfl (fun K2 hK2=>?_) za;go_simp;refine (HO.o v0 HB1.o).mono ?_;rintro o w2 ⟨M,rfl,hq⟩;have H2:=DU hq;have hS2:blk w2 w.heap.size (rfL C s hd) 57:=by obtain⟨_,_,_,_,_,_,_,hb⟩:=hq;exact hS.below hb
 clear hq;go_wp2_with fail;refine hK2.out _ _ hS2 (fun hS3=>?_);clear hK2 K2 hS2 hS;have hS:=hS3;clear hS3;refine wV 5 (aG #[pT (sQ ⟨M,0,nn⟩),.string hd]) ?_ hS ?_
 .intro W hSw;clear hS;go_simp
 simp only[aZ];refine QG (rs:=[6]) kr pQ ?_;refine Q9 rfl (fun K2 hK2=>?_) za;go_simp;have hS5:blk (w2.alloc (.cells #[pT (sQ ⟨M,0,nn⟩),.string hd] 130)) w.heap.size (rfL C s hd) 57:=hS.alloc _;refine hK2.out _ _ hS5 (fun hS3=>?_);clear hK2 K2 hS5 hS;have hS:=hS3;clear hS3;have H3:Hid (opR w C hd w2.heap.size (w2.alloc (.cells #[pT (sQ ⟨M,0,nn⟩),.string hd] 130))):=by
  obtain⟨w0,G,nm,h1,h2,h3,h4,h5⟩:=H2.o;have hb:Bl w2 (w2.alloc (.cells #[pT (sQ ⟨M,0,nn⟩),.string hd] 130)):=(bW _ _).alloc (nR _) _;exact⟨w0,M,G,nm,h1.below hb,HB1.o.trans (h2.mono HB1.o.size),blk.new w2 [pT (sQ ⟨M,0,nn⟩),.string hd] 130,om,om⟩
 have HM:Hid (Calls Tp 62 #[pT (sQ ⟨w2.heap.size,0,nn⟩)] (w2.alloc (.cells #[pT (sQ ⟨M,0,nn⟩),.string hd] 130)) fun o w'=>cK o (hkP C hd vc)/\Below (w2.alloc (.cells #[pT (sQ ⟨M,0,nn⟩),.string hd] 130)).heap.size (w2.alloc (.cells #[pT (sQ ⟨M,0,nn⟩),.string hd] 130)) w'):=by
  obtain⟨w0,G,nm,h1,h2,h3,h4,h5⟩:=H2.o;have hb:Bl w2 (w2.alloc (.cells #[pT (sQ ⟨M,0,nn⟩),.string hd] 130)):=(bW _ _).alloc (nR _) _;exact (h1.below hb).holds HOK.o w2.heap.size hd vc vf vd vo (blk.new w2 _ 130) HJ.o
 clear H2 HO HJ HOK;generalize w2.alloc (.cells #[pT (sQ ⟨M,0,nn⟩),.string hd] 130)=v3 at *;refine wV 7 (pT (sQ ⟨w2.heap.size,0,nn⟩)) ?_ hS ?_
 .intro W hSw;clear hS;go_simp
 simp only[aZ];refine QI kr ?_ _;clear hS;go_wp2_with fail;refine HM.o.mono ?_;rintro o w4 ⟨⟨b,rfl,hb⟩,hb4⟩;have H4:=ah (qH hb (H3.o.below hb4));clear hb hb4 H3;go_wp2_with fail;refine QF (v:=.tuple #[pT (sQ ⟨w2.heap.size,0,nn⟩),bO b]) (by simp[results,Tryz.results26,go_sem]) rfl ?_;exact⟨_,b,rfl,H4.o.1,H4.o.2⟩
def pN (w:World) (C:Co) (s:Sl) (hd:ByteArray) (h:aK w C.ho s) (hok:¬ g9 C) (hm:C.ho.le 1048576) :
  Calls Tp 26 #[aG (rfL C s hd).toArray] w fun o w'=>o = rT (.tuple #[.pointer none,bO false])/\Bl w w':=by
 have H0:Hid (blk (w.alloc (.cells (rfL C s hd).toArray 57)) w.heap.size (rfL C s hd) 57/\Bl w (w.alloc (.cells (rfL C s hd).toArray 57))):=⟨blk.new w _ 57,(bW _ _).alloc (nR _) _⟩
 have HV:Hid (∀ X,Bl w X->Calls Tp 60 #[aG (coL C s).toArray] X fun o w'=>o = rT (bO false)/\Bl X w'):=fun X hX=>(iJ X C s (h.below hX) hm).mono fun o w' ⟨⟨b,h1,h2⟩,h3⟩=>⟨by rw[h1];cases b;rfl;exact Qz (h2.1 rfl) hok,h3⟩
 clear h hok hm;obtain⟨v0,hv0⟩ : ∃ v0,v0=w.alloc (.cells (rfL C s hd).toArray 57):=⟨_,rfl⟩
 rw[<- hv0] at H0;go_enter Tryz.func26,Tryz.ntmps26;go_upto_region 1 with fail
 rw[<- hv0];clear hv0;go_wp2_with (first | (refine QA (P:=Tp) rfl 43 _ rfl w.heap.size 0 rfl (coL C s) _ (eH H0.o.1) Tryz.underlying43 rfl (cy C s) ?_));refine (HV.o _ H0.o.2).mono ?_;rintro o w1 ⟨rfl,hb1⟩;have H1:=DU (H0.o.2.trans (hb1.mono H0.o.2.size));clear hb1 H0 HV;go_wp2_with fail;refine QF (v:=.tuple #[.pointer none,bO false]) (by simp[results,Tryz.results26,go_sem]) rfl ?_;exact⟨rfl,H1.o⟩
def pO (w:World) (C:Co) (s:Sl) (hd:ByteArray) (vc vf:Nat) (vd vo:Bool) (hj:∀ W,Calls Tp 129 #[.string hd] W fun o w'=>o = rT (aG #[I J (vc:Int),I J (vf:Int),bO vd,bO vo])/\Bl W w') (h:aK w C.ho s) (hs:dz s) (hm:C.ho.le 1048576) :
  Calls Tp 26 #[aG (rfL C s hd).toArray] w fun o w'=>∃ p b,o = rT (.tuple #[.pointer p,bO b])/\(b=true↔fH C hd vc)/\(b=true->∃ R,p=some ⟨R,0,none⟩/\opR w C hd R w')/\Bl w w':=by
 by_cases hok:g9 C
 .refine (sR w C s hd vc vf vd vo hj h hs hok hm).mono ?_;rintro o w' ⟨R,b,rfl,h1,h2⟩;exact⟨_,b,rfl,h1.trans ⟨fun x=>⟨hok,x⟩,fun x=>x.2⟩,fun _=>⟨R,rfl,h2⟩,h2.since⟩
 .refine (pN w C s hd h hok hm).mono ?_;rintro o w' ⟨rfl,h1⟩;exact⟨_,false,rfl,⟨fun x=>(by cases x),fun x=>Qz x.1 hok⟩,fun x=>(by cases x),h1⟩
def tP (w:World) (T:Co) (s1 s2:Sl) (hd:ByteArray) (h1:aK w T.ho s1) (h2:aK w T.ho s2) (hm:T.ho.le 1048576):Calls Tp 10 #[aG (rfL T s1 hd).toArray,aG (rfL T s2 hd).toArray] w fun o w'=>o = rT (bO true)/\Bl w w':=by
 have H0:Hid (blk ((w.alloc (.cells (rfL T s1 hd).toArray 57)).alloc (.cells (rfL T s2 hd).toArray 57)) w.heap.size (rfL T s1 hd) 57/\blk ((w.alloc (.cells (rfL T s1 hd).toArray 57)).alloc (.cells (rfL T s2 hd).toArray 57)) (w.heap.size+1) (rfL T s2 hd) 57/\Bl w ((w.alloc (.cells (rfL T s1 hd).toArray 57)).alloc (.cells (rfL T s2 hd).toArray 57))):=by
  refine⟨(blk.new w _ 57).alloc _,?_,((bW _ _).alloc (nR _) _).alloc pQ _⟩;have:=blk.new (w.alloc (.cells (rfL T s1 hd).toArray 57)) (rfL T s2 hd) 57;simpa using this
 have HE:Hid (∀ X,Bl w X->Calls Tp 29 #[aG (coL T s1).toArray,aG (coL T s2).toArray] X fun o w'=>o = rT (bO true)/\Bl X w'):=fun X hX=>Fj X T s1 s2 (h1.below hX) (h2.below hX) hm;clear h1 h2 hm;obtain⟨v0,hv0⟩ : ∃ v0,v0=(w.alloc (.cells (rfL T s1 hd).toArray 57)).alloc (.cells (rfL T s2 hd).toArray 57):=⟨_,rfl⟩
 rw[<- hv0] at H0;go_enter Tryz.func10,Tryz.ntmps10;go_upto_region 1 with fail
 change Code.wp _ _ _ _ ((w.alloc (.cells (rfL T s1 hd).toArray 57)).alloc (.cells (rfL T s2 hd).toArray 57));rw[<- hv0]
 clear hv0;go_wp2_with (first
  | (refine QA (P:=Tp) rfl 43 _ rfl w.heap.size 0 rfl (coL T s1) _ (eH H0.o.1) Tryz.underlying43 rfl (cy T s1) ?_)
  | (refine QA (P:=Tp) rfl 43 _ rfl (w.heap.size+1) 0 rfl (coL T s2) _ (eH H0.o.2.1) Tryz.underlying43 rfl (cy T s2) ?_))
 refine (HE.o _ H0.o.2.2).mono ?_;rintro o w1 ⟨rfl,hb1⟩;have y1:=(H0.o.1.below hb1).cell 21 (.string hd) rfl;have y2:=(H0.o.2.1.below hb1).cell 21 (.string hd) rfl;have H1:=ah (H0.o.2.2.trans (hb1.mono H0.o.2.2.size));clear hb1 H0 HE;go_wp2_with fail;go_ret;exact⟨rfl,H1.o⟩
def Cv (C:Co) (s:Sl):(Tp.info? 31).map (·.size)=some (coL C s).length:=kr
def vG (w:World) (C:Co) (s:Sl) (hd:ByteArray) (h:aK w C.ho s) (hn:C.ho.le 9223372036854775807):Calls Tp 5 #[aG (rfL C s hd).toArray,I J 1048576] w fun o w'=>∃ z:Int,o = rT (I J z)/\Bl w w'/\(z = -1\/∃ m':Nat,z=(m':Int)/\C.ho.le 1048576):=by
 have H0:Hid (blk (w.alloc (.cells (rfL C s hd).toArray 33)) w.heap.size (rfL C s hd) 33/\Bl w (w.alloc (.cells (rfL C s hd).toArray 33))):=⟨blk.new w _ 33,(bW _ _).alloc (nR _) _⟩
 have HS:Hid (∀ X,Bl w X->Calls Tp 18 #[aG (coL C s).toArray,I J 1048576] X fun o w'=>∃ z:Int,o = rT (I J z)/\Bl X w'/\(z = -1\/∃ m':Nat,z=(m':Int)/\C.ho.le 1048576)):=fun X hX=>FL X C s (h.below hX) hn;clear h hn;obtain⟨v0,hv0⟩ : ∃ v0,v0=w.alloc (.cells (rfL C s hd).toArray 33):=⟨_,rfl⟩
 rw[<- hv0] at H0;go_enter Tryz.func5,Tryz.ntmps5;go_upto_region 1 with fail
 change Code.wp _ _ _ _ (w.alloc (.cells (rfL C s hd).toArray 33));rw[<- hv0];clear hv0;go_wp2_with (first | (refine QA (P:=Tp) rfl 31 _ rfl w.heap.size 0 rfl (coL C s) _ (eH H0.o.1) Tryz.underlying31 rfl (Cv C s) ?_));refine (HS.o _ H0.o.2).mono ?_;rintro o w1 ⟨z,rfl,hb1,hz⟩;have H1:=ah (qH (H0.o.1.below hb1) (H0.o.2.trans (hb1.mono H0.o.2.size)));have y1:=H1.o.1.cell 21 (.string hd) rfl;clear hb1 H0 HS;rcases hz with rfl|⟨m',rfl,hle⟩
 .go_wp2_with fail;go_ret;exact⟨_,rfl,H1.o.2,qr rfl⟩
 .have g0:¬ (m':Int)<0:=om;obtain⟨zz,hzz⟩ : ∃ zz,IntKind.i64.wrap ((m':Int)-(hd.size:Int))=zz:=⟨_,rfl⟩
  have HLE:=ah hle;clear hle;by_cases g1:zz<0
  .go_wp2_with fail;go_ret;exact⟨_,rfl,H1.o.2,qr rfl⟩
  .have HG:=ah g1;go_wp2_with fail;go_ret;exact⟨_,rfl,H1.o.2,qy ⟨zz.toNat,by have:=HG.o;omega,HLE.o⟩⟩
def Z22:List Value:=[I J 0,I J 0,I J 0,bO false,bO false,bO false,bO false,bO false,I J 0,I J 0,I J 0,I J 0,I J 0,I J 0,I J 0,sL none 0 0,sL none 0 0,sL none 0 0,sL none 0 0,I J 0,I J 0,.string ⟨#[]⟩]
def vA (w:World) (C:Co) (s:Sl) (hd:ByteArray) (hc:∀ X,Bl w X->Calls Tp 25 #[aG (coL C s).toArray] X fun o w'=>∃ s':Wh,o = rT (aG (coL C s'.sl).toArray)/\St X.heap.size w' (fun W=>aK W C.ho s'.sl)/\whS X.heap.size w'.heap.size w' s'/\whD s'/\dz s'.sl/\Bl X w') :
  Calls Tp 7 #[aG (rfL C s hd).toArray] w fun o w'=>∃ (s':Wh) (B:Nat),o = rT (aG (rfL C s'.sl hd).toArray)/\w.heap.size<=B/\St B w' (fun W=>aK W C.ho s'.sl)/\whS B w'.heap.size w' s'/\whD s'/\dz s'.sl/\Bl w w':=by
 obtain⟨v0,hv0⟩ : ∃ v0,v0=((w.alloc (.cells (rfL C s hd).toArray 33)).alloc (.cells Z22.toArray 57)).alloc (.cells Z22.toArray 57):=⟨_,rfl⟩
 have H0:Hid (blk v0 w.heap.size (rfL C s hd) 33/\blk v0 (w.heap.size+1) Z22 57/\blk v0 (w.heap.size+2) Z22 57/\Bl w v0):=by
  rw[hv0];refine⟨((blk.new w _ 33).alloc _).alloc _,?_,?_,(((bW _ _).alloc (nR _) _).alloc pQ _).alloc (by simp;omega) _⟩
  .have:=(blk.new (w.alloc (.cells (rfL C s hd).toArray 33)) Z22 57).alloc (.cells Z22.toArray 57);simpa using this
  .have:=blk.new ((w.alloc (.cells (rfL C s hd).toArray 33)).alloc (.cells Z22.toArray 57)) Z22 57;simpa using this
 have HC:=ah hc;clear hc;go_enter Tryz.func7,Tryz.ntmps7;go_upto_region 2 with fail
 change Code.wp _ _ _ _ (((w.alloc (.cells (rfL C s hd).toArray 33)).alloc (.cells Z22.toArray 57)).alloc (.cells Z22.toArray 57));rw[<- hv0];clear hv0;go_wp2_with (first | (refine QA (P:=Tp) rfl 31 _ rfl w.heap.size 0 rfl (coL C s) _ (eH H0.o.1) Tryz.underlying31 rfl (Cv C s) ?_));refine (HC.o _ H0.o.2.2.2).mono ?_;rintro o w1 ⟨s',rfl,q1,q2,q3,q4,hb1⟩;have H1:Hid (blk w1 w.heap.size (rfL C s hd) 33/\blk w1 (w.heap.size+1) Z22 57/\blk w1 (w.heap.size+2) Z22 57/\Bl w w1):=⟨H0.o.1.below hb1,H0.o.2.1.below hb1,H0.o.2.2.1.below hb1,H0.o.2.2.2.trans (hb1.mono H0.o.2.2.2.size)⟩
 have HQ:=ah (qH q1 (qH q2 (qH q3 (qH q4 H0.o.2.2.1.lt))))
 clear q1 q2 q3 q4 hb1 H0 HC;go_upto_region 3 with (first
  | (refine QE (P:=Tp) rfl 43 _ _ rfl (w.heap.size+2) 0 (coL C s'.sl).toArray rfl rfl (H1.o.2.2.1.there 0 _ (by rw[qS,cL];decide)) (nO C s'.sl) (cO C s'.sl) ?_;generalize hW2:World.setCells _ (w.heap.size+2) 0 _=w2;have HW2:Hid (_=w2):=hW2;clear hW2))
 have H2:Hid (blk w2 w.heap.size (rfL C s hd) 33/\blk w2 (w.heap.size+1) Z22 57/\blk w2 (w.heap.size+2) (rfL C s'.sl ⟨#[]⟩) 57/\Bl w w2/\(∀ q,q≠w.heap.size+2->w2.heap[q]?=w1.heap[q]?)/\w2.heap.size=w1.heap.size):=by
  have e:=HW2.o;rw[<- e];refine⟨H1.o.1.other om _ _,H1.o.2.1.other om _ _,?_,sW om 0 _ H1.o.2.2.2,fun q hq=>sO _ q hq _ _ _,sZ ..⟩;have h':blk w1 (w.heap.size+2) ([]++Z21++[.string ⟨#[]⟩]) 57:=H1.o.2.2.1;have:=blk.put [] Z21 [.string ⟨#[]⟩] (coL C s'.sl) h' (by rw[cL];rfl);exact this
 clear HW2 H1;have y21:=H2.o.1.cell 21 (.string hd) rfl;have z21:=H2.o.2.2.1.cell 21 (.string ⟨#[]⟩) rfl;have f21:=H2.o.2.2.1.free 21;go_upto_region 4 with fail
 have H3:Hid (blk (w2.setCell ⟨w.heap.size+2,21,none⟩ (.string hd)) (w.heap.size+1) Z22 57/\blk (w2.setCell ⟨w.heap.size+2,21,none⟩ (.string hd)) (w.heap.size+2) (rfL C s'.sl hd) 57/\Bl w (w2.setCell ⟨w.heap.size+2,21,none⟩ (.string hd))/\(∀ q,q≠w.heap.size+2->(w2.setCell ⟨w.heap.size+2,21,none⟩ (.string hd)).heap[q]?=w1.heap[q]?)/\(w2.setCell ⟨w.heap.size+2,21,none⟩ (.string hd)).heap.size=w1.heap.size):=by
  refine⟨H2.o.2.1.setOther om 21 _,?_,H2.o.2.2.2.1.setCell (by show w.heap.size<=w.heap.size+2;omega) _,fun q hq=>(QB w2 ⟨w.heap.size+2,21,none⟩ q _ hq).trans (H2.o.2.2.2.2.1 q hq),by simpa using H2.o.2.2.2.2.2⟩;have e:(rfL C s'.sl ⟨#[]⟩).set 21 (.string hd)=rfL C s'.sl hd:=rfl;rw[<- e];exact H2.o.2.2.1.set 21 (.string hd)
 clear H2 y21 z21 f21;generalize w2.setCell ⟨w.heap.size+2,21,none⟩ (.string hd)=w3 at *;go_wp2_with (first
  | (refine QA (P:=Tp) rfl 57 _ rfl (w.heap.size+2) 0 rfl (rfL C s'.sl hd) _ H3.o.2.1.load Tryz.underlying57 rfl vI ?_)
  | (refine QE (P:=Tp) rfl 57 _ _ rfl (w.heap.size+1) 0 (rfL C s'.sl hd).toArray rfl rfl (H3.o.1.there 0 _ (by rw[qS,uI];decide)) vI (uH _ _ _) ?_;generalize hW8:World.setCells _ (w.heap.size+1) 0 _=w8;have HW8:Hid (_=w8):=hW8;clear hW8))
 have e8:=HW8.o;have hF:blk w8 (w.heap.size+1) (rfL C s'.sl hd) 57:=by
  rw[<- e8];have:=blk.put [] Z22 [] (rfL C s'.sl hd) (w:=w3) (b:=w.heap.size+1) (T:=57) (by simpa using H3.o.1) (by rw[uI];rfl);simpa using this
 have hL:=QJ (P:=Tp) w8 (w.heap.size+1) 0 57 _ _ hF.load Tryz.underlying57 rfl vI;refine bC Tryz.results7 hL ?_;have hlt:=HQ.o.2.2.2.2
 have hag:∀ q,v0.heap.size<=q->w8.heap[q]?=w1.heap[q]?:=fun q hq=>by
  rw[<- e8];exact (sO _ q om _ _ _).trans (H3.o.2.2.2.1 q om)
 have hsz:w8.heap.size=w1.heap.size:=by rw[<- e8,sZ];exact H3.o.2.2.2.2
 refine⟨s',rfl,v0.heap.size,om,fun W hW=>HQ.o.1 W fun k h1 h2=>(hW k h1 om).trans (hag k h1),?_,HQ.o.2.2.1,HQ.o.2.2.2.1,?_⟩
 .rw[hsz];exact HQ.o.2.1.same fun x h1 _=>hag x h1
 .rw[<- e8];exact sW om 0 _ H3.o.2.2.1
def DQ {W:World} {C:Co} {s:Sl} {hd:ByteArray} {Q:Nat->World->Prop} (hc:∀ X,Bl W X->Calls Tp 32 #[aG (coL C s).toArray,I J 1] X fun o w'=>∃ k:Nat,o = rT (I J (k:Int))/\Q k w') :
  Calls Tp 11 #[aG (rfL C s hd).toArray,I J 1] W fun o w'=>∃ k:Nat,o = rT (I J (k:Int))/\Q k w':=by
 have H0:Hid (blk (W.alloc (.cells (rfL C s hd).toArray 57)) W.heap.size (rfL C s hd) 57/\Bl W (W.alloc (.cells (rfL C s hd).toArray 57))):=⟨blk.new W _ 57,(bW _ _).alloc (nR _) _⟩
 have HC:=ah hc;clear hc;go_enter Tryz.func11,Tryz.ntmps11
 go_wp2_with (first
  | (refine QA (P:=Tp) rfl 43 _ rfl W.heap.size 0 rfl (coL C s) _ (eH H0.o.1) Tryz.underlying43 rfl (cy C s) ?_))
 refine (HC.o _ H0.o.2).mono ?_;rintro o w2 ⟨k,rfl,hq⟩;have HQ:Hid (Q k w2):=hq;clear hq;go_wp2_with fail;go_ret;exact⟨k,rfl,HQ.o⟩
end Go.Proofs.YtnfmjckkibdcaaaGreatDoor
