import Derived.Test.YtgfolecanghhhaaGreatK29
import Derived.Test.YtgfolecanghhhaaGreatK39
import Derived.Test.YtgfolecanghhhaaGreatK23
namespace Go.Proofs.YtgfolecanghhhaaGreat
open Go.RowKit
set_option linter.all false
open Go.Value renaming int->I,slice->sL,bool->bO,pointer->pT,agg->aG
open Go.IntKind renaming i64->J
open Go.Ending renaming returned->rT
open Go.Proofs.Tryz renaming prog->Tp
def opn (w:World) (C:Co) (M:Nat) (w':World):Prop:=∃ (w0:World) (G:Lg) (nm:Nat),mx w0 M G 0 0 nm C w'/\Bl w w0/\M<w'.heap.size/\G.gb<w'.heap.size/\Bl w w'
def EJ (w:World) (C:Co) (s:Sl) (h:aK w C.ho s) (hs:dz s) (hok:MV C) (hm:C.ho.le 1048576):Calls Tp 37 #[aG (coL C s).toArray] w fun o w'=>∃ M,o = rT (pT (some ⟨M,0,none⟩))/\opn w C M w':=by
 refine (oc (R:=fun P w'=>∃ (X:World) (G:Lg) (hd:Nat->Hd),Bl w X/\lh X G C.ho 0 0 hd G.n2 (dQ Unit C.ho.bx G.n2) w'/\P=G.P) ?_ w C s ?_).mono ?_
 .rintro P W W' ⟨X,G,hd,h1,h2,h3⟩ hb;exact⟨X,G,hd,h1,h2.below hb,h3⟩
 .intro W hW;refine (A1 W C.ho s (h.below hW) hs hok.h hm).mono ?_;rintro o w' ⟨G,hd,rfl,h1,_⟩;exact⟨G.P,rfl,⟨W,G,hd,hW,h1,rfl⟩,h1.b⟩
 rintro o w' ⟨P,w5,rfl,rfl,⟨X,G,hd,h1,h2,rfl⟩,h3⟩;have hb5:Bl w5 (w5.alloc (.cells (mcL G.P C).toArray 147)):=Zw;have a1:=h2.p.lt;have a2:=h2.m.lt;have a3:=h2.hi;have a4:=h2.x.hi;have a5:=h2.b.size;have ho:w5.heap.size≠G.P/\w5.heap.size≠G.mb/\w5.heap.size≠G.gf/\w5.heap.size≠G.gb/\w5.heap.size≠G.gr/\w5.heap.size≠G.gq/\X.heap.size<=w5.heap.size:=⟨om,om,om,om,om,om,om⟩
 have hmc:mc X w5.heap.size { G with s:=zs } C 0 0 hd G.n2 (dQ Unit C.ho.bx G.n2) (w5.alloc (.cells (mcL G.P C).toArray 147)):=
  ⟨blk.new w5 (mcL G.P C) 147,(h2.below hb5).re zs,ho,Gy h2.k.1⟩
 refine⟨w5.heap.size,rfl,X,{ G with s:=zs },G.n2,⟨hd,_,hmc⟩,h1,pQ,by simp;omega,h3.trans (hb5.mono h3.size)⟩
def eH {w:World} {b:Nat} {C:Co} {s:Sl} {hd:ByteArray} {T:TypeId} (h:blk w b (rfL C s hd) T):w.rangeAt b 0 (coL C s):=by
 have h':blk w b ([]++coL C s++[.string hd]) T:=h;exact h'.loadAt [] (coL C s) [.string hd]
open Go.Proofs.Tryz
open Option renaming none->nn,some->sQ
open Go renaming World->Wd
set_option maxRecDepth 20000
set_option maxHeartbeats 16000000
section
variable {C:Co} {w w':Wd} {R:Nat}
def xg (hd:ByteArray):hd.toList.isEmpty=true↔hd.size=0:=by
 rw[List.isEmpty_iff_length_eq_zero,Go.Lib.toList_data,<- Go.Lib.size_eq]
def mx.holds {w0:Wd} {M:Nat} {G:Lg} {f1 f3 nm:Nat} {W:Wd} (h:mx w0 M G f1 f3 nm C W) (hok:MV C) (R:Nat) (hd:ByteArray) (vc vf:Nat) (vd vo:Bool) (hR:blk W R [pT (sQ ⟨M,0,nn⟩),.string hd] 95)
  (hj:∀ W,Calls Tp 92 #[.string hd] W fun o w'=>o = rT (aG #[I J (vc:Int),I J (vf:Int),bO vd,bO vo])/\Bl W w') :
  Calls Tp 38 #[pT (sQ ⟨R,0,nn⟩)] W fun o w'=>cK o (hkP C hd vc)/\Bl W w':=by
 have y0:=hR.cell 0 (pT (sQ ⟨M,0,nn⟩)) rfl;have y1:=hR.cell 1 (.string hd) rfl;have x0:=h.m.cell 0 (pT (sQ ⟨G.P,0,nn⟩)) rfl;have y3:=h.m.cell 3 (I J C.p) rfl;have y9:=h.m.cell 9 (bO C.tx) rfl;have he:=xg hd;by_cases hp:C.p=1
 .rw[hp] at y3;cases ht:C.tx
  .rw[ht] at y9;refine (tF W M R hd _ vc vf vd vo _ hj rfl rfl y0 y1 y3 y9).mono ?_;rintro o w' ⟨rfl,h2⟩;refine⟨⟨_,rfl,?_⟩,h2⟩;unfold hkP;rw[qc hp,qa (by rw[ht];decide),ne_eq,<- not_congr he];simp
  .rw[ht] at y9;have hw:=hok.s.1 ⟨hp,ht⟩;have hk:=kC hw;have hz:=iA C hok hw;refine (tE W M R G.P hd _ _ _ _ _ (dq C) (jq C hk).symm hz.1 hz.2.1 (decide (hd.size<(jQ (dq C)).size)) _ pQ rfl y0 y1 x0 y3 y9 (fun Y hY=>?_)).mono ?_
   .obtain⟨hs,D,hc⟩:=h.below hY;exact jZ Y G.P G.gb G.n2 G.kb C.ho.bx _ hk (hc.h.p.cell 5 _ rfl) (hc.h.x.is hc.h.bd.nk) hc.h.bd.m2 (fun z hz=>(oU hz hw).1)
   rintro o w' ⟨rfl,h2⟩;refine⟨⟨_,rfl,?_⟩,h2⟩;unfold hkP;rw[qc hp,qc ht,BC _ _ hz.1];simp
 .refine (zA W M R C.p C.tx hd _ (by simpa using hp) rfl y0 y1 y3 y9).mono ?_;rintro o w' ⟨rfl,rfl⟩;refine⟨⟨_,rfl,?_⟩,bW _ _⟩;unfold hkP;rw[qa hp];exact he
def opR (w:Wd) (C:Co) (hd:ByteArray) (R:Nat) (w':Wd):Prop:=∃ (w0:Wd) (M:Nat) (G:Lg) (nm:Nat),mx w0 M G 0 0 nm C w'/\Bl w w0/\blk w' R [pT (sQ ⟨M,0,nn⟩),.string hd] 95/\R≠M/\lhU G R
def opR.below {hd:ByteArray} {w2:Wd} (h:opR w C hd R w') (hb:Bl w' w2):opR w C hd R w2:=by
 obtain⟨w0,M,G,nm,h1,h2,h3,h4⟩:=h;exact⟨w0,M,G,nm,h1.below hb,h2,h3.below hb,h4⟩
def opR.since {hd:ByteArray} (h:opR w C hd R w'):Bl w w':=by
 obtain⟨w0,M,G,nm,⟨_,_,h1⟩,h2,h3,h4⟩:=h;exact h2.trans (h1.h.b.mono h2.size)
def sR (w:Wd) (C:Co) (s:Sl) (hd:ByteArray) (vc vf:Nat) (vd vo:Bool) (hj:∀ W,Calls Tp 92 #[.string hd] W fun o w'=>o = rT (aG #[I J (vc:Int),I J (vf:Int),bO vd,bO vo])/\Bl W w') (h:aK w C.ho s) (hs:dz s) (hok:MV C) (hm:C.ho.le 1048576) :
  Calls Tp 18 #[aG (rfL C s hd).toArray] w fun o w'=>∃ R b,o = rT (.tuple #[pT (sQ ⟨R,0,nn⟩),bO b])/\(b=true↔hkP C hd vc)/\opR w C hd R w':=by
 have H0:Hid (blk (w.alloc (.cells (rfL C s hd).toArray 45)) w.heap.size (rfL C s hd) 45/\Bl w (w.alloc (.cells (rfL C s hd).toArray 45))):=⟨blk.new w _ 45,Zw⟩
 have HV:Hid (∀ X,Bl w X->Calls Tp 36 #[aG (coL C s).toArray] X fun o w'=>o = rT (bO true)/\Bl X w'):=fun X hX=>(iJ X C s (h.below hX) hm).mono fun o w' ⟨⟨b,h1,h2⟩,h3⟩=>⟨by rw[h1,h2.2 hok],h3⟩
 have HO:Hid (∀ X,Bl w X->Calls Tp 37 #[aG (coL C s).toArray] X fun o w'=>∃ M,o = rT (pT (sQ ⟨M,0,nn⟩))/\opn X C M w'):=fun X hX=>EJ X C s (h.below hX) hs hok hm;have HOK:=ah hok;have HJ:=ah hj;clear h hs hok hm hj;obtain⟨v0,hv0⟩ : ∃ v0,v0=w.alloc (.cells (rfL C s hd).toArray 45):=⟨_,rfl⟩
 rw[<- hv0] at H0;go_enter func18,ntmps18;go_upto_region 1 with fail
 rw[<- hv0];clear hv0;go_wp2_with (refine ZG 43 (eH H0.o.1) underlying43 (cy C s) ?_);refine (HV.o _ H0.o.2).mono ?_;rintro o w1 ⟨rfl,hb1⟩;have H1:=DU (qG (H0.o.1.below hb1) (H0.o.2.trans (hb1.mono H0.o.2.size)));clear hb1 H0 HV;go_wp2_with fail;refine QJ (S:=fun X=>blk X w.heap.size (rfL C s hd) 45) kr ?_;have hS:blk (World.drew w1) w.heap.size (rfL C s hd) 45:=H1.o.1.below (bW _ _).drew;have HB1:Hid (Bl w (World.drew w1)):=H1.o.2.drew;clear H1;change wpAnyH Tp _ _ _ _ _ _ _ (World.drew w1);generalize World.drew w1=v0 at *;refine wV 0 (pT (sQ ⟨w.heap.size,0,nn⟩)) ?_ hS ?_
 .intro W hSw;clear hS;go_simp
 simp only[Act.put,aA,aB,aC,aD,aE];refine wU 1 (aG (coL C s).toArray) rfl (QL (by rfl) 43 _ rfl w.heap.size 0 rfl (coL C s) _ (fun X h=>eH h) underlying43 rfl (cy C s)) hS ?_;simp only[aZ];refine wV 3 (pT (sQ ⟨w.heap.size,21,nn⟩)) ?_ hS ?_
 .intro W hSw;clear hS;go_simp
 simp only[aZ];refine wV 4 (.string hd) ?_ hS ?_
 .intro W hSw;clear hS;have y:=hSw.cell 21 (.string hd) rfl;go_simp
 simp only[aZ];refine QF (rs:=[2]) kr pQ ?_;refine Q8 rfl (fun K2 hK2=>?_) Q9;go_simp;refine (HO.o v0 HB1.o).mono ?_;rintro o w2 ⟨M,rfl,hq⟩;have H2:=DU hq;have hS2:blk w2 w.heap.size (rfL C s hd) 45:=by obtain⟨_,_,_,_,_,_,_,hb⟩:=hq;exact hS.below hb
 clear hq;go_wp2_with fail;refine hK2.out _ _ hS2 (fun hS3=>?_);clear hK2 K2 hS2 hS;have hS:=hS3;clear hS3;refine wV 5 (aG #[pT (sQ ⟨M,0,nn⟩),.string hd]) ?_ hS ?_
 .intro W hSw;clear hS;go_simp
 simp only[aZ];refine QF (rs:=[6]) kr pQ ?_;refine Q8 rfl (fun K2 hK2=>?_) Q9;go_simp;have hS5:blk (w2.alloc (.cells #[pT (sQ ⟨M,0,nn⟩),.string hd] 95)) w.heap.size (rfL C s hd) 45:=hS.alloc _;refine hK2.out _ _ hS5 (fun hS3=>?_);clear hK2 K2 hS5 hS;have hS:=hS3;clear hS3;have H3:Hid (opR w C hd w2.heap.size (w2.alloc (.cells #[pT (sQ ⟨M,0,nn⟩),.string hd] 95))):=by
  obtain⟨w0,G,nm,h1,h2,h3,h4,h5⟩:=H2.o;have hb:Bl w2 (w2.alloc (.cells #[pT (sQ ⟨M,0,nn⟩),.string hd] 95)):=Zw;exact⟨w0,M,G,nm,h1.below hb,HB1.o.trans (h2.mono HB1.o.size),blk.new w2 [pT (sQ ⟨M,0,nn⟩),.string hd] 95,om,(by obtain⟨_,_,q⟩:=h1;exact q.h.lts)⟩
 have HM:Hid (Calls Tp 38 #[pT (sQ ⟨w2.heap.size,0,nn⟩)] (w2.alloc (.cells #[pT (sQ ⟨M,0,nn⟩),.string hd] 95)) fun o w'=>cK o (hkP C hd vc)/\Below (w2.alloc (.cells #[pT (sQ ⟨M,0,nn⟩),.string hd] 95)).heap.size (w2.alloc (.cells #[pT (sQ ⟨M,0,nn⟩),.string hd] 95)) w'):=by
  obtain⟨w0,G,nm,h1,h2,h3,h4,h5⟩:=H2.o;have hb:Bl w2 (w2.alloc (.cells #[pT (sQ ⟨M,0,nn⟩),.string hd] 95)):=Zw;exact (h1.below hb).holds HOK.o w2.heap.size hd vc vf vd vo (blk.new w2 _ 95) HJ.o
 clear H2 HO HJ HOK;generalize w2.alloc (.cells #[pT (sQ ⟨M,0,nn⟩),.string hd] 95)=v3 at *;refine wV 7 (pT (sQ ⟨w2.heap.size,0,nn⟩)) ?_ hS ?_
 .intro W hSw;clear hS;go_simp
 simp only[aZ];refine QH kr ?_ _;clear hS;go_wp2_with fail;refine HM.o.mono ?_;rintro o w4 ⟨⟨b,rfl,hb⟩,hb4⟩;have H4:=ah (qG hb (H3.o.below hb4));clear hb hb4 H3;go_wp2_with fail;refine QE (v:=.tuple #[pT (sQ ⟨w2.heap.size,0,nn⟩),bO b]) (by simp[results,results18,go_sem]) rfl ?_;exact⟨_,b,rfl,H4.o.1,H4.o.2⟩
end
def pN (w:World) (C:Co) (s:Sl) (hd:ByteArray) (h:aK w C.ho s) (hok:¬ MV C) (hm:C.ho.le 1048576) :
  Calls Tp 18 #[aG (rfL C s hd).toArray] w fun o w'=>o = rT (.tuple #[.pointer none,bO false])/\Bl w w':=by
 have H0:Hid (blk (w.alloc (.cells (rfL C s hd).toArray 45)) w.heap.size (rfL C s hd) 45/\Bl w (w.alloc (.cells (rfL C s hd).toArray 45))):=⟨blk.new w _ 45,Zw⟩
 have HV:Hid (∀ X,Bl w X->Calls Tp 36 #[aG (coL C s).toArray] X fun o w'=>o = rT (bO false)/\Bl X w'):=fun X hX=>(iJ X C s (h.below hX) hm).mono fun o w' ⟨⟨b,h1,h2⟩,h3⟩=>⟨by rw[h1];cases b;rfl;exact Qy (h2.1 rfl) hok,h3⟩
 clear h hok hm;obtain⟨v0,hv0⟩ : ∃ v0,v0=w.alloc (.cells (rfL C s hd).toArray 45):=⟨_,rfl⟩
 rw[<- hv0] at H0;go_enter func18,ntmps18;go_upto_region 1 with fail
 rw[<- hv0];clear hv0;go_wp2_with (refine ZG 43 (eH H0.o.1) underlying43 (cy C s) ?_);refine (HV.o _ H0.o.2).mono ?_;rintro o w1 ⟨rfl,hb1⟩;have H1:=DU (H0.o.2.trans (hb1.mono H0.o.2.size));clear hb1 H0 HV;go_wp2_with fail;refine QE (v:=.tuple #[.pointer none,bO false]) (by simp[results,results18,go_sem]) rfl ?_;exact⟨rfl,H1.o⟩
def pO (w:World) (C:Co) (s:Sl) (hd:ByteArray) (vc vf:Nat) (vd vo:Bool) (hj:∀ W,Calls Tp 92 #[.string hd] W fun o w'=>o = rT (aG #[I J (vc:Int),I J (vf:Int),bO vd,bO vo])/\Bl W w') (h:aK w C.ho s) (hs:dz s) (hm:C.ho.le 1048576) :
  Calls Tp 18 #[aG (rfL C s hd).toArray] w fun o w'=>∃ p b,o = rT (.tuple #[.pointer p,bO b])/\(b=true↔fH C hd vc)/\(b=true->∃ R,p=some ⟨R,0,none⟩/\opR w C hd R w')/\Bl w w':=by
 by_cases hok:MV C
 .refine (sR w C s hd vc vf vd vo hj h hs hok hm).mono ?_;rintro o w' ⟨R,b,rfl,h1,h2⟩;exact⟨_,b,rfl,h1.trans ⟨fun x=>⟨hok,x⟩,fun x=>x.2⟩,fun _=>⟨R,rfl,h2⟩,h2.since⟩
 .refine (pN w C s hd h hok hm).mono ?_;rintro o w' ⟨rfl,h1⟩;exact⟨_,false,rfl,⟨fun x=>(by cases x),fun x=>Qy x.1 hok⟩,fun x=>(by cases x),h1⟩
def KD (W:World) (M R:Nat) (hd:ByteArray) (C:Co) (Q:Nat->Nat->Sl->World->Prop) (hQ:∀ B T s w1 w2,(∀ k,B<=k->k<T->w2.heap[k]?=w1.heap[k]?)->Q B T s w1->Q B T s w2) (hr:blk W R [pT (sQ ⟨M,0,nn⟩),.string hd] 95) (ht:∀ X,Bl W X->Calls Tp 93 #[pT (sQ ⟨M,0,nn⟩)] X fun o w'=>∃ s',o = rT (aG (coL C s').toArray)/\Q X.heap.size w'.heap.size s' w'/\Bl X w') :
  Calls Tp 39 #[.iface 60 (pT (sQ ⟨R,0,nn⟩))] W fun o w'=>∃ s' B T,o = rT (aG (acL C s' hd).toArray)/\Q B T s' w'/\W.heap.size<=B/\T<=w'.heap.size/\Bl W w':=by
 have HR:Hid (blk W R [pT (sQ ⟨M,0,nn⟩),.string hd] 95):=hr;have HT:Hid (∀ X,Bl W X->Calls Tp 93 #[pT (sQ ⟨M,0,nn⟩)] X fun o w'=>∃ s',o = rT (aG (coL C s').toArray)/\Q X.heap.size w'.heap.size s' w'/\Bl X w'):=ht;have HQ:=ah hQ;clear hQ;have HA:Hid (Bl W (W.alloc (.cells Z57.toArray 76))/\blk (W.alloc (.cells Z57.toArray 76)) W.heap.size Z57 76):=⟨Zw,blk.new W _ 76⟩
 obtain⟨V0,hV0⟩ : ∃ V0,V0=W.alloc (.cells Z57.toArray 76):=⟨_,rfl⟩
 rw[<- hV0] at HA;obtain⟨B0,hB0⟩ : ∃ B0,V0.heap.size=B0:=⟨_,rfl⟩
 have HB0:=ah hB0;have HB1:Hid (W.heap.size<B0):=by rw[<- hB0];exact HA.o.2.lt
 clear hB0;have y0:=(hr.below HA.o.1).cell 0 (pT (sQ ⟨M,0,nn⟩)) rfl;have hm:=Kl V0 M R y0;clear hr ht y0;go_enter func39,ntmps39;go_upto_region 1 with fail
 change Code.wp _ _ _ _ (W.alloc (.cells Z57.toArray 76));rw[<- hV0];clear hV0;go_wp2_with (go_at_call 283;refine (Ab _ _).mono ?_;rintro o w1 ⟨rfl,rfl⟩);refine (HT.o _ HA.o.1).mono ?_;rintro o w1 ⟨s1,rfl,hq1,hb1⟩;rw[HB0.o] at hq1;have HQ1:Hid (Q B0 w1.heap.size s1 w1/\W.heap.size<B0):=⟨hq1,HB1.o⟩
 clear hq1 HB0 HB1;have H1:=(show Hid _ from qG (HA.o.1.trans (hb1.mono HA.o.1.size)) (HA.o.2.below hb1))
 clear hb1 HA HT hm;have H2:Hid (Bl W (w1.alloc (.cells zY.toArray 43))/\blk (w1.alloc (.cells zY.toArray 43)) W.heap.size Z57 76/\blk (w1.alloc (.cells zY.toArray 43)) w1.heap.size Z21 43/\W.heap.size<w1.heap.size):=⟨H1.o.1.alloc H1.o.1.size _,H1.o.2.alloc _,blk.new w1 _ 43,H1.o.2.lt⟩
 clear H1;go_upto_region 2 with (refine Zs 43 (coL C s1).toArray (H2.o.2.2.1.there 0 _ (by rw[qR,cL];decide)) (nO C s1) (cO C s1) ?_;generalize hW2:World.setCells _ w1.heap.size 0 _=w2;have HW2:Hid (_=w2):=hW2;clear hW2)
 have H3:Hid (Bl W w2/\blk w2 W.heap.size Z57 76/\blk w2 w1.heap.size (coL C s1) 43/\W.heap.size<w1.heap.size/\blk w2 R [pT (sQ ⟨M,0,nn⟩),.string hd] 95):=by
  have e:=HW2.o;have hb:Bl W w2:=by rw[<- e];exact sW (by have:=H2.o.2.2.2;omega) 0 _ H2.o.1
  refine⟨hb,?_,?_,H2.o.2.2.2,HR.o.below hb⟩
  .rw[<- e];exact H2.o.2.1.other (by have:=H2.o.2.2.2;omega) _ _
  .rw[<- e];have:=blk.put [] Z21 [] (coL C s1) (w:=w1.alloc (.cells zY.toArray 43)) (b:=w1.heap.size) (T:=43) (by simpa using H2.o.2.2.1) (by rw[cL];rfl);simpa using this
 have HQ2:Hid (Q B0 w1.heap.size s1 w2/\W.heap.size<B0/\w1.heap.size<=w2.heap.size):=by
  have e:=HW2.o;have hb:Bl w1 w2:=by rw[<- e];exact sW (nR _) 0 _ Zw
  exact⟨HQ.o _ _ _ _ _ (fun k _ h2=>hb.block k h2) HQ1.o.1,HQ1.o.2,hb.size⟩
 clear H2 HW2 HR HQ1;have y1:=H3.o.2.2.2.2.cell 1 (.string hd) rfl;have hta:=MK w2 ⟨R,0,nn⟩;go_wp2_with fail;refine wp_region_still_tail 7 kr kr ?_;change wpStill Tp _ (World.drew w2) (fun a'=>wpList Tp _ _ _ a' (World.drew w2)) _ _;have H4:Hid (Bl W (World.drew w2)/\blk (World.drew w2) W.heap.size Z57 76/\blk (World.drew w2) w1.heap.size (coL C s1) 43):=⟨H3.o.1.drew,H3.o.2.1,H3.o.2.2.1⟩
 have y1:(World.drew w2).cell? ⟨R,1,nn⟩=sQ (.string hd):=y1;clear hta H3;have HQ3:Hid (Q B0 w1.heap.size s1 (World.drew w2)/\W.heap.size<B0/\w1.heap.size<=(World.drew w2).heap.size):=⟨HQ.o _ _ _ w2 (World.drew w2) (fun k _ _=>rfl) HQ2.o.1,HQ2.o.2⟩
 clear HQ2;generalize World.drew w2=w3 at *;simp only[List.take_succ_cons,List.take_zero,List.drop_succ_cons,List.drop_zero];refine dK (by rfl) 43 _ rfl w1.heap.size 0 rfl (coL C s1) _ H4.o.2.2.load underlying43 rfl (cy C s1) ?_;simp only[Act.put];still_step
 still_step
 still_step
 still_step
 refine iH (by rfl) 45 _ rfl _ (by simp[go_sem]) _ (IW w3 C s1 hd) ?_;simp only[Act.put];refine iH (by rfl) 76 _ rfl _ (by simp[go_sem]) _ (LR w3 C s1 hd) ?_;simp only[Act.put];refine wpStill_nil ?_
 go_wp2_with (refine Zs 76 (acL C s1 hd).toArray (H4.o.2.1.there 0 _ (by rw[qR,Hk];decide)) Ez (J9 C s1 hd) ?_;generalize hW8:World.setCells _ W.heap.size 0 _=w8;have HW8:Hid (_=w8):=hW8;clear hW8)
 have e8:=HW8.o;have hF:blk w8 W.heap.size (acL C s1 hd) 76:=by
  rw[<- e8];have:=blk.put [] Z57 [] (acL C s1 hd) (w:=w3) (b:=W.heap.size) (T:=76) (by simpa using H4.o.2.1) (by rw[Hk];rfl);simpa using this
 have hL:=QI (P:=Tp) w8 W.heap.size 0 76 _ _ hF.load underlying76 rfl Ez;refine bC results39 hL ?_;refine⟨s1,rfl,B0,w1.heap.size,HQ.o _ _ _ _ _ (fun k h1 _=>?_) HQ3.o.1,by have:=HQ3.o.2.1;omega,?_,?_⟩
 .rw[<- e8];exact sO _ k (by have:=HQ3.o.2.1;omega) _ _ _
 .rw[<- e8,sZ];exact HQ3.o.2.2
 .rw[<- e8];exact sW om 0 _ H4.o.1
section
variable {w0 : Wd} {M : Nat} {G : Lg} {f1 f3 nm : Nat} {V : Wd} {C : Co} {W : Wd}
def tlQ (C:Co) (B T:Nat) (s':Sl) (w:Wd):Prop:=∃ s4:Wh,s'=s4.sl/\(∀ W:Wd,(∀ k,B<=k->k<T->W.heap[k]?=w.heap[k]?)->aK W C.ho s4.sl/\whS B T W s4)/\whD s4/\whE s4
def tlQ.keep {B T:Nat} {s':Sl} {w1 w2:Wd} (he:∀ k,B<=k->k<T->w2.heap[k]?=w1.heap[k]?) (h:tlQ C B T s' w1):tlQ C B T s' w2:=by
 obtain⟨s4,e,f,g⟩:=h;exact⟨s4,e,fun W hW=>f W fun k a b=>(hW k a b).trans (he k a b),g⟩
def tlQ.told {X:Wd} {o:Ending} {w':Wd} (h:xK X C o w'):∃ s',o = rT (aG (coL C s').toArray)/\tlQ C X.heap.size w'.heap.size s' w'/\Bl X w':=by
 obtain⟨s4,e1,e2,e3,e4,e5,e6⟩:=h;exact⟨s4.sl,e1,⟨s4,rfl,fun W hW=>⟨e2 W hW,e3.same hW⟩,e4,e5⟩,e6⟩
end
def tP (w:World) (T:Co) (s1 s2:Sl) (hd:ByteArray) (h1:aK w T.ho s1) (h2:aK w T.ho s2) (hm:T.ho.le 1048576):Calls Tp 8 #[aG (rfL T s1 hd).toArray,aG (rfL T s2 hd).toArray] w fun o w'=>o = rT (bO true)/\Bl w w':=by
 have H0:Hid (blk ((w.alloc (.cells (rfL T s1 hd).toArray 45)).alloc (.cells (rfL T s2 hd).toArray 45)) w.heap.size (rfL T s1 hd) 45/\blk ((w.alloc (.cells (rfL T s1 hd).toArray 45)).alloc (.cells (rfL T s2 hd).toArray 45)) (w.heap.size+1) (rfL T s2 hd) 45/\Bl w ((w.alloc (.cells (rfL T s1 hd).toArray 45)).alloc (.cells (rfL T s2 hd).toArray 45))):=by
  refine⟨(blk.new w _ 45).alloc _,?_,Zw.alloc pQ _⟩;have:=blk.new (w.alloc (.cells (rfL T s1 hd).toArray 45)) (rfL T s2 hd) 45;simpa using this
 have HE:Hid (∀ X,Bl w X->Calls Tp 21 #[aG (coL T s1).toArray,aG (coL T s2).toArray] X fun o w'=>o = rT (bO true)/\Bl X w'):=fun X hX=>Fj X T s1 s2 (h1.below hX) (h2.below hX) hm;clear h1 h2 hm;obtain⟨v0,hv0⟩ : ∃ v0,v0=(w.alloc (.cells (rfL T s1 hd).toArray 45)).alloc (.cells (rfL T s2 hd).toArray 45):=⟨_,rfl⟩
 rw[<- hv0] at H0;go_enter func8,ntmps8;go_upto_region 1 with fail
 change Code.wp _ _ _ _ ((w.alloc (.cells (rfL T s1 hd).toArray 45)).alloc (.cells (rfL T s2 hd).toArray 45));rw[<- hv0]
 clear hv0;go_wp2_with (first
  | (refine ZG 43 (eH H0.o.1) underlying43 (cy T s1) ?_)
  | (refine ZG 43 (eH H0.o.2.1) underlying43 (cy T s2) ?_))
 refine (HE.o _ H0.o.2.2).mono ?_;rintro o w1 ⟨rfl,hb1⟩;have y1:=(H0.o.1.below hb1).cell 21 (.string hd) rfl;have y2:=(H0.o.2.1.below hb1).cell 21 (.string hd) rfl;have H1:=ah (H0.o.2.2.trans (hb1.mono H0.o.2.2.size));clear hb1 H0 HE;go_wp2_with fail;go_ret;exact⟨rfl,H1.o⟩
def Cv (C:Co) (s:Sl):(Tp.info? 31).map (·.size)=some (coL C s).length:=kr
def vG (w:World) (C:Co) (s:Sl) (hd:ByteArray) (h:aK w C.ho s) (hn:C.ho.le 9223372036854775807) (hz:hd.size<=maxLen):Calls Tp 4 #[aG (rfL C s hd).toArray,I J 1048576] w fun o w'=>∃ z:Int,o = rT (I J z)/\Bl w w'/\(z = -1\/∃ m':Nat,z=(m':Int)/\C.ho.le 1048576/\hd.size<=1048576):=by
 have H0:Hid (blk (w.alloc (.cells (rfL C s hd).toArray 33)) w.heap.size (rfL C s hd) 33/\Bl w (w.alloc (.cells (rfL C s hd).toArray 33))):=⟨blk.new w _ 33,Zw⟩
 have HS:Hid (∀ X,Bl w X->Calls Tp 11 #[aG (coL C s).toArray,I J 1048576] X fun o w'=>∃ z:Int,o = rT (I J z)/\Bl X w'/\(z = -1\/∃ m':Nat,z=(m':Int)/\C.ho.le 1048576/\m'<=1048576)):=fun X hX=>ML X C s (h.below hX) hn;clear h hn;obtain⟨v0,hv0⟩ : ∃ v0,v0=w.alloc (.cells (rfL C s hd).toArray 33):=⟨_,rfl⟩
 rw[<- hv0] at H0;go_enter func4,ntmps4;go_upto_region 1 with fail
 change Code.wp _ _ _ _ (w.alloc (.cells (rfL C s hd).toArray 33));rw[<- hv0];clear hv0;go_wp2_with (refine ZG 31 (eH H0.o.1) underlying31 (Cv C s) ?_);refine (HS.o _ H0.o.2).mono ?_;rintro o w1 ⟨z,rfl,hb1,hq⟩;have H1:=ah (qG (H0.o.1.below hb1) (H0.o.2.trans (hb1.mono H0.o.2.size)));have y1:=H1.o.1.cell 21 (.string hd) rfl;clear hb1 H0 HS;rcases hq with rfl|⟨m',rfl,hle⟩
 .go_wp2_with fail;go_ret;exact⟨_,rfl,H1.o.2,qr rfl⟩
 .have g0:¬ (m':Int)<0:=om;obtain⟨zz,hzz⟩ : ∃ zz,IntKind.i64.wrap ((m':Int)-(hd.size:Int))=zz:=⟨_,rfl⟩
  have HLE:=ah (qG hle.1 (qG hle.2 hzz));have HZ:=ah hz;clear hle hz;by_cases g1:zz<0
  .go_wp2_with fail;go_ret;exact⟨_,rfl,H1.o.2,qr rfl⟩
  .have HG:=ah g1
   go_wp2_with fail;go_ret;exact⟨_,rfl,H1.o.2,qx ⟨zz.toNat,by have:=HG.o;omega,HLE.o.1,by
    have e:=HLE.o.2.2
    have g:=HG.o
    have z:=HZ.o
    have q:=HLE.o.2.1
    rw[QR] at e
    unfold maxLen at z
    omega⟩⟩
end Go.Proofs.YtgfolecanghhhaaGreat
