import Derived.Test.YtkfcfigbgmbaiaaGreatK43
namespace Go.Proofs.YtkfcfigbgmbaiaaGreat
set_option maxRecDepth 60000
open Go.RowKit
set_option linter.unusedVariables false
set_option maxHeartbeats 16000000
open Go.Value renaming int→I,slice→sL,bool→bO,pointer→pT,agg→aG
open Go.IntKind renaming i64→J
open Go.Ending renaming returned→rT
open Go.Proofs.Tryz renaming prog→Tp
theorem f41 (T:Co) (s:Sl):∀ W:World,(Instr.field 41 (aG (coL T s).toArray) 11).run Tp W = .ok (aG (hoL T.ho s).toArray) W:=fun W=>by kernel_rfl
theorem f39 (H:Ho) (s:Sl):∀ W:World,(Instr.field 39 (aG (hoL H s).toArray) 0).run Tp W = .ok (aG #[I J H.c0,I J H.c1,I J H.c2,I J H.c3]) W:=fun W=>by kernel_rfl
theorem f33 (a b c d:Int):∀ W:World,(Instr.field 33 (aG #[I J a,I J b,I J c,I J d]) 0).run Tp W = .ok (I J a) W:=fun W=>by kernel_rfl
theorem f41z:∀ W:World,(Instr.field 41 (aG #[I J 0,I J 0,I J 0,bO false,bO false,bO false,bO false,bO false,I J 0,I J 0,I J 0,I J 0,I J 0,I J 0,I J 0,sL none 0 0,sL none 0 0,sL none 0 0,sL none 0 0,I J 0,I J 0]) 11).run Tp W = .ok (aG #[I J 0,I J 0,I J 0,I J 0,sL none 0 0,sL none 0 0,sL none 0 0,sL none 0 0,I J 0,I J 0]) W:=fun W=>by kernel_rfl
theorem f39z:∀ W:World,(Instr.field 39 (aG #[I J 0,I J 0,I J 0,I J 0,sL none 0 0,sL none 0 0,sL none 0 0,sL none 0 0,I J 0,I J 0]) 0).run Tp W = .ok (aG #[I J 0,I J 0,I J 0,I J 0]) W:=fun W=>by kernel_rfl
theorem lawKeeps (w:World) (a:Option Addr) (n cap:Nat) (lc:List Nat) (b:Option Addr) (m cpm:Nat) (lm:List Nat) (h:iB w a n cap lc) (h':iB w b m cpm lm) (hn:n≤maxLen) (hm:m≤maxLen) :
  Calls Tp 7 #[sL a n cap,sL b m cpm] w fun o w'=>o = rT (bO true)∧Below w.heap.size w w':=by
 by_cases hb:n≤1048576∧m≤1048576
 case neg=>
  have hd:decide (1048576<(n:Int))=true∨(decide (1048576<(n:Int))=false∧decide (1048576<(m:Int))=true):=by
   by_cases e:1048576<n
   ·exact Or.inl (by simp;omega)
   ·exact Or.inr ⟨by simp;omega,by simp;omega⟩
  clear hb h h';unfold maxLen at hn hm
  rcases hd with d1|⟨d1,d2⟩
  all_goals
   go_enter Tryz.func7,Tryz.ntmps7
   go_wp2_with fail;go_ret;exact⟨rfl,bW _ _⟩
 case pos=>
 have d1:decide (1048576<(n:Int))=false:=by simp;omega
 have d2:decide (1048576<(m:Int))=false:=by simp;omega
 obtain⟨C,bit,hle,DC⟩:=drawCore_f genC_f lc (by rw[← h.len];exact hb.1)
 have HD:Hid (∀ W,Below w.heap.size w W→Calls Tp 25 #[sL a n cap] W fun o w'=>∃ s,o = rT (.tuple #[aG (coL C s).toArray,I J bit])∧St (W.heap.size+1) w' (fun W=>isHo W C.ho s)∧slSome s∧Below W.heap.size W w'):=fun W hW=>DC W a n cap (h.below hW)
 have HBC:Hid (∀ W i,i≤100→Below w.heap.size w W→Calls Tp 26 #[sL a n cap,I J ((i:Nat):Int)] W fun o w'=>∃ x:Nat,o = rT (I J (x:Int))∧x<256∧Below W.heap.size W w'):=fun W i hi hW=>wByte_any W a n cap lc i (h.below hW) hb.1 hi
 have HBM:Hid (∀ W i,i≤100→Below w.heap.size w W→Calls Tp 26 #[sL b m cpm,I J ((i:Nat):Int)] W fun o w'=>∃ x:Nat,o = rT (I J (x:Int))∧x<256∧Below W.heap.size W w'):=fun W i hi hW=>wByte_any W b m cpm lm i (h'.below hW) hb.2 hi
 have HM0:Hid (∀ W,Below w.heap.size w W→Calls Tp 26 #[sL b m cpm,I J 0] W fun o w'=>∃ x:Nat,o = rT (I J (x:Int))∧x<256∧Below W.heap.size W w'):=fun W hW=>HBM.out W 0 (by omega) hW
 have HC1:Hid (∀ W,Below w.heap.size w W→Calls Tp 26 #[sL a n cap,I J 1] W fun o w'=>∃ x:Nat,o = rT (I J (x:Int))∧x<256∧Below W.heap.size W w'):=fun W hW=>HBC.out W 1 (by omega) hW
 have HLE:=hidG hle
 clear h h' DC hle hb hn hm;go_enter Tryz.func7,Tryz.ntmps7
 go_upto_region 3 with fail
 clear d1 d2;go_wp2_with fail;refine (HD.out w (bW _ _)).mono ?_
 rintro o w1 ⟨s1,rfl,q1,q2,q3⟩;have H1:Hid (Below w.heap.size w w1∧St (w.heap.size+1) w1 (fun W=>isHo W C.ho s1)∧slSome s1):=⟨q3,q1,q2⟩
 have HA1:Hid (blk (w1.alloc (.cells Z21.toArray 41)) w1.heap.size Z21 41):=blk.new w1 Z21 41
 clear q1 q2 q3;go_upto_region 4 with (refine wpList_store_mid (P:=Tp) rfl 41 _ _ rfl w1.heap.size 0 (coL C s1).toArray rfl rfl (HA1.out.there 0 21 (nR _)) (szC41A _ _) (cO _ _) ?_;generalize hv:World.setCells (w1.alloc _) w1.heap.size 0 _=v1;have HV:Hid (v1=(w1.alloc (.cells Z21.toArray 41)).setCells w1.heap.size 0 (coL C s1)):=hv.symm;clear hv)
 clear HA1;have HW1:Hid (Below w.heap.size w v1):=by
  rw[HV.out]
  exact sW H1.out.1.size _ _ (H1.out.1.alloc H1.out.1.size _)
 go_wp2_with fail;refine (HD.out v1 HW1.out).mono ?_
 rintro o w2 ⟨s2,rfl,q1,q2,q3⟩;have K0:=hidG (kS.new H1.out.1 H1.out.2.1 H1.out.2.2 HV.out q3 q1)
 have HA2:Hid (blk (w2.alloc (.cells Z21.toArray 41)) w2.heap.size Z21 41):=blk.new w2 Z21 41
 clear q1 q2 q3 H1 HW1 HV HD;go_upto_region 5 with (refine wpList_store_mid (P:=Tp) rfl 41 _ _ rfl w2.heap.size 0 (coL C s2).toArray rfl rfl (HA2.out.there 0 21 (nR _)) (szC41A _ _) (cO _ _) ?_;generalize hv:World.setCells (w2.alloc _) w2.heap.size 0 _=v2;have HV:Hid (v2=(w2.alloc (.cells Z21.toArray 41)).setCells w2.heap.size 0 (coL C s2)):=hv.symm;clear hv)
 have K0:Hid (kS w w1.heap.size w2.heap.size C s1 C s2 v2):=by rw[HV.out];exact K0
 clear HA2 HV;generalize w1.heap.size=p at *;generalize w2.heap.size=q at *;by_cases hok:okCo C
 case neg=>
  obtain⟨T,hT⟩ : ∃ T,okRelC C (rstC C) T:=⟨_,Or.inr ⟨hok,rfl⟩⟩
  have HNO:=hidG hok
  have hz:T.ho.c0=0:=by rcases hT with⟨e,_⟩ | ⟨_,rfl⟩;exact absurd e hok;rfl
  have HT:=hidG hT
  clear hok hT;go_wp2_with (refine ld41 K0.out.m ?_)
  refine (specRestart_any v2 C s2 T HT.out K0.out.im HLE.out).mono ?_
  rintro o w3 ⟨s3,rfl,_,hb3⟩;have K3:=hidG (K0.out.below hb3)
  have u1:=f41 T s3
  have u2:=f39 T.ho s3
  have u3:=f33 T.ho.c0 T.ho.c1 T.ho.c2 T.ho.c3
  have u7:=f33 0 T.ho.c1 T.ho.c2 T.ho.c3
  have u4:=f41z
  have u5:=f39z
  have u6:=f33 0 0 0 0
  clear K0 hb3;go_wp2_with (refine ld41 K3.out.c ?_)
  refine (implRestart_any w3 C s1 K3.out.ic K3.out.s HLE.out).mono ?_
  rintro o w4 (⟨e,_⟩|⟨_,rfl,hb4⟩)
  ·exact absurd e HNO.out
  have HB4:=hidG (K3.out.b.trans (hb4.mono K3.out.b.size))
  clear K3 hb4;go_wp2_with fail;go_ret;exact⟨rfl,HB4.out⟩
 case pos=>
 go_wp2_with (refine ld41 K0.out.m ?_)
 refine (mRst hok K0.out.im).mono ?_
 rintro o w3 ⟨s3,rfl,G3⟩;have K3:=hidG (K0.out.below G3.out.2)
 have hz:((rstC C).ho.c0 == 0)=false:=by
  have:=hok.h.one.2
  have e:(rstC C).ho.c0=C.ho.c0:=rfl
  rw[e]
  simp;omega
 generalize rstC C=T at *;have u1:=f41 T s3
 have u2:=f39 T.ho s3
 have u3:=f33 T.ho.c0 T.ho.c1 T.ho.c2 T.ho.c3
 have HOK:=hidG hok
 clear K0 G3 hok HLE;go_upto_region 7 with fail
 clear hz u1 u2 u3;go_wp2_with fail;go_loopw [9] (fun i wr=>∃ (k:Nat) (C:Co) (s1 s2:Sl),k≤51∧i = I J (k:Int)∧Hid (okCo C)∧Hid (kS w p q C s1 C s2 wr)) (fun i _=>52-(intOf i).toNat)
 case atStart=>exact⟨0,C,s1,s2,by omega,rfl,HOK,K3⟩
 case round=>
  clear K3 HOK;obtain⟨k,C,s1,s2,hk,rfl,HOK,K0⟩:=hrel
  go_wp2_with fail;refine (HM0.out wr K0.out.b).mono ?_
  rintro o w1 ⟨x0,rfl,hx0,hb1⟩;have K1:=hidG (K0.out.below hb1)
  obtain⟨r31,h31⟩ : ∃ r:Nat,r=x0 % 31:=⟨_,rfl⟩
  have t31:(x0:Int).tmod 31=(r31:Int):=by rw[h31];exact (Int.ofNat_tmod x0 31).symm
  obtain⟨N,hN⟩ : ∃ N:Nat,N=20+r31:=⟨_,rfl⟩
  have w31:IntKind.i64.wrap (20+(r31:Int))=(N:Int):=by rw[IntKind.wrap_i64];omega
  have hN50:N≤50:=by omega
  clear K0 hb1 h31 hx0 hN;by_cases hlt:k<N
  case neg=>
   have dl:decide ((k:Int)<(N:Int))=false:=by simp;omega
   go_wp2_with fail;go_ret;exact⟨rfl,K1.out.b⟩
  case pos=>
  have dl:decide ((k:Int)<(N:Int))=true:=by simp;omega
  obtain⟨k1,hk1⟩ : ∃ k1:Nat,k1=k+1:=⟨_,rfl⟩
  have wk1:IntKind.i64.wrap ((k:Int)+1)=(k1:Int):=by rw[IntKind.wrap_i64];omega
  have HK1:Hid (k1≤51∧k1=k+1):=⟨by omega,hk1⟩
  clear hk1;go_upto_region 10 with fail
  clear dl hlt t31 w31 hN50;go_wp2_with (refine ld41 K1.out.m ?_)
  refine (specES_any w1 C s2).mono ?_
  rintro o w2 ⟨rfl,hb2⟩;have K2:=hidG (K1.out.below hb2)
  clear K1 hb2;obtain⟨was,hwas⟩ : ∃ v,esZ C.p C.te C.re=v:=⟨_,rfl⟩
  have HWAS:=hidG hwas
  rw[hwas]
  clear hwas;go_wp2_with (refine ld41h K2.out.c ?_)
  refine (cDr HOK.out.h K2.out.ic K2.out.s).mono ?_
  rintro o w3 ⟨s3,a3,c3,rfl,G3⟩;go_upto_region 12 with (refine kS.svch K2.out ⟨G3.out.1,G3.out.2.1,G3.out.2.2.2⟩ ?_;intro w4 K4)
  clear K2 G3;go_wp2_with (refine ld41h K4.out.m ?_)
  refine (mDr HOK.out.h K4.out.im).mono ?_
  rintro o w5 ⟨s5,a5,c5,rfl,G5⟩;go_upto_region 13 with (refine kS.svmh K4.out G5.out ?_;intro w6 K6)
  clear K4 G5;have y:=K6.out.c.cell 19 _ rfl
  have f:=K6.out.c.free 19
  have K7:=hidG K6.out.lost
  go_upto_region 14 with fail
  clear y f K6;generalize w6.setCell ⟨p,19,none⟩ (I J 0)=w7 at *;have y:=K7.out.m.cell 19 _ rfl
  have f:=K7.out.m.free 19
  have K8:=hidG K7.out.lostM
  go_upto_region 15 with fail
  clear y f K7;generalize w7.setCell ⟨q,19,none⟩ (I J 0)=w8 at *;have K8:Hid (kS w p q (dnC C) s3 (dnC C) s5 w8):=K8
  have HD0:Hid (okCo (dnC C)∧gdE (dnC C).ho∧esZ (dnC C).p (dnC C).te (dnC C).re=was):=⟨dnC_ok HOK.out,dnC_gd C,HWAS.out⟩
  generalize dnC C=D at *;clear HOK HWAS;go_wp2_with fail;refine (HBM.out w8 k1 (by have:=HK1.out;omega) K8.out.b).mono ?_
  rintro o w9 ⟨x,rfl,hx,hb9⟩;have K9:=hidG (K8.out.below hb9)
  clear K8 hb9;go_upto_block 2 with fail
  go_cut [] (fun wx=>∃ T s1 s2,Hid (kS w p q T s1 T s2 wx)∧Hid (okCo T∧evP D T))
  case first=>as_aux_lemma=>
   have y0:=K9.out.m.cell 0 _ rfl
   by_cases hp:D.p=1
   ·have dp:(D.p == 1)=true:=by simpa using hp
    obtain⟨r6,h6⟩ : ∃ r:Nat,r=x % 6:=⟨_,rfl⟩
    have t6:(x:Int).tmod 6=(r6:Int):=by rw[h6];exact (Int.ofNat_tmod x 6).symm
    obtain⟨kk,hkk⟩ : ∃ kk:Int,kk=1+(r6:Int):=⟨_,rfl⟩
    have w6:IntKind.i64.wrap (1+(r6:Int))=kk:=by rw[IntKind.wrap_i64];omega
    have HFA:Hid (okFa D kk):=⟨HD0.out.1,Or.inl hp,by omega,by omega⟩
    clear h6 hkk hp;go_wp2_with (refine ld41 K9.out.c ?_)
    refine (cFlt HFA.out K9.out.ic K9.out.s).mono ?_
    rintro o w10 ⟨s10,rfl,G10⟩;go_upto_region 23 with (refine kS.svc K9.out G10.out ?_;intro w11 K11)
    clear K9 G10 y0;go_wp2_with (refine ld41 K11.out.m ?_)
    refine (mFlt HFA.out K11.out.im).mono ?_
    rintro o w12 ⟨s12,rfl,G12⟩;go_wp2_with (refine kS.svm K11.out G12.out ?_;intro w13 K13)
    go_meet
    case rel=>exact⟨_,_,_,K13,fltC_ok HFA.out,evP_act HD0.out.1 (HD0.out.2.1.flt _) (fltC_ok HFA.out)⟩
   have dp:(D.p == 1)=false:=by simpa using hp
   have HP:=hidG hp
   clear hp;obtain⟨r23,h23⟩ : ∃ r:Nat,r=x % 23:=⟨_,rfl⟩
   have t23:(x:Int).tmod 23=(r23:Int):=by rw[h23];exact (Int.ofNat_tmod x 23).symm
   clear h23;by_cases h5:r23=5
   ·subst h5;go_wp2_with (refine ld41 K9.out.c ?_)
    refine (cRst HD0.out.1 K9.out.ic K9.out.s).mono ?_
    rintro o w10 ⟨s10,rfl,G10⟩;go_upto_region 26 with (refine kS.svc K9.out G10.out ?_;intro w11 K11)
    clear K9 G10 y0;go_wp2_with (refine ld41 K11.out.m ?_)
    refine (mRst HD0.out.1 K11.out.im).mono ?_
    rintro o w12 ⟨s12,rfl,G12⟩;go_wp2_with (refine kS.svm K11.out G12.out ?_;intro w13 K13)
    go_meet
    case rel=>exact⟨_,_,_,K13,HD0.out.1.rst,evP_rst HD0.out.2.1⟩
   have d5:((r23:Int) == 5)=false:=by simp;omega
   clear h5;go_upto_region 17 with fail
   clear y0 dp t23 d5;go_cut [90] (fun t wx=>∃ b:Bool,t = bO b∧Hid (kS w p q D s3 D s5 wx))
   case first=>as_aux_lemma=>
    obtain⟨r5,h5⟩ : ∃ r:Nat,r=x % 5:=⟨_,rfl⟩
    have t5:(x:Int).tmod 5=(r5:Int):=by rw[h5];exact (Int.ofNat_tmod x 5).symm
    clear h5;by_cases e5:r5=0
    ·subst e5;go_wp2_with fail;go_meet
     case rel=>exact⟨true,rfl,K9⟩
    ·have d5:((r5:Int) == 0)=false:=by simp;omega
     go_wp2_with fail;refine (HC1.out w9 K9.out.b).mono ?_
     rintro o w10 ⟨z,rfl,hz,hb10⟩;have K10:=hidG (K9.out.below hb10)
     obtain⟨u,hu⟩ : ∃ u:Nat,u=x+z:=⟨_,rfl⟩
     have wu:IntKind.i64.wrap ((x:Int)+(z:Int))=(u:Int):=by rw[IntKind.wrap_i64];omega
     obtain⟨r7,h7⟩ : ∃ r:Nat,r=u % 7:=⟨_,rfl⟩
     have t7:(u:Int).tmod 7=(r7:Int):=by rw[h7];exact (Int.ofNat_tmod u 7).symm
     obtain⟨b7,hb7⟩ : ∃ b,decide (r7<3)=b:=⟨_,rfl⟩
     clear h7 hu hb10 K9;go_wp2_with fail;go_meet
     case rel=>exact⟨_,rfl,K10⟩
   case rest=>
   obtain⟨b,rfl,K10⟩:=hcut
   clear K9;go_upto_if 90 with fail
   go_cut [12] (fun t wx=>∃ bb:Int,t = I J bb∧Hid (bb=0∨bb=1)∧Hid (kS w p q D s3 D s5 wx))
   case first=>as_aux_lemma=>
    cases b
    ·go_wp2_with fail;go_meet
     case rel=>exact⟨1,rfl,Or.inr rfl,K10⟩
    ·go_wp2_with fail;go_meet
     case rel=>exact⟨0,rfl,Or.inl rfl,K10⟩
   case rest=>
   obtain⟨bb,rfl,HBB,K11⟩:=hcut
   clear K10;have HCS:Hid (okCs D bb):=⟨HD0.out.1,HP.out,HBB.out⟩
   obtain⟨r,hr⟩:=bestR_e D.ho.bx
   have HR:=hidG hr
   clear hr;go_wp2_with (refine ld41 K11.out.c ?_)
   refine (cStp HCS.out HR.out K11.out.ic K11.out.s).mono ?_
   rintro o w12 ⟨s12,rfl,G12⟩;go_upto_region 20 with (refine kS.svc K11.out G12.out ?_;intro w13 K13)
   clear K11 G12;go_wp2_with (refine ld41 K13.out.m ?_)
   refine (mStp HCS.out HR.out K13.out.im).mono ?_
   rintro o w14 ⟨s14,rfl,G14⟩;go_wp2_with (refine kS.svm K13.out G14.out ?_;intro w15 K15)
   go_meet
   case rel=>exact⟨_,_,_,K15,stpC_ok HCS.out r HR.out,evP_act HD0.out.1 (HD0.out.2.1.stp _ _) (stpC_ok HCS.out r HR.out)⟩
  case rest=>
  obtain⟨T,s1,s2,K10,HT⟩:=hcut
  clear K9 hx;go_upto_region 27 with fail
  go_cut [130] (fun t wx=>t = bO false∧Hid (kS w p q T s1 T s2 wx))
  case first=>as_aux_lemma=>
   go_wp2_with (first | (refine ld41 K10.out.c ?_) | (refine ld41 K10.out.m ?_))
   refine (wCore_same wc T s1 s2 K10.out.ic K10.out.im HT.out.1.h.le).mono ?_
   rintro o w11 ⟨rfl,hb11⟩;have K11:=hidG (K10.out.below hb11)
   clear K10 hb11;go_wp2_with (refine wpList_load_midG (by first | rfl | (simp[Region.wanted,yielded];done)) 41 _ rfl p 0 rfl (coL T s1) _ K11.out.c.load Tryz.underlying41 rfl (szC41L _ _) ?_)
   refine (mRst HT.out.1 K11.out.ic).mono ?_
   rintro o w12 ⟨s12,rfl,G12⟩;have K12:=hidG (K11.out.below G12.out.2)
   have hz:((rstC T).ho.c0 == 0)=false:=by
    have:=HT.out.1.h.one.2
    have e:(rstC T).ho.c0=T.ho.c0:=rfl
    rw[e]
    simp;omega
   generalize rstC T=U at *;have u1:=f41 U s12
   have u2:=f39 U.ho s12
   have u3:=f33 U.ho.c0 U.ho.c1 U.ho.c2 U.ho.c3
   clear K11 G12;go_wp2_with fail;go_meet
   case rel=>exact⟨rfl,K12⟩
  case rest=>
  obtain⟨rfl,K11⟩:=hcut
  clear K10;go_wp2_with (refine ld41 K11.out.c ?_)
  refine (implES_any _ T s1).mono ?_
  rintro o w12 ⟨rfl,hb12⟩;have K12:=hidG (K11.out.below hb12)
  clear K11 hb12;obtain⟨nw,hnw⟩ : ∃ v,esZ T.p T.te T.re=v:=⟨_,rfl⟩
  have HNW:=hidG hnw
  rw[hnw]
  clear hnw;go_upto_region 30 with fail
  go_cut [156] (fun t wx=>t = bO false∧Hid (kS w p q T s1 T s2 wx))
  case first=>as_aux_lemma=>
   have y9:=K12.out.c.cell 9 _ rfl
   have y10:=K12.out.c.cell 10 _ rfl
   have hc:=HT.out.1.cnt
   rw[HNW.out] at hc
   rcases hc with⟨c1,c2⟩|⟨c1,c2,c3⟩|⟨c1,c2,c3⟩|⟨c1,c2,c3⟩
   ·rw[c1] at y9
    subst c2;clear c1;go_wp2_with fail;go_meet
    case rel=>exact⟨rfl,K12⟩
   ·have e1:(T.te == 256)=false:=by simp;omega
    have e2:decide (T.te<256)=true:=by simpa using c2
    have e3:decide (128≤T.te)=true:=by simpa using c1
    subst c3;clear c1 c2;go_wp2_with fail;go_meet
    case rel=>exact⟨rfl,K12⟩
   ·have e1:(T.te == 256)=false:=by simp;omega
    have e2:decide (T.te<256)=true:=by simp;omega
    have e3:decide (128≤T.te)=false:=by simp;omega
    have e4:decide (128≤T.re)=true:=by simpa using c2
    subst c3;clear c1 c2;go_wp2_with fail;go_meet
    case rel=>exact⟨rfl,K12⟩
   ·have e1:(T.te == 256)=false:=by simp;omega
    have e2:decide (T.te<256)=true:=by simp;omega
    have e3:decide (128≤T.te)=false:=by simp;omega
    have e4:decide (128≤T.re)=false:=by simp;omega
    subst c3;clear c1 c2;go_wp2_with fail;go_meet
    case rel=>exact⟨rfl,K12⟩
  case rest=>
  obtain⟨rfl,K13⟩:=hcut
  clear K12;go_wp2_with (refine ld41h K13.out.c ?_)
  refine (cDr HT.out.1.h K13.out.ic K13.out.s).mono ?_
  rintro o w14 ⟨s14,a14,c14,rfl,G14⟩;have K14:=hidG (K13.out.below G14.out.2.2.2)
  have HQ:=hidG G14.out.2.2.1
  have HA14:Hid (blk (w14.alloc (.cells z10.toArray 39)) w14.heap.size z10 39):=blk.new w14 z10 39
  have HE:=hidG (evP_cnt HT.out.2)
  clear K13 G14;go_upto_region 33 with (refine wpList_store_mid (P:=Tp) rfl 39 _ _ rfl w14.heap.size 0 (hoL (qHo T.ho []) s14).toArray rfl rfl (HA14.out.there 0 10 (nR _)) (sz41A _ _) (hoL_one _ _) ?_;generalize hv:World.setCells (w14.alloc _) w14.heap.size 0 _=w15;have HB15:Hid (Below w14.heap.size w14 w15):=(by show Below _ _ _;rw[← hv];exact sW (nR _) _ _ ((bW _ _).alloc (nR _) _));clear hv)
  have K15:=hidG (K14.out.below HB15.out)
  have HQ5:=hidG (HQ.out.below HB15.out)
  clear HA14 K14 HQ HB15;rw[HNW.out] at HE
  obtain⟨Q,hQ⟩ : ∃ Q,T.ho.qu=Q:=⟨_,rfl⟩
  rw[hQ] at HE HQ5
  rw[hQ]
  have hql:Q.length≤32:=by have h1:=HT.out.1.h.nq;have h2:=of_decide_eq_true HT.out.1.h.cf;rw[hQ] at h1;omega
  have HQ0:=hidG hQ
  clear hQ;go_wp2_with fail;go_loopw [16,17] (fun t j wr=>∃ i:Nat,i≤Q.length∧t = I J (tlN Q i:Int)∧j = I J (i:Int)∧wr=w15) (fun _ j _=>Q.length-(intOf j).toNat)
  case atStart=>exact⟨0,nZ _,rfl,rfl,rfl⟩
  case round=>
   obtain⟨i,hi,rfl,rfl,hw⟩:=hrel
   have hw:=hw.symm
   subst hw;by_cases hil:i<Q.length
   ·obtain⟨g,off,e,hc⟩:=HQ5.out.cells (by intro e;rw[e] at hil;exact absurd hil (nN _))
    obtain⟨ao,mm,cc,hat⟩:=hc i hil
    have hcp:=HQ5.out.cap
    subst e;have y0:=hat.c0
    have y1:=hat.c1
    have HIL:=hidG hil
    have HS:=hidG (tlN_succ hil)
    have HX:=hidG (HE.out.1 i hil)
    have htl:=tlN_le Q i
    clear hc hat;obtain⟨tl,htl2⟩ : ∃ t,tlN Q i=t:=⟨_,rfl⟩
    rw[htl2] at HS htl
    rw[htl2]
    clear htl2;generalize Q[i].x=qx at *;generalize Q[i].y=qy at *;have wi:IntKind.i64.wrap ((i:Int)+1)=((i+1:Nat):Int):=by rw[IntKind.wrap_i64];omega
    by_cases e10:qx=10
    ·obtain⟨x1,x2⟩:=HX.out e10
     have HS2:Hid (tlN Q (i+1)=tl+1):=by show _=_;rw[HS.out,if_pos e10]
     subst e10;subst x2;have wt:IntKind.i64.wrap ((tl:Int)+1)=((tl+1:Nat):Int):=by rw[IntKind.wrap_i64];omega
     have wl:IntKind.i64.wrap ((Q.length:Int)-1)=(i:Int):=by rw[IntKind.wrap_i64];omega
     clear x1 HX HS;go_wp2_with fail;go_roundw
     case rel=>exact⟨i+1,HIL.out,by first | (rw[HS2.out];done) | (rw[HS2.out];go_num;done) | (rw[HS2.out];rfl),by go_num,by trivial⟩
     case measure=>have:=HIL.out;simp[intOf];omega
    ·have d10:(qx == 10)=false:=by simpa using e10
     have HS2:Hid (tlN Q (i+1)=tl):=by show _=_;rw[HS.out,if_neg e10];rfl
     clear e10 HX HS;go_wp2_with fail;go_roundw
     case rel=>exact⟨i+1,HIL.out,by first | (rw[HS2.out];done) | (rw[HS2.out];go_num;done) | (rw[HS2.out];rfl),by go_num,by trivial⟩
     case measure=>have:=HIL.out;simp[intOf];omega
   ·obtain rfl:i=Q.length:=by omega
    have dl:decide ((Q.length:Int)<(Q.length:Int))=false:=by simp
    have htl:=tlN_le Q Q.length
    have HE2:Hid (T.ho.lo=0→(tlN Q Q.length=1↔nw≠was)):=by have:=HE.out.2;rw[HD0.out.2.2] at this;exact this
    obtain⟨tl,htl2⟩ : ∃ t,tlN Q Q.length=t:=⟨_,rfl⟩
    rw[htl2] at HE2 htl
    rw[htl2]
    have y19:=K15.out.c.cell 19 _ rfl
    clear htl2 hil hi;have HR:Hid (∃ (k:Nat) (C:Co) (s1 s2:Sl),k≤51∧Value.int .i64 (k1:Int) = I J (k:Int)∧Hid (okCo C)∧Hid (kS w p q C s1 C s2 w15)):=⟨k1,T,s1,s2,HK1.out.1,rfl,HT.out.1,K15⟩
    by_cases hlo:T.ho.lo=0
    ·have dlo:(T.ho.lo == 0)=true:=by simpa using hlo
     by_cases h1:tl=1
     ·have hne:=(HE2.out hlo).1 h1
      have d1:(nw != was)=true:=by simpa using hne
      subst h1;clear hlo hne;go_wp2_with fail;go_roundw
      case rel=>exact HR.out
      case measure=>have:=HK1.out;simp[intOf];omega
     ·have heq:nw=was:=Classical.byContradiction fun e=>h1 ((HE2.out hlo).2 e)
      have d1:(nw != was)=false:=by simpa using heq
      have d2:((tl:Int) == 1)=false:=by simp;omega
      clear hlo heq h1;go_wp2_with fail;go_roundw
      case rel=>exact HR.out
      case measure=>have:=HK1.out;simp[intOf];omega
    ·have dlo:(T.ho.lo == 0)=false:=by simpa using hlo
     clear hlo;go_wp2_with fail;go_roundw
     case rel=>exact HR.out
     case measure=>have:=HK1.out;simp[intOf];omega

end Go.Proofs.YtkfcfigbgmbaiaaGreat
