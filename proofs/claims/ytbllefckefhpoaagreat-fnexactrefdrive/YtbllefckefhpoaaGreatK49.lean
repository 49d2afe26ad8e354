import Derived.Test.YtbllefckefhpoaaGreatK48
import Derived.Test.YtbllefckefhpoaaGreatK19
import Derived.Test.YtbllefckefhpoaaGreatK44
namespace Go.Proofs.YtbllefckefhpoaaGreat
open Go.RowKit
set_option linter.unusedVariables false
set_option maxHeartbeats 16000000
open Go.Value renaming int→I,slice→sL,bool→bO,pointer→pT,agg→aG
open Go.IntKind renaming i64→J
open Go.Ending renaming returned→rT
open Go.Proofs.Tryz renaming prog→Tp
set_option maxRecDepth 40000 in
theorem lawRefDrive (C:Co) (s:Sl) (hd:ByteArray) (w:World) (h:isHo w C.ho s) (hn:C.ho.le 9223372036854775807) (hsz:hd.size≤maxLen) :
  Calls Tp 3 #[aG (rfL C s hd).toArray] w fun o w'=>o = rT (bO true)∧Below w.heap.size w w':=by
 obtain⟨r,hr⟩:=bestR_ex C.ho.bx
 obtain⟨vc,vf,vd,vo,hv⟩:=sjV_shape (swZ hd).1 (swZ hd).2.1 (swZ hd).2.2
 have hj:∀ W,Calls Tp 79 #[.string hd] W fun o w'=>o = rT (aG #[I J (vc:Int),I J (vf:Int),bO vd,bO vo])∧Below W.heap.size W w':=fun W=>(judge_any hd W).mono (by rintro o w' ⟨rfl,hb⟩;exact⟨by rw[judge_same,hv],hb⟩)
 have hk:∀ W,Calls Tp 17 #[.string hd] W fun o w'=>o = rT (aG #[I J (vc:Int),I J (vf:Int),bO vd,bO vo])∧Below W.heap.size W w':=fun W=>(specJudge_any hd W hsz).mono (by rintro o w' ⟨rfl,hb⟩;exact⟨by rw[hv],hb⟩)
 obtain⟨T,gd,lv,hR⟩:=rdRel_ex C hd vc vf vo r
 have HS:Hid (∀ X,Below w.heap.size w X→Calls Tp 4 #[aG (rfL C s hd).toArray,I J 1048576] X fun o w'=>∃ z:Int,o = rT (I J z)∧Below X.heap.size X w'∧(z = -1∨∃ m':Nat,z=(m':Int)∧C.ho.le 1048576)):=fun X hX=>szRef_any X C s hd (h.below hX) hn
 have HT:Hid (C.ho.le 1048576→∀ X,isHo X C.ho s→Calls Tp 6 #[aG (rfL C s hd).toArray] X fun o w'=>∃ s':Wh,o = rT (aG (rfL C s'.sl hd).toArray)∧St X.heap.size w' (fun W=>isHo W C.ho s'.sl)∧whS X.heap.size w'.heap.size w' s'∧whD s'∧slSome s'.sl∧Below X.heap.size X w'):=fun hm X hX=>(toRef_any X C s hd (fun Y hY=>toCoWh Y C s (hX.below hY) hm)).mono (by rintro o w' ⟨s',B,rfl,q0,q1,q2,q3,q4,q5⟩;exact⟨s',rfl,fun W hW=>q1 W (fun k a b=>hW k (by omega) b),q2.mono q0 (Nat.le_refl _),q3,q4,q5⟩)
 have HE:Hid (C.ho.le 1048576→∀ X s',isHo X C.ho s'→Calls Tp 5 #[aG (rfL C s' hd).toArray] X fun o w'=>∃ s2,o = rT (.tuple #[aG (rfL T s2 gd).toArray,I J lv])∧isHo w' T.ho s2∧Below X.heap.size X w'):=fun hm X s' h'=>(specRD X C s' hd vc vf vd vo r h' hm hk hr).mono (by rintro o w' ⟨T1,s1,g1,l1,rfl,q1,q2,q3⟩;obtain⟨rfl,rfl,rfl⟩:=rdRel_one hR q1;exact⟨s1,rfl,q2,q3⟩)
 have HI:Hid (C.ho.le 1048576→∀ X s',isHo X C.ho s'→slSome s'→Calls Tp 7 #[aG (rfL C s' hd).toArray] X fun o w'=>∃ sg,o = rT (.tuple #[aG (rfL T sg gd).toArray,I J lv])∧St X.heap.size w' (fun W=>isHo W T.ho sg)∧MKR X.heap.size T sg gd w'∧Below X.heap.size X w'):=fun hm X s' h' hs'=>(implTRD X C s' hd vc vf vd vo r h' hs' hm hj hr T gd lv hR).mono (by rintro o w' ⟨sg,rfl,q1,q2,q3⟩;exact⟨sg,rfl,q1,q2.ref q3.size,q3⟩)
 have HQ:Hid (C.ho.le 1048576→∀ X s1 s2,isHo X T.ho s1→isHo X T.ho s2→Calls Tp 8 #[aG (rfL T s1 gd).toArray,aG (rfL T s2 gd).toArray] X fun o w'=>o = rT (bO true)∧Below X.heap.size X w'):=fun hm X s1 s2 h1 h2=>eqRef_same X _ s1 s2 gd h1 h2 (rdR_le hR hm)
 have HQH:Hid (C.ho.le 1048576→∀ X s1 s2,isHo X C.ho s1→isHo X C.ho s2→Calls Tp 8 #[aG (rfL C s1 hd).toArray,aG (rfL C s2 hd).toArray] X fun o w'=>o = rT (bO true)∧Below X.heap.size X w'):=fun hm X s1 s2 h1 h2=>eqRef_same X _ s1 s2 hd h1 h2 hm
 have P0:blk (w.alloc (.cells (rfL C s hd).toArray 33)) w.heap.size (rfL C s hd) 33:=blk.new w _ 33
 have HA:Hid (Below w.heap.size w (w.alloc (.cells (rfL C s hd).toArray 33))):=(Below.refl _ _).alloc (Nat.le_refl _) _
 have HH:Hid (∀ X,Below w.heap.size w X→isHo X C.ho s):=fun X hX=>h.below hX
 have HP0:Hid (blk (w.alloc (.cells (rfL C s hd).toArray 33)) w.heap.size (rfL C s hd) 33):=P0
 clear h hn P0;clear hR hj hk hr hv hsz;go_enter Tryz.func3,Tryz.ntmps3
 go_wp2_with (first | (refine wpList_load_mid (P:=Tp) rfl 33 _ rfl w.heap.size 0 rfl (rfL C s hd) _ HP0.out.load Tryz.underlying33 rfl (szR33 C s hd) ?_))
 refine (HS.out _ HA.out).mono ?_
 rintro o w1 ⟨z,rfl,b1,h1⟩;have HP1:Hid (blk w1 w.heap.size (rfL C s hd) 33):=HP0.out.below b1
 have HB1:Hid (Below w.heap.size w w1):=HA.out.trans (b1.mono (by simp))
 clear b1 HP0 HA HS;rcases h1 with rfl|⟨m',rfl,hle⟩
 ·go_wp2_with fail;go_ret;exact⟨rfl,HB1.out⟩
 have HLE:Hid (C.ho.le 1048576):=hle
 clear hle;go_wp2_with (first | (refine wpList_load_mid (P:=Tp) rfl 33 _ rfl w.heap.size 0 rfl (rfL C s hd) _ HP1.out.load Tryz.underlying33 rfl (szR33 C s hd) ?_))
 refine (HT.out HLE.out _ (HH.out _ HB1.out)).mono ?_
 rintro o w2 ⟨s2,rfl,S2,_,_,_,b2⟩;have HO2:Hid (isHo w2 C.ho s2.sl):=S2.now
 have HP2:Hid (blk w2 w.heap.size (rfL C s hd) 33):=HP1.out.below b2
 have HB2:Hid (Below w.heap.size w w2):=HB1.out.trans (b2.mono HB1.out.size)
 clear S2 b2 HP1 HB1;go_wp2_with fail;refine (HE.out HLE.out w2 s2.sl HO2.out).mono ?_
 rintro o w3 ⟨sw,rfl,hT3,b3⟩;have HP3:Hid (blk w3 w.heap.size (rfL C s hd) 33):=HP2.out.below b3
 have HB3:Hid (Below w.heap.size w w3):=HB2.out.trans (b3.mono HB2.out.size)
 have HT3:Hid (isHo w3 T.ho sw):=hT3
 clear hT3 b3 HP2 HB2 HO2 HE;have HNW:Hid (blk (World.setCells (w3.alloc (.cells Z22.toArray 45)) w3.heap.size 0 (rfL T sw gd)) w3.heap.size (rfL T sw gd) 45∧Below w3.heap.size w3 (World.setCells (w3.alloc (.cells Z22.toArray 45)) w3.heap.size 0 (rfL T sw gd))):=new_refS _ (rfL_len _ _ _)
 have HN3:Hid (blk (w3.alloc (.cells Z22.toArray 45)) w3.heap.size Z22 45):=blk.new w3 _ 45
 go_wp2_with (first | (refine wpList_store_mid (P:=Tp) rfl 45 _ _ rfl w3.heap.size 0 (rfL T sw gd).toArray rfl rfl (HN3.out.there 0 _ (by rw[List.size_toArray,rfL_len];decide)) (szR45A T sw gd) (rfL_one T sw gd) ?_;generalize hW4:World.setCells (w3.alloc _) w3.heap.size 0 _=w4;have HW4:Hid (lrS w C s hd gd T w3.heap.size sw w4):=(by rw[← hW4];exact⟨HP3.out.below HNW.out.2,HNW.out.1,HT3.out.below HNW.out.2,HH.out _ (HB3.out.trans (HNW.out.2.mono HB3.out.size)),HB3.out.trans (HNW.out.2.mono HB3.out.size)⟩);clear hW4 HNW HN3) | (refine wpList_load_mid (P:=Tp) rfl 33 _ rfl w.heap.size 0 rfl (rfL C s hd) _ HW4.out.p.load Tryz.underlying33 rfl (szR33 C s hd) ?_))
 clear HP3 HB3 HT3;generalize w3.heap.size=bw at *;refine (HT.out HLE.out _ HW4.out.h).mono ?_
 rintro o w5 ⟨s5,rfl,S5,S5w,S5d,S5s,b5⟩;have HX5:Hid (lrS w C s hd gd T bw sw w5∧isHo w5 C.ho s5.sl∧whS w4.heap.size w5.heap.size w5 s5):=⟨HW4.out.below b5,S5.now,S5w⟩
 have HD5:Hid (whD s5∧slSome s5.sl):=⟨S5d,S5s⟩
 have HB45:Hid (Below w4.heap.size w4 w5):=b5
 have HH4:Hid (isHo w4 T.ho sw∧isHo w4 C.ho s):=⟨HW4.out.t,HW4.out.h⟩
 have HZ5:Hid (bw<w4.heap.size∧w.heap.size<w4.heap.size∧w4.heap.size≤w5.heap.size):=⟨HW4.out.q.lt,HW4.out.p.lt,b5.size⟩
 clear S5 S5w S5d S5s b5;have HN5a:Hid (blk (World.setCells (w5.alloc (.cells Z22.toArray 45)) w5.heap.size 0 (rfL C s5.sl hd)) w5.heap.size (rfL C s5.sl hd) 45∧Below w5.heap.size w5 (World.setCells (w5.alloc (.cells Z22.toArray 45)) w5.heap.size 0 (rfL C s5.sl hd))):=new_refS _ (rfL_len _ _ _)
 have HN5b:Hid (blk (w5.alloc (.cells Z22.toArray 45)) w5.heap.size Z22 45):=blk.new w5 _ 45
 go_wp2_with (first | (refine wpList_store_mid (P:=Tp) rfl 45 _ _ rfl w5.heap.size 0 (rfL C s5.sl hd).toArray rfl rfl (HN5b.out.there 0 _ (by rw[List.size_toArray,rfL_len];decide)) (szR45A C s5.sl hd) (rfL_one C s5.sl hd) ?_;generalize hW6:World.setCells (w5.alloc _) w5.heap.size 0 _=w6;have HX6:Hid (lrX w C s hd gd T bw sw w4 w5.heap.size w5.heap.size s5 w6):=(by rw[← hW6];exact⟨HX5.out.1.below HN5a.out.2,HN5a.out.1,HX5.out.2.1.below HN5a.out.2,HX5.out.2.2.same (fun x _ hx=>HN5a.out.2.block x hx),⟨HZ5.out.1,HZ5.out.2.1,HZ5.out.2.2,Nat.le_refl _⟩,HB45.out.trans (HN5a.out.2.mono HB45.out.size)⟩);clear hW6 HN5a HN5b) | (refine wpList_load_mid (P:=Tp) rfl 45 _ rfl w5.heap.size 0 rfl (rfL C s5.sl hd) _ HX6.out.x.load Tryz.underlying45 rfl (szR45 C s5.sl hd) ?_))
 clear HX5 HZ5 HW4 HB45;generalize hT5:w5.heap.size=bx at *;clear hT5;refine (HI.out HLE.out w6 s5.sl HX6.out.xh HD5.out.2).mono ?_
 rintro o w7 ⟨sg,rfl,S7,M7,b7⟩;have HX7:Hid (lrX w C s hd gd T bw sw w4 bx bx s5 w7):=HX6.out.below b7
 have HG7:Hid (St w6.heap.size w7 (fun W=>isHo W T.ho sg)∧MKR w6.heap.size T sg gd w7∧w6.heap.size≤w7.heap.size∧bx<w6.heap.size):=⟨S7,M7,b7.size,HX6.out.x.lt⟩
 clear S7 M7 b7 HX6;have HN7a:Hid (blk (World.setCells (w7.alloc (.cells Z22.toArray 45)) w7.heap.size 0 (rfL T sg gd)) w7.heap.size (rfL T sg gd) 45∧Below w7.heap.size w7 (World.setCells (w7.alloc (.cells Z22.toArray 45)) w7.heap.size 0 (rfL T sg gd))):=new_refS _ (rfL_len _ _ _)
 have HN7b:Hid (blk (w7.alloc (.cells Z22.toArray 45)) w7.heap.size Z22 45):=blk.new w7 _ 45
 go_wp2_with (first
  | (refine wpList_store_mid (P:=Tp) rfl 45 _ _ rfl w7.heap.size 0 (rfL T sg gd).toArray rfl rfl (HN7b.out.there 0 _ (by rw[List.size_toArray,rfL_len];decide)) (szR45A T sg gd) (rfL_one T sg gd) ?_;generalize hW8:World.setCells (w7.alloc _) w7.heap.size 0 _=w8;have HX8:Hid (lrX w C s hd gd T bw sw w4 bx bx s5 w8∧blk w8 w7.heap.size (rfL T sg gd) 45∧Below w7.heap.size w7 w8):=(by rw[← hW8];exact⟨HX7.out.below HN7a.out.2,HN7a.out.1,HN7a.out.2⟩);clear hW8 HN7a HN7b)
  | (refine wpList_load_mid (P:=Tp) rfl 45 _ rfl w7.heap.size 0 rfl (rfL T sg gd) _ HX8.out.2.1.load Tryz.underlying45 rfl (szR45 T sg gd) ?_)
  | (refine wpList_load_mid (P:=Tp) rfl 45 _ rfl bw 0 rfl (rfL T sw gd) _ HX8.out.1.l.q.load Tryz.underlying45 rfl (szR45 T sw gd) ?_))
 have HG8:Hid (lrG w C s hd gd T bw sw w4 bx w6.heap.size w7 w7.heap.size sg w8):=⟨HX8.out.1.l,HX8.out.2.1,fun x h1 h2=>HX8.out.2.2.block x h2,⟨HG7.out.2.2.2,HG7.out.2.2.1,Nat.le_refl _⟩,⟨HX8.out.1.z.1,HX8.out.1.z.2.1,by have:=HX8.out.1.z;omega⟩,HX8.out.1.b4⟩
 have HX9:Hid (lrX w C s hd gd T bw sw w4 bx bx s5 w8):=HX8.out.1
 have HSM:Hid (St w6.heap.size w7 (fun W=>isHo W T.ho sg)∧MKR w6.heap.size T sg gd w7):=⟨HG7.out.1,HG7.out.2.1⟩
 clear HX8 HG7 HX7;generalize w6.heap.size=B6 at *;refine (HQ.out HLE.out w8 sg sw (HSM.out.1 w8 HG8.out.k) HG8.out.l.t).mono ?_
 rintro o w9 ⟨rfl,b9⟩;have HX10:Hid (lrX w C s hd gd T bw sw w4 bx bx s5 w9∧lrG w C s hd gd T bw sw w4 bx B6 w7 w7.heap.size sg w9):=⟨HX9.out.below b9,HG8.out.below b9⟩
 clear b9 HX9 HG8;generalize hbg:w7.heap.size=bg at *;have HBG:Hid (w7.heap.size=bg):=hbg
 clear hbg;go_wp2_with fail;refine wp_region_held (S:=fun W=>lrX w C s hd gd T bw sw w4 bx bx s5 W∧lrG w C s hd gd T bw sw w4 bx B6 w7 bg sg W) (by kernel_rfl) ?_
 have hS:lrX w C s hd gd T bw sw w4 bx bx s5 w9.drew∧lrG w C s hd gd T bw sw w4 bx B6 w7 bg sg w9.drew:=⟨HX10.out.1.below (Below.refl _ _).drew,HX10.out.2.below (Below.refl _ _).drew⟩
 clear HX10;change wpAnyH Tp _ _ _ _ _ _ _ w9.drew
 generalize w9.drew=w10 at *;refine wU 0 (aG (rfL C s5.sl hd).toArray) rfl (yieldsIf_load_mid (by rfl) 45 _ rfl bx 0 rfl (rfL C s5.sl hd) _ (fun W h=>h.1.x.load) Tryz.underlying45 rfl (szR45 C s5.sl hd)) hS ?_
 simp only[Act.put,aA,aB,aC,aD,aE]
 refine wU 1 (aG (rfL C s hd).toArray) rfl (yieldsIf_load_mid (by rfl) 33 _ rfl w.heap.size 0 rfl (rfL C s hd) _ (fun W h=>h.1.l.p.load) Tryz.underlying33 rfl (szR33 C s hd)) hS ?_
 simp only[aZ];refine wpAnyH_all (rs:=[2]) (by kernel_rfl) (by simp) ?_
 refine AllReadyH.cons rfl (fun K2 hK2=>?_) AllReadyH.nil
 go_simp;refine (HT.out HLE.out _ hS.1.l.h).mono ?_
 rintro o w11 ⟨s11,rfl,S11,_,_,_,b11⟩;have HO11:Hid (isHo w11 C.ho s11.sl):=S11.now
 have hS11:lrX w C s hd gd T bw sw w4 bx bx s5 w11∧lrG w C s hd gd T bw sw w4 bx B6 w7 bg sg w11:=⟨hS.1.below b11,hS.2.below b11⟩
 clear S11 b11;go_wp2_with fail;refine hK2.out _ _ hS11 (fun hS2=>?_)
 clear hS hK2 K2 hS11;have hS:=hS2
 clear hS2;refine wpAnyH_all (rs:=[3]) (by kernel_rfl) (by simp) ?_
 refine AllReadyH.cons rfl (fun K2 hK2=>?_) AllReadyH.nil
 go_simp;refine (HQH.out HLE.out _ s5.sl s11.sl hS.1.xh HO11.out).mono ?_
 rintro o w12 ⟨rfl,b12⟩;have hS12:lrX w C s hd gd T bw sw w4 bx bx s5 w12∧lrG w C s hd gd T bw sw w4 bx B6 w7 bg sg w12:=⟨hS.1.below b12,hS.2.below b12⟩
 clear b12 HO11;go_wp2_with fail;refine hK2.out _ _ hS12 (fun hS2=>?_)
 clear hS hK2 K2 hS12;have hS:=hS2
 clear hS2;refine wV 4 (bO false) ?_ hS ?_
 ·intro W hSw;clear hS;go_simp
 simp only[aZ];refine wpAnyH_done (by kernel_rfl) ?_ _
 have HX12:Hid (lrX w C s hd gd T bw sw w4 bx bx s5 w12∧lrG w C s hd gd T bw sw w4 bx B6 w7 bg sg w12):=hS
 clear hS;go_wp2_with (first | (refine wpList_load_mid (P:=Tp) rfl 45 _ rfl bx 0 rfl (rfL C s5.sl hd) _ HX12.out.1.x.load Tryz.underlying45 rfl (szR45 C s5.sl hd) ?_))
 have HMX:Hid (Calls Tp 9 #[aG (rfL C s5.sl hd).toArray,I J 1] w12 fun o w1=>∃ k:Nat,o = rT (I J (k:Int))∧(∀ x,bx≤x→x<w12.heap.size→w1.heap[x]?=w12.heap[x]?)∧Below w4.heap.size w12 w1):=xMarkR HX12.out.1.xw HD5.out.1 (Nat.le_of_lt HX12.out.1.x.lt) HX12.out.1.z.2.2.1
 refine (Calls.mono HMX.out) ?_
 rintro o w13 ⟨k,rfl,q1,q2⟩;have HG13:Hid (lrG w C s hd gd T bw sw w4 bx B6 w7 bg sg w13):=HX12.out.2.xmark HH4.out q2 q1
 clear q1 q2 HX12 HMX;have hk0:decide ((k:Int)<0)=false:=by simp
 go_wp2_with (first
  | (refine wpList_load_midG (by first | rfl | (simp[Region.wanted,yielded];done) | (simp[Region.wanted,yielded];omega)) 45 _ rfl bg 0 rfl (rfL T sg gd) _ HG13.out.g.load Tryz.underlying45 rfl (szR45 T sg gd) ?_)
  | (refine wpList_load_midG (by first | rfl | (simp[Region.wanted,yielded];done) | (simp[Region.wanted,yielded];omega)) 45 _ rfl bw 0 rfl (rfL T sw gd) _ HG13.out.l.q.load Tryz.underlying45 rfl (szR45 T sw gd) ?_))
 refine (HQ.out HLE.out w13 sg sw (HSM.out.1 w13 HG13.out.k) HG13.out.l.t).mono ?_
 rintro o w14 ⟨rfl,b14⟩;have HG14:Hid (lrG w C s hd gd T bw sw w4 bx B6 w7 bg sg w14):=HG13.out.below b14
 clear b14 HG13 hk0;go_wp2_with (first | (refine wpList_load_mid (P:=Tp) rfl 45 _ rfl bg 0 rfl (rfL T sg gd) _ HG14.out.g.load Tryz.underlying45 rfl (szR45 T sg gd) ?_))
 have hzz:w7.heap.size≤w14.heap.size:=by have:=HG14.out.g.lt;have:=HG14.out.z;omega
 refine (HSM.out.2 w14 HG14.out.k hzz).mono ?_
 rintro o w15 ⟨m,rfl,b15,o15,c15⟩;have HL15:Hid (lrS w C s hd gd T bw sw w15):=HG14.out.gmark HH4.out b15
 have HV15:Hid (blk w15 bg (rfL T sg gd) 45):=HG14.out.g.kept (o15 _ HG14.out.z.2.2 HG14.out.g.lt)
 have HC15:Hid (Calls Tp 10 #[aG (rfL T sg gd).toArray,I J 1] w15 fun o w2=>o = rT (I J (m:Int))∧Below w15.heap.size w15 w2):=c15 w15 (Below.refl _ _)
 clear b15 o15 c15 HG14 HSM hzz HH4;go_wp2_with (first | (refine wpList_load_mid (P:=Tp) rfl 45 _ rfl bg 0 rfl (rfL T sg gd) _ HV15.out.load Tryz.underlying45 rfl (szR45 T sg gd) ?_))
 refine (Calls.mono HC15.out) ?_
 rintro o w16 ⟨rfl,b16⟩;have HL16:Hid (lrS w C s hd gd T bw sw w16):=HL15.out.below b16
 clear b16 HL15 HV15 HC15;have hm0:¬ (m:Int)<0:=by omega
 go_wp2_with (first | (refine wpList_load_mid (P:=Tp) rfl 33 _ rfl w.heap.size 0 rfl (rfL C s hd) _ HL16.out.p.load Tryz.underlying33 rfl (szR33 C s hd) ?_))
 refine (HT.out HLE.out _ HL16.out.h).mono ?_
 rintro o w17 ⟨s17,rfl,S17,_,_,S17s,b17⟩;have HL17:Hid (lrS w C s hd gd T bw sw w17∧isHo w17 C.ho s17.sl∧slSome s17.sl):=⟨HL16.out.below b17,S17.now,S17s⟩
 clear S17 S17s b17 HL16;go_wp2_with fail;refine (HI.out HLE.out w17 s17.sl HL17.out.2.1 HL17.out.2.2).mono ?_
 rintro o w18 ⟨sh,rfl,S18,_,b18⟩;have HL18:Hid (lrS w C s hd gd T bw sw w18∧isHo w18 T.ho sh):=⟨HL17.out.1.below b18,S18.now⟩
 clear S18 b18 HL17;have HN18a:Hid (blk (World.setCells (w18.alloc (.cells Z22.toArray 45)) w18.heap.size 0 (rfL T sh gd)) w18.heap.size (rfL T sh gd) 45∧Below w18.heap.size w18 (World.setCells (w18.alloc (.cells Z22.toArray 45)) w18.heap.size 0 (rfL T sh gd))):=new_refS _ (rfL_len _ _ _)
 have HN18b:Hid (blk (w18.alloc (.cells Z22.toArray 45)) w18.heap.size Z22 45):=blk.new w18 _ 45
 go_wp2_with (first
  | (refine wpList_store_mid (P:=Tp) rfl 45 _ _ rfl w18.heap.size 0 (rfL T sh gd).toArray rfl rfl (HN18b.out.there 0 _ (by rw[List.size_toArray,rfL_len];decide)) (szR45A T sh gd) (rfL_one T sh gd) ?_;generalize hW19:World.setCells (w18.alloc _) w18.heap.size 0 _=w19;have HL19:Hid (lrS w C s hd gd T bw sw w19∧isHo w19 T.ho sh∧blk w19 w18.heap.size (rfL T sh gd) 45):=(by rw[← hW19];exact⟨HL18.out.1.below HN18a.out.2,HL18.out.2.below HN18a.out.2,HN18a.out.1⟩);clear hW19 HN18a HN18b)
  | (refine wpList_load_mid (P:=Tp) rfl 45 _ rfl bw 0 rfl (rfL T sw gd) _ HL19.out.1.q.load Tryz.underlying45 rfl (szR45 T sw gd) ?_)
  | (refine wpList_load_mid (P:=Tp) rfl 45 _ rfl w18.heap.size 0 rfl (rfL T sh gd) _ HL19.out.2.2.load Tryz.underlying45 rfl (szR45 T sh gd) ?_))
 refine (HQ.out HLE.out w19 sh sw HL19.out.2.1 HL19.out.1.t).mono ?_
 rintro o w20 ⟨rfl,b20⟩;have HL20:Hid (Below w.heap.size w w20):=(HL19.out.1.below b20).b
 clear b20 HL19 HL18;go_wp2_with fail;go_ret;exact⟨rfl,HL20.out⟩
end Go.Proofs.YtbllefckefhpoaaGreat
