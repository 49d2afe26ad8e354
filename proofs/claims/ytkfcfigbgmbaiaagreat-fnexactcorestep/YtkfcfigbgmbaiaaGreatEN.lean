import Derived.Test.YtkfcfigbgmbaiaaGreatG47
import Derived.Test.YtkfcfigbgmbaiaaGreatG51
namespace Go.Proofs.YtkfcfigbgmbaiaaGreat
open Go.RowKit
set_option linter.unusedVariables false
set_option maxHeartbeats 16000000
theorem stp_ho (C:Co) (b r:Int):(stpC C b r).ho=C.ho∨(stpC C b r).ho=(ovC C).ho∨(∃ k,(stpC C b r).ho=(fltC C k).ho)∨(stpC C b r).ho=takeHo C.ho r:=by
 have ha:∀ X n,X.ho=C.ho→(addC X C.tx n).ho=C.ho:=fun X n e=>by unfold addC;split <;> exact e
 unfold stpC
 split
 ·unfold idC;split <;> exact Or.inl rfl
 split
 ·unfold flC
  split
  ·rw[(wfX_te _ _).2.2,wfO_ho];exact Or.inl rfl
  split
  ·exact Or.inr (Or.inr (Or.inl ⟨1,rfl⟩))
  split <;> exact Or.inl rfl
 split
 ·unfold waC
  split
  ·exact Or.inl rfl
  split
  ·exact Or.inl (ha _ _ rfl)
  split
  ·exact Or.inl (ha { C with ct:=C.ct+1 } 8 rfl)
  ·exact Or.inl rfl
 split
 ·unfold dlC
  split
  ·split
   ·exact Or.inr (Or.inl rfl)
   ·exact Or.inr (Or.inr (Or.inl ⟨3,rfl⟩))
  ·split <;> exact Or.inl rfl
 split
 ·unfold gpC
  split
  ·split
   ·exact Or.inr (Or.inl rfl)
   ·rcases (jnC_p C r).2.1 with e|e
    ·exact Or.inr (Or.inr (Or.inr e))
    ·exact Or.inl e
  ·split
   ·exact Or.inl (lgC_p _).2.1
   ·exact Or.inl rfl
 split
 ·unfold suC;split
  ·exact Or.inl rfl
  split <;> exact Or.inl rfl
 split
 ·unfold ofC
  split
  ·split
   ·exact Or.inl rfl
   split
   ·split <;> exact Or.inl rfl
   ·exact Or.inl rfl
  ·exact Or.inl rfl
 ·exact Or.inl rfl
theorem takeHo_leC {H:Ho} (h:H.le 1048576) (r:Int):(takeHo H r).le 1048576:=by
 refine⟨h.fs,?_,h.ff,h.qu,fun j hj=>?_,h.fd,h.qd⟩
 ·show (takeB H.bx r).length≤_
  rw[takeB_len];exact h.bx
 ·have hj':j<H.bx.length:=by have:j<(takeB H.bx r).length:=hj;rw[takeB_len] at this;exact this
  show (takeB H.bx r)[j].l.length≤_
  rw[takeB_l H.bx r j hj hj']
  exact h.bd j hj'
def csR (C:Co) (k:Int) (T:Co):Prop:=∃ r,bestR C.ho.bx r∧okRelP (okCs C k) (actC C (stpC C k r)) T
theorem csR_ex (C:Co) (k:Int):∃ T,csR C k T:=by
 obtain⟨r,hr⟩:=bestR_ex C.ho.bx
 obtain⟨T,hT⟩:=okRelP_ex (okCs C k) (actC C (stpC C k r))
 exact⟨T,r,hr,hT⟩
theorem RCoreStep_le {C T:Co} {k:Int} (hR:csR C k T) (h:C.ho.le 1048576):T.ho.le 1048576:=by
 obtain⟨r,hr,⟨hok,rfl⟩|⟨_,rfl⟩⟩:=hR
 ·refine actC_le ?_ (Nat.le_trans (stp_bd hok.1.h.bd k r).q (by decide))
  rcases stp_ho C k r with e|e|⟨kk,e⟩|e
  ·rw[e];exact h
  ·rw[e];exact h.post hok.1.h.n4 (Nat.zero_le _)
  ·rw[e]
   have e2:(fltC C kk).ho=fltH C kk:=by show (addC (fltM C kk) C.tx _).ho=_;rw[addC_ho];rfl
   rw[e2]
   exact relHo_le (h.post hok.1.h.n4 (Nat.zero_le _)) (Nat.le_trans (hok.1.h.bd.post _).q (by decide))
  ·rw[e];exact takeHo_leC h r
 ·exact zCo_le
theorem specCS_any (w:World) (C:Co) (s:Sl) (k:Int) (T:Co) (hR:csR C k T) (h:isHo w C.ho s) (hn:C.ho.le 1048576) :
  Calls Tryz.prog 23 #[.agg (coL C s).toArray,.int .i64 k] w fun o w'=>∃ s',o = .returned (.agg (coL T s').toArray)∧isHo w' T.ho s'∧Below w.heap.size w w':=by
 obtain⟨r,hr,hR⟩:=hR
 exact specCoreStep_any w C s k r T hr hR h hn
theorem implTCoreStep (w:World) (C:Co) (s:Sl) (k:Int) (T:Co) (hR:csR C k T) (h:isHo w C.ho s) (hs:slSome s) (hn:C.ho.le 1048576) :
  Calls Tryz.prog 24 #[.agg (coL C s).toArray,.int .i64 k] w fun o w'=>∃ sg,o = .returned (.agg (coL T sg).toArray)∧St w.heap.size w' (fun W=>isHo W T.ho sg)∧MKC w.heap.size T sg w'∧Below w.heap.size w w':=by
 obtain⟨r,hr,hR⟩:=hR
 refine (implCoreStep_any w C s k r hr h hs hn).mono ?_
 rintro o w' (⟨hok,s4,rfl,q1,q2,q3,q4,hb⟩|⟨hok,rfl,hb⟩)
 ·have e:=hR.yes hok
  subst e;exact⟨s4.sl,rfl,q1,MKQ.core (T:=actC C (stpC C k r)) (q2.mkq (H:=(actC C (stpC C k r)).ho) q3 q4) hb.size,hb⟩
 ·have e:=hR.no hok
  subst e;exact⟨zSl,rfl,fun W _=>zHo_is W,MKQ.core (T:=zCo) (zHo_mkq _ _ hb.size) hb.size,hb⟩
set_option maxRecDepth 40000 in
theorem lawCoreStep (C:Co) (s:Sl) (k:Int) (w:World) (h:isHo w C.ho s) (hn:C.ho.le 9223372036854775807) :
  Calls Tryz.prog 6 #[coV C s,.int .i64 k] w fun o w'=>o = .returned (.bool true)∧Below w.heap.size w w':=by
 rw[coV_L]
 obtain⟨T,hR⟩:=csR_ex C k
 have HS:Hid (∀ X,Below w.heap.size w X→Calls Tryz.prog 8 #[.agg (coL C s).toArray,.int .i64 1048576] X fun o w'=>∃ z:Int,o = .returned (.int .i64 z)∧Below X.heap.size X w'∧(z = -1∨∃ m':Nat,z=(m':Int)∧C.ho.le 1048576)):=fun X hX=>szLC X C s (h.below hX) hn
 have HT:Hid (C.ho.le 1048576→∀ X,isHo X C.ho s→Calls Tryz.prog 10 #[.agg (coL C s).toArray] X fun o w'=>∃ s':Wh,o = .returned (.agg (coL C s'.sl).toArray)∧St X.heap.size w' (fun W=>isHo W C.ho s'.sl)∧whS X.heap.size w'.heap.size w' s'∧whD s'∧slSome s'.sl∧Below X.heap.size X w'):=fun hm X hX=>toCoWh X C s hX hm
 have HE:Hid (C.ho.le 1048576→∀ X s',isHo X C.ho s'→Calls Tryz.prog 23 #[.agg (coL C s').toArray,.int .i64 k] X fun o w'=>∃ s2,o = .returned (.agg (coL T s2).toArray)∧isHo w' T.ho s2∧Below X.heap.size X w'):=fun hm X s' h'=>specCS_any X C s' k T hR h' hm
 have HI:Hid (C.ho.le 1048576→∀ X s',isHo X C.ho s'→slSome s'→Calls Tryz.prog 24 #[.agg (coL C s').toArray,.int .i64 k] X fun o w'=>∃ sg,o = .returned (.agg (coL T sg).toArray)∧St X.heap.size w' (fun W=>isHo W T.ho sg)∧MKC X.heap.size T sg w'∧Below X.heap.size X w'):=fun hm X s' h' hs'=>implTCoreStep X C s' k T hR h' hs' hm
 have HQ:Hid (C.ho.le 1048576→∀ X s1 s2,isHo X T.ho s1→isHo X T.ho s2→Calls Tryz.prog 12 #[.agg (coL T s1).toArray,.agg (coL T s2).toArray] X fun o w'=>o = .returned (.bool true)∧Below X.heap.size X w'):=fun hm X s1 s2 h1 h2=>eqLC X _ s1 s2 h1 h2 (RCoreStep_le hR hm)
 have HQH:Hid (C.ho.le 1048576→∀ X s1 s2,isHo X C.ho s1→isHo X C.ho s2→Calls Tryz.prog 12 #[.agg (coL C s1).toArray,.agg (coL C s2).toArray] X fun o w'=>o = .returned (.bool true)∧Below X.heap.size X w'):=fun hm X s1 s2 h1 h2=>eqLC X _ s1 s2 h1 h2 hm
 have P0:blk (w.alloc (.cells (coL C s).toArray 31)) w.heap.size (coL C s) 31:=blk.new w _ 31
 have HA:Hid (Below w.heap.size w (w.alloc (.cells (coL C s).toArray 31))):=(Below.refl _ _).alloc (Nat.le_refl _) _
 have HH:Hid (∀ X,Below w.heap.size w X→isHo X C.ho s):=fun X hX=>h.below hX
 have HP0:Hid (blk (w.alloc (.cells (coL C s).toArray 31)) w.heap.size (coL C s) 31):=P0
 clear h hn P0;clear hR;go_enter Tryz.func6,Tryz.ntmps6
 go_wp2_with (first | (refine wpList_load_mid (P:=Tryz.prog) rfl 31 _ rfl w.heap.size 0 rfl (coL C s) _ HP0.out.load Tryz.underlying31 rfl (szC31L C s) ?_))
 refine (HS.out _ HA.out).mono ?_
 rintro o w1 ⟨z,rfl,b1,h1⟩;have HP1:Hid (blk w1 w.heap.size (coL C s) 31):=HP0.out.below b1
 have HB1:Hid (Below w.heap.size w w1):=HA.out.trans (b1.mono (by simp))
 clear b1 HP0 HA HS;rcases h1 with rfl|⟨m',rfl,hle⟩
 ·go_wp2_with fail;go_ret;exact⟨rfl,HB1.out⟩
 have HLE:Hid (C.ho.le 1048576):=hle
 clear hle;go_wp2_with (first | (refine wpList_load_mid (P:=Tryz.prog) rfl 31 _ rfl w.heap.size 0 rfl (coL C s) _ HP1.out.load Tryz.underlying31 rfl (szC31L C s) ?_))
 refine (HT.out HLE.out _ (HH.out _ HB1.out)).mono ?_
 rintro o w2 ⟨s2,rfl,S2,_,_,_,b2⟩;have HO2:Hid (isHo w2 C.ho s2.sl):=S2.now
 have HP2:Hid (blk w2 w.heap.size (coL C s) 31):=HP1.out.below b2
 have HB2:Hid (Below w.heap.size w w2):=HB1.out.trans (b2.mono HB1.out.size)
 clear S2 b2 HP1 HB1;go_wp2_with fail;refine (HE.out HLE.out w2 s2.sl HO2.out).mono ?_
 rintro o w3 ⟨sw,rfl,hT3,b3⟩;have HP3:Hid (blk w3 w.heap.size (coL C s) 31):=HP2.out.below b3
 have HB3:Hid (Below w.heap.size w w3):=HB2.out.trans (b3.mono HB2.out.size)
 have HT3:Hid (isHo w3 T.ho sw):=hT3
 clear hT3 b3 HP2 HB2 HO2 HE;have HNW:Hid (blk (World.setCells (w3.alloc (.cells [.int .i64 0,.int .i64 0,.int .i64 0,.bool false,.bool false,.bool false,.bool false,.bool false,.int .i64 0,.int .i64 0,.int .i64 0,.int .i64 0,.int .i64 0,.int .i64 0,.int .i64 0,.slice none 0 0,.slice none 0 0,.slice none 0 0,.slice none 0 0,.int .i64 0,.int .i64 0].toArray 41)) w3.heap.size 0 (coL T sw)) w3.heap.size (coL T sw) 41∧Below w3.heap.size w3 (World.setCells (w3.alloc (.cells [.int .i64 0,.int .i64 0,.int .i64 0,.bool false,.bool false,.bool false,.bool false,.bool false,.int .i64 0,.int .i64 0,.int .i64 0,.int .i64 0,.int .i64 0,.int .i64 0,.int .i64 0,.slice none 0 0,.slice none 0 0,.slice none 0 0,.slice none 0 0,.int .i64 0,.int .i64 0].toArray 41)) w3.heap.size 0 (coL T sw))):=new_coreS _ (coL_len _ _)
 have HN3:Hid (blk (w3.alloc (.cells [.int .i64 0,.int .i64 0,.int .i64 0,.bool false,.bool false,.bool false,.bool false,.bool false,.int .i64 0,.int .i64 0,.int .i64 0,.int .i64 0,.int .i64 0,.int .i64 0,.int .i64 0,.slice none 0 0,.slice none 0 0,.slice none 0 0,.slice none 0 0,.int .i64 0,.int .i64 0].toArray 41)) w3.heap.size [.int .i64 0,.int .i64 0,.int .i64 0,.bool false,.bool false,.bool false,.bool false,.bool false,.int .i64 0,.int .i64 0,.int .i64 0,.int .i64 0,.int .i64 0,.int .i64 0,.int .i64 0,.slice none 0 0,.slice none 0 0,.slice none 0 0,.slice none 0 0,.int .i64 0,.int .i64 0] 41):=blk.new w3 _ 41
 go_wp2_with (first | (refine wpList_store_mid (P:=Tryz.prog) rfl 41 _ _ rfl w3.heap.size 0 (coL T sw).toArray rfl rfl (HN3.out.there 0 _ (by rw[List.size_toArray,coL_len];decide)) (szC41A T sw) (coL_one T sw) ?_;generalize hW4:World.setCells (w3.alloc _) w3.heap.size 0 _=w4;have HW4:Hid (lcS w C s T w3.heap.size sw w4):=(by rw[← hW4];exact⟨HP3.out.below HNW.out.2,HNW.out.1,HT3.out.below HNW.out.2,HH.out _ (HB3.out.trans (HNW.out.2.mono HB3.out.size)),HB3.out.trans (HNW.out.2.mono HB3.out.size)⟩);clear hW4 HNW HN3) | (refine wpList_load_mid (P:=Tryz.prog) rfl 31 _ rfl w.heap.size 0 rfl (coL C s) _ HW4.out.p.load Tryz.underlying31 rfl (szC31L C s) ?_))
 clear HP3 HB3 HT3;generalize w3.heap.size=bw at *;refine (HT.out HLE.out _ HW4.out.h).mono ?_
 rintro o w5 ⟨s5,rfl,S5,S5w,S5d,S5s,b5⟩;have HX5:Hid (lcS w C s T bw sw w5∧isHo w5 C.ho s5.sl∧whS w4.heap.size w5.heap.size w5 s5):=⟨HW4.out.below b5,S5.now,S5w⟩
 have HD5:Hid (whD s5∧slSome s5.sl):=⟨S5d,S5s⟩
 have HB45:Hid (Below w4.heap.size w4 w5):=b5
 have HH4:Hid (isHo w4 T.ho sw∧isHo w4 C.ho s):=⟨HW4.out.t,HW4.out.h⟩
 have HZ5:Hid (bw<w4.heap.size∧w.heap.size<w4.heap.size∧w4.heap.size≤w5.heap.size):=⟨HW4.out.q.lt,HW4.out.p.lt,b5.size⟩
 clear S5 S5w S5d S5s b5;have HN5a:Hid (blk (World.setCells (w5.alloc (.cells [.int .i64 0,.int .i64 0,.int .i64 0,.bool false,.bool false,.bool false,.bool false,.bool false,.int .i64 0,.int .i64 0,.int .i64 0,.int .i64 0,.int .i64 0,.int .i64 0,.int .i64 0,.slice none 0 0,.slice none 0 0,.slice none 0 0,.slice none 0 0,.int .i64 0,.int .i64 0].toArray 41)) w5.heap.size 0 (coL C s5.sl)) w5.heap.size (coL C s5.sl) 41∧Below w5.heap.size w5 (World.setCells (w5.alloc (.cells [.int .i64 0,.int .i64 0,.int .i64 0,.bool false,.bool false,.bool false,.bool false,.bool false,.int .i64 0,.int .i64 0,.int .i64 0,.int .i64 0,.int .i64 0,.int .i64 0,.int .i64 0,.slice none 0 0,.slice none 0 0,.slice none 0 0,.slice none 0 0,.int .i64 0,.int .i64 0].toArray 41)) w5.heap.size 0 (coL C s5.sl))):=new_coreS _ (coL_len _ _)
 have HN5b:Hid (blk (w5.alloc (.cells [.int .i64 0,.int .i64 0,.int .i64 0,.bool false,.bool false,.bool false,.bool false,.bool false,.int .i64 0,.int .i64 0,.int .i64 0,.int .i64 0,.int .i64 0,.int .i64 0,.int .i64 0,.slice none 0 0,.slice none 0 0,.slice none 0 0,.slice none 0 0,.int .i64 0,.int .i64 0].toArray 41)) w5.heap.size [.int .i64 0,.int .i64 0,.int .i64 0,.bool false,.bool false,.bool false,.bool false,.bool false,.int .i64 0,.int .i64 0,.int .i64 0,.int .i64 0,.int .i64 0,.int .i64 0,.int .i64 0,.slice none 0 0,.slice none 0 0,.slice none 0 0,.slice none 0 0,.int .i64 0,.int .i64 0] 41):=blk.new w5 _ 41
 go_wp2_with (first | (refine wpList_store_mid (P:=Tryz.prog) rfl 41 _ _ rfl w5.heap.size 0 (coL C s5.sl).toArray rfl rfl (HN5b.out.there 0 _ (by rw[List.size_toArray,coL_len];decide)) (szC41A C s5.sl) (coL_one C s5.sl) ?_;generalize hW6:World.setCells (w5.alloc _) w5.heap.size 0 _=w6;have HX6:Hid (lcX w C s T bw sw w4 w5.heap.size w5.heap.size s5 w6):=(by rw[← hW6];exact⟨HX5.out.1.below HN5a.out.2,HN5a.out.1,HX5.out.2.1.below HN5a.out.2,HX5.out.2.2.same (fun x _ hx=>HN5a.out.2.block x hx),⟨HZ5.out.1,HZ5.out.2.1,HZ5.out.2.2,Nat.le_refl _⟩,HB45.out.trans (HN5a.out.2.mono HB45.out.size)⟩);clear hW6 HN5a HN5b) | (refine wpList_load_mid (P:=Tryz.prog) rfl 41 _ rfl w5.heap.size 0 rfl (coL C s5.sl) _ HX6.out.x.load Tryz.underlying41 rfl (szC41L C s5.sl) ?_))
 clear HX5 HZ5 HW4 HB45;generalize hT5:w5.heap.size=bx at *;clear hT5;refine (HI.out HLE.out w6 s5.sl HX6.out.xh HD5.out.2).mono ?_
 rintro o w7 ⟨sg,rfl,S7,M7,b7⟩;have HX7:Hid (lcX w C s T bw sw w4 bx bx s5 w7):=HX6.out.below b7
 have HG7:Hid (St w6.heap.size w7 (fun W=>isHo W T.ho sg)∧MKC w6.heap.size T sg w7∧w6.heap.size≤w7.heap.size∧bx<w6.heap.size):=⟨S7,M7,b7.size,HX6.out.x.lt⟩
 clear S7 M7 b7 HX6;have HN7a:Hid (blk (World.setCells (w7.alloc (.cells [.int .i64 0,.int .i64 0,.int .i64 0,.bool false,.bool false,.bool false,.bool false,.bool false,.int .i64 0,.int .i64 0,.int .i64 0,.int .i64 0,.int .i64 0,.int .i64 0,.int .i64 0,.slice none 0 0,.slice none 0 0,.slice none 0 0,.slice none 0 0,.int .i64 0,.int .i64 0].toArray 41)) w7.heap.size 0 (coL T sg)) w7.heap.size (coL T sg) 41∧Below w7.heap.size w7 (World.setCells (w7.alloc (.cells [.int .i64 0,.int .i64 0,.int .i64 0,.bool false,.bool false,.bool false,.bool false,.bool false,.int .i64 0,.int .i64 0,.int .i64 0,.int .i64 0,.int .i64 0,.int .i64 0,.int .i64 0,.slice none 0 0,.slice none 0 0,.slice none 0 0,.slice none 0 0,.int .i64 0,.int .i64 0].toArray 41)) w7.heap.size 0 (coL T sg))):=new_coreS _ (coL_len _ _)
 have HN7b:Hid (blk (w7.alloc (.cells [.int .i64 0,.int .i64 0,.int .i64 0,.bool false,.bool false,.bool false,.bool false,.bool false,.int .i64 0,.int .i64 0,.int .i64 0,.int .i64 0,.int .i64 0,.int .i64 0,.int .i64 0,.slice none 0 0,.slice none 0 0,.slice none 0 0,.slice none 0 0,.int .i64 0,.int .i64 0].toArray 41)) w7.heap.size [.int .i64 0,.int .i64 0,.int .i64 0,.bool false,.bool false,.bool false,.bool false,.bool false,.int .i64 0,.int .i64 0,.int .i64 0,.int .i64 0,.int .i64 0,.int .i64 0,.int .i64 0,.slice none 0 0,.slice none 0 0,.slice none 0 0,.slice none 0 0,.int .i64 0,.int .i64 0] 41):=blk.new w7 _ 41
 go_wp2_with (first
  | (refine wpList_store_mid (P:=Tryz.prog) rfl 41 _ _ rfl w7.heap.size 0 (coL T sg).toArray rfl rfl (HN7b.out.there 0 _ (by rw[List.size_toArray,coL_len];decide)) (szC41A T sg) (coL_one T sg) ?_;generalize hW8:World.setCells (w7.alloc _) w7.heap.size 0 _=w8;have HX8:Hid (lcX w C s T bw sw w4 bx bx s5 w8∧blk w8 w7.heap.size (coL T sg) 41∧Below w7.heap.size w7 w8):=(by rw[← hW8];exact⟨HX7.out.below HN7a.out.2,HN7a.out.1,HN7a.out.2⟩);clear hW8 HN7a HN7b)
  | (refine wpList_load_mid (P:=Tryz.prog) rfl 41 _ rfl w7.heap.size 0 rfl (coL T sg) _ HX8.out.2.1.load Tryz.underlying41 rfl (szC41L T sg) ?_)
  | (refine wpList_load_mid (P:=Tryz.prog) rfl 41 _ rfl bw 0 rfl (coL T sw) _ HX8.out.1.l.q.load Tryz.underlying41 rfl (szC41L T sw) ?_))
 have HG8:Hid (lcG w C s T bw sw w4 bx w6.heap.size w7 w7.heap.size sg w8):=⟨HX8.out.1.l,HX8.out.2.1,fun x h1 h2=>HX8.out.2.2.block x h2,⟨HG7.out.2.2.2,HG7.out.2.2.1,Nat.le_refl _⟩,⟨HX8.out.1.z.1,HX8.out.1.z.2.1,by have:=HX8.out.1.z;omega⟩,HX8.out.1.b4⟩
 have HX9:Hid (lcX w C s T bw sw w4 bx bx s5 w8):=HX8.out.1
 have HSM:Hid (St w6.heap.size w7 (fun W=>isHo W T.ho sg)∧MKC w6.heap.size T sg w7):=⟨HG7.out.1,HG7.out.2.1⟩
 clear HX8 HG7 HX7;generalize w6.heap.size=B6 at *;refine (HQ.out HLE.out w8 sg sw (HSM.out.1 w8 HG8.out.k) HG8.out.l.t).mono ?_
 rintro o w9 ⟨rfl,b9⟩;have HX10:Hid (lcX w C s T bw sw w4 bx bx s5 w9∧lcG w C s T bw sw w4 bx B6 w7 w7.heap.size sg w9):=⟨HX9.out.below b9,HG8.out.below b9⟩
 clear b9 HX9 HG8;generalize hbg:w7.heap.size=bg at *;have HBG:Hid (w7.heap.size=bg):=hbg
 clear hbg;go_wp2_with fail;refine wp_region_held (S:=fun W=>lcX w C s T bw sw w4 bx bx s5 W∧lcG w C s T bw sw w4 bx B6 w7 bg sg W) (by kernel_rfl) ?_
 have hS:lcX w C s T bw sw w4 bx bx s5 w9.drew∧lcG w C s T bw sw w4 bx B6 w7 bg sg w9.drew:=⟨HX10.out.1.below (Below.refl _ _).drew,HX10.out.2.below (Below.refl _ _).drew⟩
 clear HX10;change wpAnyH Tryz.prog _ _ _ _ _ _ _ w9.drew
 generalize w9.drew=w10 at *;refine wU 0 (.agg (coL C s5.sl).toArray) rfl (by kernel_rfl) (yieldsIf_load_mid (by rfl) 41 _ rfl bx 0 rfl (coL C s5.sl) _ (fun W h=>h.1.x.load) Tryz.underlying41 rfl (szC41L C s5.sl)) hS ?_ fun _ _ _ h=>h
 simp only[Act.put,aA,aB,aC,aD,aE]
 refine wU 1 (.agg (coL C s).toArray) rfl (by kernel_rfl) (yieldsIf_load_mid (by rfl) 31 _ rfl w.heap.size 0 rfl (coL C s) _ (fun W h=>h.1.l.p.load) Tryz.underlying31 rfl (szC31L C s)) hS ?_ fun _ _ _ h=>h
 simp only[Act.put,aA,aB,aC,aD,aE,aF];refine wpAnyH_all (rs:=[2]) (by kernel_rfl) (by simp) ?_
 refine AllReadyH.cons rfl (fun K2 hK2=>?_) AllReadyH.nil
 go_simp;refine (HT.out HLE.out _ hS.1.l.h).mono ?_
 rintro o w11 ⟨s11,rfl,S11,_,_,_,b11⟩;have HO11:Hid (isHo w11 C.ho s11.sl):=S11.now
 have hS11:lcX w C s T bw sw w4 bx bx s5 w11∧lcG w C s T bw sw w4 bx B6 w7 bg sg w11:=⟨hS.1.below b11,hS.2.below b11⟩
 clear S11 b11;go_wp2_with fail;refine hK2.out _ _ hS11 (fun hS2=>?_)
 clear hS hK2 K2 hS11;have hS:=hS2
 clear hS2;refine wpAnyH_all (rs:=[3]) (by kernel_rfl) (by simp) ?_
 refine AllReadyH.cons rfl (fun K2 hK2=>?_) AllReadyH.nil
 go_simp;refine (HQH.out HLE.out _ s5.sl s11.sl hS.1.xh HO11.out).mono ?_
 rintro o w12 ⟨rfl,b12⟩;have hS12:lcX w C s T bw sw w4 bx bx s5 w12∧lcG w C s T bw sw w4 bx B6 w7 bg sg w12:=⟨hS.1.below b12,hS.2.below b12⟩
 clear b12 HO11;go_wp2_with fail;refine hK2.out _ _ hS12 (fun hS2=>?_)
 clear hS hK2 K2 hS12;have hS:=hS2
 clear hS2;refine wV 4 (.bool false) rfl (by kernel_rfl) ?_ hS ?_ fun _ _ _ h=>h
 ·intro W hSw;clear hS;go_simp
 simp only[Act.put,aA,aB,aC,aD,aE,aF];refine wpAnyH_done (by kernel_rfl) ?_ _
 have HX12:Hid (lcX w C s T bw sw w4 bx bx s5 w12∧lcG w C s T bw sw w4 bx B6 w7 bg sg w12):=hS
 clear hS;go_wp2_with (first | (refine wpList_load_mid (P:=Tryz.prog) rfl 41 _ rfl bx 0 rfl (coL C s5.sl) _ HX12.out.1.x.load Tryz.underlying41 rfl (szC41L C s5.sl) ?_))
 have HMX:Hid (Calls Tryz.prog 13 #[.agg (coL C s5.sl).toArray,.int .i64 1] w12 fun o w1=>∃ k:Nat,o = .returned (.int .i64 (k:Int))∧(∀ x,bx≤x→x<w12.heap.size→w1.heap[x]?=w12.heap[x]?)∧Below w4.heap.size w12 w1):=xMarkC HX12.out.1.xw HD5.out.1 (Nat.le_of_lt HX12.out.1.x.lt) HX12.out.1.z.2.2.1
 refine (Calls.mono HMX.out) ?_
 rintro o w13 ⟨k,rfl,q1,q2⟩;have HG13:Hid (lcG w C s T bw sw w4 bx B6 w7 bg sg w13):=HX12.out.2.xmark HH4.out q2 q1
 clear q1 q2 HX12 HMX;have hk0:decide ((k:Int)<0)=false:=by simp
 go_wp2_with (first
  | (refine wpList_load_midG (by first | rfl | (simp[Region.wanted,yielded];done) | (simp[Region.wanted,yielded];omega)) 41 _ rfl bg 0 rfl (coL T sg) _ HG13.out.g.load Tryz.underlying41 rfl (szC41L T sg) ?_)
  | (refine wpList_load_midG (by first | rfl | (simp[Region.wanted,yielded];done) | (simp[Region.wanted,yielded];omega)) 41 _ rfl bw 0 rfl (coL T sw) _ HG13.out.l.q.load Tryz.underlying41 rfl (szC41L T sw) ?_))
 refine (HQ.out HLE.out w13 sg sw (HSM.out.1 w13 HG13.out.k) HG13.out.l.t).mono ?_
 rintro o w14 ⟨rfl,b14⟩;have HG14:Hid (lcG w C s T bw sw w4 bx B6 w7 bg sg w14):=HG13.out.below b14
 clear b14 HG13 hk0;go_wp2_with (first | (refine wpList_load_mid (P:=Tryz.prog) rfl 41 _ rfl bg 0 rfl (coL T sg) _ HG14.out.g.load Tryz.underlying41 rfl (szC41L T sg) ?_))
 have hzz:w7.heap.size≤w14.heap.size:=by have:=HG14.out.g.lt;have:=HG14.out.z;omega
 refine (HSM.out.2 w14 HG14.out.k hzz).mono ?_
 rintro o w15 ⟨m,rfl,b15,o15,c15⟩;have HL15:Hid (lcS w C s T bw sw w15):=HG14.out.gmark HH4.out b15
 have HV15:Hid (blk w15 bg (coL T sg) 41):=HG14.out.g.kept (o15 _ HG14.out.z.2.2 HG14.out.g.lt)
 have HC15:Hid (Calls Tryz.prog 14 #[.agg (coL T sg).toArray,.int .i64 1] w15 fun o w2=>o = .returned (.int .i64 (m:Int))∧Below w15.heap.size w15 w2):=c15 w15 (Below.refl _ _)
 clear b15 o15 c15 HG14 HSM hzz HH4;go_wp2_with (first | (refine wpList_load_mid (P:=Tryz.prog) rfl 41 _ rfl bg 0 rfl (coL T sg) _ HV15.out.load Tryz.underlying41 rfl (szC41L T sg) ?_))
 refine (Calls.mono HC15.out) ?_
 rintro o w16 ⟨rfl,b16⟩;have HL16:Hid (lcS w C s T bw sw w16):=HL15.out.below b16
 clear b16 HL15 HV15 HC15;have hm0:¬ (m:Int)<0:=by omega
 go_wp2_with (first | (refine wpList_load_mid (P:=Tryz.prog) rfl 31 _ rfl w.heap.size 0 rfl (coL C s) _ HL16.out.p.load Tryz.underlying31 rfl (szC31L C s) ?_))
 refine (HT.out HLE.out _ HL16.out.h).mono ?_
 rintro o w17 ⟨s17,rfl,S17,_,_,S17s,b17⟩;have HL17:Hid (lcS w C s T bw sw w17∧isHo w17 C.ho s17.sl∧slSome s17.sl):=⟨HL16.out.below b17,S17.now,S17s⟩
 clear S17 S17s b17 HL16;go_wp2_with fail;refine (HI.out HLE.out w17 s17.sl HL17.out.2.1 HL17.out.2.2).mono ?_
 rintro o w18 ⟨sh,rfl,S18,_,b18⟩;have HL18:Hid (lcS w C s T bw sw w18∧isHo w18 T.ho sh):=⟨HL17.out.1.below b18,S18.now⟩
 clear S18 b18 HL17;have HN18a:Hid (blk (World.setCells (w18.alloc (.cells [.int .i64 0,.int .i64 0,.int .i64 0,.bool false,.bool false,.bool false,.bool false,.bool false,.int .i64 0,.int .i64 0,.int .i64 0,.int .i64 0,.int .i64 0,.int .i64 0,.int .i64 0,.slice none 0 0,.slice none 0 0,.slice none 0 0,.slice none 0 0,.int .i64 0,.int .i64 0].toArray 41)) w18.heap.size 0 (coL T sh)) w18.heap.size (coL T sh) 41∧Below w18.heap.size w18 (World.setCells (w18.alloc (.cells [.int .i64 0,.int .i64 0,.int .i64 0,.bool false,.bool false,.bool false,.bool false,.bool false,.int .i64 0,.int .i64 0,.int .i64 0,.int .i64 0,.int .i64 0,.int .i64 0,.int .i64 0,.slice none 0 0,.slice none 0 0,.slice none 0 0,.slice none 0 0,.int .i64 0,.int .i64 0].toArray 41)) w18.heap.size 0 (coL T sh))):=new_coreS _ (coL_len _ _)
 have HN18b:Hid (blk (w18.alloc (.cells [.int .i64 0,.int .i64 0,.int .i64 0,.bool false,.bool false,.bool false,.bool false,.bool false,.int .i64 0,.int .i64 0,.int .i64 0,.int .i64 0,.int .i64 0,.int .i64 0,.int .i64 0,.slice none 0 0,.slice none 0 0,.slice none 0 0,.slice none 0 0,.int .i64 0,.int .i64 0].toArray 41)) w18.heap.size [.int .i64 0,.int .i64 0,.int .i64 0,.bool false,.bool false,.bool false,.bool false,.bool false,.int .i64 0,.int .i64 0,.int .i64 0,.int .i64 0,.int .i64 0,.int .i64 0,.int .i64 0,.slice none 0 0,.slice none 0 0,.slice none 0 0,.slice none 0 0,.int .i64 0,.int .i64 0] 41):=blk.new w18 _ 41
 go_wp2_with (first
  | (refine wpList_store_mid (P:=Tryz.prog) rfl 41 _ _ rfl w18.heap.size 0 (coL T sh).toArray rfl rfl (HN18b.out.there 0 _ (by rw[List.size_toArray,coL_len];decide)) (szC41A T sh) (coL_one T sh) ?_;generalize hW19:World.setCells (w18.alloc _) w18.heap.size 0 _=w19;have HL19:Hid (lcS w C s T bw sw w19∧isHo w19 T.ho sh∧blk w19 w18.heap.size (coL T sh) 41):=(by rw[← hW19];exact⟨HL18.out.1.below HN18a.out.2,HL18.out.2.below HN18a.out.2,HN18a.out.1⟩);clear hW19 HN18a HN18b)
  | (refine wpList_load_mid (P:=Tryz.prog) rfl 41 _ rfl bw 0 rfl (coL T sw) _ HL19.out.1.q.load Tryz.underlying41 rfl (szC41L T sw) ?_)
  | (refine wpList_load_mid (P:=Tryz.prog) rfl 41 _ rfl w18.heap.size 0 rfl (coL T sh) _ HL19.out.2.2.load Tryz.underlying41 rfl (szC41L T sh) ?_))
 refine (HQ.out HLE.out w19 sh sw HL19.out.2.1 HL19.out.1.t).mono ?_
 rintro o w20 ⟨rfl,b20⟩;have HL20:Hid (Below w.heap.size w w20):=(HL19.out.1.below b20).b
 clear b20 HL19 HL18;go_wp2_with fail;go_ret;exact⟨rfl,HL20.out⟩
end Go.Proofs.YtkfcfigbgmbaiaaGreat
