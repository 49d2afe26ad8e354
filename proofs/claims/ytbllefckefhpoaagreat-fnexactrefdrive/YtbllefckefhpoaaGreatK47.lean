import Derived.Test.YtbllefckefhpoaaGreatK46
import Derived.Test.YtbllefckefhpoaaGreatK44
import Derived.Test.YtbllefckefhpoaaGreatK34
namespace Go.Proofs.YtbllefckefhpoaaGreat
open Go.RowKit
set_option linter.unusedVariables false
set_option maxHeartbeats 16000000
open Go.Value renaming int→I,slice→sL,bool→bO,pointer→pT,agg→aG
open Go.IntKind renaming i64→J
open Go.Ending renaming returned→rT
open Go.Proofs.Tryz renaming prog→Tp
variable {w0 : World} {M : Nat} {G : Lg} {f1 f3 nm : Nat} {V : World} {C : Co} {W : World}
theorem jnC_rdC (hok:okM C) (hp:C.p=0) {r:Int} (hr:0≤r):msB C=false∧jnC C r=rdC C r:=by
 have ht:C.tx=false:=by
  cases e:C.tx
  ·rfl
  ·exact absurd hp (hok.tx e).2
 have hm:msB C=false:=by unfold msB;rw[ht];rfl
 have hc:C.ct=0:=by
  have h1:=hok.ct
  rw[hp] at h1
  have h2:rLo 0=0∧rHi 0=0:=by decide
  omega
 refine⟨hm,?_⟩
 unfold jnC rdC
 rw[hm,if_pos (by simpa using hr),if_pos ⟨hp,hr⟩,hc]
set_option maxRecDepth 20000 in
theorem mr.begin_no (h:mr w0 M G f1 f3 nm V C W) (hok:okBxs C.ho.st C.ho.bx) (r:Int) (hr:bestR C.ho.bx r) (p0:Bool) (e0:(C.p == 0)=p0) (hn:p0=true→decide (0≤r)=false) :
  Calls Tp 262 #[pT (some ⟨M,0,none⟩)] W fun o w'=>o = rT (bO false)∧mr w0 M G f1 f3 nm V C w':=by
 have HB:Hid (Calls Tp 196 #[pT (some ⟨G.P,0,none⟩)] W fun o w'=>o = rT (I J r)∧mr w0 M G f1 f3 nm V C w'):=h.best hok r hr
 have H0:=hidYY h
 have y0:=h.x.m.cell 0 (pT (some ⟨G.P,0,none⟩)) rfl
 have y3:=h.x.m.cell 3 (I J C.p) rfl
 clear h hok hr;cases p0
 ·go_enter Tryz.func262,Tryz.ntmps262
  go_wp2_with fail;go_ret;exact⟨rfl,H0.out⟩
 ·have hr0:=hn rfl
  clear hn;go_enter Tryz.func262,Tryz.ntmps262
  go_wp2_with fail;refine HB.out.mono ?_
  rintro o w1 ⟨rfl,h1⟩;have H1:=hidYY h1
  clear h1 HB y0 y3;go_wp2_with fail;go_ret;exact⟨rfl,H1.out⟩
theorem mr.begin_any (h:mr w0 M G f1 f3 nm V C W) (hok:okCo C) (r:Int) (hr:bestR C.ho.bx r) :
  Calls Tp 262 #[pT (some ⟨M,0,none⟩)] W fun o w'=>∃ b,o = rT (bO b)∧mr w0 M G f1 f3 nm V (rdC C r) w':=by
 by_cases c:C.p=0∧0≤r
 ·have e:=jnC_rdC hok.m c.1 c.2
  rw[← e.2]
  exact (h.begin_yes c.1 hok.h.bx r hr (by simpa using c.2) e.1).mono fun o w' ⟨h1,h2⟩=>⟨true,h1,h2⟩
 ·have e:rdC C r=C:=by unfold rdC;rw[if_neg c]
  rw[e]
  refine (h.begin_no hok.h.bx r hr (C.p == 0) rfl fun hp=>?_).mono fun o w' ⟨h1,h2⟩=>⟨false,h1,h2⟩
  have:C.p=0:=by simpa using hp
  rw[decide_eq_false_iff_not]
  exact fun x=>c ⟨this,x⟩
theorem mr.level (h:mr w0 M G f1 f3 nm V C W) (R:Nat) (hd:ByteArray) (vc vf:Nat) (vd vo:Bool) (hR:blk W R [pT (some ⟨M,0,none⟩),.string hd] 96)
  (hj:∀ W,Calls Tp 79 #[.string hd] W fun o w'=>o = rT (aG #[I J (vc:Int),I J (vf:Int),bO vd,bO vo])∧Below W.heap.size W w')
  (hl:(C.p=1∧C.tx=true)→wrP C.ho.bx∧∃ h:hd.size<(imgC C).size,(imgC C)[hd.size].toNat=xR C hd) (hx:xR C hd=48∨xR C hd=49) :
  Calls Tp 263 #[pT (some ⟨R,0,none⟩)] W fun o w'=>o = rT (I J (lvC C hd vf vo))∧mr w0 M G f1 f3 nm V C w':=by
 have y0:=hR.cell 0 (pT (some ⟨M,0,none⟩)) rfl
 have y1:=hR.cell 1 (.string hd) rfl
 have x0:=h.x.m.cell 0 (pT (some ⟨G.P,0,none⟩)) rfl
 have y3:=h.x.m.cell 3 (I J C.p) rfl
 have y6:=h.x.m.cell 6 (bO C.wk) rfl
 have y9:=h.x.m.cell 9 (bO C.tx) rfl
 by_cases hp:C.p=1
 ·have e2:(C.p == 2)=false:=by rw[hp];rfl
  have e1:(C.p == 1)=true:=by rw[hp];rfl
  rw[hp] at y3
  cases ht:C.tx
  ·rw[ht] at y9
   refine (dl_hear W M R hd vc vf vd vo _ hj rfl y0 y1 y3 y9).mono ?_
   rintro o w' ⟨rfl,h2⟩;refine⟨?_,h.below h2⟩
   unfold lvC lvZ
   rw[e1,e2,ht]
   rfl
  ·rw[ht] at y9
   obtain⟨hw,hlt,hb⟩:=hl ⟨hp,ht⟩
   have hk:=wrP_on hw
   refine (dl_send W M R G.P hd _ _ _ _ _ (imgC C) (imgC_at C hk).symm (xR C hd) hx (fun w=>?_) y0 y1 x0 y3 y9 (fun Y hY=>?_)).mono ?_
   ·rw[run_index_string w 9 (imgC C) .i64 (hd.size:Int) (by kernel_rfl),dif_pos (by omega)]
    simp only[Int.toNat_natCast,hb]
   ·obtain⟨hs,D,hc⟩:=(h.below hY).x
    exact sending_any Y G.P G.gb G.n2 G.kb C.ho.bx _ hk (hc.h.p.cell 5 _ rfl) (hc.h.x.is hc.h.bd.nk) hc.h.bd.m2 (fun z hz=>(bsy_onI hz hw).1)
   rintro o w' ⟨rfl,h2⟩;refine⟨?_,h.below h2⟩
   unfold lvC lvZ
   rw[e1,e2,ht]
   rfl
 ·have e1:(C.p == 1)=false:=by simpa using hp
  refine (dl_rest W M R C.p C.tx (C.p == 2) C.wk e1 rfl y0 y3 y9 y6).mono ?_
  rintro o w' ⟨rfl,rfl⟩;refine⟨?_,h⟩
  unfold lvC lvZ
  rw[e1]
  rfl
set_option maxRecDepth 20000 in
theorem mr.drive (h:mr w0 M G f1 f3 nm V C W) (R:Nat) (hd:ByteArray) (vc vf:Nat) (vd vo:Bool) (hR:blk W R [pT (some ⟨M,0,none⟩),.string hd] 96) (hV:blk V R [pT (some ⟨M,0,none⟩),.string hd] 96) (hRM:R≠M∧R≠G.gb)
  (hj:∀ W,Calls Tp 79 #[.string hd] W fun o w'=>o = rT (aG #[I J (vc:Int),I J (vf:Int),bO vd,bO vo])∧Below W.heap.size W w')
  (hok:okRf C hd vc) (r:Int) (hr:bestR C.ho.bx r) :
  Calls Tp 261 #[pT (some ⟨R,0,none⟩)] W fun o w'=>o = rT (I J (lvC (rdC C r) hd vf vo))∧mr w0 M G f1 f3 nm V (rdC C r) w':=by
 have HB:=hidYY (h.begin_any hok.1 r hr)
 have y0:=hR.cell 0 (pT (some ⟨M,0,none⟩)) rfl
 have hl:=rd_lev hok hr
 have HL:Hid (∀ X,mr w0 M G f1 f3 nm V (rdC C r) X→Calls Tp 263 #[pT (some ⟨R,0,none⟩)] X fun o w'=>o = rT (I J (lvC (rdC C r) hd vf vo))∧mr w0 M G f1 f3 nm V (rdC C r) w'):=fun X hX=>hX.level R hd vc vf vd vo (hV.kept (hX.k R hRM.1 hRM.2 hV.lt)) hj hl.1 hl.2
 clear h hR hV hRM hj hok hr hl;generalize lvC (rdC C r) hd vf vo=lv at *;go_enter Tryz.func261,Tryz.ntmps261
 go_wp2_with fail;refine HB.out.mono ?_
 rintro o w1 ⟨b,rfl,h1⟩;have H1:=hidYY h1
 clear h1 HB y0;go_wp2_with fail;refine (HL.out _ H1.out).mono ?_
 rintro o w2 ⟨rfl,h2⟩;have H2:=hidYY h2
 clear h2 HL H1;go_wp2_with fail;go_ret;exact⟨rfl,H2.out⟩
theorem empty_iff (hd:ByteArray):hd.toList.isEmpty=true↔hd.size=0:=by
 rw[List.isEmpty_iff_length_eq_zero,Go.Lib.toList_data,← Go.Lib.size_eq]
theorem mx.holds {w0:World} {M:Nat} {G:Lg} {f1 f3 nm:Nat} {C:Co} {W:World} (h:mx w0 M G f1 f3 nm C W) (hok:okCo C) (R:Nat) (hd:ByteArray) (vc vf:Nat) (vd vo:Bool) (hR:blk W R [pT (some ⟨M,0,none⟩),.string hd] 96)
  (hj:∀ W,Calls Tp 79 #[.string hd] W fun o w'=>o = rT (aG #[I J (vc:Int),I J (vf:Int),bO vd,bO vo])∧Below W.heap.size W w') :
  Calls Tp 37 #[pT (some ⟨R,0,none⟩)] W fun o w'=>retB o (hkP C hd vc)∧Below W.heap.size W w':=by
 have y0:=hR.cell 0 (pT (some ⟨M,0,none⟩)) rfl
 have y1:=hR.cell 1 (.string hd) rfl
 have x0:=h.m.cell 0 (pT (some ⟨G.P,0,none⟩)) rfl
 have y3:=h.m.cell 3 (I J C.p) rfl
 have y9:=h.m.cell 9 (bO C.tx) rfl
 have he:=empty_iff hd
 by_cases hp:C.p=1
 ·rw[hp] at y3
  cases ht:C.tx
  ·rw[ht] at y9
   refine (holds_hear W M R hd _ vc vf vd vo _ hj rfl rfl y0 y1 y3 y9).mono ?_
   rintro o w' ⟨rfl,h2⟩;refine⟨⟨_,rfl,?_⟩,h2⟩
   unfold hkP
   rw[if_pos hp,if_neg (by rw[ht];decide),ne_eq,← not_congr he]
   simp
  ·rw[ht] at y9
   have hw:=hok.s.1 ⟨hp,ht⟩
   have hk:=wrP_on hw
   have hz:=imgC_size C hok hw
   refine (holds_send W M R G.P hd _ _ _ _ _ (imgC C) (imgC_at C hk).symm hz.1 hz.2.1 (decide (hd.size<(ackB (imgC C)).size)) _ (by simp) rfl y0 y1 x0 y3 y9 (fun Y hY=>?_)).mono ?_
   ·obtain⟨hs,D,hc⟩:=h.below hY
    exact sending_any Y G.P G.gb G.n2 G.kb C.ho.bx _ hk (hc.h.p.cell 5 _ rfl) (hc.h.x.is hc.h.bd.nk) hc.h.bd.m2 (fun z hz=>(bsy_onI hz hw).1)
   rintro o w' ⟨rfl,h2⟩;refine⟨⟨_,rfl,?_⟩,h2⟩
   unfold hkP
   rw[if_pos hp,if_pos ht,imB_ack _ _ hz.1]
   simp
 ·refine (holds_no W M R C.p C.tx hd _ (by simpa using hp) rfl y0 y1 y3 y9).mono ?_
  rintro o w' ⟨rfl,rfl⟩;refine⟨⟨_,rfl,?_⟩,Below.refl _ _⟩
  unfold hkP
  rw[if_neg hp]
  exact he
def opR (w:World) (C:Co) (hd:ByteArray) (R:Nat) (w':World):Prop:=∃ (w0:World) (M:Nat) (G:Lg) (nm:Nat),mx w0 M G 0 0 nm C w'∧Below w.heap.size w w0∧blk w' R [pT (some ⟨M,0,none⟩),.string hd] 96∧R≠M∧R≠G.gb
theorem opR.below {w:World} {C:Co} {hd:ByteArray} {R:Nat} {w' w2:World} (h:opR w C hd R w') (hb:Below w'.heap.size w' w2):opR w C hd R w2:=by
 obtain⟨w0,M,G,nm,h1,h2,h3,h4⟩:=h
 exact⟨w0,M,G,nm,h1.below hb,h2,h3.below hb,h4⟩
theorem opR.since {w:World} {C:Co} {hd:ByteArray} {R:Nat} {w':World} (h:opR w C hd R w'):Below w.heap.size w w':=by
 obtain⟨w0,M,G,nm,⟨_,_,h1⟩,h2,h3,h4⟩:=h
 exact h2.trans (h1.h.b.mono h2.size)
set_option maxRecDepth 20000 in
theorem openRef_ok (w:World) (C:Co) (s:Sl) (hd:ByteArray) (vc vf:Nat) (vd vo:Bool) (hj:∀ W,Calls Tp 79 #[.string hd] W fun o w'=>o = rT (aG #[I J (vc:Int),I J (vf:Int),bO vd,bO vo])∧Below W.heap.size W w') (h:isHo w C.ho s) (hs:slSome s) (hok:okCo C) (hm:C.ho.le 1048576) :
  Calls Tp 19 #[aG (rfL C s hd).toArray] w fun o w'=>∃ R b,o = rT (.tuple #[pT (some ⟨R,0,none⟩),bO b])∧(b=true↔hkP C hd vc)∧opR w C hd R w':=by
 have H0:Hid (blk (w.alloc (.cells (rfL C s hd).toArray 45)) w.heap.size (rfL C s hd) 45∧Below w.heap.size w (w.alloc (.cells (rfL C s hd).toArray 45))):=⟨blk.new w _ 45,(Below.refl _ _).alloc (Nat.le_refl _) _⟩
 have HV:Hid (∀ X,Below w.heap.size w X→Calls Tp 35 #[aG (coL C s).toArray] X fun o w'=>o = rT (bO true)∧Below X.heap.size X w'):=fun X hX=>(validCore_any X C s (h.below hX) hm).mono fun o w' ⟨⟨b,h1,h2⟩,h3⟩=>⟨by rw[h1,h2.2 hok],h3⟩
 have HO:Hid (∀ X,Below w.heap.size w X→Calls Tp 36 #[aG (coL C s).toArray] X fun o w'=>∃ M,o = rT (pT (some ⟨M,0,none⟩))∧opn X C M w'):=fun X hX=>openM X C s (h.below hX) hs hok hm
 have HOK:=hidYY hok
 have HJ:=hidYY hj
 clear h hs hok hm hj;obtain⟨v0,hv0⟩ : ∃ v0,v0=w.alloc (.cells (rfL C s hd).toArray 45):=⟨_,rfl⟩
 rw[← hv0] at H0
 go_enter Tryz.func19,Tryz.ntmps19
 go_upto_region 1 with fail
 rw[← hv0]
 clear hv0;go_wp2_with (first | (refine wpList_load_mid (P:=Tp) rfl 43 _ rfl w.heap.size 0 rfl (coL C s) _ (rfL_core H0.out.1) Tryz.underlying43 rfl (szC41L C s) ?_))
 refine (HV.out _ H0.out.2).mono ?_
 rintro o w1 ⟨rfl,hb1⟩;have H1:=hidX (And.intro (H0.out.1.below hb1) (H0.out.2.trans (hb1.mono H0.out.2.size)))
 clear hb1 H0 HV;go_wp2_with fail;refine wp_region_held (S:=fun X=>blk X w.heap.size (rfL C s hd) 45) (by kernel_rfl) ?_
 have hS:blk (World.drew w1) w.heap.size (rfL C s hd) 45:=H1.out.1.below (Below.refl _ _).drew
 have HB1:Hid (Below w.heap.size w (World.drew w1)):=H1.out.2.drew
 clear H1;change wpAnyH Tp _ _ _ _ _ _ _ (World.drew w1)
 generalize World.drew w1=v0 at *;refine wV 0 (pT (some ⟨w.heap.size,0,none⟩)) ?_ hS ?_
 ·intro W hSw;clear hS;go_simp
 simp only[Act.put,aA,aB,aC,aD,aE]
 refine wU 1 (aG (coL C s).toArray) rfl (yieldsIf_load_mid (by rfl) 43 _ rfl w.heap.size 0 rfl (coL C s) _ (fun X h=>rfL_core h) Tryz.underlying43 rfl (szC41L C s)) hS ?_
 simp only[aZ];refine wV 3 (pT (some ⟨w.heap.size,21,none⟩)) ?_ hS ?_
 ·intro W hSw;clear hS;go_simp
 simp only[aZ];refine wV 4 (.string hd) ?_ hS ?_
 ·intro W hSw;clear hS;have y:=hSw.cell 21 (.string hd) rfl
  go_simp
 simp only[aZ];refine wpAnyH_all (rs:=[2]) (by kernel_rfl) (by simp) ?_
 refine AllReadyH.cons rfl (fun K2 hK2=>?_) AllReadyH.nil
 go_simp;refine (HO.out v0 HB1.out).mono ?_
 rintro o w2 ⟨M,rfl,hq⟩;have H2:=hidX hq
 have hS2:blk w2 w.heap.size (rfL C s hd) 45:=by obtain⟨_,_,_,_,_,_,_,hb⟩:=hq;exact hS.below hb
 clear hq;go_wp2_with fail;refine hK2.out _ _ hS2 (fun hS3=>?_)
 clear hK2 K2 hS2 hS;have hS:=hS3
 clear hS3;refine wV 5 (aG #[pT (some ⟨M,0,none⟩),.string hd]) ?_ hS ?_
 ·intro W hSw;clear hS;go_simp
 simp only[aZ];refine wpAnyH_all (rs:=[6]) (by kernel_rfl) (by simp) ?_
 refine AllReadyH.cons rfl (fun K2 hK2=>?_) AllReadyH.nil
 go_simp;have hS5:blk (w2.alloc (.cells #[pT (some ⟨M,0,none⟩),.string hd] 96)) w.heap.size (rfL C s hd) 45:=hS.alloc _
 refine hK2.out _ _ hS5 (fun hS3=>?_)
 clear hK2 K2 hS5 hS;have hS:=hS3
 clear hS3;have H3:Hid (opR w C hd w2.heap.size (w2.alloc (.cells #[pT (some ⟨M,0,none⟩),.string hd] 96))):=by
  obtain⟨w0,G,nm,h1,h2,h3,h4,h5⟩:=H2.out
  have hb:Below w2.heap.size w2 (w2.alloc (.cells #[pT (some ⟨M,0,none⟩),.string hd] 96)):=(Below.refl _ _).alloc (Nat.le_refl _) _
  exact⟨w0,M,G,nm,h1.below hb,HB1.out.trans (h2.mono HB1.out.size),blk.new w2 [pT (some ⟨M,0,none⟩),.string hd] 96,by omega,by omega⟩
 have HM:Hid (Calls Tp 37 #[pT (some ⟨w2.heap.size,0,none⟩)] (w2.alloc (.cells #[pT (some ⟨M,0,none⟩),.string hd] 96)) fun o w'=>retB o (hkP C hd vc)∧Below (w2.alloc (.cells #[pT (some ⟨M,0,none⟩),.string hd] 96)).heap.size (w2.alloc (.cells #[pT (some ⟨M,0,none⟩),.string hd] 96)) w'):=by
  obtain⟨w0,G,nm,h1,h2,h3,h4,h5⟩:=H2.out
  have hb:Below w2.heap.size w2 (w2.alloc (.cells #[pT (some ⟨M,0,none⟩),.string hd] 96)):=(Below.refl _ _).alloc (Nat.le_refl _) _
  exact (h1.below hb).holds HOK.out w2.heap.size hd vc vf vd vo (blk.new w2 _ 96) HJ.out
 clear H2 HO HJ HOK;generalize w2.alloc (.cells #[pT (some ⟨M,0,none⟩),.string hd] 96)=v3 at *;refine wV 7 (pT (some ⟨w2.heap.size,0,none⟩)) ?_ hS ?_
 ·intro W hSw;clear hS;go_simp
 simp only[aZ];refine wpAnyH_done (by kernel_rfl) ?_ _
 clear hS;go_wp2_with fail;refine HM.out.mono ?_
 rintro o w4 ⟨⟨b,rfl,hb⟩,hb4⟩;have H4:=hidYY (And.intro hb (H3.out.below hb4))
 clear hb hb4 H3;go_wp2_with fail;refine bodyPost_ret (v:=.tuple #[pT (some ⟨w2.heap.size,0,none⟩),bO b]) (by simp[results,Tryz.results19,go_sem]) rfl ?_
 exact⟨_,b,rfl,H4.out.1,H4.out.2⟩
set_option maxRecDepth 20000 in
theorem openRef_bad (w:World) (C:Co) (s:Sl) (hd:ByteArray) (h:isHo w C.ho s) (hok:¬ okCo C) (hm:C.ho.le 1048576) :
  Calls Tp 19 #[aG (rfL C s hd).toArray] w fun o w'=>o = rT (.tuple #[.pointer none,bO false])∧Below w.heap.size w w':=by
 have H0:Hid (blk (w.alloc (.cells (rfL C s hd).toArray 45)) w.heap.size (rfL C s hd) 45∧Below w.heap.size w (w.alloc (.cells (rfL C s hd).toArray 45))):=⟨blk.new w _ 45,(Below.refl _ _).alloc (Nat.le_refl _) _⟩
 have HV:Hid (∀ X,Below w.heap.size w X→Calls Tp 35 #[aG (coL C s).toArray] X fun o w'=>o = rT (bO false)∧Below X.heap.size X w'):=fun X hX=>(validCore_any X C s (h.below hX) hm).mono fun o w' ⟨⟨b,h1,h2⟩,h3⟩=>⟨by rw[h1];cases b;rfl;exact absurd (h2.1 rfl) hok,h3⟩
 clear h hok hm;obtain⟨v0,hv0⟩ : ∃ v0,v0=w.alloc (.cells (rfL C s hd).toArray 45):=⟨_,rfl⟩
 rw[← hv0] at H0
 go_enter Tryz.func19,Tryz.ntmps19
 go_upto_region 1 with fail
 rw[← hv0]
 clear hv0;go_wp2_with (first | (refine wpList_load_mid (P:=Tp) rfl 43 _ rfl w.heap.size 0 rfl (coL C s) _ (rfL_core H0.out.1) Tryz.underlying43 rfl (szC41L C s) ?_))
 refine (HV.out _ H0.out.2).mono ?_
 rintro o w1 ⟨rfl,hb1⟩;have H1:=hidX (H0.out.2.trans (hb1.mono H0.out.2.size))
 clear hb1 H0 HV;go_wp2_with fail;refine bodyPost_ret (v:=.tuple #[.pointer none,bO false]) (by simp[results,Tryz.results19,go_sem]) rfl ?_
 exact⟨rfl,H1.out⟩
theorem openRef_all (w:World) (C:Co) (s:Sl) (hd:ByteArray) (vc vf:Nat) (vd vo:Bool) (hj:∀ W,Calls Tp 79 #[.string hd] W fun o w'=>o = rT (aG #[I J (vc:Int),I J (vf:Int),bO vd,bO vo])∧Below W.heap.size W w') (h:isHo w C.ho s) (hs:slSome s) (hm:C.ho.le 1048576) :
  Calls Tp 19 #[aG (rfL C s hd).toArray] w fun o w'=>∃ p b,o = rT (.tuple #[.pointer p,bO b])∧(b=true↔okRf C hd vc)∧(b=true→∃ R,p=some ⟨R,0,none⟩∧opR w C hd R w')∧Below w.heap.size w w':=by
 by_cases hok:okCo C
 ·refine (openRef_ok w C s hd vc vf vd vo hj h hs hok hm).mono ?_
  rintro o w' ⟨R,b,rfl,h1,h2⟩;exact⟨_,b,rfl,h1.trans ⟨fun x=>⟨hok,x⟩,fun x=>x.2⟩,fun _=>⟨R,rfl,h2⟩,h2.since⟩
 ·refine (openRef_bad w C s hd h hok hm).mono ?_
  rintro o w' ⟨rfl,h1⟩;exact⟨_,false,rfl,⟨fun x=>(by cases x),fun x=>absurd x.1 hok⟩,fun x=>(by cases x),h1⟩
set_option maxRecDepth 20000 in
theorem account_t (W:World) (M R:Nat) (hd:ByteArray) (C:Co) (Q:Nat→Nat→Sl→World→Prop) (hQ:∀ B T s w1 w2,(∀ k,B≤k→k<T→w2.heap[k]?=w1.heap[k]?)→Q B T s w1→Q B T s w2) (hr:blk W R [pT (some ⟨M,0,none⟩),.string hd] 96) (ht:∀ X,Below W.heap.size W X→Calls Tp 80 #[pT (some ⟨M,0,none⟩)] X fun o w'=>∃ s',o = rT (aG (coL C s').toArray)∧Q X.heap.size w'.heap.size s' w'∧Below X.heap.size X w') :
  Calls Tp 38 #[.iface 61 (pT (some ⟨R,0,none⟩))] W fun o w'=>∃ s' B T,o = rT (aG (acL C s' hd).toArray)∧Q B T s' w'∧W.heap.size≤B∧T≤w'.heap.size∧Below W.heap.size W w':=by
 have HR:Hid (blk W R [pT (some ⟨M,0,none⟩),.string hd] 96):=hr
 have HT:Hid (∀ X,Below W.heap.size W X→Calls Tp 80 #[pT (some ⟨M,0,none⟩)] X fun o w'=>∃ s',o = rT (aG (coL C s').toArray)∧Q X.heap.size w'.heap.size s' w'∧Below X.heap.size X w'):=ht
 have HQ:=hidYY hQ
 clear hQ;have HA:Hid (Below W.heap.size W (W.alloc (.cells Z57.toArray 76))∧blk (W.alloc (.cells Z57.toArray 76)) W.heap.size Z57 76):=⟨(Below.refl _ _).alloc (Nat.le_refl _) _,blk.new W _ 76⟩
 obtain⟨V0,hV0⟩ : ∃ V0,V0=W.alloc (.cells Z57.toArray 76):=⟨_,rfl⟩
 rw[← hV0] at HA
 obtain⟨B0,hB0⟩ : ∃ B0,V0.heap.size=B0:=⟨_,rfl⟩
 have HB0:=hidYY hB0
 have HB1:Hid (W.heap.size<B0):=by rw[← hB0];exact HA.out.2.lt
 clear hB0;have y0:=(hr.below HA.out.1).cell 0 (pT (some ⟨M,0,none⟩)) rfl
 have hm:=meth_core V0 M R y0
 clear hr ht y0;go_enter Tryz.func38,Tryz.ntmps38
 go_upto_region 1 with fail
 change Code.wp _ _ _ _ (W.alloc (.cells Z57.toArray 76))
 rw[← hV0]
 clear hV0;go_wp2_with (first | (go_at_call 260;refine (core_any _ _).mono ?_;rintro o w1 ⟨rfl,rfl⟩))
 refine (HT.out _ HA.out.1).mono ?_
 rintro o w1 ⟨s1,rfl,hq1,hb1⟩;rw[HB0.out] at hq1
 have HQ1:Hid (Q B0 w1.heap.size s1 w1∧W.heap.size<B0):=⟨hq1,HB1.out⟩
 clear hq1 HB0 HB1;have H1:=(show Hid _ from And.intro (HA.out.1.trans (hb1.mono HA.out.1.size)) (HA.out.2.below hb1))
 clear hb1 HA HT hm;have H2:Hid (Below W.heap.size W (w1.alloc (.cells [I J 0,I J 0,I J 0,bO false,bO false,bO false,bO false,bO false,I J 0,I J 0,I J 0,I J 0,I J 0,I J 0,I J 0,sL none 0 0,sL none 0 0,sL none 0 0,sL none 0 0,I J 0,I J 0].toArray 43))∧blk (w1.alloc (.cells [I J 0,I J 0,I J 0,bO false,bO false,bO false,bO false,bO false,I J 0,I J 0,I J 0,I J 0,I J 0,I J 0,I J 0,sL none 0 0,sL none 0 0,sL none 0 0,sL none 0 0,I J 0,I J 0].toArray 43)) W.heap.size Z57 76∧blk (w1.alloc (.cells [I J 0,I J 0,I J 0,bO false,bO false,bO false,bO false,bO false,I J 0,I J 0,I J 0,I J 0,I J 0,I J 0,I J 0,sL none 0 0,sL none 0 0,sL none 0 0,sL none 0 0,I J 0,I J 0].toArray 43)) w1.heap.size Z21 43∧W.heap.size<w1.heap.size):=⟨H1.out.1.alloc H1.out.1.size _,H1.out.2.alloc _,blk.new w1 _ 43,H1.out.2.lt⟩
 clear H1;go_upto_region 2 with (first
  | (refine wpList_store_mid (P:=Tp) rfl 43 _ _ rfl w1.heap.size 0 (coL C s1).toArray rfl rfl (H2.out.2.2.1.there 0 _ (by rw[List.size_toArray,coL_len];decide)) (szC41A C s1) (coL_one C s1) ?_;generalize hW2:World.setCells _ w1.heap.size 0 _=w2;have HW2:Hid (_=w2):=hW2;clear hW2))
 have H3:Hid (Below W.heap.size W w2∧blk w2 W.heap.size Z57 76∧blk w2 w1.heap.size (coL C s1) 43∧W.heap.size<w1.heap.size∧blk w2 R [pT (some ⟨M,0,none⟩),.string hd] 96):=by
  have e:=HW2.out
  have hb:Below W.heap.size W w2:=by rw[← e];exact setCells_below (by have:=H2.out.2.2.2;omega) 0 _ H2.out.1
  refine⟨hb,?_,?_,H2.out.2.2.2,HR.out.below hb⟩
  ·rw[← e];exact H2.out.2.1.other (by have:=H2.out.2.2.2;omega) _ _
  ·rw[← e]
   have:=blk.put [] Z21 [] (coL C s1) (w:=w1.alloc (.cells [I J 0,I J 0,I J 0,bO false,bO false,bO false,bO false,bO false,I J 0,I J 0,I J 0,I J 0,I J 0,I J 0,I J 0,sL none 0 0,sL none 0 0,sL none 0 0,sL none 0 0,I J 0,I J 0].toArray 43)) (b:=w1.heap.size) (T:=43) (by simpa using H2.out.2.2.1) (by rw[coL_len];rfl)
   simpa using this
 have HQ2:Hid (Q B0 w1.heap.size s1 w2∧W.heap.size<B0∧w1.heap.size≤w2.heap.size):=by
  have e:=HW2.out
  have hb:Below w1.heap.size w1 w2:=by rw[← e];exact setCells_below (Nat.le_refl _) 0 _ ((Below.refl _ _).alloc (Nat.le_refl _) _)
  exact⟨HQ.out _ _ _ _ _ (fun k _ h2=>hb.block k h2) HQ1.out.1,HQ1.out.2,hb.size⟩
 clear H2 HW2 HR HQ1;have y1:=H3.out.2.2.2.2.cell 1 (.string hd) rfl
 have hta:=ta63 w2 ⟨R,0,none⟩
 go_wp2_with fail;refine wp_region_still_tail 7 (by kernel_rfl) (by kernel_rfl) ?_
 change wpStill Tp _ (World.drew w2) (fun a'=>wpList Tp _ _ _ a' (World.drew w2)) _ _
 have H4:Hid (Below W.heap.size W (World.drew w2)∧blk (World.drew w2) W.heap.size Z57 76∧blk (World.drew w2) w1.heap.size (coL C s1) 43):=⟨H3.out.1.drew,H3.out.2.1,H3.out.2.2.1⟩
 have y1:(World.drew w2).cell? ⟨R,1,none⟩=some (.string hd):=y1
 clear hta H3;have HQ3:Hid (Q B0 w1.heap.size s1 (World.drew w2)∧W.heap.size<B0∧w1.heap.size≤(World.drew w2).heap.size):=⟨HQ.out _ _ _ w2 (World.drew w2) (fun k _ _=>rfl) HQ2.out.1,HQ2.out.2⟩
 clear HQ2;generalize World.drew w2=w3 at *;simp only[List.take_succ_cons,List.take_zero,List.drop_succ_cons,List.drop_zero]
 refine wpStill_load_midX (by rfl) 43 _ rfl w1.heap.size 0 rfl (coL C s1) _ H4.out.2.2.load Tryz.underlying43 rfl (szC41L C s1) ?_
 simp only[Act.put]
 still_step
 still_step
 still_step
 still_step
 refine wpStill_build (by rfl) 45 _ rfl _ (by simp[go_sem]) _ (build43 w3 C s1 hd) ?_
 simp only[Act.put]
 refine wpStill_build (by rfl) 76 _ rfl _ (by simp[go_sem]) _ (build74 w3 C s1 hd) ?_
 simp only[Act.put]
 refine wpStill_nil ?_
 go_wp2_with (first
  | (refine wpList_store_mid (P:=Tp) rfl 76 _ _ rfl W.heap.size 0 (acL C s1 hd).toArray rfl rfl (H4.out.2.1.there 0 _ (by rw[List.size_toArray,acL_len];decide)) sz74 (acL_one C s1 hd) ?_;generalize hW8:World.setCells _ W.heap.size 0 _=w8;have HW8:Hid (_=w8):=hW8;clear hW8))
 have e8:=HW8.out
 have hF:blk w8 W.heap.size (acL C s1 hd) 76:=by
  rw[← e8]
  have:=blk.put [] Z57 [] (acL C s1 hd) (w:=w3) (b:=W.heap.size) (T:=76) (by simpa using H4.out.2.1) (by rw[acL_len];rfl)
  simpa using this
 have hL:=run_loadVar_mid (P:=Tp) w8 W.heap.size 0 76 _ _ hF.load Tryz.underlying76 rfl sz74
 refine bodyPost_ret (v:=aG (acL C s1 hd).toArray) (results_cell Tryz.results38 _ w8 W.heap.size _ rfl hL) rfl ?_
 refine⟨s1,rfl,B0,w1.heap.size,HQ.out _ _ _ _ _ (fun k h1 _=>?_) HQ3.out.1,by have:=HQ3.out.2.1;omega,?_,?_⟩
 ·rw[← e8];exact setCells_other _ k (by have:=HQ3.out.2.1;omega) _ _ _
 ·rw[← e8,setCells_size];exact HQ3.out.2.2
 ·rw[← e8];exact setCells_below (by omega) 0 _ H4.out.1
variable {w0 : World} {M : Nat} {G : Lg} {f1 f3 nm : Nat} {V : World} {C : Co} {W : World}
theorem mx.told (h:mx w0 M G f1 f3 nm C W):Calls Tp 80 #[pT (some ⟨M,0,none⟩)] W (toldC W C):=by
 obtain⟨_,_,h⟩:=h
 exact mtold_any W M G.P C h.m (fun Y hY=>(h.h.below hY).told)
def tlQ (C:Co) (B T:Nat) (s':Sl) (w:World):Prop:=∃ s4:Wh,s'=s4.sl∧(∀ W:World,(∀ k,B≤k→k<T→W.heap[k]?=w.heap[k]?)→isHo W C.ho s4.sl∧whS B T W s4)∧whD s4∧whE s4
theorem tlQ.keep {B T:Nat} {s':Sl} {w1 w2:World} (he:∀ k,B≤k→k<T→w2.heap[k]?=w1.heap[k]?) (h:tlQ C B T s' w1):tlQ C B T s' w2:=by
 obtain⟨s4,e,f,g⟩:=h
 exact⟨s4,e,fun W hW=>f W fun k a b=>(hW k a b).trans (he k a b),g⟩
theorem tlQ.told {X:World} {o:Ending} {w':World} (h:toldC X C o w'):∃ s',o = rT (aG (coL C s').toArray)∧tlQ C X.heap.size w'.heap.size s' w'∧Below X.heap.size X w':=by
 obtain⟨s4,e1,e2,e3,e4,e5,e6⟩:=h
 exact⟨s4.sl,e1,⟨s4,rfl,fun W hW=>⟨e2 W hW,e3.same hW⟩,e4,e5⟩,e6⟩
set_option maxRecDepth 20000 in
theorem driven_t {C':Co} (h:mx w0 M G f1 f3 nm C W) (R:Nat) (hd:ByteArray) (lv:Int) (hR:blk W R [pT (some ⟨M,0,none⟩),.string hd] 96) (hRM:R≠M∧R≠G.gb)
  (hdr:∀ X,Below W.heap.size W X→Calls Tp 261 #[pT (some ⟨R,0,none⟩)] X fun o w'=>o = rT (I J lv)∧mr w0 M G f1 f3 nm X C' w') :
  Calls Tp 20 #[.iface 61 (pT (some ⟨R,0,none⟩))] W fun o w'=>(∃ s' B T,o = rT (.tuple #[aG (acL C' s' hd).toArray,I J lv])∧tlQ C' B T s' w'∧W.heap.size≤B∧T≤w'.heap.size)∧Below w0.heap.size w0 w':=by
 have HA:Hid (Below W.heap.size W (W.alloc (.cells Z57.toArray 76))∧blk (W.alloc (.cells Z57.toArray 76)) W.heap.size Z57 76):=⟨(Below.refl _ _).alloc (Nat.le_refl _) _,blk.new W _ 76⟩
 have HD:=hidX (hdr _ HA.out.1)
 have hMl:=h.m.lt
 have hGl:G.gb<W.heap.size:=by obtain⟨_,_,hc⟩:=h;have:=hc.h.d.g;have:=hc.h.hi;omega
 have HL:Hid (M<W.heap.size∧G.gb<W.heap.size∧R<W.heap.size):=⟨hMl,hGl,hR.lt⟩
 have HRM:=hidX (And.intro hRM (hR.below HA.out.1))
 have HZ0:Hid (w0.heap.size≤W.heap.size):=by obtain⟨_,_,hc⟩:=h;exact hc.h.b.size
 obtain⟨V0,hV0⟩ : ∃ V0,V0=W.alloc (.cells Z57.toArray 76):=⟨_,rfl⟩
 rw[← hV0] at HA HD HRM
 have hm:=meth_drive V0 ⟨R,0,none⟩
 clear h hR hRM hdr hMl hGl;go_enter Tryz.func20,Tryz.ntmps20
 go_upto_region 1 with fail
 change Code.wp _ _ _ _ (W.alloc (.cells Z57.toArray 76))
 rw[← hV0]
 clear hV0;go_wp2_with fail;refine HD.out.mono ?_
 rintro o w1 ⟨rfl,h1⟩;have H1:=hidX h1
 have HC:Hid (Calls Tp 38 #[.iface 61 (pT (some ⟨R,0,none⟩))] w1 fun o w'=>∃ s' B T,o = rT (aG (acL C' s' hd).toArray)∧tlQ C' B T s' w'∧w1.heap.size≤B∧T≤w'.heap.size∧Below w1.heap.size w1 w'):=account_t w1 M R hd C' (tlQ C') (fun _ _ _ _ _ he h=>h.keep he) (HRM.out.2.kept (h1.k R HRM.out.1.1 HRM.out.1.2 HRM.out.2.lt)) fun X hX=>((h1.x.below hX).told).mono fun o w' h=>tlQ.told h
 have HZ1:Hid (W.heap.size<w1.heap.size):=Nat.lt_of_lt_of_le HA.out.2.lt h1.z
 have HZ:Hid (blk w1 W.heap.size Z57 76):=HA.out.2.kept (h1.k W.heap.size (by have:=HL.out;omega) (by have:=HL.out;omega) HA.out.2.lt)
 clear h1 HD hm;go_wp2_with fail;refine HC.out.mono ?_
 rintro o w2 ⟨s2,B2,T2,rfl,hq2,hB2,hT2,hb2⟩;have HQ2:Hid (tlQ C' B2 T2 s2 w2∧W.heap.size<B2∧T2≤w2.heap.size):=⟨hq2,Nat.lt_of_lt_of_le HZ1.out hB2,hT2⟩
 clear hq2 hB2 hT2 HZ1;have H2:=hidX (And.intro (H1.out.x.below hb2) (HZ.out.below hb2))
 clear hb2 HC HZ;go_wp2_with (first
  | (refine wpList_store_mid (P:=Tp) rfl 76 _ _ rfl W.heap.size 0 (acL C' s2 hd).toArray rfl rfl (H2.out.2.there 0 _ (by rw[List.size_toArray,acL_len];decide)) sz74 (acL_one C' s2 hd) ?_;generalize hW8:World.setCells _ W.heap.size 0 _=w8;have HW8:Hid (_=w8):=hW8;clear hW8))
 have e8:=HW8.out
 have hF:blk w8 W.heap.size (acL C' s2 hd) 76:=by
  rw[← e8]
  have:=blk.put [] Z57 [] (acL C' s2 hd) (w:=w2) (b:=W.heap.size) (T:=76) (by simpa using H2.out.2) (by rw[acL_len];rfl)
  simpa using this
 have hL:=run_loadVar_mid (P:=Tp) w8 W.heap.size 0 76 _ _ hF.load Tryz.underlying76 rfl sz74
 refine bodyPost_ret (results_cell_tmp Tryz.results20 _ w8 W.heap.size _ rfl hL) rfl ?_
 refine⟨⟨s2,rfl,B2,T2,HQ2.out.1.keep fun k h1 _=>?_,by have:=HQ2.out.2.1;omega,by rw[← e8,setCells_size];exact HQ2.out.2.2⟩,?_⟩
 ·rw[← e8];exact setCells_other _ k (by have:=HQ2.out.2.1;omega) _ _ _
 rw[← e8]
 obtain⟨_,_,hc⟩:=H2.out.1
 exact setCells_below HZ0.out 0 _ hc.h.b
theorem acL_ref {w:World} {b:Nat} {C:Co} {s:Sl} {hd:ByteArray} {T:TypeId} (h:blk w b (acL C s hd) T):w.rangeAt b 0 (rfL C s hd):=by
 have h':blk w b ([]++rfL C s hd++Z35) T:=h
 exact h'.loadAt [] (rfL C s hd) Z35
set_option maxRecDepth 20000 in
theorem implRD (w:World) (C:Co) (s:Sl) (hd:ByteArray) (vc vf:Nat) (vd vo:Bool) (r:Int) (h:isHo w C.ho s) (hs:slSome s) (hm:C.ho.le 1048576) (hj:∀ W,Calls Tp 79 #[.string hd] W fun o w'=>o = rT (aG #[I J (vc:Int),I J (vf:Int),bO vd,bO vo])∧Below W.heap.size W w') (hr:bestR C.ho.bx r) :
  Calls Tp 7 #[aG (rfL C s hd).toArray] w fun o w'=>∃ T s' hd' lv,o = rT (.tuple #[aG (rfL T s' hd').toArray,I J lv])∧rdRel C hd vc vf vo r T hd' lv∧(okRf C hd vc→∃ B E,tlQ T B E s' w'∧w.heap.size≤B∧E≤w'.heap.size)∧(¬ okRf C hd vc→s'=zSl)∧Below w.heap.size w w':=by
 have H0:Hid (blk ((w.alloc (.cells (rfL C s hd).toArray 45)).alloc (.cells Z22.toArray 45)) w.heap.size (rfL C s hd) 45∧blk ((w.alloc (.cells (rfL C s hd).toArray 45)).alloc (.cells Z22.toArray 45)) (w.heap.size+1) Z22 45∧Below w.heap.size w ((w.alloc (.cells (rfL C s hd).toArray 45)).alloc (.cells Z22.toArray 45))):=by
  refine⟨(blk.new w _ 45).alloc _,?_,((Below.refl _ _).alloc (Nat.le_refl _) _).alloc (by simp) _⟩
  have:=blk.new (w.alloc (.cells (rfL C s hd).toArray 45)) Z22 45
  simpa using this
 obtain⟨v0,hv0⟩ : ∃ v0,v0=(w.alloc (.cells (rfL C s hd).toArray 45)).alloc (.cells Z22.toArray 45):=⟨_,rfl⟩
 rw[← hv0] at H0
 have HO:=hidX (openRef_all v0 C s hd vc vf vd vo hj (h.below H0.out.2.2) hs hm)
 have HJ:=hidYY hj
 have HBR:=hidYY hr
 clear h hs hm hj hr;go_enter Tryz.func7,Tryz.ntmps7
 go_upto_region 1 with fail
 change Code.wp _ _ _ _ ((w.alloc (.cells (rfL C s hd).toArray 45)).alloc (.cells Z22.toArray 45))
 rw[← hv0]
 clear hv0;go_wp2_with (first | (refine wpList_load_mid (P:=Tp) rfl 45 _ rfl w.heap.size 0 rfl (rfL C s hd) _ H0.out.1.load Tryz.underlying45 rfl sz43 ?_))
 refine HO.out.mono ?_
 rintro o w1 ⟨p,b,rfl,hb,hR,hb1⟩;have HB:=hidYY hb
 have HR:=hidYY hR
 have HZ:Hid (blk w1 (w.heap.size+1) Z22 45∧Below w.heap.size w w1):=⟨H0.out.2.1.below hb1,H0.out.2.2.trans (hb1.mono H0.out.2.2.size)⟩
 clear hb hR hb1 HO;cases b
 ·clear HR HBR HJ;go_wp2_with (first
   | (refine wpList_store_mid (P:=Tp) rfl 45 _ _ rfl (w.heap.size+1) 0 Z22.toArray rfl rfl (HZ.out.1.there 0 _ (by decide)) sz43 (rfL_one zCo zSl ⟨#[]⟩) ?_;generalize hW8:World.setCells _ (w.heap.size+1) 0 _=w8;have HW8:Hid (_=w8):=hW8;clear hW8))
  have e8:=HW8.out
  have hF:blk w8 (w.heap.size+1) Z22 45:=by
   rw[← e8]
   have:=blk.put [] Z22 [] Z22 (w:=w1) (b:=w.heap.size+1) (T:=45) (by simpa using HZ.out.1) rfl
   simpa using this
  have hL:=run_loadVar_mid (P:=Tp) w8 (w.heap.size+1) 0 45 _ _ hF.load Tryz.underlying45 rfl sz43
  have hno:¬ okRf C hd vc:=fun x=>by have:=HB.out.2 x;cases this
  refine bodyPost_ret (v:=.tuple #[aG Z22.toArray,I J 1]) (results_cell_tmp Tryz.results7 _ w8 (w.heap.size+1) _ rfl hL) rfl ?_
  refine⟨zCo,zSl,⟨#[]⟩,1,by rw[zRf_L],Or.inr ⟨hno,rfl,rfl,rfl⟩,fun x=>absurd x hno,fun _=>rfl,?_⟩
  rw[← e8];exact setCells_below (by omega) 0 _ HZ.out.2
 have hok:okRf C hd vc:=HB.out.1 rfl
 obtain⟨R,rfl,w0,M,G,nm,h1,h2,h3,h4⟩:=HR.out rfl
 have HOK:=hidYY hok
 clear HB HR HZ hok;have H1:Hid (Below w.heap.size w w0∧blk w0 (w.heap.size+1) Z22 45):=⟨H0.out.2.2.trans (h2.mono H0.out.2.2.size),H0.out.2.1.below h2⟩
 have HDR:Hid (Calls Tp 20 #[.iface 61 (pT (some ⟨R,0,none⟩))] w1 fun o w'=>(∃ s' B T,o = rT (.tuple #[aG (acL (rdC C r) s' hd).toArray,I J (lvC (rdC C r) hd vf vo)])∧tlQ (rdC C r) B T s' w'∧w1.heap.size≤B∧T≤w'.heap.size)∧Below w0.heap.size w0 w'):=driven_t h1 R hd _ h3 h4 fun X hX=>(mr.new (h1.below hX)).drive R hd vc vf vd vo (h3.below hX) (h3.below hX) h4 HJ.out HOK.out r HBR.out
 have HW1:Hid (w0.heap.size≤w1.heap.size):=by obtain⟨_,_,hc⟩:=h1;exact hc.h.b.size
 have HRR:Hid (∀ lv,lv=lvC (rdC C r) hd vf vo→rdRel C hd vc vf vo r (rdC C r) hd lv):=fun lv e=>Or.inl ⟨HOK.out,rfl,rfl,e⟩
 clear h1 h2 h3 h4 H0 HJ HBR;generalize lvC (rdC C r) hd vf vo=lv at *;generalize rdC C r=C' at *;have hmk:(Instr.makeInterface 61 (pT (some ⟨R,0,none⟩))).run Tp w1 = .ok (.iface 61 (pT (some ⟨R,0,none⟩))) w1:=by kernel_rfl
 go_wp2_with fail;refine HDR.out.mono ?_
 rintro o w2 ⟨⟨s2,B2,T2,rfl,hq2,hB2,hT2⟩,hb2⟩;have HQ2:Hid (tlQ C' B2 T2 s2 w2∧w.heap.size+1<B2∧T2≤w2.heap.size):=⟨hq2,Nat.lt_of_lt_of_le H1.out.2.lt (Nat.le_trans HW1.out hB2),hT2⟩
 clear hq2 hB2 hT2 HW1;have H2:Hid (Below w.heap.size w w2∧blk w2 (w.heap.size+1) Z22 45):=⟨H1.out.1.trans (hb2.mono H1.out.1.size),H1.out.2.below hb2⟩
 clear hb2 HDR H1 hmk;have H3:Hid (Below w.heap.size w (w2.alloc (.cells Z57.toArray 76))∧blk (w2.alloc (.cells Z57.toArray 76)) (w.heap.size+1) Z22 45∧blk (w2.alloc (.cells Z57.toArray 76)) w2.heap.size Z57 76∧w.heap.size+1<w2.heap.size):=⟨H2.out.1.alloc H2.out.1.size _,H2.out.2.alloc _,blk.new w2 _ 76,H2.out.2.lt⟩
 clear H2;go_upto_region 5 with (first
  | (refine wpList_store_mid (P:=Tp) rfl 76 _ _ rfl w2.heap.size 0 (acL C' s2 hd).toArray rfl rfl (H3.out.2.2.1.there 0 _ (by rw[List.size_toArray,acL_len];decide)) sz74 (acL_one C' s2 hd) ?_;generalize hW4:World.setCells _ w2.heap.size 0 _=w4;have HW4:Hid (_=w4):=hW4;clear hW4))
 have H4:Hid (Below w.heap.size w w4∧blk w4 (w.heap.size+1) Z22 45∧blk w4 w2.heap.size (acL C' s2 hd) 76):=by
  have e:(w2.alloc (.cells Z57.toArray 76)).setCells w2.heap.size 0 (acL C' s2 hd)=w4:=HW4.out
  refine⟨?_,?_,?_⟩
  ·rw[← e];exact setCells_below (by have:=H3.out.2.2.2;omega) 0 _ H3.out.1
  ·rw[← e];exact H3.out.2.1.other (by have:=H3.out.2.2.2;omega) _ _
  ·rw[← e]
   have:=blk.put [] Z57 [] (acL C' s2 hd) (w:=w2.alloc (.cells Z57.toArray 76)) (b:=w2.heap.size) (T:=76) (by simpa using H3.out.2.2.1) (by rw[acL_len];rfl)
   simpa using this
 have HQ4:Hid (tlQ C' B2 T2 s2 w4∧w.heap.size+1<B2∧T2≤w4.heap.size):=by
  have e:(w2.alloc (.cells Z57.toArray 76)).setCells w2.heap.size 0 (acL C' s2 hd)=w4:=HW4.out
  have hb:Below w2.heap.size w2 w4:=by rw[← e];exact setCells_below (Nat.le_refl _) 0 _ ((Below.refl _ _).alloc (Nat.le_refl _) _)
  exact⟨HQ2.out.1.keep fun k _ h2=>hb.block k (by have:=HQ2.out.2.2;omega),HQ2.out.2.1,Nat.le_trans HQ2.out.2.2 hb.size⟩
 clear H3 HW4 HQ2;go_wp2_with (first
  | (refine wpList_load_mid (P:=Tp) rfl 45 _ rfl w2.heap.size 0 rfl (rfL C' s2 hd) _ (acL_ref H4.out.2.2) Tryz.underlying45 rfl sz43 ?_)
  | (refine wpList_store_mid (P:=Tp) rfl 45 _ _ rfl (w.heap.size+1) 0 (rfL C' s2 hd).toArray rfl rfl (H4.out.2.1.there 0 _ (by rw[List.size_toArray,rfL_len];decide)) sz43 (rfL_one C' s2 hd) ?_;generalize hW8:World.setCells _ (w.heap.size+1) 0 _=w8;have HW8:Hid (_=w8):=hW8;clear hW8))
 have e8:=HW8.out
 have hF:blk w8 (w.heap.size+1) (rfL C' s2 hd) 45:=by
  rw[← e8]
  have:=blk.put [] Z22 [] (rfL C' s2 hd) (w:=w4) (b:=w.heap.size+1) (T:=45) (by simpa using H4.out.2.1) (by rw[rfL_len];rfl)
  simpa using this
 have hL:=run_loadVar_mid (P:=Tp) w8 (w.heap.size+1) 0 45 _ _ hF.load Tryz.underlying45 rfl sz43
 refine bodyPost_ret (results_cell_tmp Tryz.results7 _ w8 (w.heap.size+1) _ rfl hL) rfl ?_
 refine⟨C',s2,hd,lv,rfl,HRR.out lv rfl,fun _=>⟨B2,T2,HQ4.out.1.keep fun k h1 _=>?_,by have:=HQ4.out.2.1;omega,by rw[← e8,setCells_size];exact HQ4.out.2.2⟩,fun x=>absurd HOK.out x,?_⟩
 ·rw[← e8];exact setCells_other _ k (by have:=HQ4.out.2.1;omega) _ _ _
 rw[← e8]
 exact setCells_below (by omega) 0 _ H4.out.1
end Go.Proofs.YtbllefckefhpoaaGreat
