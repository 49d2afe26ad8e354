import Derived.Test.YtaamahohdnbpiaaGreatNO
namespace Go.Proofs.YtaamahohdnbpiaaGreat
open Go.RowKit
set_option linter.unusedVariables false
theorem okHo.n4 {H:Ho} (h:okHo H):H.qu.length≤1000:=by
 have h1:=of_decide_eq_true h.cf
 have h2:=h.nq
 omega
def okRel (H:Ho) (R:Ho) (T:Ho):Prop:=(okHo H∧T=R)∨(¬ okHo H∧T=zHo)
theorem okRel.yes {H R T:Ho} (h:okRel H R T) (hok:okHo H):T=R:=by
 rcases h with⟨_,e⟩|⟨h,_⟩
 ·exact e
 ·exact absurd hok h
theorem okRel.no {H R T:Ho} (h:okRel H R T) (hok:¬ okHo H):T=zHo:=by
 rcases h with⟨h,_⟩|⟨_,e⟩
 ·exact absurd h hok
 ·exact e
theorem copyS (W:World) (H:Ho) (s:Sl) (h:isHo W H s) (hn:H.le 1048576):Calls Tryz.prog 71 #[.agg (hoL H s).toArray] W fun o w'=>∃ s' T0 T1 T2,o = .returned (.agg (hoL H s').toArray)∧spS (W.heap.size+3) T0 T1 T2 H s' w'∧s'.n2=H.bx.length∧s'.n4=H.qu.length∧Below W.heap.size W w':=by
 rw[← hoV_L]
 refine (l3copy_own W H s h hn).mono ?_
 rintro o w' ⟨gf,kf,gb,kb,gq,kq,g4,k4,T0,T1,T2,T3,rfl,⟨o1,o2,o3,o4,o5,o6⟩,hst,hb⟩;obtain⟨h1,h2,h3,h4⟩:=hst.now
 obtain⟨hs,h2'⟩:=h2.bxR
 exact⟨⟨some ⟨gf,0,none⟩,s.n1,kf,some ⟨gb,0,none⟩,s.n2,kb,some ⟨gq,0,none⟩,s.n3,kq,some ⟨g4,0,none⟩,s.n4,k4⟩,T0,T1,T2,by rw[hoV_L],⟨⟨gf,rfl,o1,o2,h1⟩,⟨gb,hs,rfl,h2'⟩,⟨gq,rfl,h3⟩,⟨g4,rfl,h4.mono o6⟩,⟨by omega,o3,o4,by omega⟩⟩,h.bx.len,h.qu.len,hb⟩
set_option maxHeartbeats 4000000 in
set_option maxRecDepth 20000 in
theorem specRelease_any (w:World) (H:Ho) (s:Sl) (sent:Bool) (T:Ho) (hR:okRel H (relHo H sent) T) (h:isHo w H s) (hn:H.le 1048576) :
  Calls Tryz.prog 30 #[.agg (hoL H s).toArray,.bool sent] w fun o w'=>∃ s',o = .returned (.agg (hoL T s').toArray)∧isHo w' T s'∧Below w.heap.size w w':=by
 have H0:Hid (dtS w H s ((w.alloc (.cells (hoL H s).toArray 35)).alloc (.cells [.int .i64 0,.int .i64 0,.int .i64 0,.int .i64 0,.slice none 0 0,.slice none 0 0,.slice none 0 0,.slice none 0 0,.int .i64 0,.int .i64 0].toArray 35))):=dtS.new w H s
 have HR:Hid (okRel H (relHo H sent) T):=hR
 clear hR;by_cases hok:okHo H
 ·have HV:Hid (∀ W,Below w.heap.size w W→Calls Tryz.prog 72 #[.agg (hoL H s).toArray] W fun o w'=>o = .returned (.bool true)∧Below W.heap.size W w'):=fun W hW=>okL W H s (h.below hW) hn hok
  have HC:Hid (∀ W,Below w.heap.size w W→Calls Tryz.prog 71 #[.agg (hoL H s).toArray] W fun o w'=>∃ s' T0 T1 T2,o = .returned (.agg (hoL H s').toArray)∧spS (W.heap.size+3) T0 T1 T2 H s' w'∧s'.n2=H.bx.length∧s'.n4=H.qu.length∧Below W.heap.size W w'):=fun W hW=>copyS W H s (h.below hW) hn
  have HSM:Hid (∀ j (h:j<H.bx.length),H.bx[j].l.length≤1048576):=hn.bd
  have HOK:Hid (okHo H):=hok
  clear h hn hok;go_enter Tryz.func30,Tryz.ntmps30
  go_wp2_with (first
   | (refine wpList_load_mid (P:=Tryz.prog) rfl 35 (.tmp 2) rfl w.heap.size 0 rfl _ _ H0.out.p.load Tryz.underlying35 rfl (sz41L H s) ?_))
  refine (HV.out _ H0.out.b).mono ?_
  rintro o w1 ⟨rfl,hb1⟩;have H1:Hid (dtS w H s w1):=H0.out.below hb1
  clear H0 hb1;go_wp2_with (first
   | (refine wpList_load_mid (P:=Tryz.prog) rfl 35 (.tmp 2) rfl w.heap.size 0 rfl _ _ H1.out.p.load Tryz.underlying35 rfl (sz41L H s) ?_))
  refine (HC.out _ H1.out.b).mono ?_
  rintro o w2 ⟨s2,T0,T1,T2,rfl,e4,e2,e3,hb2⟩;have hn2:s2.n2≤1000:=by rw[e2];have:=HOK.out.n2;omega
  have hn4:s2.n4≤1000:=by rw[e3];exact HOK.out.n4
  have HD:Hid (Calls Tryz.prog 79 #[.agg (hoL H s2).toArray,.bool sent] w2 fun o w'=>∃ s',o = .returned (.agg (hoL (relHo H sent) s').toArray)∧spS (w1.heap.size+3) T0 T1 T2 (relHo H sent) s' w'∧Below (w1.heap.size+3) w2 w'):=l3doRelease_any (w1.heap.size+3) T0 T1 T2 w2 H s2 sent e4 hn2 hn4 ⟨HOK.out.l0,HOK.out.l1⟩ HSM.out
  have H2:Hid (dtS w H s w2):=H1.out.below hb2
  have HZ2:Hid (w.heap.size+1<w1.heap.size):=H1.out.r.lt
  have HZB:Hid (w1.heap.size≤w2.heap.size):=hb2.size
  clear e2 e3 e4 hb2 hn2 hn4 H1 HC HV;go_wp2_with fail;refine HD.out.mono ?_
  rintro o w3 ⟨s3,rfl,q1,q2⟩;have H3:Hid (dtP w H s w3):=⟨H2.out.p.kept (q2.block _ (by have:=HZ2.out;omega)),H2.out.r.kept (q2.block _ (by have:=HZ2.out;omega))⟩
  have HB3:Hid (Below w.heap.size w w3):=H2.out.b.trans (q2.mono (by have:=HZ2.out;omega))
  have HST:Hid (spS (w1.heap.size+3) T0 T1 T2 (relHo H sent) s3 w3):=q1
  clear q1 q2 H2 HD;go_wp2_with (first
   | (refine wpList_store_mid (P:=Tryz.prog) rfl 35 (.tmp 4) _ rfl (w.heap.size+1) 0 (hoL (relHo H sent) s3).toArray rfl rfl (H3.out.r.there 0 _ (by rw[List.size_toArray,hoL_len];decide)) (sz41A (relHo H sent) s3) (hoL_one (relHo H sent) s3) ?_;generalize hW8:World.setCells _ (w.heap.size+1) 0 _=w8;have HW8:Hid (_=w8):=hW8;clear hW8))
  have e8:=HW8.out
  have hF:blk w8 (w.heap.size+1) (hoL (relHo H sent) s3) 35:=by
   rw[← e8]
   have:=blk.put [] Z10 [] (hoL (relHo H sent) s3) (w:=w3) (b:=w.heap.size+1) (T:=35) (by simpa using H3.out.r) (by rw[hoL_len];rfl)
   simpa using this
  have hL:=run_loadVar_mid (P:=Tryz.prog) w8 (w.heap.size+1) 0 35 _ _ hF.load Tryz.underlying35 rfl (sz41L (relHo H sent) s3)
  refine bodyPost_ret (v:=.agg (hoL (relHo H sent) s3).toArray) (results_cell Tryz.results30 _ w8 (w.heap.size+1) _ rfl hL) rfl ?_
  have hR:=HR.out.yes HOK.out
  subst hR;refine⟨s3,rfl,(HST.out.st (fun x h1 h2=>?_) ?_).is,?_⟩
  ·rw[← e8]
   exact setCells_other _ x (by have:=HZ2.out;omega) _ _ _
  ·rw[← e8,setCells_size]
   exact Nat.le_refl _
  ·rw[← e8]
   exact setCells_below (by omega) 0 _ HB3.out
 ·have HV:Hid (∀ W,Below w.heap.size w W→Calls Tryz.prog 72 #[.agg (hoL H s).toArray] W fun o w'=>o = .returned (.bool false)∧Below W.heap.size W w'):=fun W hW=>badL W H s (h.below hW) hn hok
  have HOK:Hid (¬ okHo H):=hok
  clear h hn hok;go_enter Tryz.func30,Tryz.ntmps30
  go_wp2_with (first
   | (refine wpList_load_mid (P:=Tryz.prog) rfl 35 (.tmp 2) rfl w.heap.size 0 rfl _ _ H0.out.p.load Tryz.underlying35 rfl (sz41L H s) ?_))
  refine (HV.out _ H0.out.b).mono ?_
  rintro o w1 ⟨rfl,hb1⟩;have H1:Hid (dtS w H s w1):=H0.out.below hb1
  clear H0 hb1;go_wp2_with (first
   | (refine wpList_store_mid (P:=Tryz.prog) rfl 35 (.tmp 4) (.tmp 8) rfl (w.heap.size+1) 0 [.int .i64 0,.int .i64 0,.int .i64 0,.int .i64 0,.slice none 0 0,.slice none 0 0,.slice none 0 0,.slice none 0 0,.int .i64 0,.int .i64 0].toArray rfl rfl (H1.out.r.there 0 10 (by simp[Z10])) sz41 (all_oneCell_toArray (by simp[Value.oneCell'])) ?_;generalize hW8:World.setCells _ (w.heap.size+1) 0 _=w8;have HW8:Hid (_=w8):=hW8;clear hW8))
  have e8:=HW8.out
  have hF:blk w8 (w.heap.size+1) [.int .i64 0,.int .i64 0,.int .i64 0,.int .i64 0,.slice none 0 0,.slice none 0 0,.slice none 0 0,.slice none 0 0,.int .i64 0,.int .i64 0] 35:=by
   rw[← e8]
   have:=blk.put [] Z10 [] [.int .i64 0,.int .i64 0,.int .i64 0,.int .i64 0,.slice none 0 0,.slice none 0 0,.slice none 0 0,.slice none 0 0,.int .i64 0,.int .i64 0] (w:=w1) (b:=w.heap.size+1) (T:=35) (by simpa using H1.out.r) rfl
   simpa using this
  have hL:=run_loadVar_mid (P:=Tryz.prog) w8 (w.heap.size+1) 0 35 _ _ hF.load Tryz.underlying35 rfl sz41
  refine bodyPost_ret (v:=.agg [.int .i64 0,.int .i64 0,.int .i64 0,.int .i64 0,.slice none 0 0,.slice none 0 0,.slice none 0 0,.slice none 0 0,.int .i64 0,.int .i64 0].toArray) (results_cell Tryz.results30 _ w8 (w.heap.size+1) _ rfl hL) rfl ?_
  have hR:=HR.out.no HOK.out
  subst hR;refine⟨zSl,by rw[zHo_L],zHo_is _,?_⟩
  rw[← e8]
  exact setCells_below (by omega) 0 _ H1.out.b
set_option maxHeartbeats 4000000 in
set_option maxRecDepth 20000 in
theorem specAbort_any (w:World) (H:Ho) (s:Sl) (t:Int) (T:Ho) (hR:okRel H (abHo H t) T) (h:isHo w H s) (hn:H.le 1048576) :
  Calls Tryz.prog 26 #[.agg (hoL H s).toArray,.int .i64 t] w fun o w'=>∃ s',o = .returned (.agg (hoL T s').toArray)∧isHo w' T s'∧Below w.heap.size w w':=by
 have H0:Hid (dtS w H s ((w.alloc (.cells (hoL H s).toArray 35)).alloc (.cells [.int .i64 0,.int .i64 0,.int .i64 0,.int .i64 0,.slice none 0 0,.slice none 0 0,.slice none 0 0,.slice none 0 0,.int .i64 0,.int .i64 0].toArray 35))):=dtS.new w H s
 have HR:Hid (okRel H (abHo H t) T):=hR
 clear hR;by_cases hok:okHo H
 ·have HV:Hid (∀ W,Below w.heap.size w W→Calls Tryz.prog 72 #[.agg (hoL H s).toArray] W fun o w'=>o = .returned (.bool true)∧Below W.heap.size W w'):=fun W hW=>okL W H s (h.below hW) hn hok
  have HC:Hid (∀ W,Below w.heap.size w W→Calls Tryz.prog 71 #[.agg (hoL H s).toArray] W fun o w'=>∃ s' T0 T1 T2,o = .returned (.agg (hoL H s').toArray)∧spS (W.heap.size+3) T0 T1 T2 H s' w'∧s'.n2=H.bx.length∧s'.n4=H.qu.length∧Below W.heap.size W w'):=fun W hW=>copyS W H s (h.below hW) hn
  have HOK:Hid (okHo H):=hok
  clear h hn hok;go_enter Tryz.func26,Tryz.ntmps26
  go_wp2_with (first
   | (refine wpList_load_mid (P:=Tryz.prog) rfl 35 (.tmp 2) rfl w.heap.size 0 rfl _ _ H0.out.p.load Tryz.underlying35 rfl (sz41L H s) ?_))
  refine (HV.out _ H0.out.b).mono ?_
  rintro o w1 ⟨rfl,hb1⟩;have H1:Hid (dtS w H s w1):=H0.out.below hb1
  clear H0 hb1;go_wp2_with (first
   | (refine wpList_load_mid (P:=Tryz.prog) rfl 35 (.tmp 2) rfl w.heap.size 0 rfl _ _ H1.out.p.load Tryz.underlying35 rfl (sz41L H s) ?_))
  refine (HC.out _ H1.out.b).mono ?_
  rintro o w2 ⟨s2,T0,T1,T2,rfl,e4,e2,e3,hb2⟩;have hn2:s2.n2≤1000:=by rw[e2];have:=HOK.out.n2;omega
  have hn4:s2.n4≤1000:=by rw[e3];exact HOK.out.n4
  have HD:Hid (Calls Tryz.prog 76 #[.agg (hoL H s2).toArray,.int .i64 t] w2 fun o w'=>∃ s',o = .returned (.agg (hoL (abHo H t) s').toArray)∧spS (w1.heap.size+3) T0 T1 T2 (abHo H t) s' w'∧Below (w1.heap.size+3) w2 w'):=l3doAbort_any (w1.heap.size+3) T0 T1 T2 w2 H s2 t e4 hn2 hn4 ⟨HOK.out.l0,HOK.out.l1⟩
  have H2:Hid (dtS w H s w2):=H1.out.below hb2
  have HZ2:Hid (w.heap.size+1<w1.heap.size):=H1.out.r.lt
  have HZB:Hid (w1.heap.size≤w2.heap.size):=hb2.size
  clear e2 e3 e4 hb2 hn2 hn4 H1 HC HV;go_wp2_with fail;refine HD.out.mono ?_
  rintro o w3 ⟨s3,rfl,q1,q2⟩;have H3:Hid (dtP w H s w3):=⟨H2.out.p.kept (q2.block _ (by have:=HZ2.out;omega)),H2.out.r.kept (q2.block _ (by have:=HZ2.out;omega))⟩
  have HB3:Hid (Below w.heap.size w w3):=H2.out.b.trans (q2.mono (by have:=HZ2.out;omega))
  have HST:Hid (spS (w1.heap.size+3) T0 T1 T2 (abHo H t) s3 w3):=q1
  clear q1 q2 H2 HD;go_wp2_with (first
   | (refine wpList_store_mid (P:=Tryz.prog) rfl 35 (.tmp 4) _ rfl (w.heap.size+1) 0 (hoL (abHo H t) s3).toArray rfl rfl (H3.out.r.there 0 _ (by rw[List.size_toArray,hoL_len];decide)) (sz41A (abHo H t) s3) (hoL_one (abHo H t) s3) ?_;generalize hW8:World.setCells _ (w.heap.size+1) 0 _=w8;have HW8:Hid (_=w8):=hW8;clear hW8))
  have e8:=HW8.out
  have hF:blk w8 (w.heap.size+1) (hoL (abHo H t) s3) 35:=by
   rw[← e8]
   have:=blk.put [] Z10 [] (hoL (abHo H t) s3) (w:=w3) (b:=w.heap.size+1) (T:=35) (by simpa using H3.out.r) (by rw[hoL_len];rfl)
   simpa using this
  have hL:=run_loadVar_mid (P:=Tryz.prog) w8 (w.heap.size+1) 0 35 _ _ hF.load Tryz.underlying35 rfl (sz41L (abHo H t) s3)
  refine bodyPost_ret (v:=.agg (hoL (abHo H t) s3).toArray) (results_cell Tryz.results26 _ w8 (w.heap.size+1) _ rfl hL) rfl ?_
  have hR:=HR.out.yes HOK.out
  subst hR;refine⟨s3,rfl,(HST.out.st (fun x h1 h2=>?_) ?_).is,?_⟩
  ·rw[← e8]
   exact setCells_other _ x (by have:=HZ2.out;omega) _ _ _
  ·rw[← e8,setCells_size]
   exact Nat.le_refl _
  ·rw[← e8]
   exact setCells_below (by omega) 0 _ HB3.out
 ·have HV:Hid (∀ W,Below w.heap.size w W→Calls Tryz.prog 72 #[.agg (hoL H s).toArray] W fun o w'=>o = .returned (.bool false)∧Below W.heap.size W w'):=fun W hW=>badL W H s (h.below hW) hn hok
  have HOK:Hid (¬ okHo H):=hok
  clear h hn hok;go_enter Tryz.func26,Tryz.ntmps26
  go_wp2_with (first
   | (refine wpList_load_mid (P:=Tryz.prog) rfl 35 (.tmp 2) rfl w.heap.size 0 rfl _ _ H0.out.p.load Tryz.underlying35 rfl (sz41L H s) ?_))
  refine (HV.out _ H0.out.b).mono ?_
  rintro o w1 ⟨rfl,hb1⟩;have H1:Hid (dtS w H s w1):=H0.out.below hb1
  clear H0 hb1;go_wp2_with (first
   | (refine wpList_store_mid (P:=Tryz.prog) rfl 35 (.tmp 4) (.tmp 8) rfl (w.heap.size+1) 0 [.int .i64 0,.int .i64 0,.int .i64 0,.int .i64 0,.slice none 0 0,.slice none 0 0,.slice none 0 0,.slice none 0 0,.int .i64 0,.int .i64 0].toArray rfl rfl (H1.out.r.there 0 10 (by simp[Z10])) sz41 (all_oneCell_toArray (by simp[Value.oneCell'])) ?_;generalize hW8:World.setCells _ (w.heap.size+1) 0 _=w8;have HW8:Hid (_=w8):=hW8;clear hW8))
  have e8:=HW8.out
  have hF:blk w8 (w.heap.size+1) [.int .i64 0,.int .i64 0,.int .i64 0,.int .i64 0,.slice none 0 0,.slice none 0 0,.slice none 0 0,.slice none 0 0,.int .i64 0,.int .i64 0] 35:=by
   rw[← e8]
   have:=blk.put [] Z10 [] [.int .i64 0,.int .i64 0,.int .i64 0,.int .i64 0,.slice none 0 0,.slice none 0 0,.slice none 0 0,.slice none 0 0,.int .i64 0,.int .i64 0] (w:=w1) (b:=w.heap.size+1) (T:=35) (by simpa using H1.out.r) rfl
   simpa using this
  have hL:=run_loadVar_mid (P:=Tryz.prog) w8 (w.heap.size+1) 0 35 _ _ hF.load Tryz.underlying35 rfl sz41
  refine bodyPost_ret (v:=.agg [.int .i64 0,.int .i64 0,.int .i64 0,.int .i64 0,.slice none 0 0,.slice none 0 0,.slice none 0 0,.slice none 0 0,.int .i64 0,.int .i64 0].toArray) (results_cell Tryz.results26 _ w8 (w.heap.size+1) _ rfl hL) rfl ?_
  have hR:=HR.out.no HOK.out
  subst hR;refine⟨zSl,by rw[zHo_L],zHo_is _,?_⟩
  rw[← e8]
  exact setCells_below (by omega) 0 _ H1.out.b
end Go.Proofs.YtaamahohdnbpiaaGreat
