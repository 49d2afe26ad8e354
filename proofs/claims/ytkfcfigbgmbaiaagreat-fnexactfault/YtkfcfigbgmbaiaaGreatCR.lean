import Derived.Test.YtkfcfigbgmbaiaaGreatCC
namespace Go.Proofs.YtkfcfigbgmbaiaaGreat
open Go.RowKit
set_option linter.unusedVariables false
set_option maxHeartbeats 16000000 in
set_option maxRecDepth 20000 in
theorem l4ok_3 (w:World) (ct lv kw ko kq kt ka rn te re:Int) (H:Ho) (s:Sl) (VP WP:Prop) (hv:∀ W,Below w.heap.size w W→Calls Tryz.prog 66 #[.agg (hoL H s).toArray] W fun o w'=>retB o VP∧Below W.heap.size W w')
  (hz:VP→∀ W,Below w.heap.size w W→Calls Tryz.prog 76 #[.agg (hoL H s).toArray] W fun o w'=>∃ r:Int,o = .returned (.int .i64 r)∧(0≤r↔WP)∧Below W.heap.size W w') :
  Calls Tryz.prog 33 #[.agg (coL (coI 3 ct lv kw ko kq kt ka rn te re H) s).toArray] w fun o w'=>retB o (VP∧okM (coI 3 ct lv kw ko kq kt ka rn te re H)∧((((3:Int)=1)∧kt=1)↔WP))∧Below w.heap.size w w':=by
 obtain⟨X,HX⟩ : ∃ X:Prop,Hid (X↔(VP∧okM (coI 3 ct lv kw ko kq kt ka rn te re H)∧((((3:Int)=1)∧kt=1)↔WP))):=⟨_,Iff.rfl⟩
 rw[← HX.out]
 have HV:Hid (∀ W,Below w.heap.size w W→Calls Tryz.prog 66 #[.agg (hoL H s).toArray] W fun o w'=>retB o VP∧Below W.heap.size W w'):=hv
 have HZ:Hid (VP→∀ W,Below w.heap.size w W→Calls Tryz.prog 76 #[.agg (hoL H s).toArray] W fun o w'=>∃ r:Int,o = .returned (.int .i64 r)∧(0≤r↔WP)∧Below W.heap.size W w'):=hz
 have H0:Hid (ctS w w.heap.size (coI 3 ct lv kw ko kq kt ka rn te re H) s (w.alloc (.cells (coL (coI 3 ct lv kw ko kq kt ka rn te re H) s).toArray 41))):=ctS.new w _ s
 have HM:Hid (okM (coI 3 ct lv kw ko kq kt ka rn te re H)↔(0≤te∧te≤256)∧(0≤re∧re≤255)∧(¬ te=256)∧(0≤ct∧ct≤15)∧(lv=0)∧(¬ kw=1)∧(¬ kq=1∨(kw=1∧kt=1))∧(¬ ka=1)∧(0≤rn∧rn<128)∧(ka=1∨rn=0)):=okM_3 ct lv kw ko kq kt ka rn te re H
 have HRM:Hid (∀ W,Calls Tryz.prog 75 #[.int .i64 3] W fun o w'=>o = .returned (.tuple #[.int .i64 0,.int .i64 15])∧W=w'):=fun W=>l4room_any W 3
 clear hv hz;go_enter Tryz.func33,Tryz.ntmps33
 go_wp2_with (first
  | (refine wpList_load_mid (P:=Tryz.prog) rfl 39 _ rfl w.heap.size 11 rfl (hoL H s) _ H0.out.p.hostAt Tryz.underlying39 rfl (sz39h H s) ?_))
 refine (HV.out _ H0.out.b).mono ?_
 rintro o w1 ⟨⟨b,rfl,hvp⟩,hb1⟩;have H1:Hid (ctS w w.heap.size (coI 3 ct lv kw ko kq kt ka rn te re H) s w1):=H0.out.below hb1
 clear hb1 H0 HV;cases b
 ·go_wp2_with fail;go_ret;exact⟨⟨false,rfl,by simp only[Bool.false_eq_true,false_iff];intro hx;exact absurd (hvp.2 (HX.out.1 hx).1) (by simp)⟩,H1.out.b⟩
 have HVP:Hid VP:=hvp.1 rfl
 clear hvp;have y0:=H1.out.p.cell 0 (.int .i64 3) rfl
 have y1:=H1.out.p.cell 1 (.int .i64 ct) rfl
 have y2:=H1.out.p.cell 2 (.int .i64 lv) rfl
 have y3:=H1.out.p.cell 3 (.bool (decide (kw=1))) rfl
 have y4:=H1.out.p.cell 4 (.bool (decide (ko=1))) rfl
 have y5:=H1.out.p.cell 5 (.bool (decide (kq=1))) rfl
 have y6:=H1.out.p.cell 6 (.bool (decide (kt=1))) rfl
 have y7:=H1.out.p.cell 7 (.bool (decide (ka=1))) rfl
 have y8:=H1.out.p.cell 8 (.int .i64 rn) rfl
 have y9:=H1.out.p.cell 9 (.int .i64 te) rfl
 have y10:=H1.out.p.cell 10 (.int .i64 re) rfl
 have y11:=H1.out.p.cell 11 (.int .i64 H.c0) rfl
 have y12:=H1.out.p.cell 12 (.int .i64 H.c1) rfl
 have y13:=H1.out.p.cell 13 (.int .i64 H.c2) rfl
 have y14:=H1.out.p.cell 14 (.int .i64 H.c3) rfl
 have y15:=H1.out.p.cell 15 (.slice s.a1 s.n1 s.k1) rfl
 have y16:=H1.out.p.cell 16 (.slice s.a2 s.n2 s.k2) rfl
 have y17:=H1.out.p.cell 17 (.slice s.a3 s.n3 s.k3) rfl
 have y18:=H1.out.p.cell 18 (.slice s.a4 s.n4 s.k4) rfl
 have y19:=H1.out.p.cell 19 (.int .i64 H.lo) rfl
 have y20:=H1.out.p.cell 20 (.int .i64 H.st) rfl
 by_cases h256:te=256
 ·have dh256:(te == 256)=true:=by simpa using h256
  go_wp2_with (first
   | (go_at_call 75;refine (HRM.out _).mono ?_;rintro o w2 ⟨rfl,rfl⟩))
  all_goals clear y0 y1 y2 y3 y4 y5 y6 y7 y8 y9 y10 y11 y12 y13 y14 y15 y16 y17 y18 y19 y20
  all_goals first
   | (go_ret;exact⟨⟨false,rfl,by simp only[Bool.false_eq_true,false_iff];intro hx;obtain⟨_,hm,_⟩:=HX.out.1 hx;have hm:=HM.out.1 hm;omega⟩,H1.out.b⟩)
   | (refine (HZ.out HVP.out _ H1.out.b).mono ?_;rintro o w2 ⟨r,rfl,hr,hb2⟩;have HMT:=HM.out.2 (by omega);have HB2:Hid (Below w.heap.size w w2):=H1.out.b.trans (hb2.mono H1.out.b.size);clear hb2 HM;have HHR:Hid (0≤r↔WP):=hr;clear hr;go_wp2_with fail;go_ret;refine⟨⟨_,rfl,?_⟩,HB2.out⟩;rw[HX.out];simp only[HVP.out,HMT,true_and,← HHR.out];by_cases h0:0≤r <;> simp[h0] <;> omega)
 ·have dh256:(te == 256)=false:=by simpa using h256
  go_wp2_with (first
   | (go_at_call 75;refine (HRM.out _).mono ?_;rintro o w2 ⟨rfl,rfl⟩))
  all_goals clear y0 y1 y2 y3 y4 y5 y6 y7 y8 y9 y10 y11 y12 y13 y14 y15 y16 y17 y18 y19 y20
  all_goals first
   | (go_ret;exact⟨⟨false,rfl,by simp only[Bool.false_eq_true,false_iff];intro hx;obtain⟨_,hm,_⟩:=HX.out.1 hx;have hm:=HM.out.1 hm;omega⟩,H1.out.b⟩)
   | (refine (HZ.out HVP.out _ H1.out.b).mono ?_;rintro o w2 ⟨r,rfl,hr,hb2⟩;have HMT:=HM.out.2 (by omega);have HB2:Hid (Below w.heap.size w w2):=H1.out.b.trans (hb2.mono H1.out.b.size);clear hb2 HM;have HHR:Hid (0≤r↔WP):=hr;clear hr;go_wp2_with fail;go_ret;refine⟨⟨_,rfl,?_⟩,HB2.out⟩;rw[HX.out];simp only[HVP.out,HMT,true_and,← HHR.out];by_cases h0:0≤r <;> simp[h0] <;> omega)
set_option maxHeartbeats 16000000 in
set_option maxRecDepth 20000 in
theorem l4ok_5 (w:World) (ct lv kw ko kq kt ka rn te re:Int) (H:Ho) (s:Sl) (VP WP:Prop) (hv:∀ W,Below w.heap.size w W→Calls Tryz.prog 66 #[.agg (hoL H s).toArray] W fun o w'=>retB o VP∧Below W.heap.size W w')
  (hz:VP→∀ W,Below w.heap.size w W→Calls Tryz.prog 76 #[.agg (hoL H s).toArray] W fun o w'=>∃ r:Int,o = .returned (.int .i64 r)∧(0≤r↔WP)∧Below W.heap.size W w') :
  Calls Tryz.prog 33 #[.agg (coL (coI 5 ct lv kw ko kq kt ka rn te re H) s).toArray] w fun o w'=>retB o (VP∧okM (coI 5 ct lv kw ko kq kt ka rn te re H)∧((((5:Int)=1)∧kt=1)↔WP))∧Below w.heap.size w w':=by
 obtain⟨X,HX⟩ : ∃ X:Prop,Hid (X↔(VP∧okM (coI 5 ct lv kw ko kq kt ka rn te re H)∧((((5:Int)=1)∧kt=1)↔WP))):=⟨_,Iff.rfl⟩
 rw[← HX.out]
 have HV:Hid (∀ W,Below w.heap.size w W→Calls Tryz.prog 66 #[.agg (hoL H s).toArray] W fun o w'=>retB o VP∧Below W.heap.size W w'):=hv
 have HZ:Hid (VP→∀ W,Below w.heap.size w W→Calls Tryz.prog 76 #[.agg (hoL H s).toArray] W fun o w'=>∃ r:Int,o = .returned (.int .i64 r)∧(0≤r↔WP)∧Below W.heap.size W w'):=hz
 have H0:Hid (ctS w w.heap.size (coI 5 ct lv kw ko kq kt ka rn te re H) s (w.alloc (.cells (coL (coI 5 ct lv kw ko kq kt ka rn te re H) s).toArray 41))):=ctS.new w _ s
 have HM:Hid (okM (coI 5 ct lv kw ko kq kt ka rn te re H)↔(0≤te∧te≤256)∧(0≤re∧re≤255)∧(¬ te=256)∧(0≤ct∧ct≤2)∧(lv=0)∧(¬ kw=1)∧(¬ ko=1)∧(¬ kq=1∨(kw=1∧kt=1))∧(¬ ka=1)∧(0≤rn∧rn<128)∧(ka=1∨rn=0)):=okM_5 ct lv kw ko kq kt ka rn te re H
 have HRM:Hid (∀ W,Calls Tryz.prog 75 #[.int .i64 5] W fun o w'=>o = .returned (.tuple #[.int .i64 0,.int .i64 2])∧W=w'):=fun W=>l4room_any W 5
 clear hv hz;go_enter Tryz.func33,Tryz.ntmps33
 go_wp2_with (first
  | (refine wpList_load_mid (P:=Tryz.prog) rfl 39 _ rfl w.heap.size 11 rfl (hoL H s) _ H0.out.p.hostAt Tryz.underlying39 rfl (sz39h H s) ?_))
 refine (HV.out _ H0.out.b).mono ?_
 rintro o w1 ⟨⟨b,rfl,hvp⟩,hb1⟩;have H1:Hid (ctS w w.heap.size (coI 5 ct lv kw ko kq kt ka rn te re H) s w1):=H0.out.below hb1
 clear hb1 H0 HV;cases b
 ·go_wp2_with fail;go_ret;exact⟨⟨false,rfl,by simp only[Bool.false_eq_true,false_iff];intro hx;exact absurd (hvp.2 (HX.out.1 hx).1) (by simp)⟩,H1.out.b⟩
 have HVP:Hid VP:=hvp.1 rfl
 clear hvp;have y0:=H1.out.p.cell 0 (.int .i64 5) rfl
 have y1:=H1.out.p.cell 1 (.int .i64 ct) rfl
 have y2:=H1.out.p.cell 2 (.int .i64 lv) rfl
 have y3:=H1.out.p.cell 3 (.bool (decide (kw=1))) rfl
 have y4:=H1.out.p.cell 4 (.bool (decide (ko=1))) rfl
 have y5:=H1.out.p.cell 5 (.bool (decide (kq=1))) rfl
 have y6:=H1.out.p.cell 6 (.bool (decide (kt=1))) rfl
 have y7:=H1.out.p.cell 7 (.bool (decide (ka=1))) rfl
 have y8:=H1.out.p.cell 8 (.int .i64 rn) rfl
 have y9:=H1.out.p.cell 9 (.int .i64 te) rfl
 have y10:=H1.out.p.cell 10 (.int .i64 re) rfl
 have y11:=H1.out.p.cell 11 (.int .i64 H.c0) rfl
 have y12:=H1.out.p.cell 12 (.int .i64 H.c1) rfl
 have y13:=H1.out.p.cell 13 (.int .i64 H.c2) rfl
 have y14:=H1.out.p.cell 14 (.int .i64 H.c3) rfl
 have y15:=H1.out.p.cell 15 (.slice s.a1 s.n1 s.k1) rfl
 have y16:=H1.out.p.cell 16 (.slice s.a2 s.n2 s.k2) rfl
 have y17:=H1.out.p.cell 17 (.slice s.a3 s.n3 s.k3) rfl
 have y18:=H1.out.p.cell 18 (.slice s.a4 s.n4 s.k4) rfl
 have y19:=H1.out.p.cell 19 (.int .i64 H.lo) rfl
 have y20:=H1.out.p.cell 20 (.int .i64 H.st) rfl
 by_cases h256:te=256
 ·have dh256:(te == 256)=true:=by simpa using h256
  go_wp2_with (first
   | (go_at_call 75;refine (HRM.out _).mono ?_;rintro o w2 ⟨rfl,rfl⟩))
  all_goals clear y0 y1 y2 y3 y4 y5 y6 y7 y8 y9 y10 y11 y12 y13 y14 y15 y16 y17 y18 y19 y20
  all_goals first
   | (go_ret;exact⟨⟨false,rfl,by simp only[Bool.false_eq_true,false_iff];intro hx;obtain⟨_,hm,_⟩:=HX.out.1 hx;have hm:=HM.out.1 hm;omega⟩,H1.out.b⟩)
   | (refine (HZ.out HVP.out _ H1.out.b).mono ?_;rintro o w2 ⟨r,rfl,hr,hb2⟩;have HMT:=HM.out.2 (by omega);have HB2:Hid (Below w.heap.size w w2):=H1.out.b.trans (hb2.mono H1.out.b.size);clear hb2 HM;have HHR:Hid (0≤r↔WP):=hr;clear hr;go_wp2_with fail;go_ret;refine⟨⟨_,rfl,?_⟩,HB2.out⟩;rw[HX.out];simp only[HVP.out,HMT,true_and,← HHR.out];by_cases h0:0≤r <;> simp[h0] <;> omega)
 ·have dh256:(te == 256)=false:=by simpa using h256
  go_wp2_with (first
   | (go_at_call 75;refine (HRM.out _).mono ?_;rintro o w2 ⟨rfl,rfl⟩))
  all_goals clear y0 y1 y2 y3 y4 y5 y6 y7 y8 y9 y10 y11 y12 y13 y14 y15 y16 y17 y18 y19 y20
  all_goals first
   | (go_ret;exact⟨⟨false,rfl,by simp only[Bool.false_eq_true,false_iff];intro hx;obtain⟨_,hm,_⟩:=HX.out.1 hx;have hm:=HM.out.1 hm;omega⟩,H1.out.b⟩)
   | (refine (HZ.out HVP.out _ H1.out.b).mono ?_;rintro o w2 ⟨r,rfl,hr,hb2⟩;have HMT:=HM.out.2 (by omega);have HB2:Hid (Below w.heap.size w w2):=H1.out.b.trans (hb2.mono H1.out.b.size);clear hb2 HM;have HHR:Hid (0≤r↔WP):=hr;clear hr;go_wp2_with fail;go_ret;refine⟨⟨_,rfl,?_⟩,HB2.out⟩;rw[HX.out];simp only[HVP.out,HMT,true_and,← HHR.out];by_cases h0:0≤r <;> simp[h0] <;> omega)
end Go.Proofs.YtkfcfigbgmbaiaaGreat
