import Derived.Test.YtkfcfigbgmbaiaaGreatCP
import Derived.Test.YtkfcfigbgmbaiaaGreatCQ
import Derived.Test.YtkfcfigbgmbaiaaGreatCR
import Derived.Test.YtkfcfigbgmbaiaaGreatG40
import Derived.Test.YtkfcfigbgmbaiaaGreatCU
import Derived.Test.YtkfcfigbgmbaiaaGreatG42
import Derived.Test.YtkfcfigbgmbaiaaGreatG43
namespace Go.Proofs.YtkfcfigbgmbaiaaGreat
open Go.RowKit
set_option linter.unusedVariables false
structure okCo (C:Co):Prop where
 h:okHo C.ho
 m:okM C
 s:(C.p=1∧C.tx=true)↔wrP C.ho.bx
set_option maxHeartbeats 8000000 in
set_option maxRecDepth 20000 in
theorem l4ok_out (w:World) (C:Co) (s:Sl) (VP:Prop) (hv:∀ W,Below w.heap.size w W→Calls Tryz.prog 66 #[.agg (hoL C.ho s).toArray] W fun o w'=>retB o VP∧Below W.heap.size W w') (hp:C.p<0∨7<C.p) :
  Calls Tryz.prog 33 #[.agg (coL C s).toArray] w fun o w'=>o = .returned (.bool false)∧Below w.heap.size w w':=by
 have HV:Hid (∀ W,Below w.heap.size w W→Calls Tryz.prog 66 #[.agg (hoL C.ho s).toArray] W fun o w'=>retB o VP∧Below W.heap.size W w'):=hv
 have H0:Hid (ctS w w.heap.size C s (w.alloc (.cells (coL C s).toArray 41))):=ctS.new w _ s
 clear hv;go_enter Tryz.func33,Tryz.ntmps33
 go_wp2_with (first
  | (refine wpList_load_mid (P:=Tryz.prog) rfl 39 _ rfl w.heap.size 11 rfl (hoL C.ho s) _ H0.out.p.hostAt Tryz.underlying39 rfl (sz39h C.ho s) ?_))
 refine (HV.out _ H0.out.b).mono ?_
 rintro o w1 ⟨⟨b,rfl,hvp⟩,hb1⟩;have H1:Hid (ctS w w.heap.size C s w1):=H0.out.below hb1
 clear hb1 H0 HV hvp;have y0:=H1.out.p.cell 0 (.int .i64 C.p) rfl
 cases b
 ·go_wp2_with fail;go_ret;exact⟨rfl,H1.out.b⟩
 by_cases h0:C.p<0
 ·have d0:decide (C.p<0)=true:=by simpa using h0
  clear hp;go_wp2_with fail;go_ret;exact⟨rfl,H1.out.b⟩
 ·have d0:decide (C.p<0)=false:=by simpa using h0
  have h7:7<C.p:=by omega
  have d7:decide (7<C.p)=true:=by simpa using h7
  clear hp;go_wp2_with fail;go_ret;exact⟨rfl,H1.out.b⟩
theorem phases {p:Int} (h0:¬ p<0) (h7:¬ 7<p):p=0∨p=1∨p=2∨p=3∨p=4∨p=5∨p=6∨p=7:=by omega
theorem isHo.two {w:World} {H:Ho} {s:Sl} (h:isHo w H s) (hok:okHo H):s.n2≤1000:=by
 have h1:=h.bx.len
 have h2:=hok.n2
 omega
theorem busyR (w:World) (H:Ho) (s:Sl) (h:isHo w H s) (hok:okHo H):Calls Tryz.prog 76 #[.agg (hoL H s).toArray] w fun o w'=>∃ r:Int,o = .returned (.int .i64 r)∧(0≤r↔wrP H.bx)∧Below w.heap.size w w':=by
 refine (l3busy_any w H s h.bx (h.two hok)).mono ?_
 rintro o w' ⟨r,rfl,hb,h2⟩;refine⟨r,rfl,?_,h2⟩
 have:=bsy_neg hb
 unfold wrP
 rw[← this]
 omega
theorem retB.to {o:Ending} {P Q:Prop} (h:retB o P) (e:P↔Q):retB o Q:=by
 obtain⟨b,h1,h2⟩:=h
 exact⟨b,h1,h2.trans e⟩
theorem okCo_I (p ct lv kw ko kq kt ka rn te re:Int) (H:Ho):okCo (coI p ct lv kw ko kq kt ka rn te re H)↔(okHo H∧okM (coI p ct lv kw ko kq kt ka rn te re H)∧((p=1∧kt=1)↔wrP H.bx)):=by
 constructor
 ·rintro⟨h1,h2,h3⟩;exact⟨h1,h2,by simpa using h3⟩
 ·rintro⟨h1,h2,h3⟩;exact⟨h1,h2,by simpa using h3⟩
set_option maxRecDepth 20000 in
theorem l4ok_any (w:World) (C:Co) (s:Sl) (h:isHo w C.ho s) (hn:C.ho.le 1048576) :
  Calls Tryz.prog 33 #[.agg (coL C s).toArray] w fun o w'=>retB o (okCo C)∧Below w.heap.size w w':=by
 obtain⟨kw,ko,kq,kt,ka,e⟩:=coI_of C
 generalize C.p=p at e
 generalize C.ct=ct at e
 generalize C.lv=lv at e
 generalize C.rn=rn at e
 generalize C.te=te at e
 generalize C.re=re at e
 have hv:∀ W,Below w.heap.size w W→Calls Tryz.prog 66 #[.agg (hoL C.ho s).toArray] W fun o w'=>retB o (okHo C.ho)∧Below W.heap.size W w':=fun W hW=>by
  rw[← hoV_L]
  exact l3ok_any W C.ho s (h.below hW) hn
 have hz:okHo C.ho→∀ W,Below w.heap.size w W→Calls Tryz.prog 76 #[.agg (hoL C.ho s).toArray] W fun o w'=>∃ r:Int,o = .returned (.int .i64 r)∧(0≤r↔wrP C.ho.bx)∧Below W.heap.size W w':=fun hok W hW=>busyR W C.ho s (h.below hW) hok
 generalize C.ho=H at *;subst e;by_cases h0:p<0
 ·refine (l4ok_out w (coI p ct lv kw ko kq kt ka rn te re H) s (okHo H) hv (Or.inl h0)).mono ?_
  rintro o w' ⟨rfl,hb⟩;exact⟨⟨false,rfl,by simp only[Bool.false_eq_true,false_iff];intro hc;have:=hc.m.p;dsimp only at this;omega⟩,hb⟩
 by_cases h7:7<p
 ·refine (l4ok_out w (coI p ct lv kw ko kq kt ka rn te re H) s (okHo H) hv (Or.inr h7)).mono ?_
  rintro o w' ⟨rfl,hb⟩;exact⟨⟨false,rfl,by simp only[Bool.false_eq_true,false_iff];intro hc;have:=hc.m.p;dsimp only at this;omega⟩,hb⟩
 rcases phases h0 h7 with rfl|rfl|rfl|rfl|rfl|rfl|rfl|rfl
 ·refine (l4ok_0 w ct lv kw ko kq kt ka rn te re H s (okHo H) (wrP H.bx) hv hz).mono ?_
  rintro o w' ⟨hr,hb⟩;exact⟨hr.to (okCo_I 0 ct lv kw ko kq kt ka rn te re H).symm,hb⟩
 ·refine (l4ok_1 w ct lv kw ko kq kt ka rn te re H s (okHo H) (wrP H.bx) hv hz).mono ?_
  rintro o w' ⟨hr,hb⟩;exact⟨hr.to (okCo_I 1 ct lv kw ko kq kt ka rn te re H).symm,hb⟩
 ·refine (l4ok_2 w ct lv kw ko kq kt ka rn te re H s (okHo H) (wrP H.bx) hv hz).mono ?_
  rintro o w' ⟨hr,hb⟩;exact⟨hr.to (okCo_I 2 ct lv kw ko kq kt ka rn te re H).symm,hb⟩
 ·refine (l4ok_3 w ct lv kw ko kq kt ka rn te re H s (okHo H) (wrP H.bx) hv hz).mono ?_
  rintro o w' ⟨hr,hb⟩;exact⟨hr.to (okCo_I 3 ct lv kw ko kq kt ka rn te re H).symm,hb⟩
 ·refine (l4ok_4 w ct lv kw ko kq kt ka rn te re H s (okHo H) (wrP H.bx) hv hz).mono ?_
  rintro o w' ⟨hr,hb⟩;exact⟨hr.to (okCo_I 4 ct lv kw ko kq kt ka rn te re H).symm,hb⟩
 ·refine (l4ok_5 w ct lv kw ko kq kt ka rn te re H s (okHo H) (wrP H.bx) hv hz).mono ?_
  rintro o w' ⟨hr,hb⟩;exact⟨hr.to (okCo_I 5 ct lv kw ko kq kt ka rn te re H).symm,hb⟩
 ·refine (l4ok_6 w ct lv kw ko kq kt ka rn te re H s (okHo H) (wrP H.bx) hv hz).mono ?_
  rintro o w' ⟨hr,hb⟩;exact⟨hr.to (okCo_I 6 ct lv kw ko kq kt ka rn te re H).symm,hb⟩
 ·refine (l4ok_7 w ct lv kw ko kq kt ka rn te re H s (okHo H) (wrP H.bx) hv hz).mono ?_
  rintro o w' ⟨hr,hb⟩;exact⟨hr.to (okCo_I 7 ct lv kw ko kq kt ka rn te re H).symm,hb⟩
set_option maxRecDepth 20000 in
theorem validCore_any (w:World) (C:Co) (s:Sl) (h:isHo w C.ho s) (hn:C.ho.le 1048576) :
  Calls Tryz.prog 83 #[.agg (coL C s).toArray] w fun o w'=>retB o (okCo C)∧Below w.heap.size w w':=by
 have hv:∀ W,Below w.heap.size w W→Calls Tryz.prog 122 #[.agg (hoL C.ho s).toArray] W fun o w'=>retB o (okHo C.ho)∧Below W.heap.size W w':=fun W hW=>validHost_any W C.ho s (h.below hW) hn
 have hz:okHo C.ho→∀ W,Below w.heap.size w W→Calls Tryz.prog 143 #[.agg (coL C s).toArray] W fun o w'=>retB o (wrP C.ho.bx)∧Below W.heap.size W w':=fun hok W hW=>isSending_any W C s (h.below hW).bx (h.two hok)
 obtain⟨kw,ko,kq,kt,ka,e⟩:=coI_of C
 generalize C.p=p at e
 generalize C.ct=ct at e
 generalize C.lv=lv at e
 generalize C.rn=rn at e
 generalize C.te=te at e
 generalize C.re=re at e
 generalize hH:C.ho=H at e
 subst e;simp only[] at *
 by_cases hin:0≤p∧p≤7
 ·rcases phases (p:=p) (by omega) (by omega) with rfl|rfl|rfl|rfl|rfl|rfl|rfl|rfl
  ·refine (validCore_gen w (coI 0 ct lv kw ko kq kt ka rn te re H) s (okHo H) _ _ (wrP H.bx) hv (fun _ W _=>vcG W (coI 0 ct lv kw ko kq kt ka rn te re H) s 0 0 183 idx_0) (fun _ W _=>vm_0 W ct lv kw ko kq kt ka rn te re H s) hz).mono ?_
   rintro o w' ⟨hr,hb⟩;refine⟨hr.to ?_,hb⟩
   rw[okCo_I,okM_0]
   simp only[decide_eq_true_eq]
   constructor
   ·rintro⟨_,h1,h2,h3,h4⟩;exact⟨h1,by omega,h4⟩
   ·rintro⟨h1,h2,h4⟩;exact⟨by omega,h1,by omega,by omega,h4⟩
  ·refine (validCore_gen w (coI 1 ct lv kw ko kq kt ka rn te re H) s (okHo H) _ _ (wrP H.bx) hv (fun _ W _=>vcG W (coI 1 ct lv kw ko kq kt ka rn te re H) s 0 0 184 idx_1) (fun _ W _=>vm_1 W ct lv kw ko kq kt ka rn te re H s) hz).mono ?_
   rintro o w' ⟨hr,hb⟩;refine⟨hr.to ?_,hb⟩
   rw[okCo_I,okM_1]
   simp only[decide_eq_true_eq]
   constructor
   ·rintro⟨_,h1,h2,h3,h4⟩;exact⟨h1,by omega,h4⟩
   ·rintro⟨h1,h2,h4⟩;exact⟨by omega,h1,by omega,by omega,h4⟩
  ·refine (validCore_gen w (coI 2 ct lv kw ko kq kt ka rn te re H) s (okHo H) _ _ (wrP H.bx) hv (fun _ W _=>vcG W (coI 2 ct lv kw ko kq kt ka rn te re H) s 0 5 185 idx_2) (fun _ W _=>vm_2 W ct lv kw ko kq kt ka rn te re H s) hz).mono ?_
   rintro o w' ⟨hr,hb⟩;refine⟨hr.to ?_,hb⟩
   rw[okCo_I,okM_2]
   simp only[decide_eq_true_eq]
   constructor
   ·rintro⟨_,h1,h2,h3,h4⟩;exact⟨h1,by omega,h4⟩
   ·rintro⟨h1,h2,h4⟩;exact⟨by omega,h1,by omega,by omega,h4⟩
  ·refine (validCore_gen w (coI 3 ct lv kw ko kq kt ka rn te re H) s (okHo H) _ _ (wrP H.bx) hv (fun _ W _=>vcG W (coI 3 ct lv kw ko kq kt ka rn te re H) s 0 15 186 idx_3) (fun _ W _=>vm_3 W ct lv kw ko kq kt ka rn te re H s) hz).mono ?_
   rintro o w' ⟨hr,hb⟩;refine⟨hr.to ?_,hb⟩
   rw[okCo_I,okM_3]
   simp only[decide_eq_true_eq]
   constructor
   ·rintro⟨_,h1,h2,h3,h4⟩;exact⟨h1,by omega,h4⟩
   ·rintro⟨h1,h2,h4⟩;exact⟨by omega,h1,by omega,by omega,h4⟩
  ·refine (validCore_gen w (coI 4 ct lv kw ko kq kt ka rn te re H) s (okHo H) _ _ (wrP H.bx) hv (fun _ W _=>vcG W (coI 4 ct lv kw ko kq kt ka rn te re H) s 1 7 187 idx_4) (fun _ W _=>vm_4 W ct lv kw ko kq kt ka rn te re H s) hz).mono ?_
   rintro o w' ⟨hr,hb⟩;refine⟨hr.to ?_,hb⟩
   rw[okCo_I,okM_4]
   simp only[decide_eq_true_eq]
   constructor
   ·rintro⟨_,h1,h2,h3,h4⟩;exact⟨h1,by omega,h4⟩
   ·rintro⟨h1,h2,h4⟩;exact⟨by omega,h1,by omega,by omega,h4⟩
  ·refine (validCore_gen w (coI 5 ct lv kw ko kq kt ka rn te re H) s (okHo H) _ _ (wrP H.bx) hv (fun _ W _=>vcG W (coI 5 ct lv kw ko kq kt ka rn te re H) s 0 2 188 idx_5) (fun _ W _=>vm_5 W ct lv kw ko kq kt ka rn te re H s) hz).mono ?_
   rintro o w' ⟨hr,hb⟩;refine⟨hr.to ?_,hb⟩
   rw[okCo_I,okM_5]
   simp only[decide_eq_true_eq]
   constructor
   ·rintro⟨_,h1,h2,h3,h4⟩;exact⟨h1,by omega,h4⟩
   ·rintro⟨h1,h2,h4⟩;exact⟨by omega,h1,by omega,by omega,h4⟩
  ·refine (validCore_gen w (coI 6 ct lv kw ko kq kt ka rn te re H) s (okHo H) _ _ (wrP H.bx) hv (fun _ W _=>vcG W (coI 6 ct lv kw ko kq kt ka rn te re H) s 0 7 189 idx_6) (fun _ W _=>vm_6 W ct lv kw ko kq kt ka rn te re H s) hz).mono ?_
   rintro o w' ⟨hr,hb⟩;refine⟨hr.to ?_,hb⟩
   rw[okCo_I,okM_6]
   simp only[decide_eq_true_eq]
   constructor
   ·rintro⟨_,h1,h2,h3,h4⟩;exact⟨h1,by omega,h4⟩
   ·rintro⟨h1,h2,h4⟩;exact⟨by omega,h1,by omega,by omega,h4⟩
  ·refine (validCore_gen w (coI 7 ct lv kw ko kq kt ka rn te re H) s (okHo H) _ _ (wrP H.bx) hv (fun _ W _=>vcG W (coI 7 ct lv kw ko kq kt ka rn te re H) s 0 10 190 idx_7) (fun _ W _=>vm_7 W ct lv kw ko kq kt ka rn te re H s) hz).mono ?_
   rintro o w' ⟨hr,hb⟩;refine⟨hr.to ?_,hb⟩
   rw[okCo_I,okM_7]
   simp only[decide_eq_true_eq,true_iff,true_and,not_true_eq_false,false_or]
   constructor
   ·rintro⟨_,h1,h2,h3,h4⟩;exact⟨h1,by omega,h4⟩
   ·rintro⟨h1,h2,h4⟩;exact⟨by omega,h1,by omega,by omega,h4⟩
 ·refine (validCore_gen w (coI p ct lv kw ko kq kt ka rn te re H) s (okHo H) True True (wrP H.bx) hv (fun x=>absurd x hin) (fun x=>absurd x hin) hz).mono ?_
  rintro o w' ⟨hr,hb⟩;exact⟨hr.to ⟨fun x=>absurd x.1 hin,fun x=>absurd x.m.p hin⟩,hb⟩
theorem okLC (W:World) (C:Co) (s:Sl) (h:isHo W C.ho s) (hn:C.ho.le 1048576) (hok:okCo C):Calls Tryz.prog 33 #[.agg (coL C s).toArray] W fun o w'=>o = .returned (.bool true)∧Below W.heap.size W w':=(l4ok_any W C s h hn).mono (by rintro o w' ⟨⟨b,rfl,hb⟩,h2⟩;rw[hb.2 hok];exact⟨rfl,h2⟩)
theorem badLC (W:World) (C:Co) (s:Sl) (h:isHo W C.ho s) (hn:C.ho.le 1048576) (hok:¬ okCo C):Calls Tryz.prog 33 #[.agg (coL C s).toArray] W fun o w'=>o = .returned (.bool false)∧Below W.heap.size W w':=(l4ok_any W C s h hn).mono (by rintro o w' ⟨⟨b,rfl,hb⟩,h2⟩;cases b;exact⟨rfl,h2⟩;exact absurd (hb.1 rfl) hok)
theorem vOkC (W:World) (C:Co) (s:Sl) (h:isHo W C.ho s) (hn:C.ho.le 1048576) (hok:okCo C):Calls Tryz.prog 83 #[.agg (coL C s).toArray] W fun o w'=>o = .returned (.bool true)∧Below W.heap.size W w':=(validCore_any W C s h hn).mono (by rintro o w' ⟨⟨b,rfl,hb⟩,h2⟩;rw[hb.2 hok];exact⟨rfl,h2⟩)
theorem vBadC (W:World) (C:Co) (s:Sl) (h:isHo W C.ho s) (hn:C.ho.le 1048576) (hok:¬ okCo C):Calls Tryz.prog 83 #[.agg (coL C s).toArray] W fun o w'=>o = .returned (.bool false)∧Below W.heap.size W w':=(validCore_any W C s h hn).mono (by rintro o w' ⟨⟨b,rfl,hb⟩,h2⟩;cases b;exact⟨rfl,h2⟩;exact absurd (hb.1 rfl) hok)
end Go.Proofs.YtkfcfigbgmbaiaaGreat
