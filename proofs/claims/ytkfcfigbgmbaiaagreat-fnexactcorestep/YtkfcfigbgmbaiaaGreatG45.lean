import Derived.Test.YtkfcfigbgmbaiaaGreatG44
import Derived.Test.YtkfcfigbgmbaiaaGreatG28
namespace Go.Proofs.YtkfcfigbgmbaiaaGreat
open Go.RowKit
set_option linter.unusedVariables false
set_option maxHeartbeats 16000000
theorem addS_two (Y:Co) (n:Int):((addC Y Y.tx n).te=256∧addS Y n=offC (addC Y Y.tx n))∨((addC Y Y.tx n).te≠256∧addS Y n=addC Y Y.tx n):=by
 unfold addS
 split
 ·rename_i e;exact Or.inl ⟨e,rfl⟩
 ·rename_i e;exact Or.inr ⟨e,rfl⟩
theorem addC_p (Y:Co) (b:Bool) (n:Int):(addC Y b n).p=Y.p:=by unfold addC;split <;> rfl
theorem ofI_no {A:Co} (h:A.te≠256):ofI A=A:=if_neg fun x=>h x.1
theorem ofI_yes {A:Co} (h:A.te=256) (hp:A.p≠7):ofI A=offC A:=if_pos ⟨h,hp⟩
theorem wfX_te (X:Co) (bit:Int):(wfX X bit).te=X.te∧(wfX X bit).re=X.re∧(wfX X bit).ho=X.ho:=by unfold wfX;split <;> (try split) <;> exact⟨rfl,rfl,rfl⟩
theorem wfX_p (X:Co) (bit:Int):(wfX X bit).p=3∨(wfX X bit).p=X.p:=by unfold wfX;split <;> (try split) <;> first | exact Or.inl rfl | exact Or.inr rfl
theorem offC_eq {A A':Co} (h:A.te=A'.te∧A.re=A'.re∧A.ho=A'.ho):offC A=offC A':=by unfold offC;rw[h.1,h.2.1,h.2.2]
theorem wf_off {X:Co} {bit:Int} (h:X.te=256) (hp:X.p≠7):offC X=ofI (wfX X bit):=by
 have h1:=wfX_te X bit
 rw[ofI_yes (by rw[h1.1];exact h) (by rcases wfX_p X bit with e | e <;> rw[e];decide;exact hp)]
 exact (offC_eq h1).symm
theorem addS_7 {Y:Co} {n:Int} (hp:Y.p≠7):(addS Y n).p=7↔(addC Y Y.tx n).te=256:=by
 rcases addS_two Y n with⟨e1,e2⟩|⟨e1,e2⟩
 ·rw[e2];exact⟨fun _=>e1,fun _=>rfl⟩
 ·rw[e2,addC_p];exact⟨fun x=>absurd x hp,fun x=>absurd x e1⟩
theorem wfX_one {X:Co} {bit:Int} (h:¬ (0<X.ct∧bit=X.lv)) (hc:0≤X.ct):wfX X bit = { X with ct:=1,lv:=bit }:=by
 unfold wfX
 by_cases e:bit=X.lv
 ·have e0:X.ct=0:=by have:¬ 0<X.ct:=fun x=>h ⟨x,e⟩;omega
  rw[if_pos e,e0]
  rfl
 ·rw[if_neg e]
set_option maxRecDepth 20000 in
theorem l4weak_c (w:World) (C:Co) (s:Sl) (B T0 T1 T2:Nat) (bit:Int) (hc:0≤C.ct∧C.ct≤200) (ht:0≤C.te∧C.te<256) (hr:0≤C.re∧C.re≤255) (hp:C.p≠7) (h:spS B T0 T1 T2 C.ho s w) :
  Calls Tryz.prog 116 #[.agg (coL C s).toArray,.int .i64 bit] w fun o w'=>∃ s',o = .returned (.agg (coL (ofI (wfX (wfO C bit) bit)) s').toArray)∧spS B T0 T1 T2 (ofI (wfX (wfO C bit) bit)).ho s' w'∧k41 T2 w w'∧Below B w w':=by
 have H0:Hid (vS w B T0 T1 T2 C s C.ho s ((w.alloc (.cells (coL C s).toArray 41)).alloc (.cells [.int .i64 0,.int .i64 0,.int .i64 0,.bool false,.bool false,.bool false,.bool false,.bool false,.int .i64 0,.int .i64 0,.int .i64 0,.int .i64 0,.int .i64 0,.int .i64 0,.int .i64 0,.slice none 0 0,.slice none 0 0,.slice none 0 0,.slice none 0 0,.int .i64 0,.int .i64 0].toArray 41))):=vS.new h
 have HAD:Hid (∀ W,Calls Tryz.prog 103 #[.agg (coL { C with ow:=false } s).toArray,.int .i64 8] W fun o w'=>o = .returned (.agg (coL (addS { C with ow:=false } 8) s).toArray)∧Below W.heap.size W w'):=fun W=>l4add_any W { C with ow:=false } s 8 (by decide) ht hr
 have HC:=hidX (And.intro hc (And.intro ht hp))
 clear h hc ht hr hp;have y5:=H0.out.p.cell 5 (.bool C.ow) rfl
 have z5:=H0.out.p.free 5
 obtain⟨ow,eow⟩ : ∃ b,C.ow=b:=⟨_,rfl⟩
 rw[eow] at y5
 have HOW:=hidX eow
 clear eow;obtain⟨b,e,_,fb⟩:=eqB bit 0
 generalize hW0:((w.alloc (.cells (coL C s).toArray 41)).alloc (.cells [.int .i64 0,.int .i64 0,.int .i64 0,.bool false,.bool false,.bool false,.bool false,.bool false,.int .i64 0,.int .i64 0,.int .i64 0,.int .i64 0,.int .i64 0,.int .i64 0,.int .i64 0,.slice none 0 0,.slice none 0 0,.slice none 0 0,.slice none 0 0,.int .i64 0,.int .i64 0].toArray 41))=W0 at *;go_enter Tryz.func116,Tryz.ntmps116
 go_upto_region 1 with fail
 try rw[hW0]
 go_cut [10] (fun x wx=>x = .bool (ow && b)∧wx=W0)
 case first=>
  cases ow <;> cases b <;> (
   go_wp2_with fail;go_meet
   case rel=>exact⟨rfl,rfl⟩)
 case rest=>
 obtain⟨rfl,hw⟩:=hcut
 have hw:=hw.symm
 subst hw;obtain⟨c,ec⟩ : ∃ c,(ow && b)=c:=⟨_,rfl⟩
 rw[ec]
 have HE:Hid (wfO C bit=if c=true then addC { C with ow:=false } C.tx 8 else C):=by
  have hc:(C.ow=true∧bit=0)↔c=true:=by rw[← ec,HOW.out,← fb.out];cases ow <;> cases b <;> simp
  show _=_
  unfold wfO
  simp only[hc]
 clear ec e fb HOW hW0;go_upto_if 10 with fail
 go_cut [] (fun wx=>Hid (vS w B T0 T1 T2 (wfO C bit) s (wfO C bit).ho s wx)∧Hid ((wfO C bit).te≠256))
 case first=>
  cases c
  ·go_wp2_with fail;go_meet
   case rel=>rw[HE.out];exact⟨H0.out,by have:=HC.out.2.1.2;exact fun x=>by rw[show (if false=true then addC { C with ow:=false } C.tx 8 else C)=C from rfl] at x;omega⟩
  ·have HV1:Hid (vS w B T0 T1 T2 { C with ow:=false } s C.ho s (World.setCell W0 ⟨w.heap.size,5,none⟩ (.bool false))):=(H0.out.set 5 (.bool false) { C with ow:=false } rfl)
   go_upto_region 3 with fail
   generalize (World.setCell W0 ⟨w.heap.size,5,none⟩ (.bool false))=w1 at *;go_wp2_with (first | (refine wpList_load_mid (P:=Tryz.prog) rfl 41 (.tmp 2) rfl w.heap.size 0 rfl (coL { C with ow:=false } s) _ HV1.out.p.load Tryz.underlying41 rfl (szC41L _ _) ?_))
   refine (HAD.out _).mono ?_
   rintro o w8 ⟨rfl,hb8⟩;have HV8:Hid (vS w B T0 T1 T2 { C with ow:=false } s C.ho s w8):=HV1.out.below hb8
   clear hb8 HV1;go_upto_region 4 with (first | (refine wpList_store_mid (P:=Tryz.prog) rfl 41 (.tmp 2) (.tmp 13) rfl w.heap.size 0 (coL (addS { C with ow:=false } 8) s).toArray rfl rfl (HV8.out.p.there 0 _ (by rw[List.size_toArray,coL_len,coL_len];decide)) (szC41A _ _) (coL_one _ _) ?_;generalize hW9:World.setCells _ w.heap.size 0 _=w9;have HV9:=hidS hW9 (HV8.out.put (addS { C with ow:=false } 8) s);clear hW9))
   simp only[Act.put]
   have HX7:Hid ((addS { C with ow:=false } 8).p=7↔(addC { C with ow:=false } C.tx 8).te=256):=addS_7 HC.out.2.2
   have HX2:=hidX (addS_two { C with ow:=false } 8)
   have HXh:Hid ((addS { C with ow:=false } 8).ho=C.ho):=addS_ho { C with ow:=false } 8
   obtain⟨X,eX⟩ : ∃ X,addS { C with ow:=false } 8=X:=⟨_,rfl⟩
   rw[eX] at HV9 HX7 HX2 HXh
   clear eX HV8 HAD;have y0:=HV9.out.p.cell 0 (.int .i64 X.p) rfl
   obtain⟨p7,e7,_,f7⟩:=eqB X.p 7
   cases p7
   ·go_wp2_with fail;go_meet
    case rel=>
     have n7:¬ (addC { C with ow:=false } C.tx 8).te=256:=fun x=>by have:=f7.out.2 (HX7.out.2 x);cases this
     have eX:X=addC { C with ow:=false } C.tx 8:=by rcases HX2.out with⟨a,_⟩ | ⟨_,a⟩;exact absurd a n7;exact a
     rw[HE.out]
     refine⟨?_,n7⟩
     show vS w B T0 T1 T2 (addC { C with ow:=false } C.tx 8) s (addC { C with ow:=false } C.tx 8).ho s _
     rw[← eX,HXh.out]
     exact HV9.out
   ·have HR:Hid (X=ofI (wfX (wfO C bit) bit)):=by
     have n7:(addC { C with ow:=false } C.tx 8).te=256:=HX7.out.1 (f7.out.1 rfl)
     have eX:X=offC (addC { C with ow:=false } C.tx 8):=by rcases HX2.out with⟨_,a⟩ | ⟨a,_⟩;exact a;exact absurd n7 a
     show _=_
     rw[eX,HE.out]
     exact wf_off n7 (by show (addC { C with ow:=false } C.tx 8).p≠7;rw[addC_p];exact HC.out.2.2)
    rw[← HXh.out] at HV9
    go_upto_region 5 with fail
    go_wp2_with (first | (refine wpList_load_mid (P:=Tryz.prog) rfl 41 (.tmp 2) rfl w.heap.size 0 rfl (coL X s) _ HV9.out.p.load Tryz.underlying41 rfl (szC41L _ _) ?_) | (refine wpList_store_mid (P:=Tryz.prog) rfl 41 (.tmp 4) (.tmp 17) rfl (w.heap.size+1) 0 (coL X s).toArray rfl rfl (HV9.out.r.there 0 _ (by rw[List.size_toArray,coL_len];decide)) (szC41A _ _) (coL_one _ _) ?_;generalize hW11:World.setCells _ (w.heap.size+1) 0 _=w11;have R11:=hidR hW11 (HV9.out.ret X s);clear hW11))
    have hL:=run_loadVar_mid (P:=Tryz.prog) w11 (w.heap.size+1) 0 41 _ _ R11.out.1.load Tryz.underlying41 rfl (szC41L _ _)
    refine bodyPost_ret (v:=.agg (coL X s).toArray) (results_cell Tryz.results116 _ w11 (w.heap.size+1) _ rfl hL) rfl ?_
    rw[← HR.out]
    exact⟨s,rfl,R11.out.2⟩
 case rest=>
 have HCX:Hid (0≤(wfO C bit).ct∧(wfO C bit).ct≤200):=by rw[wfO_ct];exact HC.out.1
 have HOF:Hid (ofI (wfX (wfO C bit) bit)=wfX (wfO C bit) bit):=ofI_no (by rw[(wfX_te _ _).1];exact hcut.2.out)
 have hct:=hcut.1
 obtain⟨X,eX⟩ : ∃ X,wfO C bit=X:=⟨_,rfl⟩
 have HEX:=hidX eX
 rw[eX] at hct HCX
 clear hcut eX HE HAD HC H0 y5 z5;have H0:=hct
 clear hct;have hw:=wrap_ct HCX.out
 have y0:=H0.out.p.cell 0 (.int .i64 X.p) rfl
 have y1:=H0.out.p.cell 1 (.int .i64 X.ct) rfl
 have y2:=H0.out.p.cell 2 (.int .i64 X.lv) rfl
 have y3:=H0.out.p.cell 3 (.bool X.wk) rfl
 have y5:=H0.out.p.cell 5 (.bool X.ow) rfl
 have z0:=H0.out.p.free 0
 have z1:=H0.out.p.free 1
 have z2:=H0.out.p.free 2
 have z3:=H0.out.p.free 3
 have z5:=H0.out.p.free 5
 obtain⟨c0,e0,f0⟩:=ltB 0 X.ct
 obtain⟨bl,el,_,fl⟩:=eqB bit X.lv
 obtain⟨d,ed,_,fd⟩:=eqB (X.ct+1) 6
 go_upto_region 6 with fail
 go_cut [26] (fun x wx=>x = .bool (c0 && bl)∧wx=wc)
 case first=>
  cases c0 <;> cases bl <;> (
   go_wp2_with fail;go_meet
   case rel=>exact⟨rfl,rfl⟩)
 case rest=>
 obtain⟨rfl,hw1⟩:=hcut
 have hw1:=hw1.symm
 subst hw1;obtain⟨m,em⟩ : ∃ m,(c0 && bl)=m:=⟨_,rfl⟩
 rw[em]
 have fm:Hid (m=true↔(0<X.ct∧bit=X.lv)):=by show _↔_;rw[← em,← f0.out,← fl.out];cases c0 <;> cases bl <;> simp
 clear em e0 el f0 fl;cases m
 ·have HR:Hid (wfX X bit = { X with ct:=1,lv:=bit }):=wfX_one (by simpa using fm.out) HCX.out.1
  have HV9:Hid (vS w B T0 T1 T2 { X with ct:=1,lv:=bit } s X.ho s (World.setCell (World.setCell wc ⟨w.heap.size,1,none⟩ (.int .i64 1)) ⟨w.heap.size,2,none⟩ (.int .i64 bit))):=((H0.out.set 1 (.int .i64 1) { X with ct:=1 } rfl).set 2 (.int .i64 bit) { X with ct:=1,lv:=bit } rfl)
  go_upto_region 16 with fail
  generalize (World.setCell (World.setCell wc ⟨w.heap.size,1,none⟩ (.int .i64 1)) ⟨w.heap.size,2,none⟩ (.int .i64 bit))=w9 at *;go_wp2_with (first | (refine wpList_load_mid (P:=Tryz.prog) rfl 41 (.tmp 2) rfl w.heap.size 0 rfl (coL { X with ct:=1,lv:=bit } s) _ HV9.out.p.load Tryz.underlying41 rfl (szC41L _ _) ?_) | (refine wpList_store_mid (P:=Tryz.prog) rfl 41 (.tmp 4) (.tmp 42) rfl (w.heap.size+1) 0 (coL { X with ct:=1,lv:=bit } s).toArray rfl rfl (HV9.out.r.there 0 _ (by rw[List.size_toArray,coL_len];decide)) (szC41A _ _) (coL_one _ _) ?_;generalize hW11:World.setCells _ (w.heap.size+1) 0 _=w11;have R11:=hidR hW11 (HV9.out.ret { X with ct:=1,lv:=bit } s);clear hW11))
  have hL:=run_loadVar_mid (P:=Tryz.prog) w11 (w.heap.size+1) 0 41 _ _ R11.out.1.load Tryz.underlying41 rfl (szC41L _ _)
  refine bodyPost_ret (v:=.agg (coL { X with ct:=1,lv:=bit } s).toArray) (results_cell Tryz.results116 _ w11 (w.heap.size+1) _ rfl hL) rfl ?_
  rw[HOF.out,HEX.out,HR.out]
  exact⟨s,rfl,R11.out.2⟩
 ·cases d
  ·have HR:Hid (wfX X bit = { X with ct:=X.ct+1,lv:=bit }):=by show _=_;unfold wfX;rw[if_pos (fm.out.1 rfl).2,if_neg (by simpa using fd.out)]
   have HV9:Hid (vS w B T0 T1 T2 { X with ct:=(X.ct+1),lv:=bit } s X.ho s (World.setCell (World.setCell wc ⟨w.heap.size,1,none⟩ (.int .i64 (X.ct+1))) ⟨w.heap.size,2,none⟩ (.int .i64 bit))):=((H0.out.set 1 (.int .i64 (X.ct+1)) { X with ct:=(X.ct+1) } rfl).set 2 (.int .i64 bit) { X with ct:=(X.ct+1),lv:=bit } rfl)
   go_upto_region 16 with fail
   generalize (World.setCell (World.setCell wc ⟨w.heap.size,1,none⟩ (.int .i64 (X.ct+1))) ⟨w.heap.size,2,none⟩ (.int .i64 bit))=w9 at *;go_wp2_with (first | (refine wpList_load_mid (P:=Tryz.prog) rfl 41 (.tmp 2) rfl w.heap.size 0 rfl (coL { X with ct:=(X.ct+1),lv:=bit } s) _ HV9.out.p.load Tryz.underlying41 rfl (szC41L _ _) ?_) | (refine wpList_store_mid (P:=Tryz.prog) rfl 41 (.tmp 4) (.tmp 42) rfl (w.heap.size+1) 0 (coL { X with ct:=(X.ct+1),lv:=bit } s).toArray rfl rfl (HV9.out.r.there 0 _ (by rw[List.size_toArray,coL_len];decide)) (szC41A _ _) (coL_one _ _) ?_;generalize hW11:World.setCells _ (w.heap.size+1) 0 _=w11;have R11:=hidR hW11 (HV9.out.ret { X with ct:=(X.ct+1),lv:=bit } s);clear hW11))
   have hL:=run_loadVar_mid (P:=Tryz.prog) w11 (w.heap.size+1) 0 41 _ _ R11.out.1.load Tryz.underlying41 rfl (szC41L _ _)
   refine bodyPost_ret (v:=.agg (coL { X with ct:=(X.ct+1),lv:=bit } s).toArray) (results_cell Tryz.results116 _ w11 (w.heap.size+1) _ rfl hL) rfl ?_
   rw[HOF.out,HEX.out,HR.out]
   exact⟨s,rfl,R11.out.2⟩
  ·have HR:Hid (wfX X bit = { X with p:=3,ct:=0,lv:=0,wk:=false,ow:=false }):=by show _=_;unfold wfX;rw[if_pos (fm.out.1 rfl).2,if_pos (by simpa using fd.out)]
   have HV9:Hid (vS w B T0 T1 T2 { X with p:=3,ct:=0,lv:=0,wk:=false,ow:=false } s X.ho s (World.setCell (World.setCell (World.setCell (World.setCell (World.setCell (World.setCell (World.setCell wc ⟨w.heap.size,1,none⟩ (.int .i64 (X.ct+1))) ⟨w.heap.size,2,none⟩ (.int .i64 bit)) ⟨w.heap.size,0,none⟩ (.int .i64 3)) ⟨w.heap.size,1,none⟩ (.int .i64 0)) ⟨w.heap.size,2,none⟩ (.int .i64 0)) ⟨w.heap.size,3,none⟩ (.bool false)) ⟨w.heap.size,5,none⟩ (.bool false))):=(((((((H0.out.set 1 (.int .i64 (X.ct+1)) { X with ct:=(X.ct+1) } rfl).set 2 (.int .i64 bit) { X with ct:=(X.ct+1),lv:=bit } rfl).set 0 (.int .i64 3) { X with ct:=(X.ct+1),lv:=bit,p:=3 } rfl).set 1 (.int .i64 0) { X with lv:=bit,p:=3,ct:=0 } rfl).set 2 (.int .i64 0) { X with p:=3,ct:=0,lv:=0 } rfl).set 3 (.bool false) { X with p:=3,ct:=0,lv:=0,wk:=false } rfl).set 5 (.bool false) { X with p:=3,ct:=0,lv:=0,wk:=false,ow:=false } rfl)
   go_upto_region 16 with fail
   generalize (World.setCell (World.setCell (World.setCell (World.setCell (World.setCell (World.setCell (World.setCell wc ⟨w.heap.size,1,none⟩ (.int .i64 (X.ct+1))) ⟨w.heap.size,2,none⟩ (.int .i64 bit)) ⟨w.heap.size,0,none⟩ (.int .i64 3)) ⟨w.heap.size,1,none⟩ (.int .i64 0)) ⟨w.heap.size,2,none⟩ (.int .i64 0)) ⟨w.heap.size,3,none⟩ (.bool false)) ⟨w.heap.size,5,none⟩ (.bool false))=w9 at *;go_wp2_with (first | (refine wpList_load_mid (P:=Tryz.prog) rfl 41 (.tmp 2) rfl w.heap.size 0 rfl (coL { X with p:=3,ct:=0,lv:=0,wk:=false,ow:=false } s) _ HV9.out.p.load Tryz.underlying41 rfl (szC41L _ _) ?_) | (refine wpList_store_mid (P:=Tryz.prog) rfl 41 (.tmp 4) (.tmp 42) rfl (w.heap.size+1) 0 (coL { X with p:=3,ct:=0,lv:=0,wk:=false,ow:=false } s).toArray rfl rfl (HV9.out.r.there 0 _ (by rw[List.size_toArray,coL_len];decide)) (szC41A _ _) (coL_one _ _) ?_;generalize hW11:World.setCells _ (w.heap.size+1) 0 _=w11;have R11:=hidR hW11 (HV9.out.ret { X with p:=3,ct:=0,lv:=0,wk:=false,ow:=false } s);clear hW11))
   have hL:=run_loadVar_mid (P:=Tryz.prog) w11 (w.heap.size+1) 0 41 _ _ R11.out.1.load Tryz.underlying41 rfl (szC41L _ _)
   refine bodyPost_ret (v:=.agg (coL { X with p:=3,ct:=0,lv:=0,wk:=false,ow:=false } s).toArray) (results_cell Tryz.results116 _ w11 (w.heap.size+1) _ rfl hL) rfl ?_
   rw[HOF.out,HEX.out,HR.out]
   exact⟨s,rfl,R11.out.2⟩
theorem addS_ofI {X:Co} {n:Int} (hp:X.p≠7):addS X n=ofI (addC X X.tx n):=by
 rcases addS_two X n with⟨a,b⟩|⟨a,b⟩
 ·rw[b,ofI_yes a (by rw[addC_p];exact hp)]
 ·rw[b,ofI_no a]
theorem addC_ct (C:Co) (b:Bool) (n m k:Int):{ addC { C with ct:=m } b n with ct:=k }=addC { C with ct:=k } b n:=by unfold addC;split <;> rfl
set_option maxRecDepth 20000 in
theorem l4wait_c (w:World) (C:Co) (s:Sl) (B T0 T1 T2:Nat) (bit:Int) (hc:0≤C.ct∧C.ct≤200) (ht:0≤C.te∧C.te<256) (hr:0≤C.re∧C.re≤255) (hp:C.p≠7) (h:spS B T0 T1 T2 C.ho s w) :
  Calls Tryz.prog 117 #[.agg (coL C s).toArray,.int .i64 bit] w fun o w'=>∃ s',o = .returned (.agg (coL (ofI (waC C bit)) s').toArray)∧spS B T0 T1 T2 (ofI (waC C bit)).ho s' w'∧k41 T2 w w'∧Below B w w':=by
 have H0:Hid (vS w B T0 T1 T2 C s C.ho s ((w.alloc (.cells (coL C s).toArray 41)).alloc (.cells [.int .i64 0,.int .i64 0,.int .i64 0,.bool false,.bool false,.bool false,.bool false,.bool false,.int .i64 0,.int .i64 0,.int .i64 0,.int .i64 0,.int .i64 0,.int .i64 0,.int .i64 0,.slice none 0 0,.slice none 0 0,.slice none 0 0,.slice none 0 0,.int .i64 0,.int .i64 0].toArray 41))):=vS.new h
 have HAD:Hid (∀ W X,X.te=C.te→X.re=C.re→Calls Tryz.prog 103 #[.agg (coL X s).toArray,.int .i64 8] W fun o w'=>o = .returned (.agg (coL (addS X 8) s).toArray)∧Below W.heap.size W w'):=fun W X e1 e2=>l4add_any W X s 8 (by decide) (by rw[e1];exact ht) (by rw[e2];exact hr)
 have HC:=hidX (And.intro ht hp)
 have hw:=wrap_ct hc
 clear h hc ht hr hp;have y0:=H0.out.p.cell 0 (.int .i64 C.p) rfl
 have y1:=H0.out.p.cell 1 (.int .i64 C.ct) rfl
 have y4:=H0.out.p.cell 4 (.bool C.ov) rfl
 have y6:=H0.out.p.cell 6 (.bool C.tx) rfl
 have z0:=H0.out.p.free 0
 have z1:=H0.out.p.free 1
 obtain⟨tx,etx⟩ : ∃ b,C.tx=b:=⟨_,rfl⟩
 obtain⟨ov,eov⟩ : ∃ b,C.ov=b:=⟨_,rfl⟩
 rw[etx] at y6
 rw[eov] at y4
 obtain⟨b,e,_,fb⟩:=eqB bit 1
 obtain⟨d1,e1,_,f1⟩:=eqB (C.ct+1) 1
 obtain⟨d8,e8,_,f8⟩:=eqB (C.ct+1) 8
 obtain⟨d16,e16,_,f16⟩:=eqB (C.ct+1) 16
 have HQ:Hid (waC C bit=if b=true then { C with p:=4,ct:=1 } else if ((d1 && !tx && !ov) || d8)=true then addC { C with ct:=C.ct+1 } C.tx 8 else if d16=true then { addC { C with ct:=C.ct+1 } C.tx 8 with ct:=8 } else { C with ct:=C.ct+1 }):=by
  show _=_
  have h1:(((d1 && !tx && !ov) || d8)=true)↔((C.ct+1=1∧C.tx=false∧C.ov=false)∨C.ct+1=8):=by rw[← f1.out,← f8.out,etx,eov];cases d1 <;> cases tx <;> cases ov <;> cases d8 <;> simp
  unfold waC
  simp only[h1,fb.out,f16.out]
 have HX8:Hid (d16=true→d8=false∧d1=false):=fun x=>by
  have h1:=f16.out.1 x
  refine⟨?_,?_⟩
  ·cases d8
   ·rfl
   ·have:=f8.out.1 rfl;omega
  ·cases d1
   ·rfl
   ·have:=f1.out.1 rfl;omega
 have HTO:=hidX (And.intro etx eov)
 clear fb f1 f8 f16 etx eov;generalize hW0:((w.alloc (.cells (coL C s).toArray 41)).alloc (.cells [.int .i64 0,.int .i64 0,.int .i64 0,.bool false,.bool false,.bool false,.bool false,.bool false,.int .i64 0,.int .i64 0,.int .i64 0,.int .i64 0,.int .i64 0,.int .i64 0,.int .i64 0,.slice none 0 0,.slice none 0 0,.slice none 0 0,.slice none 0 0,.int .i64 0,.int .i64 0].toArray 41))=W0 at *;go_enter Tryz.func117,Tryz.ntmps117
 cases b
 case true=>
  have HR:Hid (ofI (waC C bit) = { C with p:=4,ct:=1 }):=by
   show _=_
   rw[HQ.out]
   exact ofI_no (by have:=HC.out.1.2;intro x;have x:C.te=256:=x;omega)
  have HV9:Hid (vS w B T0 T1 T2 { C with p:=4,ct:=1 } s C.ho s (World.setCell (World.setCell W0 ⟨w.heap.size,0,none⟩ (.int .i64 4)) ⟨w.heap.size,1,none⟩ (.int .i64 1))):=((H0.out.set 0 (.int .i64 4) { C with p:=4 } rfl).set 1 (.int .i64 1) { C with p:=4,ct:=1 } rfl)
  go_upto_region 4 with fail
  generalize (World.setCell (World.setCell W0 ⟨w.heap.size,0,none⟩ (.int .i64 4)) ⟨w.heap.size,1,none⟩ (.int .i64 1))=w9 at *;go_wp2_with (first | (refine wpList_load_mid (P:=Tryz.prog) rfl 41 (.tmp 2) rfl w.heap.size 0 rfl (coL { C with p:=4,ct:=1 } s) _ HV9.out.p.load Tryz.underlying41 rfl (szC41L _ _) ?_) | (refine wpList_store_mid (P:=Tryz.prog) rfl 41 (.tmp 4) (.tmp 10) rfl (w.heap.size+1) 0 (coL { C with p:=4,ct:=1 } s).toArray rfl rfl (HV9.out.r.there 0 _ (by rw[List.size_toArray,coL_len];decide)) (szC41A _ _) (coL_one _ _) ?_;generalize hW11:World.setCells _ (w.heap.size+1) 0 _=w11;have R11:=hidR hW11 (HV9.out.ret { C with p:=4,ct:=1 } s);clear hW11))
  have hL:=run_loadVar_mid (P:=Tryz.prog) w11 (w.heap.size+1) 0 41 _ _ R11.out.1.load Tryz.underlying41 rfl (szC41L _ _)
  refine bodyPost_ret (v:=.agg (coL { C with p:=4,ct:=1 } s).toArray) (results_cell Tryz.results117 _ w11 (w.heap.size+1) _ rfl hL) rfl ?_
  rw[HR.out]
  exact⟨s,rfl,R11.out.2⟩
 case false=>
 go_upto_if 18 with fail
 go_cut [] (fun wx=>Hid (vS w B T0 T1 T2 (if d16=true then { C with ct:=8 } else { C with ct:=C.ct+1 }) s C.ho s wx))
 case first=>
  cases d16
  ·have HV1:Hid (vS w B T0 T1 T2 { C with ct:=(C.ct+1) } s C.ho s (World.setCell W0 ⟨w.heap.size,1,none⟩ (.int .i64 (C.ct+1)))):=(H0.out.set 1 (.int .i64 (C.ct+1)) { C with ct:=(C.ct+1) } rfl)
   go_wp2_with fail;go_meet
   case rel=>exact HV1.out
  ·have HV1:Hid (vS w B T0 T1 T2 { C with ct:=8 } s C.ho s (World.setCell (World.setCell W0 ⟨w.heap.size,1,none⟩ (.int .i64 (C.ct+1))) ⟨w.heap.size,1,none⟩ (.int .i64 8))):=((H0.out.set 1 (.int .i64 (C.ct+1)) { C with ct:=(C.ct+1) } rfl).set 1 (.int .i64 8) { C with ct:=8 } rfl)
   go_wp2_with fail;go_meet
   case rel=>exact HV1.out
 case rest=>
 have HV2:=hcut
 have YY:Hid (((if d16=true then { C with ct:=8 } else { C with ct:=C.ct+1 })).te=C.te∧((if d16=true then { C with ct:=8 } else { C with ct:=C.ct+1 })).re=C.re∧((if d16=true then { C with ct:=8 } else { C with ct:=C.ct+1 })).ho=C.ho∧((if d16=true then { C with ct:=8 } else { C with ct:=C.ct+1 })).tx=C.tx∧((if d16=true then { C with ct:=8 } else { C with ct:=C.ct+1 })).p=C.p∧((if d16=true then { C with ct:=8 } else { C with ct:=C.ct+1 })).ov=C.ov):=by cases d16 <;> exact⟨rfl,rfl,rfl,rfl,rfl,rfl⟩
 clear hcut y0 y1 y4 y6 z0 z1;obtain⟨X,eX⟩ : ∃ X,(if d16=true then { C with ct:=8 } else { C with ct:=C.ct+1 })=X:=⟨_,rfl⟩
 rw[eX] at HV2 YY
 have HEX:=hidX eX
 clear eX H0;have y4:=HV2.out.p.cell 4 (.bool X.ov) rfl
 have y6:=HV2.out.p.cell 6 (.bool X.tx) rfl
 rw[YY.out.2.2.2.2.2,HTO.out.2] at y4
 rw[YY.out.2.2.2.1,HTO.out.1] at y6
 go_upto_region 9 with fail
 go_cut [39] (fun x wx=>x = .bool (d8 || d16 || (d1 && !tx && !ov))∧wx=wc)
 case first=>
  clear HQ HX8 HTO YY HEX;have hh:(d8=true)∨(d8=false∧d16=true)∨(d8=false∧d16=false∧d1=true∧tx=true)∨(d8=false∧d16=false∧d1=true∧tx=false∧ov=true)∨(d8=false∧d16=false∧d1=true∧tx=false∧ov=false)∨(d8=false∧d16=false∧d1=false):=by cases d8 <;> cases d16 <;> cases d1 <;> cases tx <;> cases ov <;> simp
  rcases hh with rfl | ⟨rfl,rfl⟩ | ⟨rfl,rfl,rfl,rfl⟩ | ⟨rfl,rfl,rfl,rfl,rfl⟩ | ⟨rfl,rfl,rfl,rfl,rfl⟩ | ⟨rfl,rfl,rfl⟩ <;> (
   go_wp2_with fail;go_meet
   case rel=>exact⟨rfl,rfl⟩)
 case rest=>
 obtain⟨rfl,hw1⟩:=hcut
 have hw1:=hw1.symm
 subst hw1;obtain⟨m,em⟩ : ∃ m,(d8 || d16 || (d1 && !tx && !ov))=m:=⟨_,rfl⟩
 rw[em]
 have HM:=hidX em
 rw[← YY.out.2.2.1] at HV2
 have HR:Hid (ofI (waC C bit)=if m=true then addS X 8 else X):=by
  show _=_
  have h8:=HX8.out
  rw[HQ.out,← HM.out]
  by_cases h16:d16=true
  ·have h:=h8 h16
   rw[h16,h.1,h.2]
   have ex:X = { C with ct:=8 }:=by rw[← HEX.out,if_pos h16]
   show ofI { addC { C with ct:=C.ct+1 } C.tx 8 with ct:=8 }=addS X 8
   rw[addC_ct,ex,addS_ofI (X:={ C with ct:=8 }) (n:=8) HC.out.2]
  ·have h16':d16=false:=by simpa using h16
   have ex:X = { C with ct:=C.ct+1 }:=by rw[← HEX.out,if_neg h16]
   rw[h16',ex,addS_ofI (X:={ C with ct:=C.ct+1 }) (n:=8) HC.out.2]
   by_cases hq:((d1 && !tx && !ov) || d8)=true
   ·have hq2:(d8 || false || (d1 && !tx && !ov))=true:=by rw[Bool.or_false,Bool.or_comm];exact hq
    rw[if_neg (by decide),if_pos hq,if_pos hq2]
   ·have hq2:¬ (d8 || false || (d1 && !tx && !ov))=true:=by rw[Bool.or_false,Bool.or_comm];exact hq
    rw[if_neg (by decide),if_neg hq,if_neg (by decide),if_neg hq2]
    exact ofI_no (by have:=HC.out.1.2;intro x;have x:C.te=256:=x;omega)
 clear em HM HQ HX8 HTO HEX y4 y6 e1 e8 e16;cases m
 case false=>
  go_upto_region 11 with fail
  go_wp2_with (first | (refine wpList_load_mid (P:=Tryz.prog) rfl 41 (.tmp 2) rfl w.heap.size 0 rfl (coL X s) _ HV2.out.p.load Tryz.underlying41 rfl (szC41L _ _) ?_) | (refine wpList_store_mid (P:=Tryz.prog) rfl 41 (.tmp 4) (.tmp 42) rfl (w.heap.size+1) 0 (coL X s).toArray rfl rfl (HV2.out.r.there 0 _ (by rw[List.size_toArray,coL_len];decide)) (szC41A _ _) (coL_one _ _) ?_;generalize hW11:World.setCells _ (w.heap.size+1) 0 _=w11;have R11:=hidR hW11 (HV2.out.ret X s);clear hW11))
  have hL:=run_loadVar_mid (P:=Tryz.prog) w11 (w.heap.size+1) 0 41 _ _ R11.out.1.load Tryz.underlying41 rfl (szC41L _ _)
  refine bodyPost_ret (v:=.agg (coL X s).toArray) (results_cell Tryz.results117 _ w11 (w.heap.size+1) _ rfl hL) rfl ?_
  rw[HR.out]
  exact⟨s,rfl,R11.out.2⟩
 case true=>
  go_wp2_with (first | (refine wpList_load_mid (P:=Tryz.prog) rfl 41 (.tmp 2) rfl w.heap.size 0 rfl (coL X s) _ HV2.out.p.load Tryz.underlying41 rfl (szC41L _ _) ?_))
  refine (HAD.out _ X YY.out.1 YY.out.2.1).mono ?_
  rintro o w8 ⟨rfl,hb8⟩;have HV8:Hid (vS w B T0 T1 T2 X s X.ho s w8):=HV2.out.below hb8
  clear hb8 HV2;go_upto_region 11 with (first | (refine wpList_store_mid (P:=Tryz.prog) rfl 41 (.tmp 2) (.tmp 41) rfl w.heap.size 0 (coL (addS X 8) s).toArray rfl rfl (HV8.out.p.there 0 _ (by rw[List.size_toArray,coL_len,coL_len];decide)) (szC41A _ _) (coL_one _ _) ?_;generalize hW9:World.setCells _ w.heap.size 0 _=w9;have HV9:=hidS hW9 (HV8.out.put (addS X 8) s);clear hW9))
  simp only[Act.put]
  have HXh:Hid (X.ho=(addS X 8).ho):=(addS_ho X 8).symm
  rw[HXh.out] at HV9
  go_wp2_with (first | (refine wpList_load_mid (P:=Tryz.prog) rfl 41 (.tmp 2) rfl w.heap.size 0 rfl (coL (addS X 8) s) _ HV9.out.p.load Tryz.underlying41 rfl (szC41L _ _) ?_) | (refine wpList_store_mid (P:=Tryz.prog) rfl 41 (.tmp 4) (.tmp 42) rfl (w.heap.size+1) 0 (coL (addS X 8) s).toArray rfl rfl (HV9.out.r.there 0 _ (by rw[List.size_toArray,coL_len];decide)) (szC41A _ _) (coL_one _ _) ?_;generalize hW11:World.setCells _ (w.heap.size+1) 0 _=w11;have R11:=hidR hW11 (HV9.out.ret (addS X 8) s);clear hW11))
  have hL:=run_loadVar_mid (P:=Tryz.prog) w11 (w.heap.size+1) 0 41 _ _ R11.out.1.load Tryz.underlying41 rfl (szC41L _ _)
  refine bodyPost_ret (v:=.agg (coL (addS X 8) s).toArray) (results_cell Tryz.results117 _ w11 (w.heap.size+1) _ rfl hL) rfl ?_
  rw[HR.out]
  exact⟨s,rfl,R11.out.2⟩
set_option maxRecDepth 20000 in
theorem l3take_c (w:World) (H:Ho) (s:Sl) (i:Int) (B T0 T1 T2:Nat) (h:spS B T0 T1 T2 H s w) (hn2:H.bx.length≤1000) :
  Calls Tryz.prog 163 #[.agg (hoL H s).toArray,.int .i64 i] w fun o w'=>o = .returned (.agg (hoL H s).toArray)∧spS B T0 T1 T2 (takeHo H i) s w'∧k41 T2 w w'∧Below B w w':=by
 have H0:Hid (reS w (hoL H s) ((w.alloc (.cells (hoL H s).toArray 39)).alloc (.cells zX.toArray 39))∧Below w.heap.size w ((w.alloc (.cells (hoL H s).toArray 39)).alloc (.cells zX.toArray 39))):=⟨reS.new w _,((Below.refl _ _).alloc (Nat.le_refl _) _).alloc (by simp) _⟩
 have hln:=h.n2
 have HLN:=hidX hln
 have HBS:Hid (∀ W,Below w.heap.size w W→Calls Tryz.prog 76 #[.agg (hoL H s).toArray] W fun o w'=>∃ r:Int,o = .returned (.int .i64 r)∧bsy H.bx r∧Below W.heap.size W w'):=fun W hW=>l3busy_any W H s (h.below hW).is.bx (by omega)
 have HS:=hidX h
 obtain⟨gb,hs0,ea,hx⟩:=h.x
 have x5:(((w.alloc (.cells (hoL H s).toArray 39)).alloc (.cells zX.toArray 39))).cell? ⟨w.heap.size,5,none⟩=some (.slice (some ⟨gb,0,none⟩) s.n2 s.k2):=by rw[← ea];exact H0.out.1.p.cell 5 _ (by unfold hoL;rfl)
 have HX:=hidX hx
 have HA:=hidX ea
 have hcp:=hx.cap
 have ho:=h.o
 have HGB:Hid (gb<T1∧T0≤gb∧T1≤T2∧T2≤w.heap.size∧B≤T0):=⟨hx.hi,hx.lo,ho.2.2.1,ho.2.2.2,ho.1⟩
 clear h hx ea ho hln;go_enter Tryz.func163,Tryz.ntmps163
 go_upto_region 1 with fail
 go_cut [27] (fun x wx=>∃ b:Bool,x = .bool b∧Hid (b=true→takeB H.bx i=H.bx)∧Hid (b=false→∃ (k:Nat) (hk:k<H.bx.length),i=(k:Int)∧H.bx[k].x=1∧takeB H.bx i=H.bx.set k { H.bx[k] with x:=2 })∧Hid (reS w (hoL H s) wx∧Below w.heap.size w wx))
 case first=>
  by_cases hi0:i<0
  ·have d0:decide (i<0)=true:=by simpa using hi0
   have HT:=hidX (takeB_out (bx:=H.bx) (Or.inl hi0))
   clear hi0;go_wp2_with fail;go_meet
   case rel=>exact⟨true,rfl,fun _=>HT.out,fun x=>(by cases x),H0.out⟩
  by_cases hi1:(s.n2:Int)≤i
  ·have d0:decide (i<0)=false:=by simpa using hi0
   have d1:decide ((s.n2:Int)≤i)=true:=by simpa using hi1
   have HT:=hidX (takeB_out (bx:=H.bx) (i:=i) (Or.inr (by have:=HLN.out;omega)))
   go_wp2_with fail;go_meet
   case rel=>exact⟨true,rfl,fun _=>HT.out,fun x=>(by cases x),H0.out⟩
  obtain⟨k,rfl⟩ : ∃ k:Nat,i=(k:Int):=⟨i.toNat,by omega⟩
  have hk2:k<s.n2:=by omega
  have hk:k<H.bx.length:=by have:=HLN.out;omega
  have Y0:Hid (∀ v,H.bx[k].x=v→(((w.alloc (.cells (hoL H s).toArray 39)).alloc (.cells zX.toArray 39))).cell? ⟨gb,k*8,none⟩=some (.int .i64 v)):=fun v e=>by
   subst e;exact (H0.out.2.cell (by exact Nat.lt_of_lt_of_le HGB.out.1 (by have:=HGB.out;omega))).trans (HX.out.rng k hk 0 _ rfl)
  have d0:decide ((k:Int)<0)=false:=by simp
  have d1:decide (s.n2≤k)=false:=by simp;omega
  have HKK:=hidX hk
  clear hi0 hi1;by_cases hx:H.bx[k].x=1
  ·have HX1:=hidX hx
   have y0:=Y0.out 1 hx
   clear hx;go_wp2_with (first | (refine wpList_load_midG (by first | rfl | (simp[Region.wanted,yielded];done)) 39 (.tmp 2) rfl w.heap.size 0 rfl (hoL H s) _ H0.out.1.p.load Tryz.underlying39 rfl (sz41L H s) ?_))
   refine (HBS.out _ H0.out.2).mono ?_
   rintro o w5 ⟨r,rfl,hr,hb5⟩;have HR:=hidX hr
   have H5:Hid (reS w (hoL H s) w5∧Below w.heap.size w w5):=⟨H0.out.1.below hb5,H0.out.2.trans (hb5.mono H0.out.2.size)⟩
   clear hr hb5;by_cases h0:0≤r
   ·have dr:decide (0≤r)=true:=by simpa using h0
    have HT:=hidX (takeB_busy (i:=(k:Int)) HR.out h0)
    clear h0;go_wp2_with fail;go_meet
    case rel=>exact⟨true,rfl,fun _=>HT.out,fun x=>(by cases x),H5.out⟩
   ·have dr:decide (0≤r)=false:=by simpa using h0
    have HT:=hidX (takeB_yes HKK.out HX1.out HR.out (by omega))
    clear h0;go_wp2_with fail;go_meet
    case rel=>exact⟨false,rfl,fun x=>(by cases x),fun _=>⟨k,HKK.out,rfl,HX1.out,HT.out⟩,H5.out⟩
  ·have HT:=hidX (takeB_no hk hx)
   obtain⟨v,ev⟩ : ∃ v,H.bx[k].x=v:=⟨_,rfl⟩
   have y0:=Y0.out v ev
   have hx':(v != 1)=true:=by rw[← ev];simpa using hx
   clear hx ev;go_wp2_with fail;go_meet
   case rel=>exact⟨true,rfl,fun _=>HT.out,fun x=>(by cases x),H0.out⟩
 case rest=>
 obtain⟨b,rfl,f1,f2,H5⟩:=hcut
 clear H0 x5 HBS;cases b
 case true=>
  have HT:Hid (takeHo H i=H):=by show _=_;unfold takeHo;rw[f1.out rfl]
  go_wp2_with (first | (refine wpList_load_mid (P:=Tryz.prog) rfl 39 (.tmp 2) rfl w.heap.size 0 rfl (hoL H s) _ H5.out.1.p.load Tryz.underlying39 rfl (sz41L H s) ?_) | (refine wpList_store_mid (P:=Tryz.prog) rfl 39 (.tmp 4) (.tmp 28) rfl (w.heap.size+1) 0 (hoL H s).toArray rfl rfl (H5.out.1.r.there 0 _ (by rw[List.size_toArray,hoL_len];decide)) (sz41A H s) (hoL_one H s) ?_;generalize hW8:World.setCells _ (w.heap.size+1) 0 _=w8;have HW8:Hid (_=w8):=hW8;clear hW8))
  have e8:=HW8.out
  have hF:blk w8 (w.heap.size+1) (hoL H s) 39:=by
   rw[← e8]
   have:=blk.put [] Z10 [] (hoL H s) (w:=wc) (b:=w.heap.size+1) (T:=39) (by simpa using H5.out.1.r) (by rw[hoL_len];rfl)
   simpa using this
  have hL:=run_loadVar_mid (P:=Tryz.prog) w8 (w.heap.size+1) 0 39 _ _ hF.load Tryz.underlying39 rfl (sz41L H s)
  refine bodyPost_ret (v:=.agg (hoL H s).toArray) (results_cell Tryz.results163 _ w8 (w.heap.size+1) _ rfl hL) rfl ?_
  have b8:Below w.heap.size w w8:=by
   rw[← e8]
   exact setCells_below (by omega) 0 _ H5.out.2
  rw[HT.out]
  exact⟨rfl,HS.out.below b8,k41.below b8,b8.mono (by have:=HGB.out;omega)⟩
 case false=>
 obtain⟨k,hk,ei,hx1,ht⟩:=f2.out rfl
 subst ei;have HT:Hid (takeHo H (k:Int)=stHo H k 2):=by show _=_;unfold takeHo;rw[ht,stHo_yes hk]
 have hk2:k<s.n2:=by have:=HLN.out;omega
 have HKK:=hidX hk
 have HX5:Hid (bxR T0 T1 gb s.n2 s.k2 H.bx hs0 wc):=HX.out.st (fun q _ h2=>H5.out.2.block q (by have:=HGB.out;omega))
 have x5:wc.cell? ⟨w.heap.size,5,none⟩=some (.slice (some ⟨gb,0,none⟩) s.n2 s.k2):=by rw[← HA.out];exact H5.out.1.p.cell 5 _ (by unfold hoL;rfl)
 have Y0:∀ v,H.bx[k].x=v→wc.cell? ⟨gb,k*8,none⟩=some (.int .i64 v):=fun v e=>by subst e;exact HX5.out.rng k hk 0 _ rfl
 have y0:=Y0 1 hx1
 clear Y0;have z0:=(HX5.out.row (k*8) (by omega)).2
 have H7:Hid (reS w (hoL H s) (wc.setCell ⟨gb,k*8,none⟩ (.int .i64 2))):=⟨H5.out.1.p.setOther (by have:=HGB.out;omega) _ _,H5.out.1.r.setOther (by have:=HGB.out;omega) _ _⟩
 clear hk hx1 ht f1 f2;go_upto_region 4 with fail
 go_wp2_with (first | (refine wpList_load_mid (P:=Tryz.prog) rfl 39 (.tmp 2) rfl w.heap.size 0 rfl (hoL H s) _ H7.out.p.load Tryz.underlying39 rfl (sz41L H s) ?_) | (refine wpList_store_mid (P:=Tryz.prog) rfl 39 (.tmp 4) (.tmp 34) rfl (w.heap.size+1) 0 (hoL H s).toArray rfl rfl (H7.out.r.there 0 _ (by rw[List.size_toArray,hoL_len];decide)) (sz41A H s) (hoL_one H s) ?_;generalize hW8:World.setCells _ (w.heap.size+1) 0 _=w8;have HW8:Hid (_=w8):=hW8;clear hW8))
 have e8:=HW8.out
 have hF:blk w8 (w.heap.size+1) (hoL H s) 39:=by
  rw[← e8]
  have:=blk.put [] Z10 [] (hoL H s) (w:=(wc.setCell ⟨gb,k*8,none⟩ (.int .i64 2))) (b:=w.heap.size+1) (T:=39) (by simpa using H7.out.r) (by rw[hoL_len];rfl)
  simpa using this
 have hL:=run_loadVar_mid (P:=Tryz.prog) w8 (w.heap.size+1) 0 39 _ _ hF.load Tryz.underlying39 rfl (sz41L H s)
 refine bodyPost_ret (v:=.agg (hoL H s).toArray) (results_cell Tryz.results163 _ w8 (w.heap.size+1) _ rfl hL) rfl ?_
 have hg:=HGB.out
 have hpl:=H5.out.1.r.lt
 rw[HT.out]
 refine⟨rfl,sp_state HS.out (HS.out.below H5.out.2) H5.out.2 (Below.refl _ _) HA.out HX5.out HKK.out 2 ⟨by omega,by omega⟩ e8,fun q L h1 h2=>?_,?_⟩
 ·have hlt:=h2.lt
  refine h2.kept ?_
  rw[← e8]
  exact (setCells_other _ q (by omega) _ _ _).trans ((heap_setCell_other wc ⟨gb,k*8,none⟩ q _ (by show q≠gb;omega)).trans (H5.out.2.block q hlt))
 ·rw[← e8]
  exact setCells_below (by omega) 0 _ ((H5.out.2.mono (by omega)).setCell (by show B≤gb;omega) _)
set_option maxRecDepth 20000 in
theorem l4gap_c (w:World) (C:Co) (s:Sl) (B T0 T1 T2:Nat) (bit r:Int) (hbit:bit=0∨bit=1) (hc:0≤C.ct∧C.ct≤2) (ht:C.te≠256) (hp:C.p≠7) (hb:bdQ 1000 C.ho) (hn2:C.ho.bx.length≤8) (hbr:bestR C.ho.bx r) (h:spS B T0 T1 T2 C.ho s w) :
  Calls Tryz.prog 118 #[.agg (coL C s).toArray,.int .i64 bit] w fun o w'=>∃ s',o = .returned (.agg (coL (gpC C bit r) s').toArray)∧spS B T0 T1 T2 (gpC C bit r).ho s' w'∧k41 T2 w w'∧Below B w w':=by
 have H0:Hid (vS w B T0 T1 T2 C s C.ho s ((w.alloc (.cells (coL C s).toArray 41)).alloc (.cells [.int .i64 0,.int .i64 0,.int .i64 0,.bool false,.bool false,.bool false,.bool false,.bool false,.int .i64 0,.int .i64 0,.int .i64 0,.int .i64 0,.int .i64 0,.int .i64 0,.int .i64 0,.slice none 0 0,.slice none 0 0,.slice none 0 0,.slice none 0 0,.int .i64 0,.int .i64 0].toArray 41))):=vS.new h
 have hw:=wrap_ct (n:=C.ct) (by omega)
 obtain⟨z,ez⟩ : ∃ z,esZ C.p C.te C.re=z:=⟨_,rfl⟩
 have HES:Hid (∀ W,Calls Tryz.prog 27 #[.agg (coL C s).toArray] W fun o w'=>o = .returned (.int .i64 z)∧Below W.heap.size W w'):=fun W=>by rw[← ez];exact specES_any W C s
 obtain⟨b1,e1,_,_⟩:=eqB z 1
 obtain⟨tx,etx⟩ : ∃ b,C.tx=b:=⟨_,rfl⟩
 have HM:Hid (msB C=(tx && b1)):=by
  show _=_
  unfold msB
  rw[etx,← e1,← ez]
  unfold esZ stZ
  rw[if_neg hp,if_neg ht]
 have HOV:Hid (∀ W,spS B T0 T1 T2 C.ho s W→Calls Tryz.prog 111 #[.agg (coL C s).toArray] W fun o w'=>∃ s',o = .returned (.agg (coL (ovC C) s').toArray)∧spS B T0 T1 T2 (ovC C).ho s' w'∧k41 T2 W w'∧Below B W w'):=fun W hW=>l4over_c W C s B T0 T1 T2 hb hW
 have HBE:Hid (∀ W,spS B T0 T1 T2 C.ho s W→Calls Tryz.prog 162 #[.agg (hoL C.ho s).toArray] W fun o w'=>o = .returned (.int .i64 r)∧Below W.heap.size W w'):=fun W hW=>by
  rw[← hoV_L]
  refine (l3best_any W C.ho s hW.is.bx (by rw[hW.n2];exact hn2)).mono ?_
  rintro o w' ⟨r',rfl,h1,h2⟩;exact⟨by rw[bestR_one h1 hbr],h2⟩
 have HTK:Hid (∀ W,spS B T0 T1 T2 C.ho s W→Calls Tryz.prog 163 #[.agg (hoL C.ho s).toArray,.int .i64 r] W fun o w'=>o = .returned (.agg (hoL C.ho s).toArray)∧spS B T0 T1 T2 (takeHo C.ho r) s w'∧k41 T2 W w'∧Below B W w'):=fun W hW=>l3take_c W C.ho s r B T0 T1 T2 hW (by omega)
 have y6:=H0.out.p.cell 6 (.bool C.tx) rfl
 rw[etx] at y6
 obtain⟨b,e,_,fb⟩:=eqB bit 1
 obtain⟨c3,e3,f3⟩:=ltB (C.ct+1) 3
 obtain⟨c2,e2,f2⟩:=ltB C.ct 2
 have HB0:Hid (b=false→bit=0):=fun x=>by rcases hbit with h0 | h0;exact h0;have:=fb.out.2 h0;rw[x] at this;cases this
 have HC:=hidX hc
 clear h ez etx hbit hc ht hp hb hn2 hbr;go_enter Tryz.func118,Tryz.ntmps118
 go_upto_region 1 with fail
 go_cut [5] (fun x wx=>x = .bool (tx && b1)∧Hid (vS w B T0 T1 T2 C s C.ho s wx))
 case first=>
  cases tx
  ·go_wp2_with fail;go_meet
   case rel=>exact⟨rfl,H0.out⟩
  ·go_wp2_with (first | (refine wpList_load_midG (by first | rfl | (simp[Region.wanted,yielded];done)) 41 (.tmp 2) rfl w.heap.size 0 rfl (coL C s) _ H0.out.p.load Tryz.underlying41 rfl (szC41L _ _) ?_))
   refine (HES.out _).mono ?_
   rintro o w1 ⟨rfl,hb1⟩;have H1:Hid (vS w B T0 T1 T2 C s C.ho s w1):=H0.out.below hb1
   clear hb1;cases b1 <;> (
    go_wp2_with fail;go_meet
    case rel=>exact⟨rfl,H1.out⟩)
 case rest=>
 obtain⟨rfl,H1⟩:=hcut
 rw[← HM.out]
 clear H0 y6 HES HM e1;obtain⟨ms,ems⟩ : ∃ b,msB C=b:=⟨_,rfl⟩
 rw[ems]
 have HMS:=hidX ems
 clear ems;have y0:=H1.out.p.cell 0 (.int .i64 C.p) rfl
 have y1:=H1.out.p.cell 1 (.int .i64 C.ct) rfl
 have y6:=H1.out.p.cell 6 (.bool C.tx) rfl
 have z0:=H1.out.p.free 0
 have z1:=H1.out.p.free 1
 have z6:=H1.out.p.free 6
 cases b
 case true=>
  have h1:=fb.out.1 rfl
  cases c3
  case true=>
   have HR:Hid (gpC C bit r = { C with ct:=C.ct+1 }):=by show _=_;unfold gpC;rw[h1,if_neg (by decide),if_neg (by have:=f3.out.1 rfl;omega)]
   clear h1;have HV9:Hid (vS w B T0 T1 T2 { C with ct:=(C.ct+1) } s C.ho s (World.setCell wc ⟨w.heap.size,1,none⟩ (.int .i64 (C.ct+1)))):=(H1.out.set 1 (.int .i64 (C.ct+1)) { C with ct:=(C.ct+1) } rfl)
   go_upto_region 5 with fail
   generalize (World.setCell wc ⟨w.heap.size,1,none⟩ (.int .i64 (C.ct+1)))=w9 at *;go_wp2_with (first | (refine wpList_load_mid (P:=Tryz.prog) rfl 41 (.tmp 2) rfl w.heap.size 0 rfl (coL { C with ct:=(C.ct+1) } s) _ HV9.out.p.load Tryz.underlying41 rfl (szC41L _ _) ?_) | (refine wpList_store_mid (P:=Tryz.prog) rfl 41 (.tmp 4) (.tmp 23) rfl (w.heap.size+1) 0 (coL { C with ct:=(C.ct+1) } s).toArray rfl rfl (HV9.out.r.there 0 _ (by rw[List.size_toArray,coL_len];decide)) (szC41A _ _) (coL_one _ _) ?_;generalize hW11:World.setCells _ (w.heap.size+1) 0 _=w11;have R11:=hidR hW11 (HV9.out.ret { C with ct:=(C.ct+1) } s);clear hW11))
   have hL:=run_loadVar_mid (P:=Tryz.prog) w11 (w.heap.size+1) 0 41 _ _ R11.out.1.load Tryz.underlying41 rfl (szC41L _ _)
   refine bodyPost_ret (v:=.agg (coL { C with ct:=(C.ct+1) } s).toArray) (results_cell Tryz.results118 _ w11 (w.heap.size+1) _ rfl hL) rfl ?_
   rw[HR.out]
   exact⟨s,rfl,R11.out.2⟩
  case false=>
  have HR:Hid (gpC C bit r=if ms=true then { C with ct:=0,p:=6 } else { C with ct:=0,p:=0,tx:=false }):=by
   show _=_
   have h3:C.ct+1=3:=by
    have h4:¬ C.ct+1<3:=fun x=>by have:=f3.out.2 x;cases this
    have:=HC.out
    omega
   unfold gpC
   rw[h1,if_neg (by decide),if_pos h3]
   unfold lgC
   rw[show msB { C with ct:=C.ct+1 }=ms from HMS.out]
  clear h1;cases ms
  ·have HV9:Hid (vS w B T0 T1 T2 { C with ct:=0,p:=0,tx:=false } s C.ho s (World.setCell (World.setCell (World.setCell (World.setCell wc ⟨w.heap.size,1,none⟩ (.int .i64 (C.ct+1))) ⟨w.heap.size,1,none⟩ (.int .i64 0)) ⟨w.heap.size,0,none⟩ (.int .i64 0)) ⟨w.heap.size,6,none⟩ (.bool false))):=((((H1.out.set 1 (.int .i64 (C.ct+1)) { C with ct:=(C.ct+1) } rfl).set 1 (.int .i64 0) { C with ct:=0 } rfl).set 0 (.int .i64 0) { C with ct:=0,p:=0 } rfl).set 6 (.bool false) { C with ct:=0,p:=0,tx:=false } rfl)
   go_upto_region 11 with fail
   generalize (World.setCell (World.setCell (World.setCell (World.setCell wc ⟨w.heap.size,1,none⟩ (.int .i64 (C.ct+1))) ⟨w.heap.size,1,none⟩ (.int .i64 0)) ⟨w.heap.size,0,none⟩ (.int .i64 0)) ⟨w.heap.size,6,none⟩ (.bool false))=w9 at *;go_wp2_with (first | (refine wpList_load_mid (P:=Tryz.prog) rfl 41 (.tmp 2) rfl w.heap.size 0 rfl (coL { C with ct:=0,p:=0,tx:=false } s) _ HV9.out.p.load Tryz.underlying41 rfl (szC41L _ _) ?_) | (refine wpList_store_mid (P:=Tryz.prog) rfl 41 (.tmp 4) (.tmp 29) rfl (w.heap.size+1) 0 (coL { C with ct:=0,p:=0,tx:=false } s).toArray rfl rfl (HV9.out.r.there 0 _ (by rw[List.size_toArray,coL_len];decide)) (szC41A _ _) (coL_one _ _) ?_;generalize hW11:World.setCells _ (w.heap.size+1) 0 _=w11;have R11:=hidR hW11 (HV9.out.ret { C with ct:=0,p:=0,tx:=false } s);clear hW11))
   have hL:=run_loadVar_mid (P:=Tryz.prog) w11 (w.heap.size+1) 0 41 _ _ R11.out.1.load Tryz.underlying41 rfl (szC41L _ _)
   refine bodyPost_ret (v:=.agg (coL { C with ct:=0,p:=0,tx:=false } s).toArray) (results_cell Tryz.results118 _ w11 (w.heap.size+1) _ rfl hL) rfl ?_
   rw[HR.out]
   exact⟨s,rfl,R11.out.2⟩
  ·have HV9:Hid (vS w B T0 T1 T2 { C with ct:=0,p:=6 } s C.ho s (World.setCell (World.setCell (World.setCell (World.setCell wc ⟨w.heap.size,1,none⟩ (.int .i64 (C.ct+1))) ⟨w.heap.size,1,none⟩ (.int .i64 0)) ⟨w.heap.size,0,none⟩ (.int .i64 0)) ⟨w.heap.size,0,none⟩ (.int .i64 6))):=((((H1.out.set 1 (.int .i64 (C.ct+1)) { C with ct:=(C.ct+1) } rfl).set 1 (.int .i64 0) { C with ct:=0 } rfl).set 0 (.int .i64 0) { C with ct:=0,p:=0 } rfl).set 0 (.int .i64 6) { C with ct:=0,p:=6 } rfl)
   go_upto_region 11 with fail
   generalize (World.setCell (World.setCell (World.setCell (World.setCell wc ⟨w.heap.size,1,none⟩ (.int .i64 (C.ct+1))) ⟨w.heap.size,1,none⟩ (.int .i64 0)) ⟨w.heap.size,0,none⟩ (.int .i64 0)) ⟨w.heap.size,0,none⟩ (.int .i64 6))=w9 at *;go_wp2_with (first | (refine wpList_load_mid (P:=Tryz.prog) rfl 41 (.tmp 2) rfl w.heap.size 0 rfl (coL { C with ct:=0,p:=6 } s) _ HV9.out.p.load Tryz.underlying41 rfl (szC41L _ _) ?_) | (refine wpList_store_mid (P:=Tryz.prog) rfl 41 (.tmp 4) (.tmp 29) rfl (w.heap.size+1) 0 (coL { C with ct:=0,p:=6 } s).toArray rfl rfl (HV9.out.r.there 0 _ (by rw[List.size_toArray,coL_len];decide)) (szC41A _ _) (coL_one _ _) ?_;generalize hW11:World.setCells _ (w.heap.size+1) 0 _=w11;have R11:=hidR hW11 (HV9.out.ret { C with ct:=0,p:=6 } s);clear hW11))
   have hL:=run_loadVar_mid (P:=Tryz.prog) w11 (w.heap.size+1) 0 41 _ _ R11.out.1.load Tryz.underlying41 rfl (szC41L _ _)
   refine bodyPost_ret (v:=.agg (coL { C with ct:=0,p:=6 } s).toArray) (results_cell Tryz.results118 _ w11 (w.heap.size+1) _ rfl hL) rfl ?_
   rw[HR.out]
   exact⟨s,rfl,R11.out.2⟩
 case false=>
 have h0:=HB0.out rfl
 cases c2
 case true=>
  have HR:Hid (gpC C bit r=ovC C):=by show _=_;unfold gpC;rw[if_pos h0,if_pos (f2.out.1 rfl)]
  clear h0;go_upto_region 13 with fail
  go_wp2_with (first | (refine wpList_load_mid (P:=Tryz.prog) rfl 41 (.tmp 2) rfl w.heap.size 0 rfl (coL C s) _ H1.out.p.load Tryz.underlying41 rfl (szC41L _ _) ?_))
  refine (HOV.out _ H1.out.sp).mono ?_
  rintro o w2 ⟨s2,rfl,q1,q2,q3⟩;have HV2:Hid (vS w B T0 T1 T2 C s (ovC C).ho s2 w2):=H1.out.call q1 q2 q3
  clear q1 q2 q3 H1;go_wp2_with (first | (refine wpList_store_mid (P:=Tryz.prog) rfl 41 (.tmp 4) (.tmp 34) rfl (w.heap.size+1) 0 (coL (ovC C) s2).toArray rfl rfl (HV2.out.r.there 0 _ (by rw[List.size_toArray,coL_len];decide)) (szC41A _ _) (coL_one _ _) ?_;generalize hW11:World.setCells _ (w.heap.size+1) 0 _=w11;have R11:=hidR hW11 (HV2.out.ret (ovC C) s2);clear hW11))
  have hL:=run_loadVar_mid (P:=Tryz.prog) w11 (w.heap.size+1) 0 41 _ _ R11.out.1.load Tryz.underlying41 rfl (szC41L _ _)
  refine bodyPost_ret (v:=.agg (coL (ovC C) s2).toArray) (results_cell Tryz.results118 _ w11 (w.heap.size+1) _ rfl hL) rfl ?_
  rw[HR.out]
  exact⟨s2,rfl,R11.out.2⟩
 case false=>
 have HGP:Hid (gpC C bit r=jnC C r):=by show _=_;unfold gpC;rw[if_pos h0,if_neg (fun x=>by have:=f2.out.2 x;cases this)]
 have HV3:Hid (vS w B T0 T1 T2 { C with ct:=0,p:=1 } s C.ho s (World.setCell (World.setCell wc ⟨w.heap.size,1,none⟩ (.int .i64 0)) ⟨w.heap.size,0,none⟩ (.int .i64 1))):=((H1.out.set 1 (.int .i64 0) { C with ct:=0 } rfl).set 0 (.int .i64 1) { C with ct:=0,p:=1 } rfl)
 clear h0;go_upto_region 16 with fail
 generalize (World.setCell (World.setCell wc ⟨w.heap.size,1,none⟩ (.int .i64 0)) ⟨w.heap.size,0,none⟩ (.int .i64 1))=w3 at *;go_wp2_with (first | (refine wpList_load_mid (P:=Tryz.prog) rfl 39 _ rfl w.heap.size 11 rfl (hoL C.ho s) _ HV3.out.p.hostAt Tryz.underlying39 rfl (sz39h _ _) ?_))
 refine (HBE.out _ HV3.out.sp).mono ?_
 rintro o w4 ⟨rfl,hb4⟩;have HV4:Hid (vS w B T0 T1 T2 { C with ct:=0,p:=1 } s C.ho s w4):=HV3.out.below hb4
 clear hb4 HV3 y0 y1 y6 z0 z1 z6 HBE HOV;have y6:=HV4.out.p.cell 6 (.bool C.tx) rfl
 have z6:=HV4.out.p.free 6
 obtain⟨br,ebr⟩ : ∃ b,decide (0≤r)=b:=⟨_,rfl⟩
 cases br
 ·have HV5:Hid (vS w B T0 T1 T2 { C with ct:=0,p:=1,tx:=false } s C.ho s (World.setCell w4 ⟨w.heap.size,6,none⟩ (.bool false))):=HV4.out.set 6 (.bool false) { C with ct:=0,p:=1,tx:=false } rfl
  have HR:Hid (jnC C r = { C with p:=1,ct:=0,tx:=false }):=by show _=_;unfold jnC;rw[ebr,HMS.out];rfl
  go_upto_region 20 with fail
  generalize (World.setCell w4 ⟨w.heap.size,6,none⟩ (.bool false))=w5 at *;go_wp2_with (first | (refine wpList_load_mid (P:=Tryz.prog) rfl 41 (.tmp 2) rfl w.heap.size 0 rfl (coL { C with ct:=0,p:=1,tx:=false } s) _ HV5.out.p.load Tryz.underlying41 rfl (szC41L _ _) ?_) | (refine wpList_store_mid (P:=Tryz.prog) rfl 41 (.tmp 4) (.tmp 54) rfl (w.heap.size+1) 0 (coL { C with ct:=0,p:=1,tx:=false } s).toArray rfl rfl (HV5.out.r.there 0 _ (by rw[List.size_toArray,coL_len];decide)) (szC41A _ _) (coL_one _ _) ?_;generalize hW11:World.setCells _ (w.heap.size+1) 0 _=w11;have R11:=hidR hW11 (HV5.out.ret { C with ct:=0,p:=1,tx:=false } s);clear hW11))
  have hL:=run_loadVar_mid (P:=Tryz.prog) w11 (w.heap.size+1) 0 41 _ _ R11.out.1.load Tryz.underlying41 rfl (szC41L _ _)
  refine bodyPost_ret (v:=.agg (coL { C with ct:=0,p:=1,tx:=false } s).toArray) (results_cell Tryz.results118 _ w11 (w.heap.size+1) _ rfl hL) rfl ?_
  rw[HGP.out,HR.out]
  exact⟨s,rfl,R11.out.2⟩
 ·cases ms
  ·have HV5:Hid (vS w B T0 T1 T2 { C with ct:=0,p:=1,tx:=true } s C.ho s (World.setCell w4 ⟨w.heap.size,6,none⟩ (.bool true))):=HV4.out.set 6 (.bool true) { C with ct:=0,p:=1,tx:=true } rfl
   have HR:Hid (jnC C r = { C with p:=1,ct:=0,tx:=true,ho:=takeHo C.ho r }):=by show _=_;unfold jnC;rw[ebr,HMS.out];rfl
   go_upto_region 19 with fail
   generalize (World.setCell w4 ⟨w.heap.size,6,none⟩ (.bool true))=w5 at *;go_wp2_with (first | (refine wpList_load_mid (P:=Tryz.prog) rfl 39 _ rfl w.heap.size 11 rfl (hoL C.ho s) _ HV5.out.p.hostAt Tryz.underlying39 rfl (sz39h _ _) ?_))
   refine (HTK.out _ HV5.out.sp).mono ?_
   rintro o w6 ⟨rfl,q1,q2,q3⟩;have HV6:Hid (vS w B T0 T1 T2 { C with ct:=0,p:=1,tx:=true } s (takeHo C.ho r) s w6):=HV5.out.call q1 q2 q3
   clear q1 q2 q3 HV5 HTK;go_upto_region 20 with (first | (refine wpList_store_mid (P:=Tryz.prog) rfl 39 (.tmp 53) (.tmp 52) rfl w.heap.size 11 (hoL (takeHo C.ho r) s).toArray rfl rfl (HV6.out.p.there 11 _ (by rw[List.size_toArray,hoL_len,coL_len];decide)) (sz39A _ _) (hoL_one _ _) ?_;generalize hW7:World.setCells _ w.heap.size 11 _=w7;have HV7:=hidS hW7 (HV6.out.host (takeHo C.ho r) s);clear hW7))
   simp only[Act.put]
   obtain⟨Z,eZ⟩ : ∃ Z:Co,Z = { C with p:=1,ct:=0,tx:=true,ho:=takeHo C.ho r }:=⟨_,rfl⟩
   have HV8:Hid (vS w B T0 T1 T2 Z s Z.ho s w7):=by rw[eZ];exact HV7.out
   rw[← eZ] at HR
   clear HV7 HV6 eZ;go_wp2_with (first | (refine wpList_load_mid (P:=Tryz.prog) rfl 41 (.tmp 2) rfl w.heap.size 0 rfl (coL Z s) _ HV8.out.p.load Tryz.underlying41 rfl (szC41L _ _) ?_) | (refine wpList_store_mid (P:=Tryz.prog) rfl 41 (.tmp 4) (.tmp 54) rfl (w.heap.size+1) 0 (coL Z s).toArray rfl rfl (HV8.out.r.there 0 _ (by rw[List.size_toArray,coL_len];decide)) (szC41A _ _) (coL_one _ _) ?_;generalize hW11:World.setCells _ (w.heap.size+1) 0 _=w11;have R11:=hidR hW11 (HV8.out.ret Z s);clear hW11))
   have hL:=run_loadVar_mid (P:=Tryz.prog) w11 (w.heap.size+1) 0 41 _ _ R11.out.1.load Tryz.underlying41 rfl (szC41L _ _)
   refine bodyPost_ret (v:=.agg (coL Z s).toArray) (results_cell Tryz.results118 _ w11 (w.heap.size+1) _ rfl hL) rfl ?_
   rw[HGP.out,HR.out]
   exact⟨s,rfl,R11.out.2⟩
  ·have HV5:Hid (vS w B T0 T1 T2 { C with ct:=0,p:=1,tx:=false } s C.ho s (World.setCell w4 ⟨w.heap.size,6,none⟩ (.bool false))):=HV4.out.set 6 (.bool false) { C with ct:=0,p:=1,tx:=false } rfl
   have HR:Hid (jnC C r = { C with p:=1,ct:=0,tx:=false }):=by show _=_;unfold jnC;rw[ebr,HMS.out];rfl
   go_upto_region 20 with fail
   generalize (World.setCell w4 ⟨w.heap.size,6,none⟩ (.bool false))=w5 at *;go_wp2_with (first | (refine wpList_load_mid (P:=Tryz.prog) rfl 41 (.tmp 2) rfl w.heap.size 0 rfl (coL { C with ct:=0,p:=1,tx:=false } s) _ HV5.out.p.load Tryz.underlying41 rfl (szC41L _ _) ?_) | (refine wpList_store_mid (P:=Tryz.prog) rfl 41 (.tmp 4) (.tmp 54) rfl (w.heap.size+1) 0 (coL { C with ct:=0,p:=1,tx:=false } s).toArray rfl rfl (HV5.out.r.there 0 _ (by rw[List.size_toArray,coL_len];decide)) (szC41A _ _) (coL_one _ _) ?_;generalize hW11:World.setCells _ (w.heap.size+1) 0 _=w11;have R11:=hidR hW11 (HV5.out.ret { C with ct:=0,p:=1,tx:=false } s);clear hW11))
   have hL:=run_loadVar_mid (P:=Tryz.prog) w11 (w.heap.size+1) 0 41 _ _ R11.out.1.load Tryz.underlying41 rfl (szC41L _ _)
   refine bodyPost_ret (v:=.agg (coL { C with ct:=0,p:=1,tx:=false } s).toArray) (results_cell Tryz.results118 _ w11 (w.heap.size+1) _ rfl hL) rfl ?_
   rw[HGP.out,HR.out]
   exact⟨s,rfl,R11.out.2⟩
variable {w0 : World} {M : Nat} {G : Lg} {f1 f3 nm : Nat} {C : Co} {W : World}
set_option maxRecDepth 20000 in
theorem step_0 (h:mx w0 M G f1 f3 nm C W) (bit:Int) (A:Co) (e:C.p=0) (hc:∀ X,mx w0 M G f1 f3 nm C X→Calls Tryz.prog 183 #[.pointer (some ⟨M,0,none⟩),.int .i64 bit] X fun o w'=>o = .returned (.tuple #[])∧mx w0 M G f1 f3 nm A w') :
  Calls Tryz.prog 58 #[.pointer (some ⟨M,0,none⟩),.int .i64 bit] W fun o w'=>o = .returned (.tuple #[])∧mx w0 M G f1 f3 nm A w':=by
 have HC:=hidX (hc _ (h.below (Below.refl _ _).drew))
 have y3:=h.m.cell 3 (.int .i64 C.p) rfl
 have y24:=h.m.cell 24 (.func (.func 183) #[] #[]) rfl
 rw[e] at y3
 clear h hc e;go_enter Tryz.func58,Tryz.ntmps58
 go_wp2_with fail;go_region_with (go_at_call 183;refine HC.out.mono ?_;rintro o w1 ⟨rfl,h1⟩;have H1:=hidX h1;clear h1)
 all_goals (
  go_wp2_with fail;first | go_end0 | (try simp only[Exit.inBlock,Exit.then]);refine bodyPost_ret (results_none rfl _ _ _) rfl ?_
  exact⟨rfl,H1.out⟩)
set_option maxRecDepth 20000 in
theorem step_2 (h:mx w0 M G f1 f3 nm C W) (bit:Int) (A:Co) (e:C.p=2) (hc:∀ X,mx w0 M G f1 f3 nm C X→Calls Tryz.prog 185 #[.pointer (some ⟨M,0,none⟩),.int .i64 bit] X fun o w'=>o = .returned (.tuple #[])∧mx w0 M G f1 f3 nm A w') :
  Calls Tryz.prog 58 #[.pointer (some ⟨M,0,none⟩),.int .i64 bit] W fun o w'=>o = .returned (.tuple #[])∧mx w0 M G f1 f3 nm A w':=by
 have HC:=hidX (hc _ (h.below (Below.refl _ _).drew))
 have y3:=h.m.cell 3 (.int .i64 C.p) rfl
 have y24:=h.m.cell 30 (.func (.func 185) #[] #[]) rfl
 rw[e] at y3
 clear h hc e;go_enter Tryz.func58,Tryz.ntmps58
 go_wp2_with fail;go_region_with (go_at_call 185;refine HC.out.mono ?_;rintro o w1 ⟨rfl,h1⟩;have H1:=hidX h1;clear h1)
 all_goals (
  go_wp2_with fail;first | go_end0 | (try simp only[Exit.inBlock,Exit.then]);refine bodyPost_ret (results_none rfl _ _ _) rfl ?_
  exact⟨rfl,H1.out⟩)
set_option maxRecDepth 20000 in
theorem step_3 (h:mx w0 M G f1 f3 nm C W) (bit:Int) (A:Co) (e:C.p=3) (hc:∀ X,mx w0 M G f1 f3 nm C X→Calls Tryz.prog 186 #[.pointer (some ⟨M,0,none⟩),.int .i64 bit] X fun o w'=>o = .returned (.tuple #[])∧mx w0 M G f1 f3 nm A w') :
  Calls Tryz.prog 58 #[.pointer (some ⟨M,0,none⟩),.int .i64 bit] W fun o w'=>o = .returned (.tuple #[])∧mx w0 M G f1 f3 nm A w':=by
 have HC:=hidX (hc _ (h.below (Below.refl _ _).drew))
 have y3:=h.m.cell 3 (.int .i64 C.p) rfl
 have y24:=h.m.cell 33 (.func (.func 186) #[] #[]) rfl
 rw[e] at y3
 clear h hc e;go_enter Tryz.func58,Tryz.ntmps58
 go_wp2_with fail;go_region_with (go_at_call 186;refine HC.out.mono ?_;rintro o w1 ⟨rfl,h1⟩;have H1:=hidX h1;clear h1)
 all_goals (
  go_wp2_with fail;first | go_end0 | (try simp only[Exit.inBlock,Exit.then]);refine bodyPost_ret (results_none rfl _ _ _) rfl ?_
  exact⟨rfl,H1.out⟩)
set_option maxRecDepth 20000 in
theorem step_4 (h:mx w0 M G f1 f3 nm C W) (bit:Int) (A:Co) (e:C.p=4) (hc:∀ X,mx w0 M G f1 f3 nm C X→Calls Tryz.prog 187 #[.pointer (some ⟨M,0,none⟩),.int .i64 bit] X fun o w'=>o = .returned (.tuple #[])∧mx w0 M G f1 f3 nm A w') :
  Calls Tryz.prog 58 #[.pointer (some ⟨M,0,none⟩),.int .i64 bit] W fun o w'=>o = .returned (.tuple #[])∧mx w0 M G f1 f3 nm A w':=by
 have HC:=hidX (hc _ (h.below (Below.refl _ _).drew))
 have y3:=h.m.cell 3 (.int .i64 C.p) rfl
 have y24:=h.m.cell 36 (.func (.func 187) #[] #[]) rfl
 rw[e] at y3
 clear h hc e;go_enter Tryz.func58,Tryz.ntmps58
 go_wp2_with fail;go_region_with (go_at_call 187;refine HC.out.mono ?_;rintro o w1 ⟨rfl,h1⟩;have H1:=hidX h1;clear h1)
 all_goals (
  go_wp2_with fail;first | go_end0 | (try simp only[Exit.inBlock,Exit.then]);refine bodyPost_ret (results_none rfl _ _ _) rfl ?_
  exact⟨rfl,H1.out⟩)
set_option maxRecDepth 20000 in
theorem step_5 (h:mx w0 M G f1 f3 nm C W) (bit:Int) (A:Co) (e:C.p=5) (hc:∀ X,mx w0 M G f1 f3 nm C X→Calls Tryz.prog 188 #[.pointer (some ⟨M,0,none⟩),.int .i64 bit] X fun o w'=>o = .returned (.tuple #[])∧mx w0 M G f1 f3 nm A w') :
  Calls Tryz.prog 58 #[.pointer (some ⟨M,0,none⟩),.int .i64 bit] W fun o w'=>o = .returned (.tuple #[])∧mx w0 M G f1 f3 nm A w':=by
 have HC:=hidX (hc _ (h.below (Below.refl _ _).drew))
 have y3:=h.m.cell 3 (.int .i64 C.p) rfl
 have y24:=h.m.cell 39 (.func (.func 188) #[] #[]) rfl
 rw[e] at y3
 clear h hc e;go_enter Tryz.func58,Tryz.ntmps58
 go_wp2_with fail;go_region_with (go_at_call 188;refine HC.out.mono ?_;rintro o w1 ⟨rfl,h1⟩;have H1:=hidX h1;clear h1)
 all_goals (
  go_wp2_with fail;first | go_end0 | (try simp only[Exit.inBlock,Exit.then]);refine bodyPost_ret (results_none rfl _ _ _) rfl ?_
  exact⟨rfl,H1.out⟩)
set_option maxRecDepth 20000 in
theorem step_6 (h:mx w0 M G f1 f3 nm C W) (bit:Int) (A:Co) (e:C.p=6) (hc:∀ X,mx w0 M G f1 f3 nm C X→Calls Tryz.prog 189 #[.pointer (some ⟨M,0,none⟩),.int .i64 bit] X fun o w'=>o = .returned (.tuple #[])∧mx w0 M G f1 f3 nm A w') :
  Calls Tryz.prog 58 #[.pointer (some ⟨M,0,none⟩),.int .i64 bit] W fun o w'=>o = .returned (.tuple #[])∧mx w0 M G f1 f3 nm A w':=by
 have HC:=hidX (hc _ (h.below (Below.refl _ _).drew))
 have y3:=h.m.cell 3 (.int .i64 C.p) rfl
 have y24:=h.m.cell 42 (.func (.func 189) #[] #[]) rfl
 rw[e] at y3
 clear h hc e;go_enter Tryz.func58,Tryz.ntmps58
 go_wp2_with fail;go_region_with (go_at_call 189;refine HC.out.mono ?_;rintro o w1 ⟨rfl,h1⟩;have H1:=hidX h1;clear h1)
 all_goals (
  go_wp2_with fail;first | go_end0 | (try simp only[Exit.inBlock,Exit.then]);refine bodyPost_ret (results_none rfl _ _ _) rfl ?_
  exact⟨rfl,H1.out⟩)
set_option maxRecDepth 20000 in
theorem step_7 (h:mx w0 M G f1 f3 nm C W) (bit:Int) (A:Co) (e:C.p=7) (hc:∀ X,mx w0 M G f1 f3 nm C X→Calls Tryz.prog 190 #[.pointer (some ⟨M,0,none⟩),.int .i64 bit] X fun o w'=>o = .returned (.tuple #[])∧mx w0 M G f1 f3 nm A w') :
  Calls Tryz.prog 58 #[.pointer (some ⟨M,0,none⟩),.int .i64 bit] W fun o w'=>o = .returned (.tuple #[])∧mx w0 M G f1 f3 nm A w':=by
 have HC:=hidX (hc _ (h.below (Below.refl _ _).drew))
 have y3:=h.m.cell 3 (.int .i64 C.p) rfl
 have y24:=h.m.cell 45 (.func (.func 190) #[] #[]) rfl
 rw[e] at y3
 clear h hc e;go_enter Tryz.func58,Tryz.ntmps58
 go_wp2_with fail;go_region_with (go_at_call 190;refine HC.out.mono ?_;rintro o w1 ⟨rfl,h1⟩;have H1:=hidX h1;clear h1)
 all_goals (
  go_wp2_with fail;first | go_end0 | (try simp only[Exit.inBlock,Exit.then]);refine bodyPost_ret (results_none rfl _ _ _) rfl ?_
  exact⟨rfl,H1.out⟩)
end Go.Proofs.YtkfcfigbgmbaiaaGreat
