import Derived.Test.YtkfcfigbgmbaiaaGreatK30
import Derived.Deep.CutBlock
namespace Go.Proofs.YtkfcfigbgmbaiaaGreat
set_option maxRecDepth 20000
open Go.RowKit
set_option linter.unusedVariables false
set_option maxHeartbeats 16000000
open Go.Value renaming int→I,slice→sL,bool→bO,pointer→pT,agg→aG
open Go.IntKind renaming i64→J
open Go.Ending renaming returned→rT
open Go.Proofs.Tryz renaming prog→Tp
variable {C:Co}
theorem stp_end (C A:Co) (h:A.p=7→A.te=256):tlC (ofI A) (stZ C.te C.re)=actC C A:=by
 have e1:∀ X:Co,(X.p=7↔X.te=256)→∀ b,tlC X b=tellC X b:=fun X hx b=>by
  unfold tlC tellC esZ stZ
  by_cases e:X.te=256
  ·rw[if_pos (hx.2 e),if_pos e]
  ·rw[if_neg (fun x=>e (hx.1 x)),if_neg e]
 unfold actC
 show tlC (ofI A) _=tellC (ofI A) _
 refine e1 _ ?_ _
 unfold ofI
 split
 ·rename_i e;exact⟨fun _=>e.1,fun _=>rfl⟩
 ·rename_i e
  refine⟨h,fun x=>?_⟩
  by_cases hp:A.p=7
  ·exact hp
  ·exact absurd ⟨x,hp⟩ e
theorem wfO_p (C:Co) (b:Int):(wfO C b).p=C.p:=by unfold wfO;split;exact addC_p _ _ _;rfl
theorem wfO_ho (C:Co) (b:Int):(wfO C b).ho=C.ho:=by unfold wfO;split;unfold addC;split <;> rfl;rfl
theorem lgC_p (C:Co):(lgC C).p≠7∧(lgC C).ho=C.ho∧(lgC C).te=C.te:=by unfold lgC;split;exact⟨by show (6:Int)≠7;decide,rfl,rfl⟩;exact⟨by show (0:Int)≠7;decide,rfl,rfl⟩
theorem jnC_p (C:Co) (r:Int):(jnC C r).p≠7∧((jnC C r).ho=takeHo C.ho r∨(jnC C r).ho=C.ho)∧(jnC C r).te=C.te:=by unfold jnC;split;exact⟨by show (1:Int)≠7;decide,Or.inl rfl,rfl⟩;exact⟨by show (1:Int)≠7;decide,Or.inr rfl,rfl⟩
theorem gpC_p (h:C.p≠7) (b r:Int):(gpC C b r).p≠7∧(gpC C b r).te=C.te:=by
 unfold gpC
 split
 ·split
  ·exact⟨by show (2:Int)≠7;decide,rfl⟩
  ·exact⟨(jnC_p C r).1,(jnC_p C r).2.2⟩
 ·split
  ·exact⟨(lgC_p _).1,(lgC_p _).2.2⟩
  ·exact⟨h,rfl⟩
theorem stp_n7 (h:C.p≠7) (b r:Int):(stpC C b r).p≠7:=by
 unfold stpC
 split
 ·unfold idC;split
  ·show (1:Int)≠7;decide
  ·exact h
 split
 ·unfold flC
  split
  ·rcases wfX_p (wfO C b) b with e|e
   ·rw[e];decide
   ·rw[e,wfO_p];exact h
  split
  ·show (2:Int)≠7;decide
  split
  ·show (3:Int)≠7;decide
  ·exact h
 split
 ·unfold waC
  split
  ·show (4:Int)≠7;decide
  split
  ·rw[addC_p];exact h
  split
  ·show (addC _ _ _).p≠7;rw[addC_p];exact h
  ·exact h
 split
 ·unfold dlC
  split
  ·split
   ·show (2:Int)≠7;decide
   ·show (2:Int)≠7;decide
  ·split
   ·show (5:Int)≠7;decide
   ·exact h
 split
 ·exact (gpC_p h b r).1
 split
 ·unfold suC
  split
  ·show (1:Int)≠7;decide
  split
  ·show (0:Int)≠7;decide
  ·exact h
 first | exact h | (split <;> first | (rename_i e;exact absurd e h) | exact h)
theorem ofC_7 (b:Int) (h:C.p=7):((ofC C b).p=7∧(ofC C b).te=C.te)∨ofC C b=bkC C:=by
 unfold ofC
 split
 ·split
  ·exact Or.inl ⟨h,rfl⟩
  split
  ·split
   ·exact Or.inr rfl
   ·exact Or.inl ⟨h,rfl⟩
  ·exact Or.inl ⟨h,rfl⟩
 ·exact Or.inl ⟨h,rfl⟩
theorem stp_off (h:C.p=7) (b r:Int):stpC C b r=ofC C b:=by unfold stpC;simp[h]
theorem stp_7 (hok:okCo C) (b r:Int) (h:(stpC C b r).p=7):(stpC C b r).te=256:=by
 by_cases e:C.p=7
 ·rw[stp_off e] at h ⊢
  rcases ofC_7 b e with⟨_,h2⟩|h2
  ·rw[h2];exact hok.m.of.1 e
  ·rw[h2] at h;cases h
 ·exact absurd h (stp_n7 e b r)
theorem of_keep (b:Int) (h:C.p=7):ofI (ofC C b)=ofC C b:=by
 unfold ofI
 rw[if_neg]
 rintro⟨h1,h2⟩;rcases ofC_7 b h with⟨h3,_⟩|h3
 ·exact h2 h3
 ·rw[h3] at h1;cases h1
theorem bdQ.take {n:Nat} {H:Ho} (h:bdQ n H) (r:Int):bdQ n (takeHo H r):=⟨h.q,h.lo⟩
theorem stp_bd (h:bdQ 900 C.ho) (b r:Int):bdQ 902 (stpC C b r).ho:=by
 have h0:bdQ 902 C.ho:=h.up (by decide)
 have hf:∀ k,bdQ 902 (fltC C k).ho:=fun k=>by
  have e:(fltC C k).ho=fltH C k:=by show (addC (fltM C k) C.tx _).ho=_;unfold addC;split <;> rfl
  rw[e]
  exact (h.post _).rel false
 have ho:bdQ 902 (ovC C).ho:=(h.post _).up (by decide)
 have ha:∀ X n,X.ho=C.ho→bdQ 902 (addC X C.tx n).ho:=fun X n e=>by
  have:(addC X C.tx n).ho=X.ho:=by unfold addC;split <;> rfl
  rw[this,e]
  exact h0
 unfold stpC
 split
 ·unfold idC;split <;> exact h0
 split
 ·unfold flC
  split
  ·rw[(wfX_te _ _).2.2,wfO_ho];exact h0
  split
  ·exact hf 1
  split <;> exact h0
 split
 ·unfold waC
  split
  ·exact h0
  split
  ·exact ha _ _ rfl
  split
  ·exact ha { C with ct:=C.ct+1 } 8 rfl
  ·exact h0
 split
 ·unfold dlC
  split
  ·split
   ·exact ho
   ·exact hf 3
  ·split <;> exact h0
 split
 ·unfold gpC
  split
  ·split
   ·exact ho
   ·rcases (jnC_p C r).2.1 with e|e
    ·rw[e];exact h0.take r
    ·rw[e];exact h0
  ·split
   ·rw[(lgC_p _).2.1];exact h0
   ·exact h0
 split
 ·unfold suC;split
  ·exact h0
  split <;> exact h0
 split
 ·unfold ofC
  split
  ·split
   ·exact h0
   split
   ·split <;> exact h0
   ·exact h0
  ·exact h0
 ·exact h0
theorem ofI_ho (A:Co):(ofI A).ho=A.ho:=by unfold ofI;split <;> rfl
theorem l4doStep_any (w:World) (C:Co) (s:Sl) (B T0 T1 T2:Nat) (k r:Int) (hk:k=0∨k=1) (hok:okCo C) (h1:C.p≠1) (hn:C.ho.le 1048576) (hb:bestR C.ho.bx r) (h:spS B T0 T1 T2 C.ho s w) :
  Calls Tp 55 #[aG (coL C s).toArray,I J k] w fun o w'=>∃ s',o = rT (aG (coL (actC C (stpC C k r)) s').toArray)∧spS B T0 T1 T2 (actC C (stpC C k r)).ho s' w'∧k41 T2 w w'∧Below B w w':=by
 have H0:Hid (vS w B T0 T1 T2 C s C.ho s ((w.alloc (.cells (coL C s).toArray 41)).alloc (.cells zY.toArray 41))):=vS.new h
 have hc:=hok.ct
 have hw:=wrap_ct hc
 have HOK:=hidX hok
 have hte:C.p≠7→0≤C.te∧C.te<256:=fun hp=>⟨hok.m.te.1,by have:=hok.m.te.2;have:C.te≠256:=fun e=>hp (hok.m.of.2 e);omega⟩
 obtain⟨es,hes⟩ : ∃ es,stZ C.te C.re=es:=⟨_,rfl⟩
 have HES:Hid (∀ W,Calls Tp 27 #[aG (coL C s).toArray] W fun o w'=>o = rT (I J es)∧Below W.heap.size W w'):=fun W=>by
  have h1:=specES_any W C s
  have h2:esZ C.p C.te C.re=es:=by
   rw[← hes]
   unfold esZ stZ
   by_cases e:C.p=7
   ·rw[if_pos e,if_pos (hok.m.of.1 e)]
   ·rw[if_neg e,if_neg (fun x=>e (hok.m.of.2 x))]
  rw[h2] at h1
  exact h1
 have hbd:=hok.h.bd
 have HFT0:Hid (C.p≠7→∀ kk W,spS B T0 T1 T2 C.ho s W→Calls Tp 42 #[aG (coL C s).toArray,I J kk] W fun o w'=>∃ s',o = rT (aG (coL (actC C (fltC C kk)) s').toArray)∧spS B T0 T1 T2 (actC C (fltC C kk)).ho s' w'∧k41 T2 W w'∧Below B W w'):=fun hp kk W hW=>l4doFault_any W C s B T0 T1 T2 kk hW hok hp hn
 have HWE0:Hid (C.p≠7→∀ W,spS B T0 T1 T2 C.ho s W→Calls Tp 116 #[aG (coL C s).toArray,I J k] W fun o w'=>∃ s',o = rT (aG (coL (ofI (wfX (wfO C k) k)) s').toArray)∧spS B T0 T1 T2 (ofI (wfX (wfO C k) k)).ho s' w'∧k41 T2 W w'∧Below B W w'):=fun hp W hW=>l4weak_c W C s B T0 T1 T2 k hc (hte hp) hok.m.re hp hW
 have HWA0:Hid (C.p≠7→∀ W,spS B T0 T1 T2 C.ho s W→Calls Tp 117 #[aG (coL C s).toArray,I J k] W fun o w'=>∃ s',o = rT (aG (coL (ofI (waC C k)) s').toArray)∧spS B T0 T1 T2 (ofI (waC C k)).ho s' w'∧k41 T2 W w'∧Below B W w'):=fun hp W hW=>l4wait_c W C s B T0 T1 T2 k hc (hte hp) hok.m.re hp hW
 have HOV:Hid (∀ W,spS B T0 T1 T2 C.ho s W→Calls Tp 111 #[aG (coL C s).toArray] W fun o w'=>∃ s',o = rT (aG (coL (ovC C) s').toArray)∧spS B T0 T1 T2 (ovC C).ho s' w'∧k41 T2 W w'∧Below B W w'):=fun W hW=>l4over_c W C s B T0 T1 T2 (hbd.up (by decide)) hW
 have HGA:Hid (C.p=5→∀ W,spS B T0 T1 T2 C.ho s W→Calls Tp 118 #[aG (coL C s).toArray,I J k] W fun o w'=>∃ s',o = rT (aG (coL (gpC C k r) s').toArray)∧spS B T0 T1 T2 (gpC C k r).ho s' w'∧k41 T2 W w'∧Below B W w'):=fun e W hW=>l4gap_c W C s B T0 T1 T2 k r hk (by have h1:=hok.m.ct;rw[e] at h1;exact h1) (fun x=>by have:=hok.m.of.2 x;rw[e] at this;cases this) (by rw[e];decide) (hbd.up (by decide)) hok.h.n2 hb hW
 have HFF:Hid (∀ W,spS B T0 T1 T2 C.ho s W→Calls Tp 119 #[aG (coL C s).toArray,I J k] W fun o w'=>∃ s',o = rT (aG (coL (ofC C k) s').toArray)∧spS B T0 T1 T2 (ofC C k).ho s' w'∧k41 T2 W w'∧Below B W w'):=fun W hW=>l4off_c W C s B T0 T1 T2 k hc hok.m.rn hW
 have HD4:Hid (C.p=4→1≤C.ct∧C.ct≤7):=fun e=>by have h1:=hok.m.ct;rw[e] at h1;exact h1
 have HOF:Hid (C.p=7→ofI (ofC C k)=ofC C k):=fun e=>of_keep k e
 have HEN:Hid (tlC (ofI (stpC C k r)) es=actC C (stpC C k r)):=by rw[← hes];exact stp_end C _ (stp_7 hok k r)
 have HTL:Hid (∀ W X s',X.ho=(stpC C k r).ho→spS B T0 T1 T2 X.ho s' W→Calls Tp 104 #[aG (coL X s').toArray,I J es] W fun o w'=>∃ s'',o = rT (aG (coL (tlC X es) s'').toArray)∧spS B T0 T1 T2 (tlC X es).ho s'' w'∧k41 T2 W w'∧Below B W w'):=fun W X s' e hW=>l4tell_c W X s' B T0 T1 T2 es hW (by rw[e];exact (stp_bd hbd k r).up (by decide))
 have hq:C.p=0∨C.p=2∨C.p=3∨C.p=4∨C.p=5∨C.p=6∨C.p=7:=by have:=hok.m.p;omega
 have HPQ:=hidX hq
 clear h hok h1 hn hb hc hte hbd hes hq hk;obtain⟨b0,e0,_,f0⟩:=eqB k 0
 obtain⟨b1,e1,_,f1⟩:=eqB k 1
 obtain⟨d6,e6,_,f6⟩:=eqB (C.ct+1) 6
 obtain⟨d8,e8,_,f8⟩:=eqB (C.ct+1) 8
 obtain⟨c7,e7,g7⟩:=ltB C.ct 7
 obtain⟨wk,ewk⟩ : ∃ b,C.wk=b:=⟨_,rfl⟩
 have fwk:Hid (wk=true↔C.wk=true):=by show _↔_;rw[ewk]
 have HWK:=hidX ewk
 clear ewk;go_enter Tryz.func55,Tryz.ntmps55
 go_wp2_with (first | (refine lq41 H0.out.p.load ?_))
 refine (HES.out _).mono ?_
 rintro o w1 ⟨rfl,hb1⟩;have H1:Hid (vS w B T0 T1 T2 C s C.ho s w1):=H0.out.below hb1
 clear H0 hb1 HES;have y0:=H1.out.p.cell 0 (I J C.p) rfl
 have y1:=H1.out.p.cell 1 (I J C.ct) rfl
 have y3:=H1.out.p.cell 3 (bO C.wk) rfl
 have y4:=H1.out.p.cell 4 (bO C.ov) rfl
 have y6:=H1.out.p.cell 6 (bO C.tx) rfl
 have z0:=H1.out.p.free 0
 have z1:=H1.out.p.free 1
 have z4:=H1.out.p.free 4
 have z6:=H1.out.p.free 6
 rw[HWK.out] at y3
 go_upto_region 2 with fail
 go_cut [9] (fun x wx=>x = I J C.p∧wx=w1)
 case first=>
  go_wp2_with fail;go_meet
  case rel=>exact⟨rfl,rfl⟩
 case rest=>
 obtain⟨rfl,hw1⟩:=hcut
 have hw1:=hw1.symm
 subst hw1;go_upto_block 0 with fail
 go_cut [] (fun wx=>∃ s',Hid (vS w B T0 T1 T2 (ofI (stpC C k r)) s' (ofI (stpC C k r)).ho s' wx))
 case first=>
  rcases HPQ.out with ep|ep|ep|ep|ep|ep|ep
  ·have hp7:C.p≠7:=by rw[ep];decide
   have HFT:=hidX (HFT0.out hp7)
   have HWE:=hidX (HWE0.out hp7)
   have HWA:=hidX (HWA0.out hp7)
   have HGT:Hid ((gpC C k r).te≠256):=by show _≠_;rw[(gpC_p hp7 k r).2];exact fun x=>hp7 (HOK.out.m.of.2 x)
   clear hp7 HFT0 HWE0 HWA0;have w0:(C.p == 0)=true:=by rw[ep];decide
   have w2:(C.p == 2)=false:=by rw[ep];decide
   have w3:(C.p == 3)=false:=by rw[ep];decide
   have w4:(C.p == 4)=false:=by rw[ep];decide
   have w5:(C.p == 5)=false:=by rw[ep];decide
   have w6:(C.p == 6)=false:=by rw[ep];decide
   have w7:(C.p == 7)=false:=by rw[ep];decide
   have HEP:=hidX ep
   clear ep;have HTE:Hid (C.te≠256):=fun x=>by have:=HOK.out.m.of.2 x;rw[HEP.out] at this;cases this
   have hS:stpC C k r=idC C k:=by unfold stpC;simp[HEP.out]
   cases b0
   ·have HR:Hid (ofI (stpC C k r)=C):=by
     show _=_
     rw[hS]
     unfold idC
     rw[if_neg (by simpa using f0.out)]
     exact ofI_no (fun x=>HTE.out x)
    clear hS;go_wp2_with fail;go_meet
    case rel=>exact⟨s,by rw[HR.out];exact H1.out⟩
   ·have HR:Hid (ofI (stpC C k r) = { C with p:=1 }):=by
     show _=_
     rw[hS]
     unfold idC
     rw[if_pos (by simpa using f0.out)]
     exact ofI_no (fun x=>HTE.out x)
    clear hS;have HV9:Hid (vS w B T0 T1 T2 { C with p:=1 } s C.ho s (World.setCell w1 ⟨w.heap.size,0,none⟩ (I J 1))):=(H1.out.set 0 (I J 1) { C with p:=1 } rfl)
    go_wp2_with fail;go_meet
    case rel=>exact⟨s,by rw[HR.out];exact HV9.out⟩
  ·have hp7:C.p≠7:=by rw[ep];decide
   have HFT:=hidX (HFT0.out hp7)
   have HWE:=hidX (HWE0.out hp7)
   have HWA:=hidX (HWA0.out hp7)
   have HGT:Hid ((gpC C k r).te≠256):=by show _≠_;rw[(gpC_p hp7 k r).2];exact fun x=>hp7 (HOK.out.m.of.2 x)
   clear hp7 HFT0 HWE0 HWA0;have w0:(C.p == 0)=false:=by rw[ep];decide
   have w2:(C.p == 2)=true:=by rw[ep];decide
   have w3:(C.p == 3)=false:=by rw[ep];decide
   have w4:(C.p == 4)=false:=by rw[ep];decide
   have w5:(C.p == 5)=false:=by rw[ep];decide
   have w6:(C.p == 6)=false:=by rw[ep];decide
   have w7:(C.p == 7)=false:=by rw[ep];decide
   have HEP:=hidX ep
   clear ep;have HTE:Hid (C.te≠256):=fun x=>by have:=HOK.out.m.of.2 x;rw[HEP.out] at this;cases this
   have hS:stpC C k r=flC C k:=by unfold stpC;simp[HEP.out]
   cases wk
   ·cases b1
    ·cases d6
     ·have HR:Hid (ofI (stpC C k r) = { C with ct:=C.ct+1 }):=by
       show _=_
       rw[hS]
       unfold flC
       rw[if_neg (by simpa using fwk.out),if_neg (by simpa using f1.out),if_neg (by simpa using f6.out)]
       exact ofI_no (fun x=>HTE.out x)
      clear hS;have HV9:Hid (vS w B T0 T1 T2 { C with ct:=(C.ct+1) } s C.ho s (World.setCell w1 ⟨w.heap.size,1,none⟩ (I J (C.ct+1)))):=(H1.out.set 1 (I J (C.ct+1)) { C with ct:=(C.ct+1) } rfl)
      go_wp2_with fail;go_meet
      case rel=>exact⟨s,by rw[HR.out];exact HV9.out⟩
     ·have HR:Hid (ofI (stpC C k r) = { C with p:=3,ct:=0 }):=by
       show _=_
       rw[hS]
       unfold flC
       rw[if_neg (by simpa using fwk.out),if_neg (by simpa using f1.out),if_pos (by simpa using f6.out)]
       exact ofI_no (fun x=>HTE.out x)
      clear hS;have HV9:Hid (vS w B T0 T1 T2 { C with p:=3,ct:=0 } s C.ho s (World.setCell (World.setCell (World.setCell w1 ⟨w.heap.size,1,none⟩ (I J (C.ct+1))) ⟨w.heap.size,0,none⟩ (I J 3)) ⟨w.heap.size,1,none⟩ (I J 0))):=(((H1.out.set 1 (I J (C.ct+1)) { C with ct:=(C.ct+1) } rfl).set 0 (I J 3) { C with ct:=(C.ct+1),p:=3 } rfl).set 1 (I J 0) { C with p:=3,ct:=0 } rfl)
      go_wp2_with fail;go_meet
      case rel=>exact⟨s,by rw[HR.out];exact HV9.out⟩
    ·have HR:Hid (stpC C k r=fltC C 1):=by
      show _=_
      rw[hS]
      unfold flC
      rw[if_neg (by simpa using fwk.out),if_pos (by simpa using f1.out)]
     clear hS;go_wp2_with (first | (refine lq41 H1.out.p.load ?_))
     refine (HFT.out 1 _ H1.out.sp).mono ?_
     rintro o w2 ⟨s2,rfl,q1,q2,q3⟩;have HV2:Hid (vS w B T0 T1 T2 C s (actC C (fltC C 1)).ho s2 w2):=H1.out.call q1 q2 q3
     clear q1 q2 q3;go_wp2_with (first | (refine sq41 HV2.out.r ?_;generalize hW11:World.setCells _ (w.heap.size+1) 0 _=w11;have R11:=hidR hW11 (HV2.out.ret (actC C (fltC C 1)) s2);clear hW11))
     have hL:=rq41 R11.out.1
     refine bC Tryz.results55 hL ?_
     rw[HR.out]
     exact⟨s2,rfl,R11.out.2⟩
   ·have HR:Hid (ofI (stpC C k r)=ofI (wfX (wfO C k) k)):=by
     show _=_
     rw[hS]
     unfold flC
     rw[if_pos (by simpa using fwk.out)]
    clear hS;go_wp2_with (first | (refine lq41 H1.out.p.load ?_))
    refine (HWE.out _ H1.out.sp).mono ?_
    rintro o w2 ⟨s2,rfl,q1,q2,q3⟩;have HV2:Hid (vS w B T0 T1 T2 C s (ofI (wfX (wfO C k) k)).ho s2 w2):=H1.out.call q1 q2 q3
    clear q1 q2 q3;go_wp2_with (first | (refine sq41 HV2.out.p ?_;generalize hW9:World.setCells _ w.heap.size 0 _=w9;have HV9:=hidS hW9 (HV2.out.put (ofI (wfX (wfO C k) k)) s2);clear hW9))
    go_meet
    case rel=>exact⟨s2,by rw[HR.out];exact HV9.out⟩
  ·have hp7:C.p≠7:=by rw[ep];decide
   have HFT:=hidX (HFT0.out hp7)
   have HWE:=hidX (HWE0.out hp7)
   have HWA:=hidX (HWA0.out hp7)
   have HGT:Hid ((gpC C k r).te≠256):=by show _≠_;rw[(gpC_p hp7 k r).2];exact fun x=>hp7 (HOK.out.m.of.2 x)
   clear hp7 HFT0 HWE0 HWA0;have w0:(C.p == 0)=false:=by rw[ep];decide
   have w2:(C.p == 2)=false:=by rw[ep];decide
   have w3:(C.p == 3)=true:=by rw[ep];decide
   have w4:(C.p == 4)=false:=by rw[ep];decide
   have w5:(C.p == 5)=false:=by rw[ep];decide
   have w6:(C.p == 6)=false:=by rw[ep];decide
   have w7:(C.p == 7)=false:=by rw[ep];decide
   have HEP:=hidX ep
   clear ep;have HTE:Hid (C.te≠256):=fun x=>by have:=HOK.out.m.of.2 x;rw[HEP.out] at this;cases this
   have hS:stpC C k r=waC C k:=by unfold stpC;simp[HEP.out]
   have HR:Hid (ofI (stpC C k r)=ofI (waC C k)):=by show _=_;rw[hS]
   clear hS;go_wp2_with (first | (refine lq41 H1.out.p.load ?_))
   refine (HWA.out _ H1.out.sp).mono ?_
   rintro o w2 ⟨s2,rfl,q1,q2,q3⟩;have HV2:Hid (vS w B T0 T1 T2 C s (ofI (waC C k)).ho s2 w2):=H1.out.call q1 q2 q3
   clear q1 q2 q3;go_wp2_with (first | (refine sq41 HV2.out.p ?_;generalize hW9:World.setCells _ w.heap.size 0 _=w9;have HV9:=hidS hW9 (HV2.out.put (ofI (waC C k)) s2);clear hW9))
   go_meet
   case rel=>exact⟨s2,by rw[HR.out];exact HV9.out⟩
  ·have hp7:C.p≠7:=by rw[ep];decide
   have HFT:=hidX (HFT0.out hp7)
   have HWE:=hidX (HWE0.out hp7)
   have HWA:=hidX (HWA0.out hp7)
   have HGT:Hid ((gpC C k r).te≠256):=by show _≠_;rw[(gpC_p hp7 k r).2];exact fun x=>hp7 (HOK.out.m.of.2 x)
   clear hp7 HFT0 HWE0 HWA0;have w0:(C.p == 0)=false:=by rw[ep];decide
   have w2:(C.p == 2)=false:=by rw[ep];decide
   have w3:(C.p == 3)=false:=by rw[ep];decide
   have w4:(C.p == 4)=true:=by rw[ep];decide
   have w5:(C.p == 5)=false:=by rw[ep];decide
   have w6:(C.p == 6)=false:=by rw[ep];decide
   have w7:(C.p == 7)=false:=by rw[ep];decide
   have HEP:=hidX ep
   clear ep;have HTE:Hid (C.te≠256):=fun x=>by have:=HOK.out.m.of.2 x;rw[HEP.out] at this;cases this
   have hS:stpC C k r=dlC C k:=by unfold stpC;simp[HEP.out]
   cases b0
   ·cases d8
    ·have HR:Hid (ofI (stpC C k r) = { C with ct:=C.ct+1 }):=by
      show _=_
      rw[hS]
      unfold dlC
      rw[if_neg (by simpa using f0.out),if_neg (by simpa using f8.out)]
      exact ofI_no (fun x=>HTE.out x)
     clear hS;have HV9:Hid (vS w B T0 T1 T2 { C with ct:=(C.ct+1) } s C.ho s (World.setCell w1 ⟨w.heap.size,1,none⟩ (I J (C.ct+1)))):=(H1.out.set 1 (I J (C.ct+1)) { C with ct:=(C.ct+1) } rfl)
     go_wp2_with fail;go_meet
     case rel=>exact⟨s,by rw[HR.out];exact HV9.out⟩
    ·have HR:Hid (ofI (stpC C k r) = { C with p:=5,ct:=0,ov:=false }):=by
      show _=_
      rw[hS]
      unfold dlC
      rw[if_neg (by simpa using f0.out),if_pos (by simpa using f8.out)]
      exact ofI_no (fun x=>HTE.out x)
     clear hS;have HV9:Hid (vS w B T0 T1 T2 { C with p:=5,ct:=0,ov:=false } s C.ho s (World.setCell (World.setCell (World.setCell (World.setCell w1 ⟨w.heap.size,1,none⟩ (I J (C.ct+1))) ⟨w.heap.size,0,none⟩ (I J 5)) ⟨w.heap.size,1,none⟩ (I J 0)) ⟨w.heap.size,4,none⟩ (bO false))):=((((H1.out.set 1 (I J (C.ct+1)) { C with ct:=(C.ct+1) } rfl).set 0 (I J 5) { C with ct:=(C.ct+1),p:=5 } rfl).set 1 (I J 0) { C with p:=5,ct:=0 } rfl).set 4 (bO false) { C with p:=5,ct:=0,ov:=false } rfl)
     go_wp2_with fail;go_meet
     case rel=>exact⟨s,by rw[HR.out];exact HV9.out⟩
   ·cases c7
    ·have h7:C.ct=7:=by
      have h8:¬ C.ct<7:=fun x=>by have:=g7.out.2 x;cases this
      have:=HD4.out HEP.out
      omega
     have HR:Hid (ofI (stpC C k r)=ovC C):=by
      show _=_
      rw[hS]
      unfold dlC
      rw[if_pos (by simpa using f0.out),if_pos h7]
      exact ofI_no (fun x=>HTE.out x)
     clear hS;clear h7;go_wp2_with (first | (refine lq41 H1.out.p.load ?_))
     refine (HOV.out _ H1.out.sp).mono ?_
     rintro o w2 ⟨s2,rfl,q1,q2,q3⟩;have HV2:Hid (vS w B T0 T1 T2 C s (ovC C).ho s2 w2):=H1.out.call q1 q2 q3
     clear q1 q2 q3;go_wp2_with (first | (refine sq41 HV2.out.p ?_;generalize hW9:World.setCells _ w.heap.size 0 _=w9;have HV9:=hidS hW9 (HV2.out.put (ovC C) s2);clear hW9))
     go_meet
     case rel=>exact⟨s2,by rw[HR.out];exact HV9.out⟩
    ·have h7:¬ C.ct=7:=by have:=g7.out.1 rfl;omega
     have HR:Hid (stpC C k r=fltC C 3):=by
      show _=_
      rw[hS]
      unfold dlC
      rw[if_pos (by simpa using f0.out),if_neg h7]
     clear hS;clear h7;go_wp2_with (first | (refine lq41 H1.out.p.load ?_))
     refine (HFT.out 3 _ H1.out.sp).mono ?_
     rintro o w2 ⟨s2,rfl,q1,q2,q3⟩;have HV2:Hid (vS w B T0 T1 T2 C s (actC C (fltC C 3)).ho s2 w2):=H1.out.call q1 q2 q3
     clear q1 q2 q3;go_wp2_with (first | (refine sq41 HV2.out.r ?_;generalize hW11:World.setCells _ (w.heap.size+1) 0 _=w11;have R11:=hidR hW11 (HV2.out.ret (actC C (fltC C 3)) s2);clear hW11))
     have hL:=rq41 R11.out.1
     refine bC Tryz.results55 hL ?_
     rw[HR.out]
     exact⟨s2,rfl,R11.out.2⟩
  ·have hp7:C.p≠7:=by rw[ep];decide
   have HFT:=hidX (HFT0.out hp7)
   have HWE:=hidX (HWE0.out hp7)
   have HWA:=hidX (HWA0.out hp7)
   have HGT:Hid ((gpC C k r).te≠256):=by show _≠_;rw[(gpC_p hp7 k r).2];exact fun x=>hp7 (HOK.out.m.of.2 x)
   clear hp7 HFT0 HWE0 HWA0;have w0:(C.p == 0)=false:=by rw[ep];decide
   have w2:(C.p == 2)=false:=by rw[ep];decide
   have w3:(C.p == 3)=false:=by rw[ep];decide
   have w4:(C.p == 4)=false:=by rw[ep];decide
   have w5:(C.p == 5)=true:=by rw[ep];decide
   have w6:(C.p == 6)=false:=by rw[ep];decide
   have w7:(C.p == 7)=false:=by rw[ep];decide
   have HEP:=hidX ep
   clear ep;have HTE:Hid (C.te≠256):=fun x=>by have:=HOK.out.m.of.2 x;rw[HEP.out] at this;cases this
   have hS:stpC C k r=gpC C k r:=by unfold stpC;simp[HEP.out]
   have HR:Hid (ofI (stpC C k r)=gpC C k r):=by show _=_;rw[hS];exact ofI_no (HGT.out)
   clear hS;go_wp2_with (first | (refine lq41 H1.out.p.load ?_))
   refine ((HGA.out HEP.out) _ H1.out.sp).mono ?_
   rintro o w2 ⟨s2,rfl,q1,q2,q3⟩;have HV2:Hid (vS w B T0 T1 T2 C s (gpC C k r).ho s2 w2):=H1.out.call q1 q2 q3
   clear q1 q2 q3;go_wp2_with (first | (refine sq41 HV2.out.p ?_;generalize hW9:World.setCells _ w.heap.size 0 _=w9;have HV9:=hidS hW9 (HV2.out.put (gpC C k r) s2);clear hW9))
   go_meet
   case rel=>exact⟨s2,by rw[HR.out];exact HV9.out⟩
  ·have hp7:C.p≠7:=by rw[ep];decide
   have HFT:=hidX (HFT0.out hp7)
   have HWE:=hidX (HWE0.out hp7)
   have HWA:=hidX (HWA0.out hp7)
   have HGT:Hid ((gpC C k r).te≠256):=by show _≠_;rw[(gpC_p hp7 k r).2];exact fun x=>hp7 (HOK.out.m.of.2 x)
   clear hp7 HFT0 HWE0 HWA0;have w0:(C.p == 0)=false:=by rw[ep];decide
   have w2:(C.p == 2)=false:=by rw[ep];decide
   have w3:(C.p == 3)=false:=by rw[ep];decide
   have w4:(C.p == 4)=false:=by rw[ep];decide
   have w5:(C.p == 5)=false:=by rw[ep];decide
   have w6:(C.p == 6)=true:=by rw[ep];decide
   have w7:(C.p == 7)=false:=by rw[ep];decide
   have HEP:=hidX ep
   clear ep;have HTE:Hid (C.te≠256):=fun x=>by have:=HOK.out.m.of.2 x;rw[HEP.out] at this;cases this
   have hS:stpC C k r=suC C k:=by unfold stpC;simp[HEP.out]
   cases b0
   ·cases d8
    ·have HR:Hid (ofI (stpC C k r) = { C with ct:=C.ct+1 }):=by
      show _=_
      rw[hS]
      unfold suC
      rw[if_neg (by simpa using f0.out),if_neg (by simpa using f8.out)]
      exact ofI_no (fun x=>HTE.out x)
     clear hS;have HV9:Hid (vS w B T0 T1 T2 { C with ct:=(C.ct+1) } s C.ho s (World.setCell w1 ⟨w.heap.size,1,none⟩ (I J (C.ct+1)))):=(H1.out.set 1 (I J (C.ct+1)) { C with ct:=(C.ct+1) } rfl)
     go_wp2_with fail;go_meet
     case rel=>exact⟨s,by rw[HR.out];exact HV9.out⟩
    ·have HR:Hid (ofI (stpC C k r) = { C with p:=0,ct:=0,tx:=false }):=by
      show _=_
      rw[hS]
      unfold suC
      rw[if_neg (by simpa using f0.out),if_pos (by simpa using f8.out)]
      exact ofI_no (fun x=>HTE.out x)
     clear hS;have HV9:Hid (vS w B T0 T1 T2 { C with p:=0,ct:=0,tx:=false } s C.ho s (World.setCell (World.setCell (World.setCell (World.setCell w1 ⟨w.heap.size,1,none⟩ (I J (C.ct+1))) ⟨w.heap.size,0,none⟩ (I J 0)) ⟨w.heap.size,1,none⟩ (I J 0)) ⟨w.heap.size,6,none⟩ (bO false))):=((((H1.out.set 1 (I J (C.ct+1)) { C with ct:=(C.ct+1) } rfl).set 0 (I J 0) { C with ct:=(C.ct+1),p:=0 } rfl).set 1 (I J 0) { C with p:=0,ct:=0 } rfl).set 6 (bO false) { C with p:=0,ct:=0,tx:=false } rfl)
     go_wp2_with fail;go_meet
     case rel=>exact⟨s,by rw[HR.out];exact HV9.out⟩
   ·have HR:Hid (ofI (stpC C k r) = { C with p:=1,ct:=0,tx:=false }):=by
     show _=_
     rw[hS]
     unfold suC
     rw[if_pos (by simpa using f0.out)]
     exact ofI_no (fun x=>HTE.out x)
    clear hS;have HV9:Hid (vS w B T0 T1 T2 { C with p:=1,ct:=0,tx:=false } s C.ho s (World.setCell (World.setCell (World.setCell w1 ⟨w.heap.size,0,none⟩ (I J 1)) ⟨w.heap.size,1,none⟩ (I J 0)) ⟨w.heap.size,6,none⟩ (bO false))):=(((H1.out.set 0 (I J 1) { C with p:=1 } rfl).set 1 (I J 0) { C with p:=1,ct:=0 } rfl).set 6 (bO false) { C with p:=1,ct:=0,tx:=false } rfl)
    go_wp2_with fail;go_meet
    case rel=>exact⟨s,by rw[HR.out];exact HV9.out⟩
  ·have w0:(C.p == 0)=false:=by rw[ep];decide
   have w2:(C.p == 2)=false:=by rw[ep];decide
   have w3:(C.p == 3)=false:=by rw[ep];decide
   have w4:(C.p == 4)=false:=by rw[ep];decide
   have w5:(C.p == 5)=false:=by rw[ep];decide
   have w6:(C.p == 6)=false:=by rw[ep];decide
   have w7:(C.p == 7)=true:=by rw[ep];decide
   have HEP:=hidX ep
   clear ep;have hS:stpC C k r=ofC C k:=by unfold stpC;simp[HEP.out]
   have HR:Hid (ofI (stpC C k r)=ofC C k):=by show _=_;rw[hS];exact HOF.out HEP.out
   clear hS;go_wp2_with (first | (refine lq41 H1.out.p.load ?_))
   refine (HFF.out _ H1.out.sp).mono ?_
   rintro o w2 ⟨s2,rfl,q1,q2,q3⟩;have HV2:Hid (vS w B T0 T1 T2 C s (ofC C k).ho s2 w2):=H1.out.call q1 q2 q3
   clear q1 q2 q3;go_wp2_with (first | (refine sq41 HV2.out.p ?_;generalize hW9:World.setCells _ w.heap.size 0 _=w9;have HV9:=hidS hW9 (HV2.out.put (ofC C k) s2);clear hW9))
   go_meet
   case rel=>exact⟨s2,by rw[HR.out];exact HV9.out⟩
 case rest=>
 obtain⟨s5,HV5⟩:=hcut
 obtain⟨X,eX⟩ : ∃ X,ofI (stpC C k r)=X:=⟨_,rfl⟩
 have HXh:Hid (X.ho=(stpC C k r).ho):=by rw[← eX];exact ofI_ho _
 rw[eX] at HV5 HEN
 clear eX H1 HFT0 HWE0 HWA0 HOV HGA HFF HOF HD4;go_wp2_with (first | (refine lq41 HV5.out.p.load ?_))
 refine (HTL.out _ X s5 HXh.out HV5.out.sp).mono ?_
 rintro o w10 ⟨s10,rfl,q1,q2,q3⟩;have HVB:Hid (vS w B T0 T1 T2 X s5 (tlC X es).ho s10 w10):=HV5.out.call q1 q2 q3
 clear q1 q2 q3 HTL HV5;go_wp2_with (first | (refine sq41 HVB.out.r ?_;generalize hW11:World.setCells _ (w.heap.size+1) 0 _=w11;have R11:=hidR hW11 (HVB.out.ret (tlC X es) s10);clear hW11))
 have hL:=rq41 R11.out.1
 refine bC Tryz.results55 hL ?_
 rw[← HEN.out]
 exact⟨s10,rfl,R11.out.2⟩
theorem specCoreStep_any (w:World) (C:Co) (s:Sl) (k r:Int) (T:Co) (hb:bestR C.ho.bx r) (hR:okRelP (okCs C k) (actC C (stpC C k r)) T) (h:isHo w C.ho s) (hn:C.ho.le 1048576) :
  Calls Tp 23 #[aG (coL C s).toArray,I J k] w fun o w'=>∃ s',o = rT (aG (coL T s').toArray)∧St w.heap.size w' (fun W=>isHo W T.ho s')∧Below w.heap.size w w':=by
 have H0:Hid (dcS w C s ((w.alloc (.cells (coL C s).toArray 41)).alloc (.cells zY.toArray 41))):=dcS.new w C s
 have HR:Hid (okRelP (okCs C k) (actC C (stpC C k r)) T):=hR
 have HBR:=hidX hb
 obtain⟨bo,fo,HV⟩:=l4okB w C s h hn
 have HC:Hid (∀ W,Below w.heap.size w W→Calls Tp 35 #[aG (coL C s).toArray] W fun o w'=>∃ s' T0 T1 T2,o = rT (aG (coL C s').toArray)∧spS (W.heap.size+2) T0 T1 T2 C.ho s' w'∧s'.n2=C.ho.bx.length∧s'.n4=C.ho.qu.length∧Below W.heap.size W w'):=fun W hW=>l4copy_any W C s (h.below hW) hn
 have HN:Hid (C.ho.le 1048576):=hn
 obtain⟨p1,e1,_,f1⟩:=eqB C.p 1
 obtain⟨k0,_,n0,g0⟩:=eqB k 0
 obtain⟨k1,_,n1,g1⟩:=eqB k 1
 clear hR h hn hb;go_enter Tryz.func23,Tryz.ntmps23
 go_upto_region 1 with fail
 go_cut [20] (fun x wx=>x = bO (!bo || p1 || (!k0 && !k1))∧Hid (dcS w C s wx))
 case first=>
  cases bo <;> cases p1 <;> cases k0 <;> cases k1 <;> (
   go_wp2_with (first | (refine lq41 H0.out.p.load ?_))
   refine (HV.out _ H0.out.b).mono ?_
   rintro o w1 ⟨rfl,hb1⟩;have H1:Hid (dcS w C s w1):=H0.out.below hb1
   have y0:=H1.out.p.cell 0 (I J C.p) rfl
   clear hb1;go_wp2_with fail;go_meet
   case rel=>exact⟨rfl,H1.out⟩)
 case rest=>
 obtain⟨rfl,H2⟩:=hcut
 obtain⟨b,eb⟩ : ∃ b,(!bo || p1 || (!k0 && !k1))=b:=⟨_,rfl⟩
 rw[eb]
 have HE:=hidX eb
 clear eb e1 n0 n1 H0 HV;cases b
 case true=>
  have HNO:Hid (¬ okCs C k):=fun x=>by
   have h1:=HE.out
   have h2:=fo.out.2 x.1
   have h3:¬ p1=true:=fun y=>x.2.1 (f1.out.1 y)
   have h4:k0=true∨k1=true:=by rw[g0.out,g1.out];exact x.2.2
   rcases h4 with rfl | rfl <;> simp[h2,h3] at h1
  go_wp2_with (first | (refine sq41 H2.out.r ?_;generalize hW8:World.setCells _ (w.heap.size+1) 0 _=w8;have HW8:Hid (_=w8):=hW8;clear hW8))
  have e8:=HW8.out
  have hF:blk w8 (w.heap.size+1) (coL zCo zSl) 41:=by
   rw[← e8]
   exact H2.out.r.core rfl zCo zSl
  have hL:=rq41 hF
  refine bC Tryz.results23 hL ?_
  have hR:=HR.out.no HNO.out
  subst hR;refine⟨zSl,rfl,fun _ _=>zHo_is _,?_⟩
  rw[← e8]
  exact sW (by omega) 0 _ H2.out.b
 case false=>
 have HOK:Hid (okCs C k):=by
  have h1:=HE.out
  have h2:bo=true∧p1=false∧(k0=true∨k1=true):=by cases bo <;> cases p1 <;> cases k0 <;> cases k1 <;> simp_all
  have h3:k=0∨k=1:=by rw[← g0.out,← g1.out];exact h2.2.2
  exact⟨fo.out.1 h2.1,fun e=>(by have:=f1.out.2 e;rw[h2.2.1] at this;cases this),h3⟩
 clear HE f1 g0 g1 fo;go_wp2_with (first | (refine lq41 H2.out.p.load ?_))
 refine (HC.out _ H2.out.b).mono ?_
 rintro o w2 ⟨s2,T0,T1,T2,rfl,e4,_,_,hb2⟩;have HD:Hid (Calls Tp 55 #[aG (coL C s2).toArray,I J k] w2 fun o w'=>∃ s',o = rT (aG (coL (actC C (stpC C k r)) s').toArray)∧spS (wc.heap.size+2) T0 T1 T2 (actC C (stpC C k r)).ho s' w'∧k41 T2 w2 w'∧Below (wc.heap.size+2) w2 w'):=l4doStep_any w2 C s2 (wc.heap.size+2) T0 T1 T2 k r HOK.out.2.2 HOK.out.1 HOK.out.2.1 HN.out HBR.out e4
 have H3:Hid (dcS w C s w2):=H2.out.below hb2
 have HZ2:Hid (w.heap.size+1<wc.heap.size):=H2.out.r.lt
 clear e4 hb2 H2 HC;go_wp2_with fail;refine HD.out.mono ?_
 rintro o w3 ⟨s3,rfl,q1,_,q2⟩;have H4:Hid (blk w3 (w.heap.size+1) Z21 41):=H3.out.r.kept (q2.block _ (by have:=HZ2.out;omega))
 have HB3:Hid (Below w.heap.size w w3):=H3.out.b.trans (q2.mono (by have:=HZ2.out;omega))
 have HST:Hid (spS (wc.heap.size+2) T0 T1 T2 (actC C (stpC C k r)).ho s3 w3):=q1
 clear q1 q2 H3 HD;go_wp2_with (first
  | (refine sq41 H4.out ?_;generalize hW8:World.setCells _ (w.heap.size+1) 0 _=w8;have HW8:Hid (_=w8):=hW8;clear hW8))
 have e8:=HW8.out
 have hF:blk w8 (w.heap.size+1) (coL (actC C (stpC C k r)) s3) 41:=by
  rw[← e8]
  exact H4.out.core rfl _ _
 have hL:=rq41 hF
 refine bC Tryz.results23 hL ?_
 have hR:=HR.out.yes HOK.out
 subst hR;refine⟨s3,rfl,(HST.out.st (fun x h1 h2=>?_) ?_).isStD.mono (by have:=HZ2.out;omega),?_⟩
 ·rw[← e8]
  exact sO _ x (by have:=HZ2.out;omega) _ _ _
 ·rw[← e8,sZ]
  exact nR _
 ·rw[← e8]
  exact sW (by omega) 0 _ HB3.out
end Go.Proofs.YtkfcfigbgmbaiaaGreat
