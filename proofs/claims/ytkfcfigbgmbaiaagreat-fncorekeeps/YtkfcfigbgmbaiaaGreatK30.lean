import Derived.Test.YtkfcfigbgmbaiaaGreatK29
namespace Go.Proofs.YtkfcfigbgmbaiaaGreat
set_option maxRecDepth 20000
open Go.RowKit
set_option linter.unusedVariables false
set_option maxHeartbeats 16000000
open Go.Value renaming int→I,slice→sL,bool→bO,pointer→pT,agg→aG
open Go.IntKind renaming i64→J
open Go.Ending renaming returned→rT
open Go.Proofs.Tryz renaming prog→Tp
theorem addS_ofI {X:Co} {n:Int} (hp:X.p≠7):addS X n=ofI (addC X X.tx n):=by
 rcases addS_two X n with⟨a,b⟩|⟨a,b⟩
 ·rw[b,ofI_yes a (by rw[addC_p];exact hp)]
 ·rw[b,ofI_no a]
theorem addC_ct (C:Co) (b:Bool) (n m k:Int):{ addC { C with ct:=m } b n with ct:=k }=addC { C with ct:=k } b n:=by unfold addC;split <;> rfl
theorem l4wait_c (w:World) (C:Co) (s:Sl) (B T0 T1 T2:Nat) (bit:Int) (hc:0≤C.ct∧C.ct≤200) (ht:0≤C.te∧C.te<256) (hr:0≤C.re∧C.re≤255) (hp:C.p≠7) (h:spS B T0 T1 T2 C.ho s w) :
  Calls Tp 117 #[aG (coL C s).toArray,I J bit] w fun o w'=>∃ s',o = rT (aG (coL (ofI (waC C bit)) s').toArray)∧spS B T0 T1 T2 (ofI (waC C bit)).ho s' w'∧k41 T2 w w'∧Below B w w':=by
 have H0:Hid (vS w B T0 T1 T2 C s C.ho s ((w.alloc (.cells (coL C s).toArray 41)).alloc (.cells zY.toArray 41))):=vS.new h
 have HAD:Hid (∀ W X,X.te=C.te→X.re=C.re→Calls Tp 103 #[aG (coL X s).toArray,I J 8] W fun o w'=>o = rT (aG (coL (addS X 8) s).toArray)∧Below W.heap.size W w'):=fun W X e1 e2=>l4add_any W X s 8 (by decide) (by rw[e1];exact ht) (by rw[e2];exact hr)
 have HC:=hidX (And.intro ht hp)
 have hw:=wrap_ct hc
 clear h hc ht hr hp;have y0:=H0.out.p.cell 0 (I J C.p) rfl
 have y1:=H0.out.p.cell 1 (I J C.ct) rfl
 have y4:=H0.out.p.cell 4 (bO C.ov) rfl
 have y6:=H0.out.p.cell 6 (bO C.tx) rfl
 have z0:=H0.out.p.free 0
 have z1:=H0.out.p.free 1
 obtain⟨tx,etx⟩ : ∃ b,C.tx=b:=⟨_,rfl⟩
 obtain⟨ov,eov⟩ : ∃ b,C.ov=b:=⟨_,rfl⟩
 rw[etx] at y6
 rw[eov] at y4
 obtain⟨b,e,_,fb⟩:=eqB bit 1
 obtain⟨d1,e1,_,f1⟩:=eqB (C.ct+1) 1
 obtain⟨d8,e8,_,f8⟩:=eqB (C.ct+1) 8
 obtain⟨d16,e16,_,f16⟩:=eqB (C.ct+1) 16
 have HQ:Hid (waC C bit=if b=true then { C with p:=4,ct:=1 } else if ((d1 && !tx && !ov) || d8)=true then addC { C with ct:=C.ct+1 } C.tx 8 else if d16=true then { addC { C with ct:=C.ct+1 } C.tx 8 with ct:=8 } else { C with ct:=C.ct+1 }):=by
  show _=_
  have h1:(((d1 && !tx && !ov) || d8)=true)↔((C.ct+1=1∧C.tx=false∧C.ov=false)∨C.ct+1=8):=by rw[← f1.out,← f8.out,etx,eov];cases d1 <;> cases tx <;> cases ov <;> cases d8 <;> simp
  unfold waC
  simp only[h1,fb.out,f16.out]
 have HX8:Hid (d16=true→d8=false∧d1=false):=fun x=>by
  have h1:=f16.out.1 x
  refine⟨?_,?_⟩
  ·cases d8
   ·rfl
   ·have:=f8.out.1 rfl;omega
  ·cases d1
   ·rfl
   ·have:=f1.out.1 rfl;omega
 have HTO:=hidX (And.intro etx eov)
 clear fb f1 f8 f16 etx eov;generalize hW0:((w.alloc (.cells (coL C s).toArray 41)).alloc (.cells zY.toArray 41))=W0 at *;go_enter Tryz.func117,Tryz.ntmps117
 cases b
 case true=>
  have HR:Hid (ofI (waC C bit) = { C with p:=4,ct:=1 }):=by
   show _=_
   rw[HQ.out]
   exact ofI_no (by have:=HC.out.1.2;intro x;have x:C.te=256:=x;omega)
  have HV9:Hid (vS w B T0 T1 T2 { C with p:=4,ct:=1 } s C.ho s (World.setCell (World.setCell W0 ⟨w.heap.size,0,none⟩ (I J 4)) ⟨w.heap.size,1,none⟩ (I J 1))):=((H0.out.set 0 (I J 4) { C with p:=4 } rfl).set 1 (I J 1) { C with p:=4,ct:=1 } rfl)
  go_upto_region 4 with fail
  generalize (World.setCell (World.setCell W0 ⟨w.heap.size,0,none⟩ (I J 4)) ⟨w.heap.size,1,none⟩ (I J 1))=w9 at *;go_wp2_with (first | (refine lq41 HV9.out.p.load ?_) | (refine sq41 HV9.out.r ?_;generalize hW11:World.setCells _ (w.heap.size+1) 0 _=w11;have R11:=hidR hW11 (HV9.out.ret { C with p:=4,ct:=1 } s);clear hW11))
  have hL:=rq41 R11.out.1
  refine bC Tryz.results117 hL ?_
  rw[HR.out]
  exact⟨s,rfl,R11.out.2⟩
 case false=>
 go_upto_if 18 with fail
 go_cut [] (fun wx=>Hid (vS w B T0 T1 T2 (if d16=true then { C with ct:=8 } else { C with ct:=C.ct+1 }) s C.ho s wx))
 case first=>
  cases d16
  ·have HV1:Hid (vS w B T0 T1 T2 { C with ct:=(C.ct+1) } s C.ho s (World.setCell W0 ⟨w.heap.size,1,none⟩ (I J (C.ct+1)))):=(H0.out.set 1 (I J (C.ct+1)) { C with ct:=(C.ct+1) } rfl)
   go_wp2_with fail;go_meet
   case rel=>exact HV1.out
  ·have HV1:Hid (vS w B T0 T1 T2 { C with ct:=8 } s C.ho s (World.setCell (World.setCell W0 ⟨w.heap.size,1,none⟩ (I J (C.ct+1))) ⟨w.heap.size,1,none⟩ (I J 8))):=((H0.out.set 1 (I J (C.ct+1)) { C with ct:=(C.ct+1) } rfl).set 1 (I J 8) { C with ct:=8 } rfl)
   go_wp2_with fail;go_meet
   case rel=>exact HV1.out
 case rest=>
 have HV2:=hcut
 have YY:Hid (((if d16=true then { C with ct:=8 } else { C with ct:=C.ct+1 })).te=C.te∧((if d16=true then { C with ct:=8 } else { C with ct:=C.ct+1 })).re=C.re∧((if d16=true then { C with ct:=8 } else { C with ct:=C.ct+1 })).ho=C.ho∧((if d16=true then { C with ct:=8 } else { C with ct:=C.ct+1 })).tx=C.tx∧((if d16=true then { C with ct:=8 } else { C with ct:=C.ct+1 })).p=C.p∧((if d16=true then { C with ct:=8 } else { C with ct:=C.ct+1 })).ov=C.ov):=by cases d16 <;> exact⟨rfl,rfl,rfl,rfl,rfl,rfl⟩
 clear hcut y0 y1 y4 y6 z0 z1;obtain⟨X,eX⟩ : ∃ X,(if d16=true then { C with ct:=8 } else { C with ct:=C.ct+1 })=X:=⟨_,rfl⟩
 rw[eX] at HV2 YY
 have HEX:=hidX eX
 clear eX H0;have y4:=HV2.out.p.cell 4 (bO X.ov) rfl
 have y6:=HV2.out.p.cell 6 (bO X.tx) rfl
 rw[YY.out.2.2.2.2.2,HTO.out.2] at y4
 rw[YY.out.2.2.2.1,HTO.out.1] at y6
 go_upto_region 9 with fail
 go_cut [39] (fun x wx=>x = bO (d8 || d16 || (d1 && !tx && !ov))∧wx=wc)
 case first=>
  clear HQ HX8 HTO YY HEX;have hh:(d8=true)∨(d8=false∧d16=true)∨(d8=false∧d16=false∧d1=true∧tx=true)∨(d8=false∧d16=false∧d1=true∧tx=false∧ov=true)∨(d8=false∧d16=false∧d1=true∧tx=false∧ov=false)∨(d8=false∧d16=false∧d1=false):=by cases d8 <;> cases d16 <;> cases d1 <;> cases tx <;> cases ov <;> simp
  rcases hh with rfl | ⟨rfl,rfl⟩ | ⟨rfl,rfl,rfl,rfl⟩ | ⟨rfl,rfl,rfl,rfl,rfl⟩ | ⟨rfl,rfl,rfl,rfl,rfl⟩ | ⟨rfl,rfl,rfl⟩ <;> (
   go_wp2_with fail;go_meet
   case rel=>exact⟨rfl,rfl⟩)
 case rest=>
 obtain⟨rfl,hw1⟩:=hcut
 have hw1:=hw1.symm
 subst hw1;obtain⟨m,em⟩ : ∃ m,(d8 || d16 || (d1 && !tx && !ov))=m:=⟨_,rfl⟩
 rw[em]
 have HM:=hidX em
 rw[← YY.out.2.2.1] at HV2
 have HR:Hid (ofI (waC C bit)=if m=true then addS X 8 else X):=by
  show _=_
  have h8:=HX8.out
  rw[HQ.out,← HM.out]
  by_cases h16:d16=true
  ·have h:=h8 h16
   rw[h16,h.1,h.2]
   have ex:X = { C with ct:=8 }:=by rw[← HEX.out,if_pos h16]
   show ofI { addC { C with ct:=C.ct+1 } C.tx 8 with ct:=8 }=addS X 8
   rw[addC_ct,ex,addS_ofI (X:={ C with ct:=8 }) (n:=8) HC.out.2]
  ·have h16':d16=false:=by simpa using h16
   have ex:X = { C with ct:=C.ct+1 }:=by rw[← HEX.out,if_neg h16]
   rw[h16',ex,addS_ofI (X:={ C with ct:=C.ct+1 }) (n:=8) HC.out.2]
   by_cases hq:((d1 && !tx && !ov) || d8)=true
   ·have hq2:(d8 || false || (d1 && !tx && !ov))=true:=by rw[Bool.or_false,Bool.or_comm];exact hq
    rw[if_neg (by decide),if_pos hq,if_pos hq2]
   ·have hq2:¬ (d8 || false || (d1 && !tx && !ov))=true:=by rw[Bool.or_false,Bool.or_comm];exact hq
    rw[if_neg (by decide),if_neg hq,if_neg (by decide),if_neg hq2]
    exact ofI_no (by have:=HC.out.1.2;intro x;have x:C.te=256:=x;omega)
 clear em HM HQ HX8 HTO HEX y4 y6 e1 e8 e16;cases m
 case false=>
  go_upto_region 11 with fail
  go_wp2_with (first | (refine lq41 HV2.out.p.load ?_) | (refine sq41 HV2.out.r ?_;generalize hW11:World.setCells _ (w.heap.size+1) 0 _=w11;have R11:=hidR hW11 (HV2.out.ret X s);clear hW11))
  have hL:=rq41 R11.out.1
  refine bC Tryz.results117 hL ?_
  rw[HR.out]
  exact⟨s,rfl,R11.out.2⟩
 case true=>
  go_wp2_with (first | (refine lq41 HV2.out.p.load ?_))
  refine (HAD.out _ X YY.out.1 YY.out.2.1).mono ?_
  rintro o w8 ⟨rfl,hb8⟩;have HV8:Hid (vS w B T0 T1 T2 X s X.ho s w8):=HV2.out.below hb8
  clear hb8 HV2;go_upto_region 11 with (first | (refine sq41 HV8.out.p ?_;generalize hW9:World.setCells _ w.heap.size 0 _=w9;have HV9:=hidS hW9 (HV8.out.put (addS X 8) s);clear hW9))
  simp only[Act.put]
  have HXh:Hid (X.ho=(addS X 8).ho):=(addS_ho X 8).symm
  rw[HXh.out] at HV9
  go_wp2_with (first | (refine lq41 HV9.out.p.load ?_) | (refine sq41 HV9.out.r ?_;generalize hW11:World.setCells _ (w.heap.size+1) 0 _=w11;have R11:=hidR hW11 (HV9.out.ret (addS X 8) s);clear hW11))
  have hL:=rq41 R11.out.1
  refine bC Tryz.results117 hL ?_
  rw[HR.out]
  exact⟨s,rfl,R11.out.2⟩
theorem l3take_c (w:World) (H:Ho) (s:Sl) (i:Int) (B T0 T1 T2:Nat) (h:spS B T0 T1 T2 H s w) (hn2:H.bx.length≤1000) :
  Calls Tp 163 #[aG (hoL H s).toArray,I J i] w fun o w'=>o = rT (aG (hoL H s).toArray)∧spS B T0 T1 T2 (takeHo H i) s w'∧k41 T2 w w'∧Below B w w':=by
 have H0:Hid (reS w (hoL H s) ((w.alloc (.cells (hoL H s).toArray 39)).alloc (.cells zX.toArray 39))∧Below w.heap.size w ((w.alloc (.cells (hoL H s).toArray 39)).alloc (.cells zX.toArray 39))):=⟨reS.new w _,((bW _ _).alloc (nR _) _).alloc (by simp) _⟩
 have hln:=h.n2
 have HLN:=hidX hln
 have HBS:Hid (∀ W,Below w.heap.size w W→Calls Tp 76 #[aG (hoL H s).toArray] W fun o w'=>∃ r:Int,o = rT (I J r)∧bsy H.bx r∧Below W.heap.size W w'):=fun W hW=>l3busy_any W H s (h.below hW).is.bx (by omega)
 have HS:=hidX h
 obtain⟨gb,hs0,ea,hx⟩:=h.x
 have x5:(((w.alloc (.cells (hoL H s).toArray 39)).alloc (.cells zX.toArray 39))).cell? ⟨w.heap.size,5,none⟩=some (sL (some ⟨gb,0,none⟩) s.n2 s.k2):=by rw[← ea];exact H0.out.1.p.cell 5 _ (by unfold hoL;rfl)
 have HX:=hidX hx
 have HA:=hidX ea
 have hcp:=hx.cap
 have ho:=h.o
 have HGB:Hid (gb<T1∧T0≤gb∧T1≤T2∧T2≤w.heap.size∧B≤T0):=⟨hx.hi,hx.lo,ho.2.2.1,ho.2.2.2,ho.1⟩
 clear h hx ea ho hln;go_enter Tryz.func163,Tryz.ntmps163
 go_upto_region 1 with fail
 go_cut [27] (fun x wx=>∃ b:Bool,x = bO b∧Hid (b=true→takeB H.bx i=H.bx)∧Hid (b=false→∃ (k:Nat) (hk:k<H.bx.length),i=(k:Int)∧H.bx[k].x=1∧takeB H.bx i=H.bx.set k { H.bx[k] with x:=2 })∧Hid (reS w (hoL H s) wx∧Below w.heap.size w wx))
 case first=>
  by_cases hi0:i<0
  ·have d0:decide (i<0)=true:=by simpa using hi0
   have HT:=hidX (takeB_out (bx:=H.bx) (Or.inl hi0))
   clear hi0;go_wp2_with fail;go_meet
   case rel=>exact⟨true,rfl,fun _=>HT.out,fun x=>(by cases x),H0.out⟩
  by_cases hi1:(s.n2:Int)≤i
  ·have d0:decide (i<0)=false:=by simpa using hi0
   have d1:decide ((s.n2:Int)≤i)=true:=by simpa using hi1
   have HT:=hidX (takeB_out (bx:=H.bx) (i:=i) (Or.inr (by have:=HLN.out;omega)))
   go_wp2_with fail;go_meet
   case rel=>exact⟨true,rfl,fun _=>HT.out,fun x=>(by cases x),H0.out⟩
  obtain⟨k,rfl⟩ : ∃ k:Nat,i=(k:Int):=⟨i.toNat,by omega⟩
  have hk2:k<s.n2:=by omega
  have hk:k<H.bx.length:=by have:=HLN.out;omega
  have Y0:Hid (∀ v,H.bx[k].x=v→(((w.alloc (.cells (hoL H s).toArray 39)).alloc (.cells zX.toArray 39))).cell? ⟨gb,k*8,none⟩=some (I J v)):=fun v e=>by
   subst e;exact (H0.out.2.cell (by exact nL HGB.out.1 (by have:=HGB.out;omega))).trans (HX.out.rng k hk 0 _ rfl)
  have d0:decide ((k:Int)<0)=false:=by simp
  have d1:decide (s.n2≤k)=false:=by simp;omega
  have HKK:=hidX hk
  clear hi0 hi1;by_cases hx:H.bx[k].x=1
  ·have HX1:=hidX hx
   have y0:=Y0.out 1 hx
   clear hx;go_wp2_with (first | (refine wpList_load_midG (by first | rfl | (simp[Region.wanted,yielded];done)) 39 (.tmp 2) rfl w.heap.size 0 rfl (hoL H s) _ H0.out.1.p.load Tryz.underlying39 rfl (sz41L H s) ?_))
   refine (HBS.out _ H0.out.2).mono ?_
   rintro o w5 ⟨r,rfl,hr,hb5⟩;have HR:=hidX hr
   have H5:Hid (reS w (hoL H s) w5∧Below w.heap.size w w5):=⟨H0.out.1.below hb5,H0.out.2.trans (hb5.mono H0.out.2.size)⟩
   clear hr hb5;by_cases h0:0≤r
   ·have dr:decide (0≤r)=true:=by simpa using h0
    have HT:=hidX (takeB_busy (i:=(k:Int)) HR.out h0)
    clear h0;go_wp2_with fail;go_meet
    case rel=>exact⟨true,rfl,fun _=>HT.out,fun x=>(by cases x),H5.out⟩
   ·have dr:decide (0≤r)=false:=by simpa using h0
    have HT:=hidX (takeB_yes HKK.out HX1.out HR.out (by omega))
    clear h0;go_wp2_with fail;go_meet
    case rel=>exact⟨false,rfl,fun x=>(by cases x),fun _=>⟨k,HKK.out,rfl,HX1.out,HT.out⟩,H5.out⟩
  ·have HT:=hidX (takeB_no hk hx)
   obtain⟨v,ev⟩ : ∃ v,H.bx[k].x=v:=⟨_,rfl⟩
   have y0:=Y0.out v ev
   have hx':(v != 1)=true:=by rw[← ev];simpa using hx
   clear hx ev;go_wp2_with fail;go_meet
   case rel=>exact⟨true,rfl,fun _=>HT.out,fun x=>(by cases x),H0.out⟩
 case rest=>
 obtain⟨b,rfl,f1,f2,H5⟩:=hcut
 clear H0 x5 HBS;cases b
 case true=>
  have HT:Hid (takeHo H i=H):=by show _=_;unfold takeHo;rw[f1.out rfl]
  go_wp2_with (first | (refine lq39 H5.out.1.p.load ?_) | (refine sq39 H5.out.1.r ?_;generalize hW8:World.setCells _ (w.heap.size+1) 0 _=w8;have HW8:Hid (_=w8):=hW8;clear hW8))
  have e8:=HW8.out
  have hF:blk w8 (w.heap.size+1) (hoL H s) 39:=by
   rw[← e8]
   have:=blk.put [] Z10 [] (hoL H s) (w:=wc) (b:=w.heap.size+1) (T:=39) (by simpa using H5.out.1.r) (by rw[hoL_len];rfl)
   simpa using this
  have hL:=rq39 hF
  refine bC Tryz.results163 hL ?_
  have b8:Below w.heap.size w w8:=by
   rw[← e8]
   exact sW (by omega) 0 _ H5.out.2
  rw[HT.out]
  exact⟨rfl,HS.out.below b8,k41.below b8,b8.mono (by have:=HGB.out;omega)⟩
 case false=>
 obtain⟨k,hk,ei,hx1,ht⟩:=f2.out rfl
 subst ei;have HT:Hid (takeHo H (k:Int)=stHo H k 2):=by show _=_;unfold takeHo;rw[ht,stHo_yes hk]
 have hk2:k<s.n2:=by have:=HLN.out;omega
 have HKK:=hidX hk
 have HX5:Hid (bxR T0 T1 gb s.n2 s.k2 H.bx hs0 wc):=HX.out.st (fun q _ h2=>H5.out.2.block q (by have:=HGB.out;omega))
 have x5:wc.cell? ⟨w.heap.size,5,none⟩=some (sL (some ⟨gb,0,none⟩) s.n2 s.k2):=by rw[← HA.out];exact H5.out.1.p.cell 5 _ (by unfold hoL;rfl)
 have Y0:∀ v,H.bx[k].x=v→wc.cell? ⟨gb,k*8,none⟩=some (I J v):=fun v e=>by subst e;exact HX5.out.rng k hk 0 _ rfl
 have y0:=Y0 1 hx1
 clear Y0;have z0:=(HX5.out.row (k*8) (by omega)).2
 have H7:Hid (reS w (hoL H s) (wc.setCell ⟨gb,k*8,none⟩ (I J 2))):=⟨H5.out.1.p.setOther (by have:=HGB.out;omega) _ _,H5.out.1.r.setOther (by have:=HGB.out;omega) _ _⟩
 clear hk hx1 ht f1 f2;go_upto_region 4 with fail
 go_wp2_with (first | (refine lq39 H7.out.p.load ?_) | (refine sq39 H7.out.r ?_;generalize hW8:World.setCells _ (w.heap.size+1) 0 _=w8;have HW8:Hid (_=w8):=hW8;clear hW8))
 have e8:=HW8.out
 have hF:blk w8 (w.heap.size+1) (hoL H s) 39:=by
  rw[← e8]
  have:=blk.put [] Z10 [] (hoL H s) (w:=(wc.setCell ⟨gb,k*8,none⟩ (I J 2))) (b:=w.heap.size+1) (T:=39) (by simpa using H7.out.r) (by rw[hoL_len];rfl)
  simpa using this
 have hL:=rq39 hF
 refine bC Tryz.results163 hL ?_
 have hg:=HGB.out
 have hpl:=H5.out.1.r.lt
 rw[HT.out]
 refine⟨rfl,sp_state HS.out (HS.out.below H5.out.2) H5.out.2 (bW _ _) HA.out HX5.out HKK.out 2 ⟨by omega,by omega⟩ e8,fun q L h1 h2=>?_,?_⟩
 ·have hlt:=h2.lt
  refine h2.kept ?_
  rw[← e8]
  exact (sO _ q (by omega) _ _ _).trans ((heap_setCell_other wc ⟨gb,k*8,none⟩ q _ (by show q≠gb;omega)).trans (H5.out.2.block q hlt))
 ·rw[← e8]
  exact sW (by omega) 0 _ ((H5.out.2.mono (by omega)).setCell (by show B≤gb;omega) _)
theorem l4gap_c (w:World) (C:Co) (s:Sl) (B T0 T1 T2:Nat) (bit r:Int) (hbit:bit=0∨bit=1) (hc:0≤C.ct∧C.ct≤2) (ht:C.te≠256) (hp:C.p≠7) (hb:bdQ 1000 C.ho) (hn2:C.ho.bx.length≤8) (hbr:bestR C.ho.bx r) (h:spS B T0 T1 T2 C.ho s w) :
  Calls Tp 118 #[aG (coL C s).toArray,I J bit] w fun o w'=>∃ s',o = rT (aG (coL (gpC C bit r) s').toArray)∧spS B T0 T1 T2 (gpC C bit r).ho s' w'∧k41 T2 w w'∧Below B w w':=by
 have H0:Hid (vS w B T0 T1 T2 C s C.ho s ((w.alloc (.cells (coL C s).toArray 41)).alloc (.cells zY.toArray 41))):=vS.new h
 have hw:=wrap_ct (n:=C.ct) (by omega)
 obtain⟨z,ez⟩ : ∃ z,esZ C.p C.te C.re=z:=⟨_,rfl⟩
 have HES:Hid (∀ W,Calls Tp 27 #[aG (coL C s).toArray] W fun o w'=>o = rT (I J z)∧Below W.heap.size W w'):=fun W=>by rw[← ez];exact specES_any W C s
 obtain⟨b1,e1,_,_⟩:=eqB z 1
 obtain⟨tx,etx⟩ : ∃ b,C.tx=b:=⟨_,rfl⟩
 have HM:Hid (msB C=(tx && b1)):=by
  show _=_
  unfold msB
  rw[etx,← e1,← ez]
  unfold esZ stZ
  rw[if_neg hp,if_neg ht]
 have HOV:Hid (∀ W,spS B T0 T1 T2 C.ho s W→Calls Tp 111 #[aG (coL C s).toArray] W fun o w'=>∃ s',o = rT (aG (coL (ovC C) s').toArray)∧spS B T0 T1 T2 (ovC C).ho s' w'∧k41 T2 W w'∧Below B W w'):=fun W hW=>l4over_c W C s B T0 T1 T2 hb hW
 have HBE:Hid (∀ W,spS B T0 T1 T2 C.ho s W→Calls Tp 162 #[aG (hoL C.ho s).toArray] W fun o w'=>o = rT (I J r)∧Below W.heap.size W w'):=fun W hW=>by
  rw[← hoV_L]
  refine (l3best_any W C.ho s hW.is.bx (by rw[hW.n2];exact hn2)).mono ?_
  rintro o w' ⟨r',rfl,h1,h2⟩;exact⟨by rw[bestR_one h1 hbr],h2⟩
 have HTK:Hid (∀ W,spS B T0 T1 T2 C.ho s W→Calls Tp 163 #[aG (hoL C.ho s).toArray,I J r] W fun o w'=>o = rT (aG (hoL C.ho s).toArray)∧spS B T0 T1 T2 (takeHo C.ho r) s w'∧k41 T2 W w'∧Below B W w'):=fun W hW=>l3take_c W C.ho s r B T0 T1 T2 hW (by omega)
 have y6:=H0.out.p.cell 6 (bO C.tx) rfl
 rw[etx] at y6
 obtain⟨b,e,_,fb⟩:=eqB bit 1
 obtain⟨c3,e3,f3⟩:=ltB (C.ct+1) 3
 obtain⟨c2,e2,f2⟩:=ltB C.ct 2
 have HB0:Hid (b=false→bit=0):=fun x=>by rcases hbit with h0 | h0;exact h0;have:=fb.out.2 h0;rw[x] at this;cases this
 have HC:=hidX hc
 clear h ez etx hbit hc ht hp hb hn2 hbr;go_enter Tryz.func118,Tryz.ntmps118
 go_upto_region 1 with fail
 go_cut [5] (fun x wx=>x = bO (tx && b1)∧Hid (vS w B T0 T1 T2 C s C.ho s wx))
 case first=>
  cases tx
  ·go_wp2_with fail;go_meet
   case rel=>exact⟨rfl,H0.out⟩
  ·go_wp2_with (first | (refine wpList_load_midG (by first | rfl | (simp[Region.wanted,yielded];done)) 41 (.tmp 2) rfl w.heap.size 0 rfl (coL C s) _ H0.out.p.load Tryz.underlying41 rfl (szC41L _ _) ?_))
   refine (HES.out _).mono ?_
   rintro o w1 ⟨rfl,hb1⟩;have H1:Hid (vS w B T0 T1 T2 C s C.ho s w1):=H0.out.below hb1
   clear hb1;cases b1 <;> (
    go_wp2_with fail;go_meet
    case rel=>exact⟨rfl,H1.out⟩)
 case rest=>
 obtain⟨rfl,H1⟩:=hcut
 rw[← HM.out]
 clear H0 y6 HES HM e1;obtain⟨ms,ems⟩ : ∃ b,msB C=b:=⟨_,rfl⟩
 rw[ems]
 have HMS:=hidX ems
 clear ems;have y0:=H1.out.p.cell 0 (I J C.p) rfl
 have y1:=H1.out.p.cell 1 (I J C.ct) rfl
 have y6:=H1.out.p.cell 6 (bO C.tx) rfl
 have z0:=H1.out.p.free 0
 have z1:=H1.out.p.free 1
 have z6:=H1.out.p.free 6
 cases b
 case true=>
  have h1:=fb.out.1 rfl
  cases c3
  case true=>
   have HR:Hid (gpC C bit r = { C with ct:=C.ct+1 }):=by show _=_;unfold gpC;rw[h1,if_neg (by decide),if_neg (by have:=f3.out.1 rfl;omega)]
   clear h1;have HV9:Hid (vS w B T0 T1 T2 { C with ct:=(C.ct+1) } s C.ho s (World.setCell wc ⟨w.heap.size,1,none⟩ (I J (C.ct+1)))):=(H1.out.set 1 (I J (C.ct+1)) { C with ct:=(C.ct+1) } rfl)
   go_upto_region 5 with fail
   generalize (World.setCell wc ⟨w.heap.size,1,none⟩ (I J (C.ct+1)))=w9 at *;go_wp2_with (first | (refine lq41 HV9.out.p.load ?_) | (refine sq41 HV9.out.r ?_;generalize hW11:World.setCells _ (w.heap.size+1) 0 _=w11;have R11:=hidR hW11 (HV9.out.ret { C with ct:=(C.ct+1) } s);clear hW11))
   have hL:=rq41 R11.out.1
   refine bC Tryz.results118 hL ?_
   rw[HR.out]
   exact⟨s,rfl,R11.out.2⟩
  case false=>
  have HR:Hid (gpC C bit r=if ms=true then { C with ct:=0,p:=6 } else { C with ct:=0,p:=0,tx:=false }):=by
   show _=_
   have h3:C.ct+1=3:=by
    have h4:¬ C.ct+1<3:=fun x=>by have:=f3.out.2 x;cases this
    have:=HC.out
    omega
   unfold gpC
   rw[h1,if_neg (by decide),if_pos h3]
   unfold lgC
   rw[show msB { C with ct:=C.ct+1 }=ms from HMS.out]
  clear h1;cases ms
  ·have HV9:Hid (vS w B T0 T1 T2 { C with ct:=0,p:=0,tx:=false } s C.ho s (World.setCell (World.setCell (World.setCell (World.setCell wc ⟨w.heap.size,1,none⟩ (I J (C.ct+1))) ⟨w.heap.size,1,none⟩ (I J 0)) ⟨w.heap.size,0,none⟩ (I J 0)) ⟨w.heap.size,6,none⟩ (bO false))):=((((H1.out.set 1 (I J (C.ct+1)) { C with ct:=(C.ct+1) } rfl).set 1 (I J 0) { C with ct:=0 } rfl).set 0 (I J 0) { C with ct:=0,p:=0 } rfl).set 6 (bO false) { C with ct:=0,p:=0,tx:=false } rfl)
   go_upto_region 11 with fail
   generalize (World.setCell (World.setCell (World.setCell (World.setCell wc ⟨w.heap.size,1,none⟩ (I J (C.ct+1))) ⟨w.heap.size,1,none⟩ (I J 0)) ⟨w.heap.size,0,none⟩ (I J 0)) ⟨w.heap.size,6,none⟩ (bO false))=w9 at *;go_wp2_with (first | (refine lq41 HV9.out.p.load ?_) | (refine sq41 HV9.out.r ?_;generalize hW11:World.setCells _ (w.heap.size+1) 0 _=w11;have R11:=hidR hW11 (HV9.out.ret { C with ct:=0,p:=0,tx:=false } s);clear hW11))
   have hL:=rq41 R11.out.1
   refine bC Tryz.results118 hL ?_
   rw[HR.out]
   exact⟨s,rfl,R11.out.2⟩
  ·have HV9:Hid (vS w B T0 T1 T2 { C with ct:=0,p:=6 } s C.ho s (World.setCell (World.setCell (World.setCell (World.setCell wc ⟨w.heap.size,1,none⟩ (I J (C.ct+1))) ⟨w.heap.size,1,none⟩ (I J 0)) ⟨w.heap.size,0,none⟩ (I J 0)) ⟨w.heap.size,0,none⟩ (I J 6))):=((((H1.out.set 1 (I J (C.ct+1)) { C with ct:=(C.ct+1) } rfl).set 1 (I J 0) { C with ct:=0 } rfl).set 0 (I J 0) { C with ct:=0,p:=0 } rfl).set 0 (I J 6) { C with ct:=0,p:=6 } rfl)
   go_upto_region 11 with fail
   generalize (World.setCell (World.setCell (World.setCell (World.setCell wc ⟨w.heap.size,1,none⟩ (I J (C.ct+1))) ⟨w.heap.size,1,none⟩ (I J 0)) ⟨w.heap.size,0,none⟩ (I J 0)) ⟨w.heap.size,0,none⟩ (I J 6))=w9 at *;go_wp2_with (first | (refine lq41 HV9.out.p.load ?_) | (refine sq41 HV9.out.r ?_;generalize hW11:World.setCells _ (w.heap.size+1) 0 _=w11;have R11:=hidR hW11 (HV9.out.ret { C with ct:=0,p:=6 } s);clear hW11))
   have hL:=rq41 R11.out.1
   refine bC Tryz.results118 hL ?_
   rw[HR.out]
   exact⟨s,rfl,R11.out.2⟩
 case false=>
 have h0:=HB0.out rfl
 cases c2
 case true=>
  have HR:Hid (gpC C bit r=ovC C):=by show _=_;unfold gpC;rw[if_pos h0,if_pos (f2.out.1 rfl)]
  clear h0;go_upto_region 13 with fail
  go_wp2_with (first | (refine lq41 H1.out.p.load ?_))
  refine (HOV.out _ H1.out.sp).mono ?_
  rintro o w2 ⟨s2,rfl,q1,q2,q3⟩;have HV2:Hid (vS w B T0 T1 T2 C s (ovC C).ho s2 w2):=H1.out.call q1 q2 q3
  clear q1 q2 q3 H1;go_wp2_with (first | (refine sq41 HV2.out.r ?_;generalize hW11:World.setCells _ (w.heap.size+1) 0 _=w11;have R11:=hidR hW11 (HV2.out.ret (ovC C) s2);clear hW11))
  have hL:=rq41 R11.out.1
  refine bC Tryz.results118 hL ?_
  rw[HR.out]
  exact⟨s2,rfl,R11.out.2⟩
 case false=>
 have HGP:Hid (gpC C bit r=jnC C r):=by show _=_;unfold gpC;rw[if_pos h0,if_neg (fun x=>by have:=f2.out.2 x;cases this)]
 have HV3:Hid (vS w B T0 T1 T2 { C with ct:=0,p:=1 } s C.ho s (World.setCell (World.setCell wc ⟨w.heap.size,1,none⟩ (I J 0)) ⟨w.heap.size,0,none⟩ (I J 1))):=((H1.out.set 1 (I J 0) { C with ct:=0 } rfl).set 0 (I J 1) { C with ct:=0,p:=1 } rfl)
 clear h0;go_upto_region 16 with fail
 generalize (World.setCell (World.setCell wc ⟨w.heap.size,1,none⟩ (I J 0)) ⟨w.heap.size,0,none⟩ (I J 1))=w3 at *;go_wp2_with (first | (refine wpList_load_mid (P:=Tp) rfl 39 _ rfl w.heap.size 11 rfl (hoL C.ho s) _ HV3.out.p.hostAt Tryz.underlying39 rfl (sz39h _ _) ?_))
 refine (HBE.out _ HV3.out.sp).mono ?_
 rintro o w4 ⟨rfl,hb4⟩;have HV4:Hid (vS w B T0 T1 T2 { C with ct:=0,p:=1 } s C.ho s w4):=HV3.out.below hb4
 clear hb4 HV3 y0 y1 y6 z0 z1 z6 HBE HOV;have y6:=HV4.out.p.cell 6 (bO C.tx) rfl
 have z6:=HV4.out.p.free 6
 obtain⟨br,ebr⟩ : ∃ b,decide (0≤r)=b:=⟨_,rfl⟩
 cases br
 ·have HV5:Hid (vS w B T0 T1 T2 { C with ct:=0,p:=1,tx:=false } s C.ho s (World.setCell w4 ⟨w.heap.size,6,none⟩ (bO false))):=HV4.out.set 6 (bO false) { C with ct:=0,p:=1,tx:=false } rfl
  have HR:Hid (jnC C r = { C with p:=1,ct:=0,tx:=false }):=by show _=_;unfold jnC;rw[ebr,HMS.out];rfl
  go_upto_region 20 with fail
  generalize (World.setCell w4 ⟨w.heap.size,6,none⟩ (bO false))=w5 at *;go_wp2_with (first | (refine lq41 HV5.out.p.load ?_) | (refine sq41 HV5.out.r ?_;generalize hW11:World.setCells _ (w.heap.size+1) 0 _=w11;have R11:=hidR hW11 (HV5.out.ret { C with ct:=0,p:=1,tx:=false } s);clear hW11))
  have hL:=rq41 R11.out.1
  refine bC Tryz.results118 hL ?_
  rw[HGP.out,HR.out]
  exact⟨s,rfl,R11.out.2⟩
 ·cases ms
  ·have HV5:Hid (vS w B T0 T1 T2 { C with ct:=0,p:=1,tx:=true } s C.ho s (World.setCell w4 ⟨w.heap.size,6,none⟩ (bO true))):=HV4.out.set 6 (bO true) { C with ct:=0,p:=1,tx:=true } rfl
   have HR:Hid (jnC C r = { C with p:=1,ct:=0,tx:=true,ho:=takeHo C.ho r }):=by show _=_;unfold jnC;rw[ebr,HMS.out];rfl
   go_upto_region 19 with fail
   generalize (World.setCell w4 ⟨w.heap.size,6,none⟩ (bO true))=w5 at *;go_wp2_with (first | (refine wpList_load_mid (P:=Tp) rfl 39 _ rfl w.heap.size 11 rfl (hoL C.ho s) _ HV5.out.p.hostAt Tryz.underlying39 rfl (sz39h _ _) ?_))
   refine (HTK.out _ HV5.out.sp).mono ?_
   rintro o w6 ⟨rfl,q1,q2,q3⟩;have HV6:Hid (vS w B T0 T1 T2 { C with ct:=0,p:=1,tx:=true } s (takeHo C.ho r) s w6):=HV5.out.call q1 q2 q3
   clear q1 q2 q3 HV5 HTK;go_upto_region 20 with (first | (refine wpList_store_mid (P:=Tp) rfl 39 (.tmp 53) (.tmp 52) rfl w.heap.size 11 (hoL (takeHo C.ho r) s).toArray rfl rfl (HV6.out.p.there 11 _ (by rw[List.size_toArray,hoL_len,cL];decide)) (sz39A _ _) (hoL_one _ _) ?_;generalize hW7:World.setCells _ w.heap.size 11 _=w7;have HV7:=hidS hW7 (HV6.out.host (takeHo C.ho r) s);clear hW7))
   simp only[Act.put]
   obtain⟨Z,eZ⟩ : ∃ Z:Co,Z = { C with p:=1,ct:=0,tx:=true,ho:=takeHo C.ho r }:=⟨_,rfl⟩
   have HV8:Hid (vS w B T0 T1 T2 Z s Z.ho s w7):=by rw[eZ];exact HV7.out
   rw[← eZ] at HR
   clear HV7 HV6 eZ;go_wp2_with (first | (refine lq41 HV8.out.p.load ?_) | (refine sq41 HV8.out.r ?_;generalize hW11:World.setCells _ (w.heap.size+1) 0 _=w11;have R11:=hidR hW11 (HV8.out.ret Z s);clear hW11))
   have hL:=rq41 R11.out.1
   refine bC Tryz.results118 hL ?_
   rw[HGP.out,HR.out]
   exact⟨s,rfl,R11.out.2⟩
  ·have HV5:Hid (vS w B T0 T1 T2 { C with ct:=0,p:=1,tx:=false } s C.ho s (World.setCell w4 ⟨w.heap.size,6,none⟩ (bO false))):=HV4.out.set 6 (bO false) { C with ct:=0,p:=1,tx:=false } rfl
   have HR:Hid (jnC C r = { C with p:=1,ct:=0,tx:=false }):=by show _=_;unfold jnC;rw[ebr,HMS.out];rfl
   go_upto_region 20 with fail
   generalize (World.setCell w4 ⟨w.heap.size,6,none⟩ (bO false))=w5 at *;go_wp2_with (first | (refine lq41 HV5.out.p.load ?_) | (refine sq41 HV5.out.r ?_;generalize hW11:World.setCells _ (w.heap.size+1) 0 _=w11;have R11:=hidR hW11 (HV5.out.ret { C with ct:=0,p:=1,tx:=false } s);clear hW11))
   have hL:=rq41 R11.out.1
   refine bC Tryz.results118 hL ?_
   rw[HGP.out,HR.out]
   exact⟨s,rfl,R11.out.2⟩
variable {w0 : World} {M : Nat} {G : Lg} {f1 f3 nm : Nat} {C : Co} {W : World}
theorem step_p (h:mx w0 M G f1 f3 nm C W) (bit:Int) (A:Co) (n:Nat) (hn:C.p=0∧n=183∨C.p=2∧n=185∨C.p=3∧n=186∨C.p=4∧n=187∨C.p=5∧n=188∨C.p=6∧n=189∨C.p=7∧n=190) (hc:∀ X,mx w0 M G f1 f3 nm C X→Calls Tp n #[pT (some ⟨M,0,none⟩),I J bit] X fun o w'=>o = rT (.tuple #[])∧mx w0 M G f1 f3 nm A w') :
  Calls Tp 58 #[pT (some ⟨M,0,none⟩),I J bit] W fun o w'=>o = rT (.tuple #[])∧mx w0 M G f1 f3 nm A w':=by
 have HC:=hidX (hc _ (h.below (bW _ _).drew))
 have y3:=h.m.cell 3 (I J C.p) rfl
 have y24:=h.m.cell 24 (.func (.func 183) #[] #[]) rfl
 have y30:=h.m.cell 30 (.func (.func 185) #[] #[]) rfl
 have y33:=h.m.cell 33 (.func (.func 186) #[] #[]) rfl
 have y36:=h.m.cell 36 (.func (.func 187) #[] #[]) rfl
 have y39:=h.m.cell 39 (.func (.func 188) #[] #[]) rfl
 have y42:=h.m.cell 42 (.func (.func 189) #[] #[]) rfl
 have y45:=h.m.cell 45 (.func (.func 190) #[] #[]) rfl
 clear h hc;rcases hn with⟨e,rfl⟩|⟨e,rfl⟩|⟨e,rfl⟩|⟨e,rfl⟩|⟨e,rfl⟩|⟨e,rfl⟩|⟨e,rfl⟩
 all_goals
  rw[e] at y3
  clear e;go_enter Tryz.func58,Tryz.ntmps58
  go_wp2_with fail;go_region_with ((first | go_at_call 183 | go_at_call 185 | go_at_call 186 | go_at_call 187 | go_at_call 188 | go_at_call 189 | go_at_call 190);refine HC.out.mono ?_;rintro o w1 ⟨rfl,h1⟩;have H1:=hidX h1;clear h1)
  all_goals (
   go_wp2_with fail;first | go_end0 | (try simp only[Exit.inBlock,Exit.then]);refine bN ?_
   exact⟨rfl,H1.out⟩)
variable {w0 : World} {M : Nat} {G : Lg} {f1 f3 nm : Nat} {C : Co} {W : World}
theorem okCo.ct {C:Co} (h:okCo C):0≤C.ct∧C.ct≤200:=by
 have h1:=h.m.ct
 unfold rLo rHi at h1
 constructor
 ·have h2:=h1.1
  split at h2 <;> omega
 ·have h2:=h1.2
  clear h1;split at h2
  ·omega
  split at h2
  ·omega
  split at h2
  ·omega
  split at h2
  ·omega
  split at h2
  ·omega
  split at h2 <;> omega
theorem stepM_any (h:mx w0 M G f1 f3 nm C W) (bit r:Int) (hk:okCo C) (h1:C.p≠1) (hb:bestR C.ho.bx r) :
  Calls Tp 58 #[pT (some ⟨M,0,none⟩),I J bit] W fun o w'=>o = rT (.tuple #[])∧mx w0 M G f1 f3 nm (stpC C bit r) w':=by
 have hc:=hk.ct
 have ht:=hk.m.te
 have hr:=hk.m.re
 have hn:=hk.m.rn
 have hwf:=hk.h.bx.wf
 have hok:=hk.h.bx
 have hp:=hk.m.p
 have hq:C.p=0∨C.p=2∨C.p=3∨C.p=4∨C.p=5∨C.p=6∨C.p=7:=by omega
 rcases hq with e|e|e|e|e|e|e
 ·rw[show stpC C bit r=idC C bit by unfold stpC;simp[e]]
  exact step_p h bit _ _ (by simp[e]) (fun X hX=>idle_any hX bit)
 ·rw[show stpC C bit r=flC C bit by unfold stpC;simp[e]]
  exact step_p h bit _ _ (by simp[e]) (fun X hX=>flagS_any hX bit hc ht hr hwf)
 ·rw[show stpC C bit r=waC C bit by unfold stpC;simp[e]]
  exact step_p h bit _ _ (by simp[e]) (fun X hX=>wait_any hX bit hc ht hr)
 ·rw[show stpC C bit r=dlC C bit by unfold stpC;simp[e]]
  exact step_p h bit _ _ (by simp[e]) (fun X hX=>delim_any hX bit hc ht hr hwf)
 ·rw[show stpC C bit r=gpC C bit r by unfold stpC;simp[e]]
  exact step_p h bit _ _ (by simp[e]) (fun X hX=>gap_any hX bit hc hok r hb)
 ·rw[show stpC C bit r=suC C bit by unfold stpC;simp[e]]
  exact step_p h bit _ _ (by simp[e]) (fun X hX=>suspend_any hX bit hc)
 ·rw[show stpC C bit r=ofC C bit by unfold stpC;simp[e]]
  exact step_p h bit _ _ (by simp[e]) (fun X hX=>offS_any hX bit hc hn)
theorem lit57 (h:mx w0 M G f1 f3 nm C W) (Bx:Nat) (bit r:Int) (yb:W.cell? ⟨Bx,0,none⟩=some (I J bit)) (hk:okCo C) (h1:C.p≠1) (hb:bestR C.ho.bx r) :
  Calls Tp 57 #[pT (some ⟨M,0,none⟩),pT (some ⟨Bx,0,none⟩)] W fun o w'=>o = rT (.tuple #[])∧mx w0 M G f1 f3 nm (stpC C bit r) w':=by
 have HS:=hidX (stepM_any h bit r hk h1 hb)
 clear h hk h1 hb;go_enter Tryz.func57,Tryz.ntmps57
 go_wp2_with fail;refine HS.out.mono ?_
 rintro o w5 ⟨rfl,hq⟩;have HQ:=hidX hq
 clear hq;go_wp2_with fail;first | go_end0 | (try simp only[Exit.inBlock,Exit.then]);refine bN ?_
 exact⟨rfl,HQ.out⟩
theorem mx.tell (h:mx w0 M G f1 f3 nm C W) (z:Int):Calls Tp 145 #[pT (some ⟨M,0,none⟩),I J z] W fun o w'=>o = rT (.tuple #[])∧mx w0 M G f1 f3 nm (tellC C z) w':=by
 obtain⟨_,_,h⟩:=h
 exact (tell_any h z).mono fun o w' ⟨h1,h2⟩=>⟨h1,_,_,h2⟩
theorem act_stp (h:mx w0 M G f1 f3 nm C W) (A:Co) (Bx:Nat) (bit:Int) (yb:W.cell? ⟨Bx,0,none⟩=some (I J bit)) (hc:∀ X,mx w0 M G f1 f3 nm C X→X.cell? ⟨Bx,0,none⟩=some (I J bit)→Calls Tp 57 #[pT (some ⟨M,0,none⟩),pT (some ⟨Bx,0,none⟩)] X fun o w'=>o = rT (.tuple #[])∧mx w0 M G f1 f3 nm A w') :
  Calls Tp 85 #[pT (some ⟨M,0,none⟩),.func (.func 57) #[] #[pT (some ⟨Bx,0,none⟩)]] W fun o w'=>o = rT (.tuple #[])∧mx w0 M G f1 f3 nm (actC C A) w':=by
 have HS:=hidX h.state
 have HC:=hidX hc
 have HYB:=hidX yb
 obtain⟨z0,ez0⟩ : ∃ z,stZ C.te C.re=z:=⟨_,rfl⟩
 obtain⟨z1,ez1⟩ : ∃ z,stZ A.te A.re=z:=⟨_,rfl⟩
 have HS2:Hid (∀ X,mx w0 M G f1 f3 nm A X→Calls Tp 106 #[pT (some ⟨M,0,none⟩)] X fun o w'=>o = rT (I J z1)∧mx w0 M G f1 f3 nm A w'):=fun X hX=>by rw[← ez1];exact hX.state.mono fun o w' ⟨a,b,_⟩=>⟨a,b⟩
 obtain⟨b2,e2,_,f2⟩:=eqB z1 2
 obtain⟨b7,e7,n7,f7⟩:=eqB A.p 7
 have HA:Hid (actC C A=tellC (if (b2 && !b7)=true then offC A else A) z0):=by
  have h1:(A.te=256∧A.p≠7)↔(b2 && !b7)=true:=by
   have h2:b2=true↔A.te=256:=by
    rw[f2.out,← ez1]
    unfold stZ
    split
    ·simp_all
    ·split <;> simp_all
   rw[← h2,ne_eq,← f7.out]
   cases b2 <;> cases b7 <;> simp
  show _=_
  unfold actC
  simp only[h1,ez0]
 rw[ez0] at HS
 clear h yb hc ez0 ez1 f2 f7;go_enter Tryz.func85,Tryz.ntmps85
 go_wp2_with fail;refine HS.out.mono ?_
 rintro o w1 ⟨rfl,h1,hb1⟩;have H1:=hidX (And.intro h1 ((hb1.cell (by exact World.block_lt_of_cell? W _ HYB.out)).trans HYB.out))
 clear h1 hb1 HS;go_wp2_with fail;refine (HC.out _ H1.out.1 H1.out.2).mono ?_
 rintro o w2 ⟨rfl,h2⟩;have H2:=hidX h2
 clear h2 H1 HC;go_upto_region 2 with fail
 go_cut [24] (fun x wx=>x = bO (b2 && !b7)∧Hid (mx w0 M G f1 f3 nm A wx))
 case first=>
  cases b2 <;> cases b7 <;> (
   go_wp2_with fail;refine (HS2.out _ H2.out).mono ?_
   rintro o w3 ⟨rfl,h3⟩;have H3:=hidX h3
   have y3:=h3.m.cell 3 (I J A.p) rfl
   clear h3;go_wp2_with fail;go_meet
   case rel=>exact⟨rfl,H3.out⟩)
 case rest=>
 obtain⟨rfl,H3⟩:=hcut
 obtain⟨c,ec⟩ : ∃ c,(b2 && !b7)=c:=⟨_,rfl⟩
 rw[ec] at HA ⊢
 clear ec e2 e7 n7 H2 HS2;go_upto_if 24 with fail
 go_cut [] (fun wx=>Hid (mx w0 M G f1 f3 nm (if c=true then offC A else A) wx))
 case first=>
  cases c
  ·go_wp2_with fail;go_meet
   case rel=>exact H3.out
  ·go_wp2_with (first
    | (refine wpList_store_mid (P:=Tp) rfl 116 (.tmp 28) (.tmp 26) rfl M 3 #[I J 7,I J 0,I J 0,bO false,bO false,bO false,bO false,bO false,I J 0] rfl rfl (H3.out.m.there 3 9 (by rw[mcL_len];decide)) sz116 (all_oneCell_toArray (by simp[Value.oneCell'])) ?_;generalize hW4:World.setCells _ M 3 _=w4;have H4:=hidE hW4 H3.out.off;clear hW4))
   go_meet
   case rel=>exact H4.out
 case rest=>
 have H5:=hcut
 clear hcut H3;go_wp2_with fail;refine (H5.out.tell z0).mono ?_
 rintro o w5 ⟨rfl,h6⟩;have H6:=hidX h6
 clear h6;go_wp2_with fail;first | go_end0 | (try simp only[Exit.inBlock,Exit.then]);refine bN ?_
 exact⟨rfl,by rw[HA.out];exact H6.out⟩
theorem mx.told (h:mx w0 M G f1 f3 nm C W):Calls Tp 86 #[pT (some ⟨M,0,none⟩)] W (toldC W C):=by
 obtain⟨_,_,h⟩:=h
 exact mtold_any W M G.P C h.m (fun Y hY=>(h.h.below hY).told)
theorem open_any (w:World) (C R:Co) (s:Sl) (fv:Value) (h:isHo w C.ho s) (hs:slSome s) (hok:okCo C) (hm:C.ho.le 1048576) (ha:∀ (w0:World) (M:Nat) (G:Lg) (f1 f3 nm:Nat) (W:World),Below w.heap.size w w0→Below w.heap.size w W→mx w0 M G f1 f3 nm C W→Calls Tp 85 #[pT (some ⟨M,0,none⟩),fv] W fun o w'=>o = rT (.tuple #[])∧mx w0 M G f1 f3 nm R w') :
  Calls Tp 84 #[aG (coL C s).toArray] w fun o w'=>∃ P,o = rT (pT (some ⟨P,0,none⟩))∧Below w.heap.size w w'∧Calls Tp 85 #[pT (some ⟨P,0,none⟩),fv] w' fun o w2=>o = rT (.tuple #[])∧Below w.heap.size w w2∧Calls Tp 86 #[pT (some ⟨P,0,none⟩)] w2 (toldC w2 R):=by
 refine (openCore_gen (R:=fun P w'=>∃ (X:World) (G:Lg) (hd:Nat→Hd),Below w.heap.size w X∧lh X G C.ho 0 0 hd G.n2 (tagsD Unit C.ho.bx G.n2) w'∧P=G.P) ?_ w C s ?_).mono ?_
 ·rintro P W W' ⟨X,G,hd,h1,h2,h3⟩ hb;exact⟨X,G,hd,h1,h2.below hb,h3⟩
 ·intro W hW;refine (open_lh W C.ho s (h.below hW) hs hok.h hm).mono ?_
  rintro o w' ⟨G,hd,rfl,h1,_⟩;exact⟨G.P,rfl,⟨W,G,hd,hW,h1,rfl⟩,h1.b⟩
 rintro o w' ⟨P,w5,rfl,rfl,⟨X,G,hd,h1,h2,rfl⟩,h3⟩;have hb5:Below w5.heap.size w5 (w5.alloc (.cells (mcL G.P C).toArray 125)):=(bW _ _).alloc (nR _) _
 have hmc:mc X w5.heap.size G C 0 0 hd G.n2 (tagsD Unit C.ho.bx G.n2) (w5.alloc (.cells (mcL G.P C).toArray 125)):=by
  have a1:=h2.p.lt
  have a2:=h2.m.lt
  have a3:=h2.hi
  have a4:=h2.x.hi
  have a5:=h2.b.size
  exact⟨blk.new w5 _ 125,h2.below hb5,⟨by omega,by omega,by omega,by omega,by omega,by omega,by omega⟩⟩
 refine⟨w5.heap.size,rfl,h3.trans (hb5.mono h3.size),?_⟩
 have hb6:=h3.trans (hb5.mono h3.size)
 refine (ha X w5.heap.size G 0 0 G.n2 _ h1 hb6 ⟨hd,_,hmc⟩).mono ?_
 rintro o w2 ⟨rfl,h4⟩;refine⟨rfl,?_,h4.told⟩
 obtain⟨_,_,h5⟩:=h4
 exact h1.trans (h5.h.b.mono h1.size)
def okCs (C:Co) (bit:Int):Prop:=okCo C∧C.p≠1∧(bit=0∨bit=1)
theorem implCoreStep_any (w:World) (C:Co) (s:Sl) (k r:Int) (hb:bestR C.ho.bx r) (h:isHo w C.ho s) (hs:slSome s) (hn:C.ho.le 1048576) :
  Calls Tp 24 #[aG (coL C s).toArray,I J k] w fun o w'=>(okCs C k∧toldC w (actC C (stpC C k r)) o w')∨(¬ okCs C k∧o = rT (.agg zY.toArray)∧Below w.heap.size w w'):=by
 have H0:Hid (itF w C s k (((w.alloc (.cells (coL C s).toArray 41)).alloc (.cells #[I J k] 3)).alloc (.cells zY.toArray 41))):=itF.new w C s k
 have HLV:Hid (∀ W,Calls Tp 56 #[I J k] W fun o w'=>o = rT (bO (decide (k=0∨k=1)))∧W=w'):=fun W=>isLevel_any W k
 have y0:=H0.out.p.cell 0 (I J C.p) rfl
 have x0:=H0.out.x.cell 0 (I J k) rfl
 have hb0:=H0.out.b
 generalize hW0:(((w.alloc (.cells (coL C s).toArray 41)).alloc (.cells #[I J k] 3)).alloc (.cells zY.toArray 41))=W0 at *;have hmf:∀ (fn:Fn) (first cap:Array Value) (w:World),(Instr.makeFunc fn first cap).run Tp w = .ok (.func fn first cap) w:=fun _ _ _ _=>rfl
 obtain⟨p1,_,n1,f1⟩:=eqB C.p 1
 obtain⟨lv,elv⟩ : ∃ b,decide (k=0∨k=1)=b:=⟨_,rfl⟩
 have flv:Hid (lv=true↔(k=0∨k=1)):=by show _↔_;rw[← elv];simp
 rw[elv] at HLV
 have HCY:Hid (p1=false→Calls Tp 37 #[aG (coL C s).toArray,bO true,.func (.func 57) #[] #[pT (some ⟨w.heap.size+1,0,none⟩)]] W0 fun o w'=>(okCo C∧toldC W0 (actC C (stpC C k r)) o w')∨(¬ okCo C∧o = rT (.agg zY.toArray)∧Below W0.heap.size W0 w')):=fun e1=>
  changed_gen W0 C (actC C (stpC C k r)) s _ (h.below hb0) hn fun hok W hW=>open_any W C _ s _ (h.below (hb0.trans (hW.mono hb0.size))) hs hok hn fun w0 M G f1' f3' nm V _ hV hm=>act_stp hm (stpC C k r) (w.heap.size+1) k ((hV.cell (by exact nL (World.block_lt_of_cell? W0 _ x0) hW.size)).trans ((hW.cell (by exact World.block_lt_of_cell? W0 _ x0)).trans x0)) fun X hX hy=>lit57 hX (w.heap.size+1) k r hy hok (fun e=>by have:=f1.out.2 e;rw[e1] at this;cases this) hb
 have HCN:Hid (Calls Tp 37 #[aG (coL C s).toArray,bO false,.func (.func 57) #[] #[pT (some ⟨w.heap.size+1,0,none⟩)]] W0 fun o w'=>o = rT (.agg zY.toArray)∧Below W0.heap.size W0 w'):=changed_no W0 C s _
 clear h hn hs hb hb0 elv;go_enter Tryz.func24,Tryz.ntmps24
 go_upto_region 1 with fail
 try rw[hW0]
 go_cut [5] (fun x wx=>x = bO (!p1 && lv)∧wx=W0)
 case first=>
  cases p1 <;> cases lv <;> (
   go_wp2_with (first | (go_at_call 56;refine (HLV.out _).mono ?_;rintro o w2 ⟨rfl,rfl⟩))
   go_meet
   case rel=>exact⟨rfl,rfl⟩)
 case rest=>
 obtain⟨rfl,hw⟩:=hcut
 have hw:=hw.symm
 subst hw;obtain⟨c,ec⟩ : ∃ c,(!p1 && lv)=c:=⟨_,rfl⟩
 rw[ec]
 have HE:=hidX ec
 clear ec y0 x0 n1 HLV hW0;have HZ:Hid (w.heap.size≤W0.heap.size∧w.heap.size+2<W0.heap.size):=⟨H0.out.b.size,H0.out.r.lt⟩
 cases c
 case false=>
  have HNO:Hid (¬ okCs C k):=fun x=>by
   have h1:=HE.out
   have h2:p1=false:=by cases p1;rfl;exact absurd (f1.out.1 rfl) x.2.1
   have h3:=flv.out.2 x.2.2
   rw[h2,h3] at h1
   cases h1
  go_wp2_with (first | (refine lq41 H0.out.p.load ?_))
  refine HCN.out.mono ?_
  rintro o w1 ⟨rfl,hb4⟩;have H4:Hid (itF w C s k w1):=H0.out.below hb4
  clear hb4 HCN HCY;go_wp2_with (first | (refine sq41 H4.out.r ?_;generalize hW8:World.setCells w1 (w.heap.size+2) 0 _=w8;have HW8:Hid (_=w8):=hW8;clear hW8))
  have e8:=HW8.out
  have hF:blk w8 (w.heap.size+2) Z21 41:=by
   rw[← e8]
   exact H4.out.r.core rfl zCo zSl
  have hL:=rq41 hF
  refine bC Tryz.results24 hL ?_
  exact Or.inr ⟨HNO.out,rfl,by rw[← e8];exact sW (by omega) 0 _ H4.out.b⟩
 case true=>
 have HW2:Hid (C.p≠1∧(k=0∨k=1)∧p1=false):=by
  have h1:=HE.out
  have h2:p1=false∧lv=true:=by cases p1 <;> cases lv <;> simp_all
  exact⟨fun e=>(by have:=f1.out.2 e;rw[h2.1] at this;cases this),flv.out.1 h2.2,h2.1⟩
 go_wp2_with (first | (refine lq41 H0.out.p.load ?_))
 refine (HCY.out HW2.out.2.2).mono ?_
 rintro o w1 (⟨hok,s4,rfl,q1,q2,q3,q4,hb4⟩|⟨hok,rfl,hb4⟩)
 ·have H4:Hid (itF w C s k w1):=H0.out.below hb4
  have HQ:Hid (St W0.heap.size w1 (fun W=>isHo W (actC C (stpC C k r)).ho s4.sl)∧whS W0.heap.size w1.heap.size w1 s4∧whD s4∧whE s4):=⟨q1,q2,q3,q4⟩
  have HOK:Hid (okCo C):=hok
  clear q1 q2 q3 q4 hb4 hok HCY HCN;go_wp2_with (first
   | (refine sq41 H4.out.r ?_;generalize hW8:World.setCells w1 (w.heap.size+2) 0 _=w8;have HW8:Hid (_=w8):=hW8;clear hW8))
  have e8:=HW8.out
  have hF:blk w8 (w.heap.size+2) (coL (actC C (stpC C k r)) s4.sl) 41:=by
   rw[← e8]
   exact H4.out.r.core rfl _ _
  have hL:=rq41 hF
  refine bC Tryz.results24 hL ?_
  have oth:∀ x,x≠w.heap.size+2→w8.heap[x]?=w1.heap[x]?:=fun x hx=>by rw[← e8];exact sO _ x hx _ _ _
  have hsz:w8.heap.size=w1.heap.size:=by rw[← e8];exact sZ ..
  have hp:=toldQ.put (w:=w) HZ.out.1 HZ.out.2 HQ.out.1 HQ.out.2.1 oth hsz
  exact Or.inl ⟨⟨HOK.out,HW2.out.1,HW2.out.2.1⟩,s4,rfl,hp.1,hp.2,HQ.out.2.2.1,HQ.out.2.2.2,by rw[← e8];exact sW (by omega) 0 _ H4.out.b⟩
 ·have H4:Hid (itF w C s k w1):=H0.out.below hb4
  have HNO:Hid (¬ okCs C k):=fun x=>hok x.1
  clear hb4 hok HCY HCN;go_wp2_with (first | (refine sq41 H4.out.r ?_;generalize hW8:World.setCells w1 (w.heap.size+2) 0 _=w8;have HW8:Hid (_=w8):=hW8;clear hW8))
  have e8:=HW8.out
  have hF:blk w8 (w.heap.size+2) Z21 41:=by
   rw[← e8]
   exact H4.out.r.core rfl zCo zSl
  have hL:=rq41 hF
  refine bC Tryz.results24 hL ?_
  exact Or.inr ⟨HNO.out,rfl,by rw[← e8];exact sW (by omega) 0 _ H4.out.b⟩
end Go.Proofs.YtkfcfigbgmbaiaaGreat
