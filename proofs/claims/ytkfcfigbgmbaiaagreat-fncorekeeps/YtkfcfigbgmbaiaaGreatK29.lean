import Derived.Test.YtkfcfigbgmbaiaaGreatK28
import Derived.Deep.DeepCutAuto
import Derived.Deep.RegionWith
namespace Go.Proofs.YtkfcfigbgmbaiaaGreat
set_option maxRecDepth 20000
open Go.RowKit
set_option linter.unusedVariables false
set_option maxHeartbeats 16000000
open Go.Value renaming int→I,slice→sL,bool→bO,pointer→pT,agg→aG
open Go.IntKind renaming i64→J
open Go.Ending renaming returned→rT
open Go.Proofs.Tryz renaming prog→Tp
variable {P:Prop} {R T:Co}
def okRelP (P:Prop) (R T:Co):Prop:=(P∧T=R)∨(¬ P∧T=zCo)
theorem okRelP.yes (h:okRelP P R T) (hok:P):T=R:=by
 rcases h with⟨_,e⟩|⟨h,_⟩
 ·exact e
 ·exact absurd hok h
theorem okRelP.no (h:okRelP P R T) (hok:¬ P):T=zCo:=by
 rcases h with⟨h,_⟩|⟨_,e⟩
 ·exact absurd h hok
 ·exact e
theorem l4okB (w:World) (C:Co) (s:Sl) (h:isHo w C.ho s) (hn:C.ho.le 1048576):∃ b:Bool,Hid (b=true↔okCo C)∧Hid (∀ W,Below w.heap.size w W→Calls Tp 33 #[aG (coL C s).toArray] W fun o w'=>o = rT (bO b)∧Below W.heap.size W w'):=by
 by_cases hok:okCo C
 ·exact⟨true,⟨fun _=>hok,fun _=>rfl⟩,fun W hW=>okLC W C s (h.below hW) hn hok⟩
 ·exact⟨false,⟨fun x=>(by cases x),fun x=>absurd x hok⟩,fun W hW=>badLC W C s (h.below hW) hn hok⟩
theorem ltB (x y:Int):∃ b:Bool,decide (x<y)=b∧Hid (b=true↔x<y):=⟨_,rfl,by show _↔_;simp⟩
theorem specFault_any (w:World) (C:Co) (s:Sl) (k:Int) (T:Co) (hR:okRelP (okFa C k) (actC C (fltC C k)) T) (h:isHo w C.ho s) (hn:C.ho.le 1048576) :
  Calls Tp 15 #[aG (coL C s).toArray,I J k] w fun o w'=>∃ s',o = rT (aG (coL T s').toArray)∧St w.heap.size w' (fun W=>isHo W T.ho s')∧Below w.heap.size w w':=by
 have H0:Hid (dcS w C s ((w.alloc (.cells (coL C s).toArray 41)).alloc (.cells zY.toArray 41))):=dcS.new w C s
 have HR:Hid (okRelP (okFa C k) (actC C (fltC C k)) T):=hR
 obtain⟨bo,fo,HV⟩:=l4okB w C s h hn
 have HC:Hid (∀ W,Below w.heap.size w W→Calls Tp 35 #[aG (coL C s).toArray] W fun o w'=>∃ s' T0 T1 T2,o = rT (aG (coL C s').toArray)∧spS (W.heap.size+2) T0 T1 T2 C.ho s' w'∧s'.n2=C.ho.bx.length∧s'.n4=C.ho.qu.length∧Below W.heap.size W w'):=fun W hW=>l4copy_any W C s (h.below hW) hn
 have HN:Hid (C.ho.le 1048576):=hn
 obtain⟨b1,e1,f1⟩:=ltB k 1
 obtain⟨b6,e6,f6⟩:=ltB 6 k
 obtain⟨p1,_,d1,g1⟩:=eqB C.p 1
 obtain⟨p2,_,d2,g2⟩:=eqB C.p 2
 obtain⟨p4,_,d4,g4⟩:=eqB C.p 4
 clear hR h hn;go_enter Tryz.func15,Tryz.ntmps15
 go_upto_region 1 with fail
 go_cut [15] (fun s15 wx=>s15 = bO (!bo || b1 || b6)∧Hid (dcS w C s wx))
 case first=>
  cases bo <;> cases b1 <;> cases b6 <;> (
   go_wp2_with (first | (refine lq41 H0.out.p.load ?_))
   refine (HV.out _ H0.out.b).mono ?_
   rintro o w1 ⟨rfl,hb1⟩;have H1:Hid (dcS w C s w1):=H0.out.below hb1
   clear hb1;go_wp2_with fail;go_meet
   case rel=>exact⟨rfl,H1.out⟩)
 case rest=>
 obtain⟨rfl,H1⟩:=hcut
 obtain⟨b15,e15⟩ : ∃ b,(!bo || b1 || b6)=b:=⟨_,rfl⟩
 rw[e15]
 have H15:Hid ((!bo || b1 || b6)=b15):=e15
 clear e15 e1 e6 H0 HV;cases b15
 case true=>
  have HNO:Hid (¬ okFa C k):=fun x=>by
   have h1:=H15.out
   have h2:=fo.out.2 x.1
   have h3:¬ b1=true:=fun y=>by have:=f1.out.1 y;have:=x.2.2;omega
   have h4:¬ b6=true:=fun y=>by have:=f6.out.1 y;have:=x.2.2;omega
   simp[h2,h3,h4] at h1
  go_wp2_with (first | (refine sq41 H1.out.r ?_;generalize hW8:World.setCells _ (w.heap.size+1) 0 _=w8;have HW8:Hid (_=w8):=hW8;clear hW8))
  have e8:=HW8.out
  have hF:blk w8 (w.heap.size+1) (coL zCo zSl) 41:=by
   rw[← e8]
   exact H1.out.r.core rfl zCo zSl
  have hL:=rq41 hF
  refine bC Tryz.results15 hL ?_
  have hR:=HR.out.no HNO.out
  subst hR;refine⟨zSl,rfl,fun _ _=>zHo_is _,?_⟩
  rw[← e8]
  exact sW (by omega) 0 _ H1.out.b
 case false=>
 go_upto_region 3 with fail
 have y0:=H1.out.p.cell 0 (I J C.p) rfl
 go_cut [29] (fun s29 wx=>s29 = bO (!p1 && !p2 && !p4)∧Hid (dcS w C s wx))
 case first=>
  cases p1 <;> cases p2 <;> cases p4 <;> (
   go_wp2_with fail;go_meet
   case rel=>exact⟨rfl,H1.out⟩)
 case rest=>
 obtain⟨rfl,H2⟩:=hcut
 obtain⟨b29,e29⟩ : ∃ b,(!p1 && !p2 && !p4)=b:=⟨_,rfl⟩
 rw[e29]
 have H29:Hid ((!p1 && !p2 && !p4)=b29):=e29
 clear e29 d1 d2 d4 y0 H1;cases b29
 case true=>
  have HNO:Hid (¬ okFa C k):=fun x=>by
   have h1:=H29.out
   have h2:p1=true∨p2=true∨p4=true:=by rw[g1.out,g2.out,g4.out];exact x.2.1
   rcases h2 with rfl | rfl | rfl <;> simp at h1
  go_wp2_with (first | (refine sq41 H2.out.r ?_;generalize hW8:World.setCells _ (w.heap.size+1) 0 _=w8;have HW8:Hid (_=w8):=hW8;clear hW8))
  have e8:=HW8.out
  have hF:blk w8 (w.heap.size+1) (coL zCo zSl) 41:=by
   rw[← e8]
   exact H2.out.r.core rfl zCo zSl
  have hL:=rq41 hF
  refine bC Tryz.results15 hL ?_
  have hR:=HR.out.no HNO.out
  subst hR;refine⟨zSl,rfl,fun _ _=>zHo_is _,?_⟩
  rw[← e8]
  exact sW (by omega) 0 _ H2.out.b
 case false=>
 have HOK:Hid (okFa C k):=by
  have h1:=H15.out
  have h2:=H29.out
  have h3:bo=true∧b1=false∧b6=false:=by simpa[and_assoc] using h1
  have i1:¬ k<1:=fun y=>by have:=f1.out.2 y;rw[h3.2.1] at this;cases this
  have i6:¬ 6<k:=fun y=>by have:=f6.out.2 y;rw[h3.2.2] at this;cases this
  have h4:p1=true∨p2=true∨p4=true:=by
   cases p1 <;> cases p2 <;> cases p4 <;> simp_all
  rw[g1.out,g2.out,g4.out] at h4
  exact⟨fo.out.1 h3.1,h4,by omega,by omega⟩
 clear H15 H29 f1 f6 g1 g2 g4 fo;go_wp2_with (first | (refine lq41 H2.out.p.load ?_))
 refine (HC.out _ H2.out.b).mono ?_
 rintro o w2 ⟨s2,T0,T1,T2,rfl,e4,_,_,hb2⟩;have HD:Hid (Calls Tp 42 #[aG (coL C s2).toArray,I J k] w2 fun o w'=>∃ s',o = rT (aG (coL (actC C (fltC C k)) s').toArray)∧spS (wc.heap.size+2) T0 T1 T2 (actC C (fltC C k)).ho s' w'∧k41 T2 w2 w'∧Below (wc.heap.size+2) w2 w'):=l4doFault_any w2 C s2 (wc.heap.size+2) T0 T1 T2 k e4 HOK.out.1 (by rcases HOK.out.2.1 with e | e | e <;> rw[e] <;> decide) HN.out
 have H3:Hid (dcS w C s w2):=H2.out.below hb2
 have HZ2:Hid (w.heap.size+1<wc.heap.size):=H2.out.r.lt
 clear e4 hb2 H2 HC;go_wp2_with fail;refine HD.out.mono ?_
 rintro o w3 ⟨s3,rfl,q1,_,q2⟩;have H4:Hid (blk w3 (w.heap.size+1) Z21 41):=H3.out.r.kept (q2.block _ (by have:=HZ2.out;omega))
 have HB3:Hid (Below w.heap.size w w3):=H3.out.b.trans (q2.mono (by have:=HZ2.out;omega))
 have HST:Hid (spS (wc.heap.size+2) T0 T1 T2 (actC C (fltC C k)).ho s3 w3):=q1
 clear q1 q2 H3 HD;go_wp2_with (first
  | (refine sq41 H4.out ?_;generalize hW8:World.setCells _ (w.heap.size+1) 0 _=w8;have HW8:Hid (_=w8):=hW8;clear hW8))
 have e8:=HW8.out
 have hF:blk w8 (w.heap.size+1) (coL (actC C (fltC C k)) s3) 41:=by
  rw[← e8]
  exact H4.out.core rfl _ _
 have hL:=rq41 hF
 refine bC Tryz.results15 hL ?_
 have hR:=HR.out.yes HOK.out
 subst hR;refine⟨s3,rfl,(HST.out.st (fun x h1 h2=>?_) ?_).isStD.mono (by have:=HZ2.out;omega),?_⟩
 ·rw[← e8]
  exact sO _ x (by have:=HZ2.out;omega) _ _ _
 ·rw[← e8,sZ]
  exact nR _
 ·rw[← e8]
  exact sW (by omega) 0 _ HB3.out
variable {w0 : World} {M : Nat} {G : Lg} {f1 f3 nm : Nat} {C : Co} {W : World}
theorem mx.off (h:mx w0 M G f1 f3 nm C W):mx w0 M G f1 f3 nm (offC C) (W.setCells M 3 [I J 7,I J 0,I J 0,bO false,bO false,bO false,bO false,bO false,I J 0]):=by obtain⟨_,_,h⟩:=h;exact⟨_,_,h.moment⟩
def ovC (C:Co):Co:={ C with p:=2,ct:=0,ov:=true,ho:=pH C.ho (ev3 9 0 0) }
theorem overload_any (h:mx w0 M G f1 f3 nm C W) :
  Calls Tp 115 #[pT (some ⟨M,0,none⟩)] W fun o w'=>o = rT (.tuple #[])∧mx w0 M G f1 f3 nm (ovC C) w':=by
 have H0:Hid (mx w0 M G f1 f3 nm C W):=h
 have H3:Hid (mx w0 M G f1 f3 nm { C with p:=2,ct:=0,ov:=true } (World.setCell (World.setCell (World.setCell W ⟨M,3,none⟩ (I J 2)) ⟨M,4,none⟩ (I J 0)) ⟨M,7,none⟩ (bO true))):=(((H0.out.set 3 (I J 2) { C with p:=2 } rfl rfl).set 4 (I J 0) { C with p:=2,ct:=0 } rfl rfl).set 7 (bO true) { C with p:=2,ct:=0,ov:=true } rfl rfl)
 have y3:=h.m.cell 3 (I J C.p) rfl
 have y4:=h.m.cell 4 (I J C.ct) rfl
 have y7:=h.m.cell 7 (bO C.ov) rfl
 have z3:=h.m.free 3
 have z4:=h.m.free 4
 have z7:=h.m.free 7
 have y0:=h.m.cell 0 (pT (some ⟨G.P,0,none⟩)) rfl
 clear h;go_enter Tryz.func115,Tryz.ntmps115
 go_wp2_with fail;refine (H3.out.post 9 0 0).mono ?_
 rintro o w1 ⟨rfl,h1⟩;have H1:Hid (mx w0 M G f1 f3 nm (ovC C) w1):=h1
 clear h1 y0 y3 y4 y7 z3 z4 z7 H3 H0;go_wp2_with fail;first | go_end0 | (try simp only[Exit.inBlock,Exit.then]);refine bN ?_
 exact⟨rfl,H1.out⟩
def idC (C:Co) (bit:Int):Co:=if bit=0 then { C with p:=1 } else C
theorem idle_any (h:mx w0 M G f1 f3 nm C W) (bit:Int) :
  Calls Tp 183 #[pT (some ⟨M,0,none⟩),I J bit] W fun o w'=>o = rT (.tuple #[])∧mx w0 M G f1 f3 nm (idC C bit) w':=by
 have H0:Hid (mx w0 M G f1 f3 nm C W):=h
 have y3:=h.m.cell 3 (I J C.p) rfl
 have z3:=h.m.free 3
 clear h;obtain⟨b,e,_,fb⟩:=eqB bit 0
 cases b
 ·have HR:Hid (idC C bit=C):=if_neg (fun x=>by have:=fb.out.2 x;cases this)
  go_enter Tryz.func183,Tryz.ntmps183
  go_wp2_with fail;first | go_end0 | (try simp only[Exit.inBlock,Exit.then]);refine bN ?_
  exact⟨rfl,by rw[HR.out];exact H0.out⟩
 ·have HR:Hid (idC C bit = { C with p:=1 }):=if_pos (fb.out.1 rfl)
  have H3:Hid (mx w0 M G f1 f3 nm { C with p:=1 } (World.setCell W ⟨M,3,none⟩ (I J 1))):=(H0.out.set 3 (I J 1) { C with p:=1 } rfl rfl)
  go_enter Tryz.func183,Tryz.ntmps183
  go_wp2_with fail;first | go_end0 | (try simp only[Exit.inBlock,Exit.then]);refine bN ?_
  exact⟨rfl,by rw[HR.out];exact H3.out⟩
def suC (C:Co) (bit:Int):Co:=if bit=0 then { C with p:=1,ct:=0,tx:=false } else if C.ct+1=8 then { C with p:=0,ct:=0,tx:=false } else { C with ct:=C.ct+1 }
theorem wrap_ct {n:Int} (h:0≤n∧n≤200):IntKind.i64.wrap (n+1)=n+1:=by rw[IntKind.wrap_i64];omega
theorem suspend_any (h:mx w0 M G f1 f3 nm C W) (bit:Int) (hc:0≤C.ct∧C.ct≤200) :
  Calls Tp 189 #[pT (some ⟨M,0,none⟩),I J bit] W fun o w'=>o = rT (.tuple #[])∧mx w0 M G f1 f3 nm (suC C bit) w':=by
 have H0:Hid (mx w0 M G f1 f3 nm C W):=h
 have y3:=h.m.cell 3 (I J C.p) rfl
 have y4:=h.m.cell 4 (I J C.ct) rfl
 have y9:=h.m.cell 9 (bO C.tx) rfl
 have z3:=h.m.free 3
 have z4:=h.m.free 4
 have z9:=h.m.free 9
 clear h;have hw:=wrap_ct hc
 clear hc;obtain⟨b,e,_,fb⟩:=eqB bit 0
 obtain⟨c,e2,_,fc⟩:=eqB (C.ct+1) 8
 go_enter Tryz.func189,Tryz.ntmps189
 cases b
 ·cases c
  ·have HR:Hid (suC C bit = { C with ct:=C.ct+1 }):=by show _=_;unfold suC;rw[if_neg (by simpa using fb.out),if_neg (by simpa using fc.out)]
   have H3:Hid (mx w0 M G f1 f3 nm { C with ct:=(C.ct+1) } (World.setCell W ⟨M,4,none⟩ (I J (C.ct+1)))):=(H0.out.set 4 (I J (C.ct+1)) { C with ct:=(C.ct+1) } rfl rfl)
   go_wp2_with fail;first | go_end0 | (try simp only[Exit.inBlock,Exit.then]);refine bN ?_
   exact⟨rfl,by rw[HR.out];exact H3.out⟩
  ·have HR:Hid (suC C bit = { C with p:=0,ct:=0,tx:=false }):=by show _=_;unfold suC;rw[if_neg (by simpa using fb.out),if_pos (by simpa using fc.out)]
   have H3:Hid (mx w0 M G f1 f3 nm { C with p:=0,ct:=0,tx:=false } (World.setCell (World.setCell (World.setCell (World.setCell W ⟨M,4,none⟩ (I J (C.ct+1))) ⟨M,3,none⟩ (I J 0)) ⟨M,4,none⟩ (I J 0)) ⟨M,9,none⟩ (bO false))):=((((H0.out.set 4 (I J (C.ct+1)) { C with ct:=(C.ct+1) } rfl rfl).set 3 (I J 0) { C with ct:=(C.ct+1),p:=0 } rfl rfl).set 4 (I J 0) { C with p:=0,ct:=0 } rfl rfl).set 9 (bO false) { C with p:=0,ct:=0,tx:=false } rfl rfl)
   go_wp2_with fail;first | go_end0 | (try simp only[Exit.inBlock,Exit.then]);refine bN ?_
   exact⟨rfl,by rw[HR.out];exact H3.out⟩
 ·have HR:Hid (suC C bit = { C with p:=1,ct:=0,tx:=false }):=by show _=_;unfold suC;rw[if_pos (by simpa using fb.out)]
  have H3:Hid (mx w0 M G f1 f3 nm { C with p:=1,ct:=0,tx:=false } (World.setCell (World.setCell (World.setCell (World.setCell W ⟨M,4,none⟩ (I J (C.ct+1))) ⟨M,3,none⟩ (I J 1)) ⟨M,4,none⟩ (I J 0)) ⟨M,9,none⟩ (bO false))):=((((H0.out.set 4 (I J (C.ct+1)) { C with ct:=(C.ct+1) } rfl rfl).set 3 (I J 1) { C with ct:=(C.ct+1),p:=1 } rfl rfl).set 4 (I J 0) { C with p:=1,ct:=0 } rfl rfl).set 9 (bO false) { C with p:=1,ct:=0,tx:=false } rfl rfl)
  go_wp2_with fail;first | go_end0 | (try simp only[Exit.inBlock,Exit.then]);refine bN ?_
  exact⟨rfl,by rw[HR.out];exact H3.out⟩
def dlC (C:Co) (bit:Int):Co:=if bit=0 then (if C.ct=7 then ovC C else fltC C 3) else if C.ct+1=8 then { C with p:=5,ct:=0,ov:=false } else { C with ct:=C.ct+1 }
theorem delim_any (h:mx w0 M G f1 f3 nm C W) (bit:Int) (hc:0≤C.ct∧C.ct≤200) (ht:0≤C.te∧C.te≤256) (hr:0≤C.re∧C.re≤255) (hwf:∀ j (hj:j<C.ho.bx.length),(Lit.int .i64 C.ho.bx[j].y).wf=true) :
  Calls Tp 187 #[pT (some ⟨M,0,none⟩),I J bit] W fun o w'=>o = rT (.tuple #[])∧mx w0 M G f1 f3 nm (dlC C bit) w':=by
 have H0:Hid (mx w0 M G f1 f3 nm C W):=h
 have HFL:Hid (∀ k,Calls Tp 45 #[pT (some ⟨M,0,none⟩),I J k] W fun o w'=>o = rT (.tuple #[])∧mx w0 M G f1 f3 nm (fltC C k) w'):=fun k=>h.fault k ht hr hwf
 have y3:=h.m.cell 3 (I J C.p) rfl
 have y4:=h.m.cell 4 (I J C.ct) rfl
 have y7:=h.m.cell 7 (bO C.ov) rfl
 have z3:=h.m.free 3
 have z4:=h.m.free 4
 have z7:=h.m.free 7
 clear h ht hr hwf;have hw:=wrap_ct hc
 clear hc;obtain⟨b,e,_,fb⟩:=eqB bit 0
 obtain⟨c,e2,_,fc⟩:=eqB (C.ct+1) 8
 obtain⟨d,e3,_,fd⟩:=eqB C.ct 7
 go_enter Tryz.func187,Tryz.ntmps187
 cases b
 ·cases c
  ·have HR:Hid (dlC C bit = { C with ct:=C.ct+1 }):=by show _=_;unfold dlC;rw[if_neg (by simpa using fb.out),if_neg (by simpa using fc.out)]
   have H3:Hid (mx w0 M G f1 f3 nm { C with ct:=(C.ct+1) } (World.setCell W ⟨M,4,none⟩ (I J (C.ct+1)))):=(H0.out.set 4 (I J (C.ct+1)) { C with ct:=(C.ct+1) } rfl rfl)
   go_wp2_with fail;first | go_end0 | (try simp only[Exit.inBlock,Exit.then]);refine bN ?_
   exact⟨rfl,by rw[HR.out];exact H3.out⟩
  ·have HR:Hid (dlC C bit = { C with p:=5,ct:=0,ov:=false }):=by show _=_;unfold dlC;rw[if_neg (by simpa using fb.out),if_pos (by simpa using fc.out)]
   have H3:Hid (mx w0 M G f1 f3 nm { C with p:=5,ct:=0,ov:=false } (World.setCell (World.setCell (World.setCell (World.setCell W ⟨M,4,none⟩ (I J (C.ct+1))) ⟨M,3,none⟩ (I J 5)) ⟨M,4,none⟩ (I J 0)) ⟨M,7,none⟩ (bO false))):=((((H0.out.set 4 (I J (C.ct+1)) { C with ct:=(C.ct+1) } rfl rfl).set 3 (I J 5) { C with ct:=(C.ct+1),p:=5 } rfl rfl).set 4 (I J 0) { C with p:=5,ct:=0 } rfl rfl).set 7 (bO false) { C with p:=5,ct:=0,ov:=false } rfl rfl)
   go_wp2_with fail;first | go_end0 | (try simp only[Exit.inBlock,Exit.then]);refine bN ?_
   exact⟨rfl,by rw[HR.out];exact H3.out⟩
 ·cases d
  ·have HR:Hid (dlC C bit=fltC C 3):=by show _=_;unfold dlC;rw[if_pos (by simpa using fb.out),if_neg (by simpa using fd.out)]
   go_wp2_with fail;refine (HFL.out 3).mono ?_
   rintro o w1 ⟨rfl,h1⟩;have H1:=hidX h1
   clear h1;go_wp2_with fail;first | go_end0 | (try simp only[Exit.inBlock,Exit.then]);refine bN ?_
   exact⟨rfl,by rw[HR.out];exact H1.out⟩
  ·have HR:Hid (dlC C bit=ovC C):=by show _=_;unfold dlC;rw[if_pos (by simpa using fb.out),if_pos (by simpa using fd.out)]
   go_wp2_with fail;refine (overload_any H0.out).mono ?_
   rintro o w1 ⟨rfl,h1⟩;have H1:=hidX h1
   clear h1;go_wp2_with fail;first | go_end0 | (try simp only[Exit.inBlock,Exit.then]);refine bN ?_
   exact⟨rfl,by rw[HR.out];exact H1.out⟩
def wfX (X:Co) (bit:Int):Co:=if bit=X.lv then (if X.ct+1=6 then { X with p:=3,ct:=0,lv:=0,wk:=false,ow:=false } else { X with ct:=X.ct+1,lv:=bit }) else { X with ct:=1,lv:=bit }
def wfO (C:Co) (bit:Int):Co:=if C.ow=true∧bit=0 then addC { C with ow:=false } C.tx 8 else C
theorem wfO_ct (C:Co) (bit:Int):(wfO C bit).ct=C.ct:=by unfold wfO addC;split <;> (try split) <;> rfl
theorem weak_any (h:mx w0 M G f1 f3 nm C W) (bit:Int) (hc:0≤C.ct∧C.ct≤200) (ht:0≤C.te∧C.te≤256) (hr:0≤C.re∧C.re≤255) :
  Calls Tp 216 #[pT (some ⟨M,0,none⟩),I J bit] W fun o w'=>o = rT (.tuple #[])∧mx w0 M G f1 f3 nm (wfX (wfO C bit) bit) w':=by
 have H0:Hid (mx w0 M G f1 f3 nm C W):=h
 have HAD:Hid (Calls Tp 107 #[pT (some ⟨M,0,none⟩),bO C.tx,I J 8] ((World.setCell W ⟨M,8,none⟩ (bO false))).drew fun o w'=>o = rT (.tuple #[])∧mx w0 M G f1 f3 nm (addC { C with ow:=false } C.tx 8) w'):=(((H0.out.set 8 (bO false) { C with ow:=false } rfl rfl)).below (bW _ _).drew).add C.tx 8 (by decide) ht hr
 have HC:Hid (0≤C.ct∧C.ct≤200):=hc
 have y8:=h.m.cell 8 (bO C.ow) rfl
 have y9:=h.m.cell 9 (bO C.tx) rfl
 have z8:=h.m.free 8
 clear h ht hr hc;obtain⟨b,e,_,fb⟩:=eqB bit 0
 obtain⟨ow,eow⟩ : ∃ b,C.ow=b:=⟨_,rfl⟩
 rw[eow] at y8
 have HW:Hid (C.ow=ow):=eow
 clear eow;go_enter Tryz.func216,Tryz.ntmps216
 go_upto_region 0 with fail
 go_cut [12] (fun x wx=>x = bO (ow && b)∧wx=W)
 case first=>
  cases ow <;> cases b <;> (
   go_wp2_with fail;go_meet
   case rel=>exact⟨rfl,rfl⟩)
 case rest=>
 obtain⟨rfl,hw⟩:=hcut
 subst hw;obtain⟨c,ec⟩ : ∃ c,(ow && b)=c:=⟨_,rfl⟩
 rw[ec]
 have HE:Hid (wfO C bit=if c=true then addC { C with ow:=false } C.tx 8 else C):=by
  have hc:(C.ow=true∧bit=0)↔c=true:=by rw[← ec,HW.out,← fb.out];cases ow <;> cases b <;> simp
  show _=_
  unfold wfO
  simp only[hc]
 clear ec e fb HW;go_upto_if 12 with fail
 go_cut [] (fun wx=>Hid (mx w0 M G f1 f3 nm (wfO C bit) wx))
 case first=>
  cases c
  ·go_wp2_with fail;go_meet
   case rel=>rw[HE.out];exact H0.out
  ·go_wp2_with fail;go_region_with (go_at_call 107;refine HAD.out.mono ?_;rintro o w1 ⟨rfl,h1⟩;have H1:=hidX h1;clear h1)
   all_goals (
    go_wp2_with fail;go_meet
    case rel=>rw[HE.out];exact H1.out)
 case rest=>
 obtain⟨X,eX⟩ : ∃ X,wfO C bit=X:=⟨_,rfl⟩
 have HC2:Hid (0≤X.ct∧X.ct≤200):=by rw[← eX,wfO_ct];exact HC.out
 rw[eX] at hcut
 have HEX:Hid (wfO C bit=X):=eX
 clear eX HE HAD H0 HC y8 y9 z8;have H0:=hcut
 clear hcut;have y3:=H0.out.m.cell 3 (I J X.p) rfl
 have y4:=H0.out.m.cell 4 (I J X.ct) rfl
 have y5:=H0.out.m.cell 5 (I J X.lv) rfl
 have y6:=H0.out.m.cell 6 (bO X.wk) rfl
 have y8:=H0.out.m.cell 8 (bO X.ow) rfl
 have z3:=H0.out.m.free 3
 have z4:=H0.out.m.free 4
 have z5:=H0.out.m.free 5
 have z6:=H0.out.m.free 6
 have z8:=H0.out.m.free 8
 have hw:=wrap_ct HC2.out
 clear HC2;obtain⟨b,e,n,fb⟩:=eqB bit X.lv
 obtain⟨d,e2,_,fd⟩:=eqB (X.ct+1) 6
 cases b
 ·have HR:Hid (wfX X bit = { X with ct:=1,lv:=bit }):=by show _=_;unfold wfX;rw[if_neg (by simpa using fb.out)]
  have H3:Hid (mx w0 M G f1 f3 nm { X with ct:=1,lv:=bit } (World.setCell (World.setCell (World.setCell wc ⟨M,4,none⟩ (I J 0)) ⟨M,4,none⟩ (I J 1)) ⟨M,5,none⟩ (I J bit))):=(((H0.out.set 4 (I J 0) { X with ct:=0 } rfl rfl).set 4 (I J 1) { X with ct:=1 } rfl rfl).set 5 (I J bit) { X with ct:=1,lv:=bit } rfl rfl)
  go_wp2_with fail;first | go_end0 | (try simp only[Exit.inBlock,Exit.then]);refine bN ?_
  exact⟨rfl,by rw[HEX.out,HR.out];exact H3.out⟩
 ·cases d
  ·have HR:Hid (wfX X bit = { X with ct:=X.ct+1,lv:=bit }):=by show _=_;unfold wfX;rw[if_pos (by simpa using fb.out),if_neg (by simpa using fd.out)]
   have H3:Hid (mx w0 M G f1 f3 nm { X with ct:=(X.ct+1),lv:=bit } (World.setCell (World.setCell wc ⟨M,4,none⟩ (I J (X.ct+1))) ⟨M,5,none⟩ (I J bit))):=((H0.out.set 4 (I J (X.ct+1)) { X with ct:=(X.ct+1) } rfl rfl).set 5 (I J bit) { X with ct:=(X.ct+1),lv:=bit } rfl rfl)
   go_wp2_with fail;first | go_end0 | (try simp only[Exit.inBlock,Exit.then]);refine bN ?_
   exact⟨rfl,by rw[HEX.out,HR.out];exact H3.out⟩
  ·have HR:Hid (wfX X bit = { X with p:=3,ct:=0,lv:=0,wk:=false,ow:=false }):=by show _=_;unfold wfX;rw[if_pos (by simpa using fb.out),if_pos (by simpa using fd.out)]
   have H3:Hid (mx w0 M G f1 f3 nm { X with p:=3,ct:=0,lv:=0,wk:=false,ow:=false } (World.setCell (World.setCell (World.setCell (World.setCell (World.setCell (World.setCell (World.setCell wc ⟨M,4,none⟩ (I J (X.ct+1))) ⟨M,5,none⟩ (I J bit)) ⟨M,3,none⟩ (I J 3)) ⟨M,4,none⟩ (I J 0)) ⟨M,5,none⟩ (I J 0)) ⟨M,6,none⟩ (bO false)) ⟨M,8,none⟩ (bO false))):=(((((((H0.out.set 4 (I J (X.ct+1)) { X with ct:=(X.ct+1) } rfl rfl).set 5 (I J bit) { X with ct:=(X.ct+1),lv:=bit } rfl rfl).set 3 (I J 3) { X with ct:=(X.ct+1),lv:=bit,p:=3 } rfl rfl).set 4 (I J 0) { X with lv:=bit,p:=3,ct:=0 } rfl rfl).set 5 (I J 0) { X with p:=3,ct:=0,lv:=0 } rfl rfl).set 6 (bO false) { X with p:=3,ct:=0,lv:=0,wk:=false } rfl rfl).set 8 (bO false) { X with p:=3,ct:=0,lv:=0,wk:=false,ow:=false } rfl rfl)
   go_wp2_with fail;first | go_end0 | (try simp only[Exit.inBlock,Exit.then]);refine bN ?_
   exact⟨rfl,by rw[HEX.out,HR.out];exact H3.out⟩
variable {w0 : World} {M : Nat} {G : Lg} {f1 f3 nm : Nat} {C : Co} {W : World}
def flC (C:Co) (bit:Int):Co:=if C.wk=true then wfX (wfO C bit) bit else if bit=1 then fltC C 1 else if C.ct+1=6 then { C with p:=3,ct:=0 } else { C with ct:=C.ct+1 }
theorem flagS_any (h:mx w0 M G f1 f3 nm C W) (bit:Int) (hc:0≤C.ct∧C.ct≤200) (ht:0≤C.te∧C.te≤256) (hr:0≤C.re∧C.re≤255) (hwf:∀ j (hj:j<C.ho.bx.length),(Lit.int .i64 C.ho.bx[j].y).wf=true) :
  Calls Tp 185 #[pT (some ⟨M,0,none⟩),I J bit] W fun o w'=>o = rT (.tuple #[])∧mx w0 M G f1 f3 nm (flC C bit) w':=by
 have H0:Hid (mx w0 M G f1 f3 nm C W):=h
 have HFL:Hid (∀ k,Calls Tp 45 #[pT (some ⟨M,0,none⟩),I J k] W fun o w'=>o = rT (.tuple #[])∧mx w0 M G f1 f3 nm (fltC C k) w'):=fun k=>h.fault k ht hr hwf
 have HWK:Hid (Calls Tp 216 #[pT (some ⟨M,0,none⟩),I J bit] W fun o w'=>o = rT (.tuple #[])∧mx w0 M G f1 f3 nm (wfX (wfO C bit) bit) w'):=weak_any h bit hc ht hr
 have y3:=h.m.cell 3 (I J C.p) rfl
 have y4:=h.m.cell 4 (I J C.ct) rfl
 have y6:=h.m.cell 6 (bO C.wk) rfl
 have z3:=h.m.free 3
 have z4:=h.m.free 4
 clear h ht hr hwf;have hw:=wrap_ct hc
 clear hc;obtain⟨wk,ewk⟩ : ∃ b,C.wk=b:=⟨_,rfl⟩
 rw[ewk] at y6
 have fwk:Hid (wk=true↔C.wk=true):=by show _↔_;rw[ewk]
 clear ewk;obtain⟨b,e,_,fb⟩:=eqB bit 1
 obtain⟨c,e2,_,fc⟩:=eqB (C.ct+1) 6
 go_enter Tryz.func185,Tryz.ntmps185
 cases wk
 ·cases b
  ·cases c
   ·have HR:Hid (flC C bit = { C with ct:=C.ct+1 }):=by show _=_;unfold flC;rw[if_neg (by simpa using fwk.out),if_neg (by simpa using fb.out),if_neg (by simpa using fc.out)]
    have H3:Hid (mx w0 M G f1 f3 nm { C with ct:=(C.ct+1) } (World.setCell W ⟨M,4,none⟩ (I J (C.ct+1)))):=(H0.out.set 4 (I J (C.ct+1)) { C with ct:=(C.ct+1) } rfl rfl)
    go_wp2_with fail;first | go_end0 | (try simp only[Exit.inBlock,Exit.then]);refine bN ?_
    exact⟨rfl,by rw[HR.out];exact H3.out⟩
   ·have HR:Hid (flC C bit = { C with p:=3,ct:=0 }):=by show _=_;unfold flC;rw[if_neg (by simpa using fwk.out),if_neg (by simpa using fb.out),if_pos (by simpa using fc.out)]
    have H3:Hid (mx w0 M G f1 f3 nm { C with p:=3,ct:=0 } (World.setCell (World.setCell (World.setCell W ⟨M,4,none⟩ (I J (C.ct+1))) ⟨M,3,none⟩ (I J 3)) ⟨M,4,none⟩ (I J 0))):=(((H0.out.set 4 (I J (C.ct+1)) { C with ct:=(C.ct+1) } rfl rfl).set 3 (I J 3) { C with ct:=(C.ct+1),p:=3 } rfl rfl).set 4 (I J 0) { C with p:=3,ct:=0 } rfl rfl)
    go_wp2_with fail;first | go_end0 | (try simp only[Exit.inBlock,Exit.then]);refine bN ?_
    exact⟨rfl,by rw[HR.out];exact H3.out⟩
  ·have HR:Hid (flC C bit=fltC C 1):=by show _=_;unfold flC;rw[if_neg (by simpa using fwk.out),if_pos (by simpa using fb.out)]
   go_wp2_with fail;refine (HFL.out 1).mono ?_
   rintro o w1 ⟨rfl,h1⟩;have H1:=hidX h1
   clear h1;go_wp2_with fail;first | go_end0 | (try simp only[Exit.inBlock,Exit.then]);refine bN ?_
   exact⟨rfl,by rw[HR.out];exact H1.out⟩
 ·have HR:Hid (flC C bit=wfX (wfO C bit) bit):=by show _=_;unfold flC;rw[if_pos (by simpa using fwk.out)]
  go_wp2_with fail;refine (HWK.out).mono ?_
  rintro o w1 ⟨rfl,h1⟩;have H1:=hidX h1
  clear h1;go_wp2_with fail;first | go_end0 | (try simp only[Exit.inBlock,Exit.then]);refine bN ?_
  exact⟨rfl,by rw[HR.out];exact H1.out⟩
def waC (C:Co) (bit:Int):Co:=if bit=1 then { C with p:=4,ct:=1 } else if (C.ct+1=1∧C.tx=false∧C.ov=false)∨C.ct+1=8 then addC { C with ct:=C.ct+1 } C.tx 8 else if C.ct+1=16 then { addC { C with ct:=C.ct+1 } C.tx 8 with ct:=8 } else { C with ct:=C.ct+1 }
theorem wait_any (h:mx w0 M G f1 f3 nm C W) (bit:Int) (hc:0≤C.ct∧C.ct≤200) (ht:0≤C.te∧C.te≤256) (hr:0≤C.re∧C.re≤255) :
  Calls Tp 186 #[pT (some ⟨M,0,none⟩),I J bit] W fun o w'=>o = rT (.tuple #[])∧mx w0 M G f1 f3 nm (waC C bit) w':=by
 have H0:Hid (mx w0 M G f1 f3 nm C W):=h
 have HA0:Hid (∀ b,Calls Tp 107 #[pT (some ⟨M,0,none⟩),bO b,I J 8] ((World.setCell W ⟨M,4,none⟩ (I J (C.ct+1)))).drew fun o w'=>o = rT (.tuple #[])∧mx w0 M G f1 f3 nm (addC { C with ct:=C.ct+1 } b 8) w'):=fun b=>(((H0.out.set 4 (I J (C.ct+1)) { C with ct:=(C.ct+1) } rfl rfl)).below (bW _ _).drew).add b 8 (by decide) ht hr
 have y3:=h.m.cell 3 (I J C.p) rfl
 have y4:=h.m.cell 4 (I J C.ct) rfl
 have y7:=h.m.cell 7 (bO C.ov) rfl
 have y9:=h.m.cell 9 (bO C.tx) rfl
 have z3:=h.m.free 3
 have z4:=h.m.free 4
 clear h ht hr;have hw:=wrap_ct hc
 clear hc;obtain⟨tx,etx⟩ : ∃ b,C.tx=b:=⟨_,rfl⟩
 obtain⟨ov,eov⟩ : ∃ b,C.ov=b:=⟨_,rfl⟩
 rw[etx] at y9
 rw[eov] at y7
 obtain⟨b,e,_,fb⟩:=eqB bit 1
 obtain⟨d1,e1,_,f1⟩:=eqB (C.ct+1) 1
 obtain⟨d8,e8,_,f8⟩:=eqB (C.ct+1) 8
 obtain⟨d16,e16,_,f16⟩:=eqB (C.ct+1) 16
 have HQ:Hid (waC C bit=if b=true then { C with p:=4,ct:=1 } else if ((d1 && !tx && !ov) || d8)=true then addC { C with ct:=C.ct+1 } tx 8 else if d16=true then { addC { C with ct:=C.ct+1 } tx 8 with ct:=8 } else { C with ct:=C.ct+1 }):=by
  show _=_
  have h1:(((d1 && !tx && !ov) || d8)=true)↔((C.ct+1=1∧C.tx=false∧C.ov=false)∨C.ct+1=8):=by rw[← f1.out,← f8.out,etx,eov];cases d1 <;> cases tx <;> cases ov <;> cases d8 <;> simp
  unfold waC
  simp only[h1,fb.out,f16.out,etx]
 have HAD:=HA0.out tx
 have HAD:=hidX HAD
 clear HA0 etx eov fb f1 f8 f16;go_enter Tryz.func186,Tryz.ntmps186
 cases b
 ·cases d1
  ·cases d8
   ·cases d16
    ·have HR:Hid (waC C bit = { C with ct:=C.ct+1 }):=HQ.out
     have H3:Hid (mx w0 M G f1 f3 nm { C with ct:=(C.ct+1) } (World.setCell W ⟨M,4,none⟩ (I J (C.ct+1)))):=(H0.out.set 4 (I J (C.ct+1)) { C with ct:=(C.ct+1) } rfl rfl)
     go_wp2_with fail;first | go_end0 | (try simp only[Exit.inBlock,Exit.then]);refine bN ?_
     exact⟨rfl,by rw[HR.out];exact H3.out⟩
    ·have HR:Hid (waC C bit = { addC { C with ct:=C.ct+1 } tx 8 with ct:=8 }):=HQ.out
     go_wp2_with fail;go_region_with (go_at_call 107;refine HAD.out.mono ?_;rintro o w1 ⟨rfl,h1⟩;have H1:=hidX h1;clear h1)
     all_goals (
      have u4:=H1.out.m.cell 4 (I J (addC { C with ct:=C.ct+1 } tx 8).ct) rfl
      have v4:=H1.out.m.free 4
      have H5:Hid (mx w0 M G f1 f3 nm { addC { C with ct:=C.ct+1 } tx 8 with ct:=8 } (World.setCell w1 ⟨M,4,none⟩ (I J 8))):=H1.out.set 4 (I J 8) _ rfl rfl
      go_wp2_with fail;first | go_end0 | (try simp only[Exit.inBlock,Exit.then]);refine bN ?_
      exact⟨rfl,by rw[HR.out];exact H5.out⟩)
   ·have HR:Hid (waC C bit=addC { C with ct:=C.ct+1 } tx 8):=HQ.out
    go_wp2_with fail;go_region_with (go_at_call 107;refine HAD.out.mono ?_;rintro o w1 ⟨rfl,h1⟩;have H1:=hidX h1;clear h1)
    all_goals (
     go_wp2_with fail;first | go_end0 | (try simp only[Exit.inBlock,Exit.then]);refine bN ?_
     exact⟨rfl,by rw[HR.out];exact H1.out⟩)
  ·cases tx
   ·cases ov
    ·have HR:Hid (waC C bit=addC { C with ct:=C.ct+1 } false 8):=HQ.out
     go_wp2_with fail;go_region_with (go_at_call 107;refine HAD.out.mono ?_;rintro o w1 ⟨rfl,h1⟩;have H1:=hidX h1;clear h1)
     all_goals (
      go_wp2_with fail;first | go_end0 | (try simp only[Exit.inBlock,Exit.then]);refine bN ?_
      exact⟨rfl,by rw[HR.out];exact H1.out⟩)
    ·cases d8
     ·cases d16
      ·have HR:Hid (waC C bit = { C with ct:=C.ct+1 }):=HQ.out
       have H3:Hid (mx w0 M G f1 f3 nm { C with ct:=(C.ct+1) } (World.setCell W ⟨M,4,none⟩ (I J (C.ct+1)))):=(H0.out.set 4 (I J (C.ct+1)) { C with ct:=(C.ct+1) } rfl rfl)
       go_wp2_with fail;first | go_end0 | (try simp only[Exit.inBlock,Exit.then]);refine bN ?_
       exact⟨rfl,by rw[HR.out];exact H3.out⟩
      ·have HR:Hid (waC C bit = { addC { C with ct:=C.ct+1 } false 8 with ct:=8 }):=HQ.out
       go_wp2_with fail;go_region_with (go_at_call 107;refine HAD.out.mono ?_;rintro o w1 ⟨rfl,h1⟩;have H1:=hidX h1;clear h1)
       all_goals (
        have u4:=H1.out.m.cell 4 (I J (addC { C with ct:=C.ct+1 } false 8).ct) rfl
        have v4:=H1.out.m.free 4
        have H5:Hid (mx w0 M G f1 f3 nm { addC { C with ct:=C.ct+1 } false 8 with ct:=8 } (World.setCell w1 ⟨M,4,none⟩ (I J 8))):=H1.out.set 4 (I J 8) _ rfl rfl
        go_wp2_with fail;first | go_end0 | (try simp only[Exit.inBlock,Exit.then]);refine bN ?_
        exact⟨rfl,by rw[HR.out];exact H5.out⟩)
     ·have HR:Hid (waC C bit=addC { C with ct:=C.ct+1 } false 8):=HQ.out
      go_wp2_with fail;go_region_with (go_at_call 107;refine HAD.out.mono ?_;rintro o w1 ⟨rfl,h1⟩;have H1:=hidX h1;clear h1)
      all_goals (
       go_wp2_with fail;first | go_end0 | (try simp only[Exit.inBlock,Exit.then]);refine bN ?_
       exact⟨rfl,by rw[HR.out];exact H1.out⟩)
   ·cases d8
    ·cases d16
     ·have HR:Hid (waC C bit = { C with ct:=C.ct+1 }):=HQ.out
      have H3:Hid (mx w0 M G f1 f3 nm { C with ct:=(C.ct+1) } (World.setCell W ⟨M,4,none⟩ (I J (C.ct+1)))):=(H0.out.set 4 (I J (C.ct+1)) { C with ct:=(C.ct+1) } rfl rfl)
      go_wp2_with fail;first | go_end0 | (try simp only[Exit.inBlock,Exit.then]);refine bN ?_
      exact⟨rfl,by rw[HR.out];exact H3.out⟩
     ·have HR:Hid (waC C bit = { addC { C with ct:=C.ct+1 } true 8 with ct:=8 }):=HQ.out
      go_wp2_with fail;go_region_with (go_at_call 107;refine HAD.out.mono ?_;rintro o w1 ⟨rfl,h1⟩;have H1:=hidX h1;clear h1)
      all_goals (
       have u4:=H1.out.m.cell 4 (I J (addC { C with ct:=C.ct+1 } true 8).ct) rfl
       have v4:=H1.out.m.free 4
       have H5:Hid (mx w0 M G f1 f3 nm { addC { C with ct:=C.ct+1 } true 8 with ct:=8 } (World.setCell w1 ⟨M,4,none⟩ (I J 8))):=H1.out.set 4 (I J 8) _ rfl rfl
       go_wp2_with fail;first | go_end0 | (try simp only[Exit.inBlock,Exit.then]);refine bN ?_
       exact⟨rfl,by rw[HR.out];exact H5.out⟩)
    ·have HR:Hid (waC C bit=addC { C with ct:=C.ct+1 } true 8):=HQ.out
     go_wp2_with fail;go_region_with (go_at_call 107;refine HAD.out.mono ?_;rintro o w1 ⟨rfl,h1⟩;have H1:=hidX h1;clear h1)
     all_goals (
      go_wp2_with fail;first | go_end0 | (try simp only[Exit.inBlock,Exit.then]);refine bN ?_
      exact⟨rfl,by rw[HR.out];exact H1.out⟩)
 ·have HR:Hid (waC C bit = { C with p:=4,ct:=1 }):=HQ.out
  have H3:Hid (mx w0 M G f1 f3 nm { C with p:=4,ct:=1 } (World.setCell (World.setCell W ⟨M,3,none⟩ (I J 4)) ⟨M,4,none⟩ (I J 1))):=((H0.out.set 3 (I J 4) { C with p:=4 } rfl rfl).set 4 (I J 1) { C with p:=4,ct:=1 } rfl rfl)
  go_wp2_with fail;first | go_end0 | (try simp only[Exit.inBlock,Exit.then]);refine bN ?_
  exact⟨rfl,by rw[HR.out];exact H3.out⟩
variable {w0 : World} {M : Nat} {G : Lg} {f1 f3 nm : Nat} {C : Co} {W : World}
def bkC (C:Co):Co:=⟨0,0,0,false,false,false,false,false,0,0,0,C.ho⟩
theorem mx.mom (h:mx w0 M G f1 f3 nm C W):mx w0 M G f1 f3 nm ⟨0,0,0,false,false,false,false,false,0,C.te,C.re,C.ho⟩ (W.setCells M 3 [I J 0,I J 0,I J 0,bO false,bO false,bO false,bO false,bO false,I J 0]):=by
 obtain⟨hs,D,h⟩:=h
 refine⟨hs,D,?_,?_,h.o⟩
 ·have h':blk W M ([pT (some ⟨G.P,0,none⟩),I J C.te,I J C.re]++[I J C.p,I J C.ct,I J C.lv,bO C.wk,bO C.ov,bO C.ow,bO C.tx,bO C.ak,I J C.rn]++(sgL++prL)) 125:=h.m
  exact blk.put [pT (some ⟨G.P,0,none⟩),I J C.te,I J C.re] [I J C.p,I J C.ct,I J C.lv,bO C.wk,bO C.ov,bO C.ow,bO C.tx,bO C.ak,I J C.rn] (sgL++prL) [I J 0,I J 0,I J 0,bO false,bO false,bO false,bO false,bO false,I J 0] h' rfl
 ·exact h.h.other M h.o (fun q hq=>sO _ q hq _ _ _) (sZ ..) (sW h.o.2.2.2.2.2.2 3 _ h.h.b)
theorem hidE {V:World} (e:W=V) (h:mx w0 M G f1 f3 nm C W):Hid (mx w0 M G f1 f3 nm C V):=by rw[← e];exact h
theorem comeBack_any (h:mx w0 M G f1 f3 nm C W) :
  Calls Tp 219 #[pT (some ⟨M,0,none⟩)] W fun o w'=>o = rT (.tuple #[])∧mx w0 M G f1 f3 nm (bkC C) w':=by
 have H0:Hid (mx w0 M G f1 f3 nm C W):=h
 clear h;go_enter Tryz.func219,Tryz.ntmps219
 go_upto_region 1 with (first
  | (refine wpList_store_mid (P:=Tp) rfl 116 (.tmp 5) (.tmp 3) rfl M 3 #[I J 0,I J 0,I J 0,bO false,bO false,bO false,bO false,bO false,I J 0] rfl rfl (H0.out.m.there 3 9 (by rw[mcL_len];decide)) sz116 (all_oneCell_toArray (by simp[Value.oneCell'])) ?_;generalize hW4:World.setCells W M 3 _=w4;have H4:=hidE hW4 H0.out.mom;clear hW4))
 obtain⟨X,eX⟩ : ∃ X:Co,X=⟨0,0,0,false,false,false,false,false,0,C.te,C.re,C.ho⟩:=⟨_,rfl⟩
 rw[← eX] at H4
 have HB:Hid ({ X with te:=0,re:=0 }=bkC C):=by show _=_;rw[eX];rfl
 clear eX;have y1:=H4.out.m.cell 1 (I J X.te) rfl
 have y2:=H4.out.m.cell 2 (I J X.re) rfl
 have z1:=H4.out.m.free 1
 have z2:=H4.out.m.free 2
 have H5:Hid (mx w0 M G f1 f3 nm { X with te:=0,re:=0 } (World.setCell (World.setCell w4 ⟨M,1,none⟩ (I J 0)) ⟨M,2,none⟩ (I J 0))):=((H4.out.set 1 (I J 0) { X with te:=0 } rfl rfl).set 2 (I J 0) { X with te:=0,re:=0 } rfl rfl)
 go_wp2_with fail;first | go_end0 | (try simp only[Exit.inBlock,Exit.then]);refine bN ?_
 exact⟨rfl,by rw[← HB.out];exact H5.out⟩
def ofC (C:Co) (bit:Int):Co:=if C.ak=true then (if bit=0 then { C with ct:=0 } else if C.ct+1=11 then (if C.rn+1=128 then bkC C else { C with ct:=0,rn:=C.rn+1 }) else { C with ct:=C.ct+1 }) else C
theorem offS_any (h:mx w0 M G f1 f3 nm C W) (bit:Int) (hc:0≤C.ct∧C.ct≤200) (hn:0≤C.rn∧C.rn<128) :
  Calls Tp 190 #[pT (some ⟨M,0,none⟩),I J bit] W fun o w'=>o = rT (.tuple #[])∧mx w0 M G f1 f3 nm (ofC C bit) w':=by
 have H0:Hid (mx w0 M G f1 f3 nm C W):=h
 have y4:=h.m.cell 4 (I J C.ct) rfl
 have y10:=h.m.cell 10 (bO C.ak) rfl
 have y11:=h.m.cell 11 (I J C.rn) rfl
 have z4:=h.m.free 4
 have z11:=h.m.free 11
 clear h;have hw:=wrap_ct hc
 have hw2:=wrap_ct (n:=C.rn) (by omega)
 have er:(C.rn == 128)=false:=by simp;omega
 clear hc hn;obtain⟨ak,eak⟩ : ∃ b,C.ak=b:=⟨_,rfl⟩
 rw[eak] at y10
 have fak:Hid (ak=true↔C.ak=true):=by show _↔_;rw[eak]
 clear eak;obtain⟨b,e,_,fb⟩:=eqB bit 0
 obtain⟨c,e2,_,fc⟩:=eqB (C.ct+1) 11
 obtain⟨d,e3,_,fd⟩:=eqB (C.rn+1) 128
 have HBK:Hid (∀ X V,mx w0 M G f1 f3 nm X V→Calls Tp 219 #[pT (some ⟨M,0,none⟩)] V fun o w'=>o = rT (.tuple #[])∧mx w0 M G f1 f3 nm (bkC X) w'):=fun X V hV=>comeBack_any hV
 go_enter Tryz.func190,Tryz.ntmps190
 cases ak
 ·have HR:Hid (ofC C bit=C):=by show _=_;unfold ofC;rw[if_neg (by simpa using fak.out)]
  have H3:Hid (mx w0 M G f1 f3 nm C W):=H0.out
  go_wp2_with fail;first | go_end0 | (try simp only[Exit.inBlock,Exit.then]);refine bN ?_
  exact⟨rfl,by rw[HR.out];exact H3.out⟩
 ·cases b
  ·cases c
   ·have HR:Hid (ofC C bit = { C with ct:=C.ct+1 }):=by show _=_;unfold ofC;rw[if_pos (by simpa using fak.out),if_neg (by simpa using fb.out),if_neg (by simpa using fc.out)]
    have H3:Hid (mx w0 M G f1 f3 nm { C with ct:=(C.ct+1) } (World.setCell W ⟨M,4,none⟩ (I J (C.ct+1)))):=(H0.out.set 4 (I J (C.ct+1)) { C with ct:=(C.ct+1) } rfl rfl)
    go_wp2_with fail;first | go_end0 | (try simp only[Exit.inBlock,Exit.then]);refine bN ?_
    exact⟨rfl,by rw[HR.out];exact H3.out⟩
   ·cases d
    ·have HR:Hid (ofC C bit = { C with ct:=0,rn:=C.rn+1 }):=by show _=_;unfold ofC;rw[if_pos (by simpa using fak.out),if_neg (by simpa using fb.out),if_pos (by simpa using fc.out),if_neg (by simpa using fd.out)]
     have H3:Hid (mx w0 M G f1 f3 nm { C with ct:=0,rn:=(C.rn+1) } (World.setCell (World.setCell (World.setCell W ⟨M,4,none⟩ (I J (C.ct+1))) ⟨M,4,none⟩ (I J 0)) ⟨M,11,none⟩ (I J (C.rn+1)))):=(((H0.out.set 4 (I J (C.ct+1)) { C with ct:=(C.ct+1) } rfl rfl).set 4 (I J 0) { C with ct:=0 } rfl rfl).set 11 (I J (C.rn+1)) { C with ct:=0,rn:=(C.rn+1) } rfl rfl)
     go_wp2_with fail;first | go_end0 | (try simp only[Exit.inBlock,Exit.then]);refine bN ?_
     exact⟨rfl,by rw[HR.out];exact H3.out⟩
    ·have HR:Hid (ofC C bit=bkC C):=by show _=_;unfold ofC;rw[if_pos (by simpa using fak.out),if_neg (by simpa using fb.out),if_pos (by simpa using fc.out),if_pos (by simpa using fd.out)]
     have H6:Hid (mx w0 M G f1 f3 nm { C with ct:=0,rn:=(C.rn+1) } (World.setCell (World.setCell (World.setCell W ⟨M,4,none⟩ (I J (C.ct+1))) ⟨M,4,none⟩ (I J 0)) ⟨M,11,none⟩ (I J (C.rn+1)))):=(((H0.out.set 4 (I J (C.ct+1)) { C with ct:=(C.ct+1) } rfl rfl).set 4 (I J 0) { C with ct:=0 } rfl rfl).set 11 (I J (C.rn+1)) { C with ct:=0,rn:=(C.rn+1) } rfl rfl)
     go_wp2_with fail;refine (HBK.out _ _ H6.out).mono ?_
     rintro o w1 ⟨rfl,h1⟩;have H1:=hidX h1
     clear h1;go_wp2_with fail;first | go_end0 | (try simp only[Exit.inBlock,Exit.then]);refine bN ?_
     exact⟨rfl,by rw[HR.out];exact H1.out⟩
  ·have HR:Hid (ofC C bit = { C with ct:=0 }):=by show _=_;unfold ofC;rw[if_pos (by simpa using fak.out),if_pos (by simpa using fb.out)]
   have H3:Hid (mx w0 M G f1 f3 nm { C with ct:=0 } (World.setCell (World.setCell W ⟨M,4,none⟩ (I J (C.ct+1))) ⟨M,4,none⟩ (I J 0))):=((H0.out.set 4 (I J (C.ct+1)) { C with ct:=(C.ct+1) } rfl rfl).set 4 (I J 0) { C with ct:=0 } rfl rfl)
   go_wp2_with fail;first | go_end0 | (try simp only[Exit.inBlock,Exit.then]);refine bN ?_
   exact⟨rfl,by rw[HR.out];exact H3.out⟩
def msB (C:Co):Bool:=C.tx && (stZ C.te C.re == 1)
theorem mustS_any (h:mx w0 M G f1 f3 nm C W):Calls Tp 229 #[pT (some ⟨M,0,none⟩)] W fun o w'=>o = rT (bO (msB C))∧mx w0 M G f1 f3 nm C w'∧Below W.heap.size W w':=by
 have H0:Hid (mx w0 M G f1 f3 nm C W):=h
 have HS:Hid (Calls Tp 106 #[pT (some ⟨M,0,none⟩)] W fun o w'=>o = rT (I J (stZ C.te C.re))∧mx w0 M G f1 f3 nm C w'∧Below W.heap.size W w'):=h.state
 have y9:=h.m.cell 9 (bO C.tx) rfl
 clear h;have HM:Hid (msB C=(C.tx && (stZ C.te C.re == 1))):=rfl
 generalize stZ C.te C.re=z at *;obtain⟨tx,etx⟩ : ∃ b,C.tx=b:=⟨_,rfl⟩
 rw[etx] at y9 HM
 clear etx;go_enter Tryz.func229,Tryz.ntmps229
 cases tx
 ·go_wp2_with fail;go_ret;exact⟨by rw[HM.out];rfl,H0.out,bW _ _⟩
 ·go_wp2_with fail;refine HS.out.mono ?_
  rintro o w1 ⟨rfl,h1,hb⟩;have H1:=hidX (And.intro h1 hb)
  clear h1 hb;go_wp2_with fail;go_ret;exact⟨by rw[HM.out];rfl,H1.out⟩
def lgC (C:Co):Co:=if msB C=true then { C with ct:=0,p:=6 } else { C with ct:=0,p:=0,tx:=false }
theorem leave_any (h:mx w0 M G f1 f3 nm C W) :
  Calls Tp 218 #[pT (some ⟨M,0,none⟩)] W fun o w'=>o = rT (.tuple #[])∧mx w0 M G f1 f3 nm (lgC C) w':=by
 have H0:Hid (mx w0 M G f1 f3 nm C W):=h
 have H1:Hid (mx w0 M G f1 f3 nm { C with ct:=0 } (World.setCell W ⟨M,4,none⟩ (I J 0))):=(H0.out.set 4 (I J 0) { C with ct:=0 } rfl rfl)
 have y4:=h.m.cell 4 (I J C.ct) rfl
 have z4:=h.m.free 4
 clear h;have HS:Hid (Calls Tp 229 #[pT (some ⟨M,0,none⟩)] (World.setCell W ⟨M,4,none⟩ (I J 0)) fun o w'=>o = rT (bO (msB C))∧mx w0 M G f1 f3 nm { C with ct:=0 } w'∧Below ((World.setCell W ⟨M,4,none⟩ (I J 0))).heap.size (World.setCell W ⟨M,4,none⟩ (I J 0)) w'):=mustS_any H1.out
 obtain⟨b,e⟩ : ∃ b,msB C=b:=⟨_,rfl⟩
 have HL:Hid (lgC C=if b=true then { C with ct:=0,p:=6 } else { C with ct:=0,p:=0,tx:=false }):=by show _=_;unfold lgC;rw[e]
 rw[e] at HS
 clear e;go_enter Tryz.func218,Tryz.ntmps218
 go_wp2_with fail;refine HS.out.mono ?_
 rintro o w1 ⟨rfl,h2,_⟩;have H2:=hidX h2
 have y3:=h2.m.cell 3 (I J C.p) rfl
 have y9:=h2.m.cell 9 (bO C.tx) rfl
 have z3:=h2.m.free 3
 have z9:=h2.m.free 9
 clear h2 HS H1 y4 z4;cases b
 ·have H3:Hid (mx w0 M G f1 f3 nm { C with ct:=0,p:=0,tx:=false } ((w1.setCell ⟨M,3,none⟩ (I J 0)).setCell ⟨M,9,none⟩ (bO false))):=(H2.out.set 3 (I J 0) { C with ct:=0,p:=0 } rfl rfl).set 9 (bO false) _ rfl rfl
  go_wp2_with fail;first | go_end0 | (try simp only[Exit.inBlock,Exit.then]);refine bN ?_
  exact⟨rfl,by rw[HL.out];exact H3.out⟩
 ·have H3:Hid (mx w0 M G f1 f3 nm { C with ct:=0,p:=6 } (w1.setCell ⟨M,3,none⟩ (I J 6))):=H2.out.set 3 (I J 6) _ rfl rfl
  go_wp2_with fail;first | go_end0 | (try simp only[Exit.inBlock,Exit.then]);refine bN ?_
  exact⟨rfl,by rw[HL.out];exact H3.out⟩
theorem mx.best (h:mx w0 M G f1 f3 nm C W) (hok:okBxs C.ho.st C.ho.bx) (r:Int) (hr:bestR C.ho.bx r):Calls Tp 228 #[pT (some ⟨G.P,0,none⟩)] W fun o w'=>o = rT (I J r)∧mx w0 M G f1 f3 nm C w':=by
 obtain⟨hs,D,h⟩:=h
 refine (best_any W G.P _ G.n2 G.kb C.ho.bx C.ho.st (h.h.p.cell 5 _ rfl) (h.h.x.is h.h.bd.nk) h.h.bd.m2 hok).mono ?_
 rintro o w' ⟨r',rfl,h1,h2⟩;exact⟨by rw[bestR_one h1 hr],hs,D,h.below h2⟩
theorem mx.send (h:mx w0 M G f1 f3 nm C W) (i:Int):Calls Tp 230 #[pT (some ⟨G.P,0,none⟩),I J i] W fun o w'=>o = rT (.tuple #[])∧mx w0 M G f1 f3 nm { C with ho:=takeHo C.ho i } w':=by
 obtain⟨hs,D,h⟩:=h
 refine (send_any W G.P G.gb G.n2 G.kb C.ho.bx i (h.h.p.cell 5 _ rfl) (h.h.x.is h.h.bd.nk) h.h.x.row h.h.bd.m2).mono ?_
 rintro o w' ⟨rfl,W1,hb,⟨rfl,e⟩|⟨k,hk,rfl,e,_⟩⟩
 ·refine⟨rfl,hs,D,?_⟩
  rw[show takeHo C.ho i=C.ho by unfold takeHo;rw[e]]
  exact h.below hb
 ·have h1:=h.below hb
  refine⟨rfl,hs,D,?_,?_,h.o⟩
  ·exact h1.m.setOther h.o.2.2.2.1 _ _
  ·rw[show takeHo C.ho i=stHo C.ho k 2 by unfold takeHo;rw[e,stHo_yes hk]]
   exact h1.h.state k hk 2
def jnC (C:Co) (r:Int):Co:=if (decide (0≤r) && !msB C)=true then { C with p:=1,ct:=0,tx:=true,ho:=takeHo C.ho r } else { C with p:=1,ct:=0,tx:=false }
variable {w0 : World} {M : Nat} {G : Lg} {f1 f3 nm : Nat} {C : Co} {W : World}
theorem join_any (h:mx w0 M G f1 f3 nm C W) (hok:okBxs C.ho.st C.ho.bx) (r:Int) (hr:bestR C.ho.bx r) :
  Calls Tp 217 #[pT (some ⟨M,0,none⟩)] W fun o w'=>o = rT (.tuple #[])∧mx w0 M G f1 f3 nm (jnC C r) w':=by
 have HB:Hid (Calls Tp 228 #[pT (some ⟨G.P,0,none⟩)] W fun o w'=>o = rT (I J r)∧mx w0 M G f1 f3 nm C w'):=h.best hok r hr
 have y0:=h.m.cell 0 (pT (some ⟨G.P,0,none⟩)) rfl
 have HMS:Hid (∀ V,mx w0 M G f1 f3 nm C V→Calls Tp 229 #[pT (some ⟨M,0,none⟩)] V fun o w'=>o = rT (bO (msB C))∧mx w0 M G f1 f3 nm C w'∧Below V.heap.size V w'):=fun V hV=>mustS_any hV
 have HSD:Hid (∀ V X,mx w0 M G f1 f3 nm X V→Calls Tp 230 #[pT (some ⟨G.P,0,none⟩),I J r] V fun o w'=>o = rT (.tuple #[])∧mx w0 M G f1 f3 nm { X with ho:=takeHo X.ho r } w'):=fun V X hV=>hV.send r
 clear h hok hr;obtain⟨b,eb⟩ : ∃ b,decide (0≤r)=b:=⟨_,rfl⟩
 obtain⟨m,em⟩ : ∃ b,msB C=b:=⟨_,rfl⟩
 have HJ:Hid (jnC C r=if (b && !m)=true then { C with p:=1,ct:=0,tx:=true,ho:=takeHo C.ho r } else { C with p:=1,ct:=0,tx:=false }):=by show _=_;unfold jnC;rw[eb,em]
 rw[em] at HMS
 clear em;go_enter Tryz.func217,Tryz.ntmps217
 go_wp2_with fail;refine HB.out.mono ?_
 rintro o w1 ⟨rfl,h1⟩;have H1:=hidX h1
 have y3:=h1.m.cell 3 (I J C.p) rfl
 have y4:=h1.m.cell 4 (I J C.ct) rfl
 have y9:=h1.m.cell 9 (bO C.tx) rfl
 have z3:=h1.m.free 3
 have z4:=h1.m.free 4
 have z9:=h1.m.free 9
 have x0:=h1.m.cell 0 (pT (some ⟨G.P,0,none⟩)) rfl
 clear h1 HB y0;cases b
 ·have H3:Hid (mx w0 M G f1 f3 nm { C with p:=1,ct:=0,tx:=false } (World.setCell (World.setCell (World.setCell w1 ⟨M,3,none⟩ (I J 1)) ⟨M,4,none⟩ (I J 0)) ⟨M,9,none⟩ (bO false))):=(((H1.out.set 3 (I J 1) { C with p:=1 } rfl rfl).set 4 (I J 0) { C with p:=1,ct:=0 } rfl rfl).set 9 (bO false) { C with p:=1,ct:=0,tx:=false } rfl rfl)
  go_wp2_with fail;first | go_end0 | (try simp only[Exit.inBlock,Exit.then]);refine bN ?_
  exact⟨rfl,by rw[HJ.out];exact H3.out⟩
 ·go_wp2_with fail;refine (HMS.out _ H1.out).mono ?_
  rintro o w2 ⟨rfl,h2,_⟩;have H2:=hidX h2
  clear y3 y4 y9 z3 z4 z9 x0;have y3:=h2.m.cell 3 (I J C.p) rfl
  have y4:=h2.m.cell 4 (I J C.ct) rfl
  have y9:=h2.m.cell 9 (bO C.tx) rfl
  have z3:=h2.m.free 3
  have z4:=h2.m.free 4
  have z9:=h2.m.free 9
  have x0:=h2.m.cell 0 (pT (some ⟨G.P,0,none⟩)) rfl
  clear h2 HMS;cases m
  ·have H3:Hid (mx w0 M G f1 f3 nm { C with p:=1,ct:=0,tx:=true } (World.setCell (World.setCell (World.setCell w2 ⟨M,3,none⟩ (I J 1)) ⟨M,4,none⟩ (I J 0)) ⟨M,9,none⟩ (bO true))):=(((H2.out.set 3 (I J 1) { C with p:=1 } rfl rfl).set 4 (I J 0) { C with p:=1,ct:=0 } rfl rfl).set 9 (bO true) { C with p:=1,ct:=0,tx:=true } rfl rfl)
   go_wp2_with fail;refine (HSD.out _ _ H3.out).mono ?_
   rintro o w5 ⟨rfl,h5⟩;have H5:=hidX h5
   clear h5;go_wp2_with fail;first | go_end0 | (try simp only[Exit.inBlock,Exit.then]);refine bN ?_
   exact⟨rfl,by rw[HJ.out];exact H5.out⟩
  ·have H3:Hid (mx w0 M G f1 f3 nm { C with p:=1,ct:=0,tx:=false } (World.setCell (World.setCell (World.setCell w2 ⟨M,3,none⟩ (I J 1)) ⟨M,4,none⟩ (I J 0)) ⟨M,9,none⟩ (bO false))):=(((H2.out.set 3 (I J 1) { C with p:=1 } rfl rfl).set 4 (I J 0) { C with p:=1,ct:=0 } rfl rfl).set 9 (bO false) { C with p:=1,ct:=0,tx:=false } rfl rfl)
   go_wp2_with fail;first | go_end0 | (try simp only[Exit.inBlock,Exit.then]);refine bN ?_
   exact⟨rfl,by rw[HJ.out];exact H3.out⟩
def gpC (C:Co) (bit r:Int):Co:=if bit=0 then (if C.ct<2 then ovC C else jnC C r) else if C.ct+1=3 then lgC { C with ct:=C.ct+1 } else { C with ct:=C.ct+1 }
theorem gap_any (h:mx w0 M G f1 f3 nm C W) (bit:Int) (hc:0≤C.ct∧C.ct≤200) (hok:okBxs C.ho.st C.ho.bx) (r:Int) (hr:bestR C.ho.bx r) :
  Calls Tp 188 #[pT (some ⟨M,0,none⟩),I J bit] W fun o w'=>o = rT (.tuple #[])∧mx w0 M G f1 f3 nm (gpC C bit r) w':=by
 have H0:Hid (mx w0 M G f1 f3 nm C W):=h
 have HJN:Hid (Calls Tp 217 #[pT (some ⟨M,0,none⟩)] W fun o w'=>o = rT (.tuple #[])∧mx w0 M G f1 f3 nm (jnC C r) w'):=join_any h hok r hr
 have y4:=h.m.cell 4 (I J C.ct) rfl
 have z4:=h.m.free 4
 clear h hok hr;have hw:=wrap_ct hc
 clear hc;have H3:Hid (mx w0 M G f1 f3 nm { C with ct:=(C.ct+1) } (World.setCell W ⟨M,4,none⟩ (I J (C.ct+1)))):=(H0.out.set 4 (I J (C.ct+1)) { C with ct:=(C.ct+1) } rfl rfl)
 obtain⟨b,e,_,fb⟩:=eqB bit 0
 obtain⟨c,e2,fc⟩:=ltB C.ct 2
 obtain⟨d,e3,_,fd⟩:=eqB (C.ct+1) 3
 go_enter Tryz.func188,Tryz.ntmps188
 cases b
 ·cases d
  ·have HR:Hid (gpC C bit r = { C with ct:=C.ct+1 }):=by show _=_;unfold gpC;rw[if_neg (by simpa using fb.out),if_neg (by simpa using fd.out)]
   go_wp2_with fail;first | go_end0 | (try simp only[Exit.inBlock,Exit.then]);refine bN ?_
   exact⟨rfl,by rw[HR.out];exact H3.out⟩
  ·have HR:Hid (gpC C bit r=lgC { C with ct:=C.ct+1 }):=by show _=_;unfold gpC;rw[if_neg (by simpa using fb.out),if_pos (by simpa using fd.out)]
   go_wp2_with fail;refine (leave_any H3.out).mono ?_
   rintro o w1 ⟨rfl,h1⟩;have H1:=hidX h1
   clear h1;go_wp2_with fail;first | go_end0 | (try simp only[Exit.inBlock,Exit.then]);refine bN ?_
   exact⟨rfl,by rw[HR.out];exact H1.out⟩
 ·cases c
  ·have HR:Hid (gpC C bit r=jnC C r):=by show _=_;unfold gpC;rw[if_pos (by simpa using fb.out),if_neg (by simpa using fc.out)]
   go_wp2_with fail;refine (HJN.out).mono ?_
   rintro o w1 ⟨rfl,h1⟩;have H1:=hidX h1
   clear h1;go_wp2_with fail;first | go_end0 | (try simp only[Exit.inBlock,Exit.then]);refine bN ?_
   exact⟨rfl,by rw[HR.out];exact H1.out⟩
  ·have HR:Hid (gpC C bit r=ovC C):=by show _=_;unfold gpC;rw[if_pos (by simpa using fb.out),if_pos (by simpa using fc.out)]
   go_wp2_with fail;refine (overload_any H0.out).mono ?_
   rintro o w1 ⟨rfl,h1⟩;have H1:=hidX h1
   clear h1;go_wp2_with fail;first | go_end0 | (try simp only[Exit.inBlock,Exit.then]);refine bN ?_
   exact⟨rfl,by rw[HR.out];exact H1.out⟩
def stpC (C:Co) (bit r:Int):Co:=if C.p=0 then idC C bit else if C.p=2 then flC C bit else if C.p=3 then waC C bit else if C.p=4 then dlC C bit else if C.p=5 then gpC C bit r else if C.p=6 then suC C bit else if C.p=7 then ofC C bit else C
theorem l4over_c (w:World) (C:Co) (s:Sl) (B T0 T1 T2:Nat) (hb:bdQ 1000 C.ho) (h:spS B T0 T1 T2 C.ho s w) :
  Calls Tp 111 #[aG (coL C s).toArray] w fun o w'=>∃ s',o = rT (aG (coL (ovC C) s').toArray)∧spS B T0 T1 T2 (ovC C).ho s' w'∧k41 T2 w w'∧Below B w w':=by
 have H0:Hid (vS w B T0 T1 T2 C s C.ho s ((w.alloc (.cells (coL C s).toArray 41)).alloc (.cells zY.toArray 41))):=vS.new h
 have HSY:Hid (∀ W,spS B T0 T1 T2 C.ho s W→Calls Tp 77 #[aG (coL C s).toArray,I J 9,I J 0,I J 0] W fun o w'=>∃ s',o = rT (aG (coL { C with ho:=pH C.ho (ev3 9 0 0) } s').toArray)∧spS B T0 T1 T2 (pH C.ho (ev3 9 0 0)) s' w'∧k41 T2 W w'∧Below B W w'):=fun W hW=>l4say_c W C s B T0 T1 T2 9 0 0 hW hb
 clear h hb;go_enter Tryz.func111,Tryz.ntmps111
 go_wp2_with (first | (refine lq41 H0.out.p.load ?_))
 refine (HSY.out _ H0.out.sp).mono ?_
 rintro o w2 ⟨s2,rfl,q1,q2,q3⟩;have HV2:Hid (vS w B T0 T1 T2 C s (pH C.ho (ev3 9 0 0)) s2 w2):=H0.out.call q1 q2 q3
 clear q1 q2 q3 H0 HSY;go_upto_region 2 with (first | (refine sq41 (cs:=(coL { C with ho:=pH C.ho (ev3 9 0 0) } s2)) HV2.out.p ?_;generalize hW3:World.setCells _ w.heap.size 0 _=w3;have HV3:=hidS hW3 (HV2.out.put { C with ho:=pH C.ho (ev3 9 0 0) } s2);clear hW3))
 simp only[Act.put]
 obtain⟨X,eX⟩ : ∃ X:Co,X = { C with ho:=pH C.ho (ev3 9 0 0) }:=⟨_,rfl⟩
 rw[← eX] at HV3
 have HR:Hid (ovC C = { X with p:=2,ct:=0,ov:=true }):=by show _=_;rw[eX];rfl
 have HHO:Hid (pH C.ho (ev3 9 0 0)=X.ho):=by show _=_;rw[eX]
 rw[HHO.out] at HV3
 clear eX HHO HV2;have y0:=HV3.out.p.cell 0 (I J X.p) rfl
 have y1:=HV3.out.p.cell 1 (I J X.ct) rfl
 have y4:=HV3.out.p.cell 4 (bO X.ov) rfl
 have z0:=HV3.out.p.free 0
 have z1:=HV3.out.p.free 1
 have z4:=HV3.out.p.free 4
 have HV9:Hid (vS w B T0 T1 T2 { X with p:=2,ct:=0,ov:=true } s2 X.ho s2 (World.setCell (World.setCell (World.setCell w3 ⟨w.heap.size,0,none⟩ (I J 2)) ⟨w.heap.size,1,none⟩ (I J 0)) ⟨w.heap.size,4,none⟩ (bO true))):=(((HV3.out.set 0 (I J 2) { X with p:=2 } rfl).set 1 (I J 0) { X with p:=2,ct:=0 } rfl).set 4 (bO true) { X with p:=2,ct:=0,ov:=true } rfl)
 go_upto_region 5 with fail
 generalize (World.setCell (World.setCell (World.setCell w3 ⟨w.heap.size,0,none⟩ (I J 2)) ⟨w.heap.size,1,none⟩ (I J 0)) ⟨w.heap.size,4,none⟩ (bO true))=w9 at *;go_wp2_with (first | (refine lq41 HV9.out.p.load ?_) | (refine sq41 (cs:=(coL { X with p:=2,ct:=0,ov:=true } s2)) HV9.out.r ?_;generalize hW11:World.setCells _ (w.heap.size+1) 0 _=w11;have R11:=hidR hW11 (HV9.out.ret { X with p:=2,ct:=0,ov:=true } s2);clear hW11))
 have hL:=rq41 R11.out.1
 refine bC Tryz.results111 hL ?_
 rw[HR.out]
 exact⟨s2,rfl,R11.out.2⟩
def ofI (A:Co):Co:=if A.te=256∧A.p≠7 then offC A else A
theorem l4off_c (w:World) (C:Co) (s:Sl) (B T0 T1 T2:Nat) (bit:Int) (hc:0≤C.ct∧C.ct≤200) (hn:0≤C.rn∧C.rn<128) (h:spS B T0 T1 T2 C.ho s w) :
  Calls Tp 119 #[aG (coL C s).toArray,I J bit] w fun o w'=>∃ s',o = rT (aG (coL (ofC C bit) s').toArray)∧spS B T0 T1 T2 (ofC C bit).ho s' w'∧k41 T2 w w'∧Below B w w':=by
 have H0:Hid (vS w B T0 T1 T2 C s C.ho s ((w.alloc (.cells (coL C s).toArray 41)).alloc (.cells zY.toArray 41))):=vS.new h
 have er:(C.rn == 128)=false:=by simp;omega
 have hw:=wrap_ct hc
 have hw2:=wrap_ct (n:=C.rn) (by omega)
 clear h hc hn;have y1:=H0.out.p.cell 1 (I J C.ct) rfl
 have y7:=H0.out.p.cell 7 (bO C.ak) rfl
 have y8:=H0.out.p.cell 8 (I J C.rn) rfl
 have z1:=H0.out.p.free 1
 have z8:=H0.out.p.free 8
 obtain⟨ak,eak⟩ : ∃ b,C.ak=b:=⟨_,rfl⟩
 rw[eak] at y7
 have fak:Hid (ak=true↔C.ak=true):=by show _↔_;rw[eak]
 clear eak;obtain⟨b,e,_,fb⟩:=eqB bit 0
 obtain⟨c,e2,_,fc⟩:=eqB (C.ct+1) 11
 obtain⟨d,e3,_,fd⟩:=eqB (C.rn+1) 128
 generalize hW0:((w.alloc (.cells (coL C s).toArray 41)).alloc (.cells zY.toArray 41))=W0 at *;go_enter Tryz.func119,Tryz.ntmps119
 cases ak
 ·have HR:Hid (ofC C bit=C):=by show _=_;unfold ofC;rw[if_neg (by simpa using fak.out)]
  have HV9:Hid (vS w B T0 T1 T2 C s C.ho s W0):=H0.out
  go_upto_region 2 with fail
  go_wp2_with (first | (refine lq41 HV9.out.p.load ?_) | (refine sq41 (cs:=(coL C s)) HV9.out.r ?_;generalize hW11:World.setCells _ (w.heap.size+1) 0 _=w11;have R11:=hidR hW11 (HV9.out.ret C s);clear hW11))
  have hL:=rq41 R11.out.1
  refine bC Tryz.results119 hL ?_
  rw[HR.out]
  exact⟨s,rfl,R11.out.2⟩
 ·cases b
  ·cases c
   ·have HR:Hid (ofC C bit = { C with ct:=C.ct+1 }):=by show _=_;unfold ofC;rw[if_pos (by simpa using fak.out),if_neg (by simpa using fb.out),if_neg (by simpa using fc.out)]
    have HV9:Hid (vS w B T0 T1 T2 { C with ct:=(C.ct+1) } s C.ho s (World.setCell W0 ⟨w.heap.size,1,none⟩ (I J (C.ct+1)))):=(H0.out.set 1 (I J (C.ct+1)) { C with ct:=(C.ct+1) } rfl)
    go_upto_region 12 with fail
    generalize (World.setCell W0 ⟨w.heap.size,1,none⟩ (I J (C.ct+1)))=w9 at *;go_wp2_with (first | (refine lq41 HV9.out.p.load ?_) | (refine sq41 (cs:=(coL { C with ct:=(C.ct+1) } s)) HV9.out.r ?_;generalize hW11:World.setCells _ (w.heap.size+1) 0 _=w11;have R11:=hidR hW11 (HV9.out.ret { C with ct:=(C.ct+1) } s);clear hW11))
    have hL:=rq41 R11.out.1
    refine bC Tryz.results119 hL ?_
    rw[HR.out]
    exact⟨s,rfl,R11.out.2⟩
   ·cases d
    ·have HR:Hid (ofC C bit = { C with ct:=0,rn:=C.rn+1 }):=by show _=_;unfold ofC;rw[if_pos (by simpa using fak.out),if_neg (by simpa using fb.out),if_pos (by simpa using fc.out),if_neg (by simpa using fd.out)]
     have HV9:Hid (vS w B T0 T1 T2 { C with ct:=0,rn:=(C.rn+1) } s C.ho s (World.setCell (World.setCell (World.setCell W0 ⟨w.heap.size,1,none⟩ (I J (C.ct+1))) ⟨w.heap.size,1,none⟩ (I J 0)) ⟨w.heap.size,8,none⟩ (I J (C.rn+1)))):=(((H0.out.set 1 (I J (C.ct+1)) { C with ct:=(C.ct+1) } rfl).set 1 (I J 0) { C with ct:=0 } rfl).set 8 (I J (C.rn+1)) { C with ct:=0,rn:=(C.rn+1) } rfl)
     go_upto_region 12 with fail
     generalize (World.setCell (World.setCell (World.setCell W0 ⟨w.heap.size,1,none⟩ (I J (C.ct+1))) ⟨w.heap.size,1,none⟩ (I J 0)) ⟨w.heap.size,8,none⟩ (I J (C.rn+1)))=w9 at *;go_wp2_with (first | (refine lq41 HV9.out.p.load ?_) | (refine sq41 (cs:=(coL { C with ct:=0,rn:=(C.rn+1) } s)) HV9.out.r ?_;generalize hW11:World.setCells _ (w.heap.size+1) 0 _=w11;have R11:=hidR hW11 (HV9.out.ret { C with ct:=0,rn:=(C.rn+1) } s);clear hW11))
     have hL:=rq41 R11.out.1
     refine bC Tryz.results119 hL ?_
     rw[HR.out]
     exact⟨s,rfl,R11.out.2⟩
    ·have HR:Hid (ofC C bit=bkC C):=by show _=_;unfold ofC;rw[if_pos (by simpa using fak.out),if_neg (by simpa using fb.out),if_pos (by simpa using fc.out),if_pos (by simpa using fd.out)]
     have HV9:Hid (vS w B T0 T1 T2 { C with ct:=0,rn:=(C.rn+1) } s C.ho s (World.setCell (World.setCell (World.setCell W0 ⟨w.heap.size,1,none⟩ (I J (C.ct+1))) ⟨w.heap.size,1,none⟩ (I J 0)) ⟨w.heap.size,8,none⟩ (I J (C.rn+1)))):=(((H0.out.set 1 (I J (C.ct+1)) { C with ct:=(C.ct+1) } rfl).set 1 (I J 0) { C with ct:=0 } rfl).set 8 (I J (C.rn+1)) { C with ct:=0,rn:=(C.rn+1) } rfl)
     go_upto_region 11 with fail
     generalize (World.setCell (World.setCell (World.setCell W0 ⟨w.heap.size,1,none⟩ (I J (C.ct+1))) ⟨w.heap.size,1,none⟩ (I J 0)) ⟨w.heap.size,8,none⟩ (I J (C.rn+1)))=w9 at *;have q11:=HV9.out.p.cell 11 (I J C.ho.c0) rfl
     have q12:=HV9.out.p.cell 12 (I J C.ho.c1) rfl
     have q13:=HV9.out.p.cell 13 (I J C.ho.c2) rfl
     have q14:=HV9.out.p.cell 14 (I J C.ho.c3) rfl
     have q15:=HV9.out.p.cell 15 (sL s.a1 s.n1 s.k1) rfl
     have q16:=HV9.out.p.cell 16 (sL s.a2 s.n2 s.k2) rfl
     have q17:=HV9.out.p.cell 17 (sL s.a3 s.n3 s.k3) rfl
     have q18:=HV9.out.p.cell 18 (sL s.a4 s.n4 s.k4) rfl
     have q19:=HV9.out.p.cell 19 (I J C.ho.lo) rfl
     have q20:=HV9.out.p.cell 20 (I J C.ho.st) rfl
     go_wp2_with (first | (refine sq41 (cs:=(coL (bkC C) s)) HV9.out.r ?_;generalize hW11:World.setCells _ (w.heap.size+1) 0 _=w11;have R11:=hidR hW11 (HV9.out.ret (bkC C) s);clear hW11))
     have hL:=rq41 R11.out.1
     refine bC Tryz.results119 hL ?_
     rw[HR.out]
     exact⟨s,rfl,R11.out.2⟩
  ·have HR:Hid (ofC C bit = { C with ct:=0 }):=by show _=_;unfold ofC;rw[if_pos (by simpa using fak.out),if_pos (by simpa using fb.out)]
   have HV9:Hid (vS w B T0 T1 T2 { C with ct:=0 } s C.ho s (World.setCell W0 ⟨w.heap.size,1,none⟩ (I J 0))):=(H0.out.set 1 (I J 0) { C with ct:=0 } rfl)
   go_upto_region 5 with fail
   generalize (World.setCell W0 ⟨w.heap.size,1,none⟩ (I J 0))=w9 at *;go_wp2_with (first | (refine lq41 HV9.out.p.load ?_) | (refine sq41 (cs:=(coL { C with ct:=0 } s)) HV9.out.r ?_;generalize hW11:World.setCells _ (w.heap.size+1) 0 _=w11;have R11:=hidR hW11 (HV9.out.ret { C with ct:=0 } s);clear hW11))
   have hL:=rq41 R11.out.1
   refine bC Tryz.results119 hL ?_
   rw[HR.out]
   exact⟨s,rfl,R11.out.2⟩
variable {A X:Co} {bit:Int}
theorem addS_two (Y:Co) (n:Int):((addC Y Y.tx n).te=256∧addS Y n=offC (addC Y Y.tx n))∨((addC Y Y.tx n).te≠256∧addS Y n=addC Y Y.tx n):=by
 unfold addS
 split
 ·rename_i e;exact Or.inl ⟨e,rfl⟩
 ·rename_i e;exact Or.inr ⟨e,rfl⟩
theorem addC_p (Y:Co) (b:Bool) (n:Int):(addC Y b n).p=Y.p:=by unfold addC;split <;> rfl
theorem ofI_no (h:A.te≠256):ofI A=A:=if_neg fun x=>h x.1
theorem ofI_yes (h:A.te=256) (hp:A.p≠7):ofI A=offC A:=if_pos ⟨h,hp⟩
theorem wfX_te (X:Co) (bit:Int):(wfX X bit).te=X.te∧(wfX X bit).re=X.re∧(wfX X bit).ho=X.ho:=by unfold wfX;split <;> (try split) <;> exact⟨rfl,rfl,rfl⟩
theorem wfX_p (X:Co) (bit:Int):(wfX X bit).p=3∨(wfX X bit).p=X.p:=by unfold wfX;split <;> (try split) <;> first | exact Or.inl rfl | exact Or.inr rfl
theorem offC_eq {A':Co} (h:A.te=A'.te∧A.re=A'.re∧A.ho=A'.ho):offC A=offC A':=by unfold offC;rw[h.1,h.2.1,h.2.2]
theorem wf_off (h:X.te=256) (hp:X.p≠7):offC X=ofI (wfX X bit):=by
 have h1:=wfX_te X bit
 rw[ofI_yes (by rw[h1.1];exact h) (by rcases wfX_p X bit with e | e <;> rw[e];decide;exact hp)]
 exact (offC_eq h1).symm
theorem addS_7 {Y:Co} {n:Int} (hp:Y.p≠7):(addS Y n).p=7↔(addC Y Y.tx n).te=256:=by
 rcases addS_two Y n with⟨e1,e2⟩|⟨e1,e2⟩
 ·rw[e2];exact⟨fun _=>e1,fun _=>rfl⟩
 ·rw[e2,addC_p];exact⟨fun x=>absurd x hp,fun x=>absurd x e1⟩
theorem wfX_one (h:¬ (0<X.ct∧bit=X.lv)) (hc:0≤X.ct):wfX X bit = { X with ct:=1,lv:=bit }:=by
 unfold wfX
 by_cases e:bit=X.lv
 ·have e0:X.ct=0:=by have:¬ 0<X.ct:=fun x=>h ⟨x,e⟩;omega
  rw[if_pos e,e0]
  rfl
 ·rw[if_neg e]
theorem l4weak_c (w:World) (C:Co) (s:Sl) (B T0 T1 T2:Nat) (bit:Int) (hc:0≤C.ct∧C.ct≤200) (ht:0≤C.te∧C.te<256) (hr:0≤C.re∧C.re≤255) (hp:C.p≠7) (h:spS B T0 T1 T2 C.ho s w) :
  Calls Tp 116 #[aG (coL C s).toArray,I J bit] w fun o w'=>∃ s',o = rT (aG (coL (ofI (wfX (wfO C bit) bit)) s').toArray)∧spS B T0 T1 T2 (ofI (wfX (wfO C bit) bit)).ho s' w'∧k41 T2 w w'∧Below B w w':=by
 have H0:Hid (vS w B T0 T1 T2 C s C.ho s ((w.alloc (.cells (coL C s).toArray 41)).alloc (.cells zY.toArray 41))):=vS.new h
 have HAD:Hid (∀ W,Calls Tp 103 #[aG (coL { C with ow:=false } s).toArray,I J 8] W fun o w'=>o = rT (aG (coL (addS { C with ow:=false } 8) s).toArray)∧Below W.heap.size W w'):=fun W=>l4add_any W { C with ow:=false } s 8 (by decide) ht hr
 have HC:=hidX (And.intro hc (And.intro ht hp))
 clear h hc ht hr hp;have y5:=H0.out.p.cell 5 (bO C.ow) rfl
 have z5:=H0.out.p.free 5
 obtain⟨ow,eow⟩ : ∃ b,C.ow=b:=⟨_,rfl⟩
 rw[eow] at y5
 have HOW:=hidX eow
 clear eow;obtain⟨b,e,_,fb⟩:=eqB bit 0
 generalize hW0:((w.alloc (.cells (coL C s).toArray 41)).alloc (.cells zY.toArray 41))=W0 at *;go_enter Tryz.func116,Tryz.ntmps116
 go_upto_region 1 with fail
 try rw[hW0]
 go_cut [10] (fun x wx=>x = bO (ow && b)∧wx=W0)
 case first=>
  cases ow <;> cases b <;> (
   go_wp2_with fail;go_meet
   case rel=>exact⟨rfl,rfl⟩)
 case rest=>
 obtain⟨rfl,hw⟩:=hcut
 have hw:=hw.symm
 subst hw;obtain⟨c,ec⟩ : ∃ c,(ow && b)=c:=⟨_,rfl⟩
 rw[ec]
 have HE:Hid (wfO C bit=if c=true then addC { C with ow:=false } C.tx 8 else C):=by
  have hc:(C.ow=true∧bit=0)↔c=true:=by rw[← ec,HOW.out,← fb.out];cases ow <;> cases b <;> simp
  show _=_
  unfold wfO
  simp only[hc]
 clear ec e fb HOW hW0;go_upto_if 10 with fail
 go_cut [] (fun wx=>Hid (vS w B T0 T1 T2 (wfO C bit) s (wfO C bit).ho s wx)∧Hid ((wfO C bit).te≠256))
 case first=>
  cases c
  ·go_wp2_with fail;go_meet
   case rel=>rw[HE.out];exact⟨H0.out,by have:=HC.out.2.1.2;exact fun x=>by rw[show (if false=true then addC { C with ow:=false } C.tx 8 else C)=C from rfl] at x;omega⟩
  ·have HV1:Hid (vS w B T0 T1 T2 { C with ow:=false } s C.ho s (World.setCell W0 ⟨w.heap.size,5,none⟩ (bO false))):=(H0.out.set 5 (bO false) { C with ow:=false } rfl)
   go_upto_region 3 with fail
   generalize (World.setCell W0 ⟨w.heap.size,5,none⟩ (bO false))=w1 at *;go_wp2_with (first | (refine lq41 HV1.out.p.load ?_))
   refine (HAD.out _).mono ?_
   rintro o w8 ⟨rfl,hb8⟩;have HV8:Hid (vS w B T0 T1 T2 { C with ow:=false } s C.ho s w8):=HV1.out.below hb8
   clear hb8 HV1;go_upto_region 4 with (first | (refine sq41 HV8.out.p ?_;generalize hW9:World.setCells _ w.heap.size 0 _=w9;have HV9:=hidS hW9 (HV8.out.put (addS { C with ow:=false } 8) s);clear hW9))
   simp only[Act.put]
   have HX7:Hid ((addS { C with ow:=false } 8).p=7↔(addC { C with ow:=false } C.tx 8).te=256):=addS_7 HC.out.2.2
   have HX2:=hidX (addS_two { C with ow:=false } 8)
   have HXh:Hid ((addS { C with ow:=false } 8).ho=C.ho):=addS_ho { C with ow:=false } 8
   obtain⟨X,eX⟩ : ∃ X,addS { C with ow:=false } 8=X:=⟨_,rfl⟩
   rw[eX] at HV9 HX7 HX2 HXh
   clear eX HV8 HAD;have y0:=HV9.out.p.cell 0 (I J X.p) rfl
   obtain⟨p7,e7,_,f7⟩:=eqB X.p 7
   cases p7
   ·go_wp2_with fail;go_meet
    case rel=>
     have n7:¬ (addC { C with ow:=false } C.tx 8).te=256:=fun x=>by have:=f7.out.2 (HX7.out.2 x);cases this
     have eX:X=addC { C with ow:=false } C.tx 8:=by rcases HX2.out with⟨a,_⟩ | ⟨_,a⟩;exact absurd a n7;exact a
     rw[HE.out]
     refine⟨?_,n7⟩
     show vS w B T0 T1 T2 (addC { C with ow:=false } C.tx 8) s (addC { C with ow:=false } C.tx 8).ho s _
     rw[← eX,HXh.out]
     exact HV9.out
   ·have HR:Hid (X=ofI (wfX (wfO C bit) bit)):=by
     have n7:(addC { C with ow:=false } C.tx 8).te=256:=HX7.out.1 (f7.out.1 rfl)
     have eX:X=offC (addC { C with ow:=false } C.tx 8):=by rcases HX2.out with⟨_,a⟩ | ⟨a,_⟩;exact a;exact absurd n7 a
     show _=_
     rw[eX,HE.out]
     exact wf_off n7 (by show (addC { C with ow:=false } C.tx 8).p≠7;rw[addC_p];exact HC.out.2.2)
    rw[← HXh.out] at HV9
    go_upto_region 5 with fail
    go_wp2_with (first | (refine lq41 HV9.out.p.load ?_) | (refine sq41 HV9.out.r ?_;generalize hW11:World.setCells _ (w.heap.size+1) 0 _=w11;have R11:=hidR hW11 (HV9.out.ret X s);clear hW11))
    have hL:=rq41 R11.out.1
    refine bC Tryz.results116 hL ?_
    rw[← HR.out]
    exact⟨s,rfl,R11.out.2⟩
 case rest=>
 have HCX:Hid (0≤(wfO C bit).ct∧(wfO C bit).ct≤200):=by rw[wfO_ct];exact HC.out.1
 have HOF:Hid (ofI (wfX (wfO C bit) bit)=wfX (wfO C bit) bit):=ofI_no (by rw[(wfX_te _ _).1];exact hcut.2.out)
 have hct:=hcut.1
 obtain⟨X,eX⟩ : ∃ X,wfO C bit=X:=⟨_,rfl⟩
 have HEX:=hidX eX
 rw[eX] at hct HCX
 clear hcut eX HE HAD HC H0 y5 z5;have H0:=hct
 clear hct;have hw:=wrap_ct HCX.out
 have y0:=H0.out.p.cell 0 (I J X.p) rfl
 have y1:=H0.out.p.cell 1 (I J X.ct) rfl
 have y2:=H0.out.p.cell 2 (I J X.lv) rfl
 have y3:=H0.out.p.cell 3 (bO X.wk) rfl
 have y5:=H0.out.p.cell 5 (bO X.ow) rfl
 have z0:=H0.out.p.free 0
 have z1:=H0.out.p.free 1
 have z2:=H0.out.p.free 2
 have z3:=H0.out.p.free 3
 have z5:=H0.out.p.free 5
 obtain⟨c0,e0,f0⟩:=ltB 0 X.ct
 obtain⟨bl,el,_,fl⟩:=eqB bit X.lv
 obtain⟨d,ed,_,fd⟩:=eqB (X.ct+1) 6
 go_upto_region 6 with fail
 go_cut [26] (fun x wx=>x = bO (c0 && bl)∧wx=wc)
 case first=>
  cases c0 <;> cases bl <;> (
   go_wp2_with fail;go_meet
   case rel=>exact⟨rfl,rfl⟩)
 case rest=>
 obtain⟨rfl,hw1⟩:=hcut
 have hw1:=hw1.symm
 subst hw1;obtain⟨m,em⟩ : ∃ m,(c0 && bl)=m:=⟨_,rfl⟩
 rw[em]
 have fm:Hid (m=true↔(0<X.ct∧bit=X.lv)):=by show _↔_;rw[← em,← f0.out,← fl.out];cases c0 <;> cases bl <;> simp
 clear em e0 el f0 fl;cases m
 ·have HR:Hid (wfX X bit = { X with ct:=1,lv:=bit }):=wfX_one (by simpa using fm.out) HCX.out.1
  have HV9:Hid (vS w B T0 T1 T2 { X with ct:=1,lv:=bit } s X.ho s (World.setCell (World.setCell wc ⟨w.heap.size,1,none⟩ (I J 1)) ⟨w.heap.size,2,none⟩ (I J bit))):=((H0.out.set 1 (I J 1) { X with ct:=1 } rfl).set 2 (I J bit) { X with ct:=1,lv:=bit } rfl)
  go_upto_region 16 with fail
  generalize (World.setCell (World.setCell wc ⟨w.heap.size,1,none⟩ (I J 1)) ⟨w.heap.size,2,none⟩ (I J bit))=w9 at *;go_wp2_with (first | (refine lq41 HV9.out.p.load ?_) | (refine sq41 HV9.out.r ?_;generalize hW11:World.setCells _ (w.heap.size+1) 0 _=w11;have R11:=hidR hW11 (HV9.out.ret { X with ct:=1,lv:=bit } s);clear hW11))
  have hL:=rq41 R11.out.1
  refine bC Tryz.results116 hL ?_
  rw[HOF.out,HEX.out,HR.out]
  exact⟨s,rfl,R11.out.2⟩
 ·cases d
  ·have HR:Hid (wfX X bit = { X with ct:=X.ct+1,lv:=bit }):=by show _=_;unfold wfX;rw[if_pos (fm.out.1 rfl).2,if_neg (by simpa using fd.out)]
   have HV9:Hid (vS w B T0 T1 T2 { X with ct:=(X.ct+1),lv:=bit } s X.ho s (World.setCell (World.setCell wc ⟨w.heap.size,1,none⟩ (I J (X.ct+1))) ⟨w.heap.size,2,none⟩ (I J bit))):=((H0.out.set 1 (I J (X.ct+1)) { X with ct:=(X.ct+1) } rfl).set 2 (I J bit) { X with ct:=(X.ct+1),lv:=bit } rfl)
   go_upto_region 16 with fail
   generalize (World.setCell (World.setCell wc ⟨w.heap.size,1,none⟩ (I J (X.ct+1))) ⟨w.heap.size,2,none⟩ (I J bit))=w9 at *;go_wp2_with (first | (refine lq41 HV9.out.p.load ?_) | (refine sq41 HV9.out.r ?_;generalize hW11:World.setCells _ (w.heap.size+1) 0 _=w11;have R11:=hidR hW11 (HV9.out.ret { X with ct:=(X.ct+1),lv:=bit } s);clear hW11))
   have hL:=rq41 R11.out.1
   refine bC Tryz.results116 hL ?_
   rw[HOF.out,HEX.out,HR.out]
   exact⟨s,rfl,R11.out.2⟩
  ·have HR:Hid (wfX X bit = { X with p:=3,ct:=0,lv:=0,wk:=false,ow:=false }):=by show _=_;unfold wfX;rw[if_pos (fm.out.1 rfl).2,if_pos (by simpa using fd.out)]
   have HV9:Hid (vS w B T0 T1 T2 { X with p:=3,ct:=0,lv:=0,wk:=false,ow:=false } s X.ho s (World.setCell (World.setCell (World.setCell (World.setCell (World.setCell (World.setCell (World.setCell wc ⟨w.heap.size,1,none⟩ (I J (X.ct+1))) ⟨w.heap.size,2,none⟩ (I J bit)) ⟨w.heap.size,0,none⟩ (I J 3)) ⟨w.heap.size,1,none⟩ (I J 0)) ⟨w.heap.size,2,none⟩ (I J 0)) ⟨w.heap.size,3,none⟩ (bO false)) ⟨w.heap.size,5,none⟩ (bO false))):=(((((((H0.out.set 1 (I J (X.ct+1)) { X with ct:=(X.ct+1) } rfl).set 2 (I J bit) { X with ct:=(X.ct+1),lv:=bit } rfl).set 0 (I J 3) { X with ct:=(X.ct+1),lv:=bit,p:=3 } rfl).set 1 (I J 0) { X with lv:=bit,p:=3,ct:=0 } rfl).set 2 (I J 0) { X with p:=3,ct:=0,lv:=0 } rfl).set 3 (bO false) { X with p:=3,ct:=0,lv:=0,wk:=false } rfl).set 5 (bO false) { X with p:=3,ct:=0,lv:=0,wk:=false,ow:=false } rfl)
   go_upto_region 16 with fail
   generalize (World.setCell (World.setCell (World.setCell (World.setCell (World.setCell (World.setCell (World.setCell wc ⟨w.heap.size,1,none⟩ (I J (X.ct+1))) ⟨w.heap.size,2,none⟩ (I J bit)) ⟨w.heap.size,0,none⟩ (I J 3)) ⟨w.heap.size,1,none⟩ (I J 0)) ⟨w.heap.size,2,none⟩ (I J 0)) ⟨w.heap.size,3,none⟩ (bO false)) ⟨w.heap.size,5,none⟩ (bO false))=w9 at *;go_wp2_with (first | (refine lq41 HV9.out.p.load ?_) | (refine sq41 HV9.out.r ?_;generalize hW11:World.setCells _ (w.heap.size+1) 0 _=w11;have R11:=hidR hW11 (HV9.out.ret { X with p:=3,ct:=0,lv:=0,wk:=false,ow:=false } s);clear hW11))
   have hL:=rq41 R11.out.1
   refine bC Tryz.results116 hL ?_
   rw[HOF.out,HEX.out,HR.out]
   exact⟨s,rfl,R11.out.2⟩
end Go.Proofs.YtkfcfigbgmbaiaaGreat
