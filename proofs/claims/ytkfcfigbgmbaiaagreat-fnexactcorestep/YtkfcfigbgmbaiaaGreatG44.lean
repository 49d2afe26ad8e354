import Derived.Test.YtkfcfigbgmbaiaaGreatG43
import Derived.Deep.DeepCutAuto
import Derived.Deep.RegionWith
import Derived.Test.YtkfcfigbgmbaiaaGreatG25
import Derived.Test.YtkfcfigbgmbaiaaGreatG26
namespace Go.Proofs.YtkfcfigbgmbaiaaGreat
open Go.RowKit
set_option linter.unusedVariables false
set_option maxHeartbeats 16000000
variable {w0 : World} {M : Nat} {G : Lg} {f1 f3 nm : Nat} {C : Co} {W : World}
theorem mx.off (h:mx w0 M G f1 f3 nm C W):mx w0 M G f1 f3 nm (offC C) (W.setCells M 3 [.int .i64 7,.int .i64 0,.int .i64 0,.bool false,.bool false,.bool false,.bool false,.bool false,.int .i64 0]):=by obtain⟨_,_,h⟩:=h;exact⟨_,_,h.moment⟩
def ovC (C:Co):Co:={ C with p:=2,ct:=0,ov:=true,ho:=postHo C.ho (ev3 9 0 0) }
set_option maxRecDepth 20000 in
theorem overload_any (h:mx w0 M G f1 f3 nm C W) :
  Calls Tryz.prog 115 #[.pointer (some ⟨M,0,none⟩)] W fun o w'=>o = .returned (.tuple #[])∧mx w0 M G f1 f3 nm (ovC C) w':=by
 have H0:Hid (mx w0 M G f1 f3 nm C W):=h
 have H3:Hid (mx w0 M G f1 f3 nm { C with p:=2,ct:=0,ov:=true } (World.setCell (World.setCell (World.setCell W ⟨M,3,none⟩ (.int .i64 2)) ⟨M,4,none⟩ (.int .i64 0)) ⟨M,7,none⟩ (.bool true))):=(((H0.out.set 3 (.int .i64 2) { C with p:=2 } rfl rfl).set 4 (.int .i64 0) { C with p:=2,ct:=0 } rfl rfl).set 7 (.bool true) { C with p:=2,ct:=0,ov:=true } rfl rfl)
 have y3:=h.m.cell 3 (.int .i64 C.p) rfl
 have y4:=h.m.cell 4 (.int .i64 C.ct) rfl
 have y7:=h.m.cell 7 (.bool C.ov) rfl
 have z3:=h.m.free 3
 have z4:=h.m.free 4
 have z7:=h.m.free 7
 have y0:=h.m.cell 0 (.pointer (some ⟨G.P,0,none⟩)) rfl
 clear h;go_enter Tryz.func115,Tryz.ntmps115
 go_wp2_with fail;refine (H3.out.post 9 0 0).mono ?_
 rintro o w1 ⟨rfl,h1⟩;have H1:Hid (mx w0 M G f1 f3 nm (ovC C) w1):=h1
 clear h1 y0 y3 y4 y7 z3 z4 z7 H3 H0;go_wp2_with fail;first | go_end0 | (try simp only[Exit.inBlock,Exit.then]);refine bodyPost_ret (results_none rfl _ _ _) rfl ?_
 exact⟨rfl,H1.out⟩
def idC (C:Co) (bit:Int):Co:=if bit=0 then { C with p:=1 } else C
set_option maxRecDepth 20000 in
theorem idle_any (h:mx w0 M G f1 f3 nm C W) (bit:Int) :
  Calls Tryz.prog 183 #[.pointer (some ⟨M,0,none⟩),.int .i64 bit] W fun o w'=>o = .returned (.tuple #[])∧mx w0 M G f1 f3 nm (idC C bit) w':=by
 have H0:Hid (mx w0 M G f1 f3 nm C W):=h
 have y3:=h.m.cell 3 (.int .i64 C.p) rfl
 have z3:=h.m.free 3
 clear h;obtain⟨b,e,_,fb⟩:=eqB bit 0
 cases b
 ·have HR:Hid (idC C bit=C):=if_neg (fun x=>by have:=fb.out.2 x;cases this)
  go_enter Tryz.func183,Tryz.ntmps183
  go_wp2_with fail;first | go_end0 | (try simp only[Exit.inBlock,Exit.then]);refine bodyPost_ret (results_none rfl _ _ _) rfl ?_
  exact⟨rfl,by rw[HR.out];exact H0.out⟩
 ·have HR:Hid (idC C bit = { C with p:=1 }):=if_pos (fb.out.1 rfl)
  have H3:Hid (mx w0 M G f1 f3 nm { C with p:=1 } (World.setCell W ⟨M,3,none⟩ (.int .i64 1))):=(H0.out.set 3 (.int .i64 1) { C with p:=1 } rfl rfl)
  go_enter Tryz.func183,Tryz.ntmps183
  go_wp2_with fail;first | go_end0 | (try simp only[Exit.inBlock,Exit.then]);refine bodyPost_ret (results_none rfl _ _ _) rfl ?_
  exact⟨rfl,by rw[HR.out];exact H3.out⟩
def suC (C:Co) (bit:Int):Co:=if bit=0 then { C with p:=1,ct:=0,tx:=false } else if C.ct+1=8 then { C with p:=0,ct:=0,tx:=false } else { C with ct:=C.ct+1 }
theorem wrap_ct {n:Int} (h:0≤n∧n≤200):IntKind.i64.wrap (n+1)=n+1:=by rw[IntKind.wrap_i64];omega
set_option maxRecDepth 20000 in
theorem suspend_any (h:mx w0 M G f1 f3 nm C W) (bit:Int) (hc:0≤C.ct∧C.ct≤200) :
  Calls Tryz.prog 189 #[.pointer (some ⟨M,0,none⟩),.int .i64 bit] W fun o w'=>o = .returned (.tuple #[])∧mx w0 M G f1 f3 nm (suC C bit) w':=by
 have H0:Hid (mx w0 M G f1 f3 nm C W):=h
 have y3:=h.m.cell 3 (.int .i64 C.p) rfl
 have y4:=h.m.cell 4 (.int .i64 C.ct) rfl
 have y9:=h.m.cell 9 (.bool C.tx) rfl
 have z3:=h.m.free 3
 have z4:=h.m.free 4
 have z9:=h.m.free 9
 clear h;have hw:=wrap_ct hc
 clear hc;obtain⟨b,e,_,fb⟩:=eqB bit 0
 obtain⟨c,e2,_,fc⟩:=eqB (C.ct+1) 8
 go_enter Tryz.func189,Tryz.ntmps189
 cases b
 ·cases c
  ·have HR:Hid (suC C bit = { C with ct:=C.ct+1 }):=by show _=_;unfold suC;rw[if_neg (by simpa using fb.out),if_neg (by simpa using fc.out)]
   have H3:Hid (mx w0 M G f1 f3 nm { C with ct:=(C.ct+1) } (World.setCell W ⟨M,4,none⟩ (.int .i64 (C.ct+1)))):=(H0.out.set 4 (.int .i64 (C.ct+1)) { C with ct:=(C.ct+1) } rfl rfl)
   go_wp2_with fail;first | go_end0 | (try simp only[Exit.inBlock,Exit.then]);refine bodyPost_ret (results_none rfl _ _ _) rfl ?_
   exact⟨rfl,by rw[HR.out];exact H3.out⟩
  ·have HR:Hid (suC C bit = { C with p:=0,ct:=0,tx:=false }):=by show _=_;unfold suC;rw[if_neg (by simpa using fb.out),if_pos (by simpa using fc.out)]
   have H3:Hid (mx w0 M G f1 f3 nm { C with p:=0,ct:=0,tx:=false } (World.setCell (World.setCell (World.setCell (World.setCell W ⟨M,4,none⟩ (.int .i64 (C.ct+1))) ⟨M,3,none⟩ (.int .i64 0)) ⟨M,4,none⟩ (.int .i64 0)) ⟨M,9,none⟩ (.bool false))):=((((H0.out.set 4 (.int .i64 (C.ct+1)) { C with ct:=(C.ct+1) } rfl rfl).set 3 (.int .i64 0) { C with ct:=(C.ct+1),p:=0 } rfl rfl).set 4 (.int .i64 0) { C with p:=0,ct:=0 } rfl rfl).set 9 (.bool false) { C with p:=0,ct:=0,tx:=false } rfl rfl)
   go_wp2_with fail;first | go_end0 | (try simp only[Exit.inBlock,Exit.then]);refine bodyPost_ret (results_none rfl _ _ _) rfl ?_
   exact⟨rfl,by rw[HR.out];exact H3.out⟩
 ·have HR:Hid (suC C bit = { C with p:=1,ct:=0,tx:=false }):=by show _=_;unfold suC;rw[if_pos (by simpa using fb.out)]
  have H3:Hid (mx w0 M G f1 f3 nm { C with p:=1,ct:=0,tx:=false } (World.setCell (World.setCell (World.setCell (World.setCell W ⟨M,4,none⟩ (.int .i64 (C.ct+1))) ⟨M,3,none⟩ (.int .i64 1)) ⟨M,4,none⟩ (.int .i64 0)) ⟨M,9,none⟩ (.bool false))):=((((H0.out.set 4 (.int .i64 (C.ct+1)) { C with ct:=(C.ct+1) } rfl rfl).set 3 (.int .i64 1) { C with ct:=(C.ct+1),p:=1 } rfl rfl).set 4 (.int .i64 0) { C with p:=1,ct:=0 } rfl rfl).set 9 (.bool false) { C with p:=1,ct:=0,tx:=false } rfl rfl)
  go_wp2_with fail;first | go_end0 | (try simp only[Exit.inBlock,Exit.then]);refine bodyPost_ret (results_none rfl _ _ _) rfl ?_
  exact⟨rfl,by rw[HR.out];exact H3.out⟩
def dlC (C:Co) (bit:Int):Co:=if bit=0 then (if C.ct=7 then ovC C else fltC C 3) else if C.ct+1=8 then { C with p:=5,ct:=0,ov:=false } else { C with ct:=C.ct+1 }
set_option maxRecDepth 20000 in
theorem delim_any (h:mx w0 M G f1 f3 nm C W) (bit:Int) (hc:0≤C.ct∧C.ct≤200) (ht:0≤C.te∧C.te≤256) (hr:0≤C.re∧C.re≤255) (hwf:∀ j (hj:j<C.ho.bx.length),(Lit.int .i64 C.ho.bx[j].y).wf=true) :
  Calls Tryz.prog 187 #[.pointer (some ⟨M,0,none⟩),.int .i64 bit] W fun o w'=>o = .returned (.tuple #[])∧mx w0 M G f1 f3 nm (dlC C bit) w':=by
 have H0:Hid (mx w0 M G f1 f3 nm C W):=h
 have HFL:Hid (∀ k,Calls Tryz.prog 45 #[.pointer (some ⟨M,0,none⟩),.int .i64 k] W fun o w'=>o = .returned (.tuple #[])∧mx w0 M G f1 f3 nm (fltC C k) w'):=fun k=>h.fault k ht hr hwf
 have y3:=h.m.cell 3 (.int .i64 C.p) rfl
 have y4:=h.m.cell 4 (.int .i64 C.ct) rfl
 have y7:=h.m.cell 7 (.bool C.ov) rfl
 have z3:=h.m.free 3
 have z4:=h.m.free 4
 have z7:=h.m.free 7
 clear h ht hr hwf;have hw:=wrap_ct hc
 clear hc;obtain⟨b,e,_,fb⟩:=eqB bit 0
 obtain⟨c,e2,_,fc⟩:=eqB (C.ct+1) 8
 obtain⟨d,e3,_,fd⟩:=eqB C.ct 7
 go_enter Tryz.func187,Tryz.ntmps187
 cases b
 ·cases c
  ·have HR:Hid (dlC C bit = { C with ct:=C.ct+1 }):=by show _=_;unfold dlC;rw[if_neg (by simpa using fb.out),if_neg (by simpa using fc.out)]
   have H3:Hid (mx w0 M G f1 f3 nm { C with ct:=(C.ct+1) } (World.setCell W ⟨M,4,none⟩ (.int .i64 (C.ct+1)))):=(H0.out.set 4 (.int .i64 (C.ct+1)) { C with ct:=(C.ct+1) } rfl rfl)
   go_wp2_with fail;first | go_end0 | (try simp only[Exit.inBlock,Exit.then]);refine bodyPost_ret (results_none rfl _ _ _) rfl ?_
   exact⟨rfl,by rw[HR.out];exact H3.out⟩
  ·have HR:Hid (dlC C bit = { C with p:=5,ct:=0,ov:=false }):=by show _=_;unfold dlC;rw[if_neg (by simpa using fb.out),if_pos (by simpa using fc.out)]
   have H3:Hid (mx w0 M G f1 f3 nm { C with p:=5,ct:=0,ov:=false } (World.setCell (World.setCell (World.setCell (World.setCell W ⟨M,4,none⟩ (.int .i64 (C.ct+1))) ⟨M,3,none⟩ (.int .i64 5)) ⟨M,4,none⟩ (.int .i64 0)) ⟨M,7,none⟩ (.bool false))):=((((H0.out.set 4 (.int .i64 (C.ct+1)) { C with ct:=(C.ct+1) } rfl rfl).set 3 (.int .i64 5) { C with ct:=(C.ct+1),p:=5 } rfl rfl).set 4 (.int .i64 0) { C with p:=5,ct:=0 } rfl rfl).set 7 (.bool false) { C with p:=5,ct:=0,ov:=false } rfl rfl)
   go_wp2_with fail;first | go_end0 | (try simp only[Exit.inBlock,Exit.then]);refine bodyPost_ret (results_none rfl _ _ _) rfl ?_
   exact⟨rfl,by rw[HR.out];exact H3.out⟩
 ·cases d
  ·have HR:Hid (dlC C bit=fltC C 3):=by show _=_;unfold dlC;rw[if_pos (by simpa using fb.out),if_neg (by simpa using fd.out)]
   go_wp2_with fail;refine (HFL.out 3).mono ?_
   rintro o w1 ⟨rfl,h1⟩;have H1:=hidX h1
   clear h1;go_wp2_with fail;first | go_end0 | (try simp only[Exit.inBlock,Exit.then]);refine bodyPost_ret (results_none rfl _ _ _) rfl ?_
   exact⟨rfl,by rw[HR.out];exact H1.out⟩
  ·have HR:Hid (dlC C bit=ovC C):=by show _=_;unfold dlC;rw[if_pos (by simpa using fb.out),if_pos (by simpa using fd.out)]
   go_wp2_with fail;refine (overload_any H0.out).mono ?_
   rintro o w1 ⟨rfl,h1⟩;have H1:=hidX h1
   clear h1;go_wp2_with fail;first | go_end0 | (try simp only[Exit.inBlock,Exit.then]);refine bodyPost_ret (results_none rfl _ _ _) rfl ?_
   exact⟨rfl,by rw[HR.out];exact H1.out⟩
def wfX (X:Co) (bit:Int):Co:=if bit=X.lv then (if X.ct+1=6 then { X with p:=3,ct:=0,lv:=0,wk:=false,ow:=false } else { X with ct:=X.ct+1,lv:=bit }) else { X with ct:=1,lv:=bit }
def wfO (C:Co) (bit:Int):Co:=if C.ow=true∧bit=0 then addC { C with ow:=false } C.tx 8 else C
theorem wfO_ct (C:Co) (bit:Int):(wfO C bit).ct=C.ct:=by unfold wfO addC;split <;> (try split) <;> rfl
set_option maxRecDepth 20000 in
theorem weak_any (h:mx w0 M G f1 f3 nm C W) (bit:Int) (hc:0≤C.ct∧C.ct≤200) (ht:0≤C.te∧C.te≤256) (hr:0≤C.re∧C.re≤255) :
  Calls Tryz.prog 216 #[.pointer (some ⟨M,0,none⟩),.int .i64 bit] W fun o w'=>o = .returned (.tuple #[])∧mx w0 M G f1 f3 nm (wfX (wfO C bit) bit) w':=by
 have H0:Hid (mx w0 M G f1 f3 nm C W):=h
 have HAD:Hid (Calls Tryz.prog 107 #[.pointer (some ⟨M,0,none⟩),.bool C.tx,.int .i64 8] ((World.setCell W ⟨M,8,none⟩ (.bool false))).drew fun o w'=>o = .returned (.tuple #[])∧mx w0 M G f1 f3 nm (addC { C with ow:=false } C.tx 8) w'):=(((H0.out.set 8 (.bool false) { C with ow:=false } rfl rfl)).below (Below.refl _ _).drew).add C.tx 8 (by decide) ht hr
 have HC:Hid (0≤C.ct∧C.ct≤200):=hc
 have y8:=h.m.cell 8 (.bool C.ow) rfl
 have y9:=h.m.cell 9 (.bool C.tx) rfl
 have z8:=h.m.free 8
 clear h ht hr hc;obtain⟨b,e,_,fb⟩:=eqB bit 0
 obtain⟨ow,eow⟩ : ∃ b,C.ow=b:=⟨_,rfl⟩
 rw[eow] at y8
 have HW:Hid (C.ow=ow):=eow
 clear eow;go_enter Tryz.func216,Tryz.ntmps216
 go_upto_region 0 with fail
 go_cut [12] (fun x wx=>x = .bool (ow && b)∧wx=W)
 case first=>
  cases ow <;> cases b <;> (
   go_wp2_with fail;go_meet
   case rel=>exact⟨rfl,rfl⟩)
 case rest=>
 obtain⟨rfl,hw⟩:=hcut
 subst hw;obtain⟨c,ec⟩ : ∃ c,(ow && b)=c:=⟨_,rfl⟩
 rw[ec]
 have HE:Hid (wfO C bit=if c=true then addC { C with ow:=false } C.tx 8 else C):=by
  have hc:(C.ow=true∧bit=0)↔c=true:=by rw[← ec,HW.out,← fb.out];cases ow <;> cases b <;> simp
  show _=_
  unfold wfO
  simp only[hc]
 clear ec e fb HW;go_upto_if 12 with fail
 go_cut [] (fun wx=>Hid (mx w0 M G f1 f3 nm (wfO C bit) wx))
 case first=>
  cases c
  ·go_wp2_with fail;go_meet
   case rel=>rw[HE.out];exact H0.out
  ·go_wp2_with fail;go_region_with (go_at_call 107;refine HAD.out.mono ?_;rintro o w1 ⟨rfl,h1⟩;have H1:=hidX h1;clear h1)
   all_goals (
    go_wp2_with fail;go_meet
    case rel=>rw[HE.out];exact H1.out)
 case rest=>
 obtain⟨X,eX⟩ : ∃ X,wfO C bit=X:=⟨_,rfl⟩
 have HC2:Hid (0≤X.ct∧X.ct≤200):=by rw[← eX,wfO_ct];exact HC.out
 rw[eX] at hcut
 have HEX:Hid (wfO C bit=X):=eX
 clear eX HE HAD H0 HC y8 y9 z8;have H0:=hcut
 clear hcut;have y3:=H0.out.m.cell 3 (.int .i64 X.p) rfl
 have y4:=H0.out.m.cell 4 (.int .i64 X.ct) rfl
 have y5:=H0.out.m.cell 5 (.int .i64 X.lv) rfl
 have y6:=H0.out.m.cell 6 (.bool X.wk) rfl
 have y8:=H0.out.m.cell 8 (.bool X.ow) rfl
 have z3:=H0.out.m.free 3
 have z4:=H0.out.m.free 4
 have z5:=H0.out.m.free 5
 have z6:=H0.out.m.free 6
 have z8:=H0.out.m.free 8
 have hw:=wrap_ct HC2.out
 clear HC2;obtain⟨b,e,n,fb⟩:=eqB bit X.lv
 obtain⟨d,e2,_,fd⟩:=eqB (X.ct+1) 6
 cases b
 ·have HR:Hid (wfX X bit = { X with ct:=1,lv:=bit }):=by show _=_;unfold wfX;rw[if_neg (by simpa using fb.out)]
  have H3:Hid (mx w0 M G f1 f3 nm { X with ct:=1,lv:=bit } (World.setCell (World.setCell (World.setCell wc ⟨M,4,none⟩ (.int .i64 0)) ⟨M,4,none⟩ (.int .i64 1)) ⟨M,5,none⟩ (.int .i64 bit))):=(((H0.out.set 4 (.int .i64 0) { X with ct:=0 } rfl rfl).set 4 (.int .i64 1) { X with ct:=1 } rfl rfl).set 5 (.int .i64 bit) { X with ct:=1,lv:=bit } rfl rfl)
  go_wp2_with fail;first | go_end0 | (try simp only[Exit.inBlock,Exit.then]);refine bodyPost_ret (results_none rfl _ _ _) rfl ?_
  exact⟨rfl,by rw[HEX.out,HR.out];exact H3.out⟩
 ·cases d
  ·have HR:Hid (wfX X bit = { X with ct:=X.ct+1,lv:=bit }):=by show _=_;unfold wfX;rw[if_pos (by simpa using fb.out),if_neg (by simpa using fd.out)]
   have H3:Hid (mx w0 M G f1 f3 nm { X with ct:=(X.ct+1),lv:=bit } (World.setCell (World.setCell wc ⟨M,4,none⟩ (.int .i64 (X.ct+1))) ⟨M,5,none⟩ (.int .i64 bit))):=((H0.out.set 4 (.int .i64 (X.ct+1)) { X with ct:=(X.ct+1) } rfl rfl).set 5 (.int .i64 bit) { X with ct:=(X.ct+1),lv:=bit } rfl rfl)
   go_wp2_with fail;first | go_end0 | (try simp only[Exit.inBlock,Exit.then]);refine bodyPost_ret (results_none rfl _ _ _) rfl ?_
   exact⟨rfl,by rw[HEX.out,HR.out];exact H3.out⟩
  ·have HR:Hid (wfX X bit = { X with p:=3,ct:=0,lv:=0,wk:=false,ow:=false }):=by show _=_;unfold wfX;rw[if_pos (by simpa using fb.out),if_pos (by simpa using fd.out)]
   have H3:Hid (mx w0 M G f1 f3 nm { X with p:=3,ct:=0,lv:=0,wk:=false,ow:=false } (World.setCell (World.setCell (World.setCell (World.setCell (World.setCell (World.setCell (World.setCell wc ⟨M,4,none⟩ (.int .i64 (X.ct+1))) ⟨M,5,none⟩ (.int .i64 bit)) ⟨M,3,none⟩ (.int .i64 3)) ⟨M,4,none⟩ (.int .i64 0)) ⟨M,5,none⟩ (.int .i64 0)) ⟨M,6,none⟩ (.bool false)) ⟨M,8,none⟩ (.bool false))):=(((((((H0.out.set 4 (.int .i64 (X.ct+1)) { X with ct:=(X.ct+1) } rfl rfl).set 5 (.int .i64 bit) { X with ct:=(X.ct+1),lv:=bit } rfl rfl).set 3 (.int .i64 3) { X with ct:=(X.ct+1),lv:=bit,p:=3 } rfl rfl).set 4 (.int .i64 0) { X with lv:=bit,p:=3,ct:=0 } rfl rfl).set 5 (.int .i64 0) { X with p:=3,ct:=0,lv:=0 } rfl rfl).set 6 (.bool false) { X with p:=3,ct:=0,lv:=0,wk:=false } rfl rfl).set 8 (.bool false) { X with p:=3,ct:=0,lv:=0,wk:=false,ow:=false } rfl rfl)
   go_wp2_with fail;first | go_end0 | (try simp only[Exit.inBlock,Exit.then]);refine bodyPost_ret (results_none rfl _ _ _) rfl ?_
   exact⟨rfl,by rw[HEX.out,HR.out];exact H3.out⟩
variable {w0 : World} {M : Nat} {G : Lg} {f1 f3 nm : Nat} {C : Co} {W : World}
def flC (C:Co) (bit:Int):Co:=if C.wk=true then wfX (wfO C bit) bit else if bit=1 then fltC C 1 else if C.ct+1=6 then { C with p:=3,ct:=0 } else { C with ct:=C.ct+1 }
set_option maxRecDepth 20000 in
theorem flagS_any (h:mx w0 M G f1 f3 nm C W) (bit:Int) (hc:0≤C.ct∧C.ct≤200) (ht:0≤C.te∧C.te≤256) (hr:0≤C.re∧C.re≤255) (hwf:∀ j (hj:j<C.ho.bx.length),(Lit.int .i64 C.ho.bx[j].y).wf=true) :
  Calls Tryz.prog 185 #[.pointer (some ⟨M,0,none⟩),.int .i64 bit] W fun o w'=>o = .returned (.tuple #[])∧mx w0 M G f1 f3 nm (flC C bit) w':=by
 have H0:Hid (mx w0 M G f1 f3 nm C W):=h
 have HFL:Hid (∀ k,Calls Tryz.prog 45 #[.pointer (some ⟨M,0,none⟩),.int .i64 k] W fun o w'=>o = .returned (.tuple #[])∧mx w0 M G f1 f3 nm (fltC C k) w'):=fun k=>h.fault k ht hr hwf
 have HWK:Hid (Calls Tryz.prog 216 #[.pointer (some ⟨M,0,none⟩),.int .i64 bit] W fun o w'=>o = .returned (.tuple #[])∧mx w0 M G f1 f3 nm (wfX (wfO C bit) bit) w'):=weak_any h bit hc ht hr
 have y3:=h.m.cell 3 (.int .i64 C.p) rfl
 have y4:=h.m.cell 4 (.int .i64 C.ct) rfl
 have y6:=h.m.cell 6 (.bool C.wk) rfl
 have z3:=h.m.free 3
 have z4:=h.m.free 4
 clear h ht hr hwf;have hw:=wrap_ct hc
 clear hc;obtain⟨wk,ewk⟩ : ∃ b,C.wk=b:=⟨_,rfl⟩
 rw[ewk] at y6
 have fwk:Hid (wk=true↔C.wk=true):=by show _↔_;rw[ewk]
 clear ewk;obtain⟨b,e,_,fb⟩:=eqB bit 1
 obtain⟨c,e2,_,fc⟩:=eqB (C.ct+1) 6
 go_enter Tryz.func185,Tryz.ntmps185
 cases wk
 ·cases b
  ·cases c
   ·have HR:Hid (flC C bit = { C with ct:=C.ct+1 }):=by show _=_;unfold flC;rw[if_neg (by simpa using fwk.out),if_neg (by simpa using fb.out),if_neg (by simpa using fc.out)]
    have H3:Hid (mx w0 M G f1 f3 nm { C with ct:=(C.ct+1) } (World.setCell W ⟨M,4,none⟩ (.int .i64 (C.ct+1)))):=(H0.out.set 4 (.int .i64 (C.ct+1)) { C with ct:=(C.ct+1) } rfl rfl)
    go_wp2_with fail;first | go_end0 | (try simp only[Exit.inBlock,Exit.then]);refine bodyPost_ret (results_none rfl _ _ _) rfl ?_
    exact⟨rfl,by rw[HR.out];exact H3.out⟩
   ·have HR:Hid (flC C bit = { C with p:=3,ct:=0 }):=by show _=_;unfold flC;rw[if_neg (by simpa using fwk.out),if_neg (by simpa using fb.out),if_pos (by simpa using fc.out)]
    have H3:Hid (mx w0 M G f1 f3 nm { C with p:=3,ct:=0 } (World.setCell (World.setCell (World.setCell W ⟨M,4,none⟩ (.int .i64 (C.ct+1))) ⟨M,3,none⟩ (.int .i64 3)) ⟨M,4,none⟩ (.int .i64 0))):=(((H0.out.set 4 (.int .i64 (C.ct+1)) { C with ct:=(C.ct+1) } rfl rfl).set 3 (.int .i64 3) { C with ct:=(C.ct+1),p:=3 } rfl rfl).set 4 (.int .i64 0) { C with p:=3,ct:=0 } rfl rfl)
    go_wp2_with fail;first | go_end0 | (try simp only[Exit.inBlock,Exit.then]);refine bodyPost_ret (results_none rfl _ _ _) rfl ?_
    exact⟨rfl,by rw[HR.out];exact H3.out⟩
  ·have HR:Hid (flC C bit=fltC C 1):=by show _=_;unfold flC;rw[if_neg (by simpa using fwk.out),if_pos (by simpa using fb.out)]
   go_wp2_with fail;refine (HFL.out 1).mono ?_
   rintro o w1 ⟨rfl,h1⟩;have H1:=hidX h1
   clear h1;go_wp2_with fail;first | go_end0 | (try simp only[Exit.inBlock,Exit.then]);refine bodyPost_ret (results_none rfl _ _ _) rfl ?_
   exact⟨rfl,by rw[HR.out];exact H1.out⟩
 ·have HR:Hid (flC C bit=wfX (wfO C bit) bit):=by show _=_;unfold flC;rw[if_pos (by simpa using fwk.out)]
  go_wp2_with fail;refine (HWK.out).mono ?_
  rintro o w1 ⟨rfl,h1⟩;have H1:=hidX h1
  clear h1;go_wp2_with fail;first | go_end0 | (try simp only[Exit.inBlock,Exit.then]);refine bodyPost_ret (results_none rfl _ _ _) rfl ?_
  exact⟨rfl,by rw[HR.out];exact H1.out⟩
def waC (C:Co) (bit:Int):Co:=if bit=1 then { C with p:=4,ct:=1 } else if (C.ct+1=1∧C.tx=false∧C.ov=false)∨C.ct+1=8 then addC { C with ct:=C.ct+1 } C.tx 8 else if C.ct+1=16 then { addC { C with ct:=C.ct+1 } C.tx 8 with ct:=8 } else { C with ct:=C.ct+1 }
set_option maxRecDepth 20000 in
theorem wait_any (h:mx w0 M G f1 f3 nm C W) (bit:Int) (hc:0≤C.ct∧C.ct≤200) (ht:0≤C.te∧C.te≤256) (hr:0≤C.re∧C.re≤255) :
  Calls Tryz.prog 186 #[.pointer (some ⟨M,0,none⟩),.int .i64 bit] W fun o w'=>o = .returned (.tuple #[])∧mx w0 M G f1 f3 nm (waC C bit) w':=by
 have H0:Hid (mx w0 M G f1 f3 nm C W):=h
 have HA0:Hid (∀ b,Calls Tryz.prog 107 #[.pointer (some ⟨M,0,none⟩),.bool b,.int .i64 8] ((World.setCell W ⟨M,4,none⟩ (.int .i64 (C.ct+1)))).drew fun o w'=>o = .returned (.tuple #[])∧mx w0 M G f1 f3 nm (addC { C with ct:=C.ct+1 } b 8) w'):=fun b=>(((H0.out.set 4 (.int .i64 (C.ct+1)) { C with ct:=(C.ct+1) } rfl rfl)).below (Below.refl _ _).drew).add b 8 (by decide) ht hr
 have y3:=h.m.cell 3 (.int .i64 C.p) rfl
 have y4:=h.m.cell 4 (.int .i64 C.ct) rfl
 have y7:=h.m.cell 7 (.bool C.ov) rfl
 have y9:=h.m.cell 9 (.bool C.tx) rfl
 have z3:=h.m.free 3
 have z4:=h.m.free 4
 clear h ht hr;have hw:=wrap_ct hc
 clear hc;obtain⟨tx,etx⟩ : ∃ b,C.tx=b:=⟨_,rfl⟩
 obtain⟨ov,eov⟩ : ∃ b,C.ov=b:=⟨_,rfl⟩
 rw[etx] at y9
 rw[eov] at y7
 obtain⟨b,e,_,fb⟩:=eqB bit 1
 obtain⟨d1,e1,_,f1⟩:=eqB (C.ct+1) 1
 obtain⟨d8,e8,_,f8⟩:=eqB (C.ct+1) 8
 obtain⟨d16,e16,_,f16⟩:=eqB (C.ct+1) 16
 have HQ:Hid (waC C bit=if b=true then { C with p:=4,ct:=1 } else if ((d1 && !tx && !ov) || d8)=true then addC { C with ct:=C.ct+1 } tx 8 else if d16=true then { addC { C with ct:=C.ct+1 } tx 8 with ct:=8 } else { C with ct:=C.ct+1 }):=by
  show _=_
  have h1:(((d1 && !tx && !ov) || d8)=true)↔((C.ct+1=1∧C.tx=false∧C.ov=false)∨C.ct+1=8):=by rw[← f1.out,← f8.out,etx,eov];cases d1 <;> cases tx <;> cases ov <;> cases d8 <;> simp
  unfold waC
  simp only[h1,fb.out,f16.out,etx]
 have HAD:=HA0.out tx
 have HAD:=hidX HAD
 clear HA0 etx eov fb f1 f8 f16;go_enter Tryz.func186,Tryz.ntmps186
 cases b
 ·cases d1
  ·cases d8
   ·cases d16
    ·have HR:Hid (waC C bit = { C with ct:=C.ct+1 }):=HQ.out
     have H3:Hid (mx w0 M G f1 f3 nm { C with ct:=(C.ct+1) } (World.setCell W ⟨M,4,none⟩ (.int .i64 (C.ct+1)))):=(H0.out.set 4 (.int .i64 (C.ct+1)) { C with ct:=(C.ct+1) } rfl rfl)
     go_wp2_with fail;first | go_end0 | (try simp only[Exit.inBlock,Exit.then]);refine bodyPost_ret (results_none rfl _ _ _) rfl ?_
     exact⟨rfl,by rw[HR.out];exact H3.out⟩
    ·have HR:Hid (waC C bit = { addC { C with ct:=C.ct+1 } tx 8 with ct:=8 }):=HQ.out
     go_wp2_with fail;go_region_with (go_at_call 107;refine HAD.out.mono ?_;rintro o w1 ⟨rfl,h1⟩;have H1:=hidX h1;clear h1)
     all_goals (
      have u4:=H1.out.m.cell 4 (.int .i64 (addC { C with ct:=C.ct+1 } tx 8).ct) rfl
      have v4:=H1.out.m.free 4
      have H5:Hid (mx w0 M G f1 f3 nm { addC { C with ct:=C.ct+1 } tx 8 with ct:=8 } (World.setCell w1 ⟨M,4,none⟩ (.int .i64 8))):=H1.out.set 4 (.int .i64 8) _ rfl rfl
      go_wp2_with fail;first | go_end0 | (try simp only[Exit.inBlock,Exit.then]);refine bodyPost_ret (results_none rfl _ _ _) rfl ?_
      exact⟨rfl,by rw[HR.out];exact H5.out⟩)
   ·have HR:Hid (waC C bit=addC { C with ct:=C.ct+1 } tx 8):=HQ.out
    go_wp2_with fail;go_region_with (go_at_call 107;refine HAD.out.mono ?_;rintro o w1 ⟨rfl,h1⟩;have H1:=hidX h1;clear h1)
    all_goals (
     go_wp2_with fail;first | go_end0 | (try simp only[Exit.inBlock,Exit.then]);refine bodyPost_ret (results_none rfl _ _ _) rfl ?_
     exact⟨rfl,by rw[HR.out];exact H1.out⟩)
  ·cases tx
   ·cases ov
    ·have HR:Hid (waC C bit=addC { C with ct:=C.ct+1 } false 8):=HQ.out
     go_wp2_with fail;go_region_with (go_at_call 107;refine HAD.out.mono ?_;rintro o w1 ⟨rfl,h1⟩;have H1:=hidX h1;clear h1)
     all_goals (
      go_wp2_with fail;first | go_end0 | (try simp only[Exit.inBlock,Exit.then]);refine bodyPost_ret (results_none rfl _ _ _) rfl ?_
      exact⟨rfl,by rw[HR.out];exact H1.out⟩)
    ·cases d8
     ·cases d16
      ·have HR:Hid (waC C bit = { C with ct:=C.ct+1 }):=HQ.out
       have H3:Hid (mx w0 M G f1 f3 nm { C with ct:=(C.ct+1) } (World.setCell W ⟨M,4,none⟩ (.int .i64 (C.ct+1)))):=(H0.out.set 4 (.int .i64 (C.ct+1)) { C with ct:=(C.ct+1) } rfl rfl)
       go_wp2_with fail;first | go_end0 | (try simp only[Exit.inBlock,Exit.then]);refine bodyPost_ret (results_none rfl _ _ _) rfl ?_
       exact⟨rfl,by rw[HR.out];exact H3.out⟩
      ·have HR:Hid (waC C bit = { addC { C with ct:=C.ct+1 } false 8 with ct:=8 }):=HQ.out
       go_wp2_with fail;go_region_with (go_at_call 107;refine HAD.out.mono ?_;rintro o w1 ⟨rfl,h1⟩;have H1:=hidX h1;clear h1)
       all_goals (
        have u4:=H1.out.m.cell 4 (.int .i64 (addC { C with ct:=C.ct+1 } false 8).ct) rfl
        have v4:=H1.out.m.free 4
        have H5:Hid (mx w0 M G f1 f3 nm { addC { C with ct:=C.ct+1 } false 8 with ct:=8 } (World.setCell w1 ⟨M,4,none⟩ (.int .i64 8))):=H1.out.set 4 (.int .i64 8) _ rfl rfl
        go_wp2_with fail;first | go_end0 | (try simp only[Exit.inBlock,Exit.then]);refine bodyPost_ret (results_none rfl _ _ _) rfl ?_
        exact⟨rfl,by rw[HR.out];exact H5.out⟩)
     ·have HR:Hid (waC C bit=addC { C with ct:=C.ct+1 } false 8):=HQ.out
      go_wp2_with fail;go_region_with (go_at_call 107;refine HAD.out.mono ?_;rintro o w1 ⟨rfl,h1⟩;have H1:=hidX h1;clear h1)
      all_goals (
       go_wp2_with fail;first | go_end0 | (try simp only[Exit.inBlock,Exit.then]);refine bodyPost_ret (results_none rfl _ _ _) rfl ?_
       exact⟨rfl,by rw[HR.out];exact H1.out⟩)
   ·cases d8
    ·cases d16
     ·have HR:Hid (waC C bit = { C with ct:=C.ct+1 }):=HQ.out
      have H3:Hid (mx w0 M G f1 f3 nm { C with ct:=(C.ct+1) } (World.setCell W ⟨M,4,none⟩ (.int .i64 (C.ct+1)))):=(H0.out.set 4 (.int .i64 (C.ct+1)) { C with ct:=(C.ct+1) } rfl rfl)
      go_wp2_with fail;first | go_end0 | (try simp only[Exit.inBlock,Exit.then]);refine bodyPost_ret (results_none rfl _ _ _) rfl ?_
      exact⟨rfl,by rw[HR.out];exact H3.out⟩
     ·have HR:Hid (waC C bit = { addC { C with ct:=C.ct+1 } true 8 with ct:=8 }):=HQ.out
      go_wp2_with fail;go_region_with (go_at_call 107;refine HAD.out.mono ?_;rintro o w1 ⟨rfl,h1⟩;have H1:=hidX h1;clear h1)
      all_goals (
       have u4:=H1.out.m.cell 4 (.int .i64 (addC { C with ct:=C.ct+1 } true 8).ct) rfl
       have v4:=H1.out.m.free 4
       have H5:Hid (mx w0 M G f1 f3 nm { addC { C with ct:=C.ct+1 } true 8 with ct:=8 } (World.setCell w1 ⟨M,4,none⟩ (.int .i64 8))):=H1.out.set 4 (.int .i64 8) _ rfl rfl
       go_wp2_with fail;first | go_end0 | (try simp only[Exit.inBlock,Exit.then]);refine bodyPost_ret (results_none rfl _ _ _) rfl ?_
       exact⟨rfl,by rw[HR.out];exact H5.out⟩)
    ·have HR:Hid (waC C bit=addC { C with ct:=C.ct+1 } true 8):=HQ.out
     go_wp2_with fail;go_region_with (go_at_call 107;refine HAD.out.mono ?_;rintro o w1 ⟨rfl,h1⟩;have H1:=hidX h1;clear h1)
     all_goals (
      go_wp2_with fail;first | go_end0 | (try simp only[Exit.inBlock,Exit.then]);refine bodyPost_ret (results_none rfl _ _ _) rfl ?_
      exact⟨rfl,by rw[HR.out];exact H1.out⟩)
 ·have HR:Hid (waC C bit = { C with p:=4,ct:=1 }):=HQ.out
  have H3:Hid (mx w0 M G f1 f3 nm { C with p:=4,ct:=1 } (World.setCell (World.setCell W ⟨M,3,none⟩ (.int .i64 4)) ⟨M,4,none⟩ (.int .i64 1))):=((H0.out.set 3 (.int .i64 4) { C with p:=4 } rfl rfl).set 4 (.int .i64 1) { C with p:=4,ct:=1 } rfl rfl)
  go_wp2_with fail;first | go_end0 | (try simp only[Exit.inBlock,Exit.then]);refine bodyPost_ret (results_none rfl _ _ _) rfl ?_
  exact⟨rfl,by rw[HR.out];exact H3.out⟩
variable {w0 : World} {M : Nat} {G : Lg} {f1 f3 nm : Nat} {C : Co} {W : World}
def bkC (C:Co):Co:=⟨0,0,0,false,false,false,false,false,0,0,0,C.ho⟩
theorem mx.mom (h:mx w0 M G f1 f3 nm C W):mx w0 M G f1 f3 nm ⟨0,0,0,false,false,false,false,false,0,C.te,C.re,C.ho⟩ (W.setCells M 3 [.int .i64 0,.int .i64 0,.int .i64 0,.bool false,.bool false,.bool false,.bool false,.bool false,.int .i64 0]):=by
 obtain⟨hs,D,h⟩:=h
 refine⟨hs,D,?_,?_,h.o⟩
 ·have h':blk W M ([.pointer (some ⟨G.P,0,none⟩),.int .i64 C.te,.int .i64 C.re]++[.int .i64 C.p,.int .i64 C.ct,.int .i64 C.lv,.bool C.wk,.bool C.ov,.bool C.ow,.bool C.tx,.bool C.ak,.int .i64 C.rn]++(sgL++prL)) 125:=h.m
  exact blk.put [.pointer (some ⟨G.P,0,none⟩),.int .i64 C.te,.int .i64 C.re] [.int .i64 C.p,.int .i64 C.ct,.int .i64 C.lv,.bool C.wk,.bool C.ov,.bool C.ow,.bool C.tx,.bool C.ak,.int .i64 C.rn] (sgL++prL) [.int .i64 0,.int .i64 0,.int .i64 0,.bool false,.bool false,.bool false,.bool false,.bool false,.int .i64 0] h' rfl
 ·exact h.h.other M h.o (fun q hq=>setCells_other _ q hq _ _ _) (setCells_size ..) (setCells_below h.o.2.2.2.2.2.2 3 _ h.h.b)
theorem hidE {V:World} (e:W=V) (h:mx w0 M G f1 f3 nm C W):Hid (mx w0 M G f1 f3 nm C V):=by rw[← e];exact h
set_option maxRecDepth 20000 in
theorem comeBack_any (h:mx w0 M G f1 f3 nm C W) :
  Calls Tryz.prog 219 #[.pointer (some ⟨M,0,none⟩)] W fun o w'=>o = .returned (.tuple #[])∧mx w0 M G f1 f3 nm (bkC C) w':=by
 have H0:Hid (mx w0 M G f1 f3 nm C W):=h
 clear h;go_enter Tryz.func219,Tryz.ntmps219
 go_upto_region 1 with (first
  | (refine wpList_store_mid (P:=Tryz.prog) rfl 116 (.tmp 5) (.tmp 3) rfl M 3 #[.int .i64 0,.int .i64 0,.int .i64 0,.bool false,.bool false,.bool false,.bool false,.bool false,.int .i64 0] rfl rfl (H0.out.m.there 3 9 (by rw[mcL_len];decide)) sz116 (all_oneCell_toArray (by simp[Value.oneCell'])) ?_;generalize hW4:World.setCells W M 3 _=w4;have H4:=hidE hW4 H0.out.mom;clear hW4))
 obtain⟨X,eX⟩ : ∃ X:Co,X=⟨0,0,0,false,false,false,false,false,0,C.te,C.re,C.ho⟩:=⟨_,rfl⟩
 rw[← eX] at H4
 have HB:Hid ({ X with te:=0,re:=0 }=bkC C):=by show _=_;rw[eX];rfl
 clear eX;have y1:=H4.out.m.cell 1 (.int .i64 X.te) rfl
 have y2:=H4.out.m.cell 2 (.int .i64 X.re) rfl
 have z1:=H4.out.m.free 1
 have z2:=H4.out.m.free 2
 have H5:Hid (mx w0 M G f1 f3 nm { X with te:=0,re:=0 } (World.setCell (World.setCell w4 ⟨M,1,none⟩ (.int .i64 0)) ⟨M,2,none⟩ (.int .i64 0))):=((H4.out.set 1 (.int .i64 0) { X with te:=0 } rfl rfl).set 2 (.int .i64 0) { X with te:=0,re:=0 } rfl rfl)
 go_wp2_with fail;first | go_end0 | (try simp only[Exit.inBlock,Exit.then]);refine bodyPost_ret (results_none rfl _ _ _) rfl ?_
 exact⟨rfl,by rw[← HB.out];exact H5.out⟩
def ofC (C:Co) (bit:Int):Co:=if C.ak=true then (if bit=0 then { C with ct:=0 } else if C.ct+1=11 then (if C.rn+1=128 then bkC C else { C with ct:=0,rn:=C.rn+1 }) else { C with ct:=C.ct+1 }) else C
set_option maxRecDepth 20000 in
theorem offS_any (h:mx w0 M G f1 f3 nm C W) (bit:Int) (hc:0≤C.ct∧C.ct≤200) (hn:0≤C.rn∧C.rn<128) :
  Calls Tryz.prog 190 #[.pointer (some ⟨M,0,none⟩),.int .i64 bit] W fun o w'=>o = .returned (.tuple #[])∧mx w0 M G f1 f3 nm (ofC C bit) w':=by
 have H0:Hid (mx w0 M G f1 f3 nm C W):=h
 have y4:=h.m.cell 4 (.int .i64 C.ct) rfl
 have y10:=h.m.cell 10 (.bool C.ak) rfl
 have y11:=h.m.cell 11 (.int .i64 C.rn) rfl
 have z4:=h.m.free 4
 have z11:=h.m.free 11
 clear h;have hw:=wrap_ct hc
 have hw2:=wrap_ct (n:=C.rn) (by omega)
 have er:(C.rn == 128)=false:=by simp;omega
 clear hc hn;obtain⟨ak,eak⟩ : ∃ b,C.ak=b:=⟨_,rfl⟩
 rw[eak] at y10
 have fak:Hid (ak=true↔C.ak=true):=by show _↔_;rw[eak]
 clear eak;obtain⟨b,e,_,fb⟩:=eqB bit 0
 obtain⟨c,e2,_,fc⟩:=eqB (C.ct+1) 11
 obtain⟨d,e3,_,fd⟩:=eqB (C.rn+1) 128
 have HBK:Hid (∀ X V,mx w0 M G f1 f3 nm X V→Calls Tryz.prog 219 #[.pointer (some ⟨M,0,none⟩)] V fun o w'=>o = .returned (.tuple #[])∧mx w0 M G f1 f3 nm (bkC X) w'):=fun X V hV=>comeBack_any hV
 go_enter Tryz.func190,Tryz.ntmps190
 cases ak
 ·have HR:Hid (ofC C bit=C):=by show _=_;unfold ofC;rw[if_neg (by simpa using fak.out)]
  have H3:Hid (mx w0 M G f1 f3 nm C W):=H0.out
  go_wp2_with fail;first | go_end0 | (try simp only[Exit.inBlock,Exit.then]);refine bodyPost_ret (results_none rfl _ _ _) rfl ?_
  exact⟨rfl,by rw[HR.out];exact H3.out⟩
 ·cases b
  ·cases c
   ·have HR:Hid (ofC C bit = { C with ct:=C.ct+1 }):=by show _=_;unfold ofC;rw[if_pos (by simpa using fak.out),if_neg (by simpa using fb.out),if_neg (by simpa using fc.out)]
    have H3:Hid (mx w0 M G f1 f3 nm { C with ct:=(C.ct+1) } (World.setCell W ⟨M,4,none⟩ (.int .i64 (C.ct+1)))):=(H0.out.set 4 (.int .i64 (C.ct+1)) { C with ct:=(C.ct+1) } rfl rfl)
    go_wp2_with fail;first | go_end0 | (try simp only[Exit.inBlock,Exit.then]);refine bodyPost_ret (results_none rfl _ _ _) rfl ?_
    exact⟨rfl,by rw[HR.out];exact H3.out⟩
   ·cases d
    ·have HR:Hid (ofC C bit = { C with ct:=0,rn:=C.rn+1 }):=by show _=_;unfold ofC;rw[if_pos (by simpa using fak.out),if_neg (by simpa using fb.out),if_pos (by simpa using fc.out),if_neg (by simpa using fd.out)]
     have H3:Hid (mx w0 M G f1 f3 nm { C with ct:=0,rn:=(C.rn+1) } (World.setCell (World.setCell (World.setCell W ⟨M,4,none⟩ (.int .i64 (C.ct+1))) ⟨M,4,none⟩ (.int .i64 0)) ⟨M,11,none⟩ (.int .i64 (C.rn+1)))):=(((H0.out.set 4 (.int .i64 (C.ct+1)) { C with ct:=(C.ct+1) } rfl rfl).set 4 (.int .i64 0) { C with ct:=0 } rfl rfl).set 11 (.int .i64 (C.rn+1)) { C with ct:=0,rn:=(C.rn+1) } rfl rfl)
     go_wp2_with fail;first | go_end0 | (try simp only[Exit.inBlock,Exit.then]);refine bodyPost_ret (results_none rfl _ _ _) rfl ?_
     exact⟨rfl,by rw[HR.out];exact H3.out⟩
    ·have HR:Hid (ofC C bit=bkC C):=by show _=_;unfold ofC;rw[if_pos (by simpa using fak.out),if_neg (by simpa using fb.out),if_pos (by simpa using fc.out),if_pos (by simpa using fd.out)]
     have H6:Hid (mx w0 M G f1 f3 nm { C with ct:=0,rn:=(C.rn+1) } (World.setCell (World.setCell (World.setCell W ⟨M,4,none⟩ (.int .i64 (C.ct+1))) ⟨M,4,none⟩ (.int .i64 0)) ⟨M,11,none⟩ (.int .i64 (C.rn+1)))):=(((H0.out.set 4 (.int .i64 (C.ct+1)) { C with ct:=(C.ct+1) } rfl rfl).set 4 (.int .i64 0) { C with ct:=0 } rfl rfl).set 11 (.int .i64 (C.rn+1)) { C with ct:=0,rn:=(C.rn+1) } rfl rfl)
     go_wp2_with fail;refine (HBK.out _ _ H6.out).mono ?_
     rintro o w1 ⟨rfl,h1⟩;have H1:=hidX h1
     clear h1;go_wp2_with fail;first | go_end0 | (try simp only[Exit.inBlock,Exit.then]);refine bodyPost_ret (results_none rfl _ _ _) rfl ?_
     exact⟨rfl,by rw[HR.out];exact H1.out⟩
  ·have HR:Hid (ofC C bit = { C with ct:=0 }):=by show _=_;unfold ofC;rw[if_pos (by simpa using fak.out),if_pos (by simpa using fb.out)]
   have H3:Hid (mx w0 M G f1 f3 nm { C with ct:=0 } (World.setCell (World.setCell W ⟨M,4,none⟩ (.int .i64 (C.ct+1))) ⟨M,4,none⟩ (.int .i64 0))):=((H0.out.set 4 (.int .i64 (C.ct+1)) { C with ct:=(C.ct+1) } rfl rfl).set 4 (.int .i64 0) { C with ct:=0 } rfl rfl)
   go_wp2_with fail;first | go_end0 | (try simp only[Exit.inBlock,Exit.then]);refine bodyPost_ret (results_none rfl _ _ _) rfl ?_
   exact⟨rfl,by rw[HR.out];exact H3.out⟩
def msB (C:Co):Bool:=C.tx && (stZ C.te C.re == 1)
set_option maxRecDepth 20000 in
theorem mustS_any (h:mx w0 M G f1 f3 nm C W):Calls Tryz.prog 229 #[.pointer (some ⟨M,0,none⟩)] W fun o w'=>o = .returned (.bool (msB C))∧mx w0 M G f1 f3 nm C w'∧Below W.heap.size W w':=by
 have H0:Hid (mx w0 M G f1 f3 nm C W):=h
 have HS:Hid (Calls Tryz.prog 106 #[.pointer (some ⟨M,0,none⟩)] W fun o w'=>o = .returned (.int .i64 (stZ C.te C.re))∧mx w0 M G f1 f3 nm C w'∧Below W.heap.size W w'):=h.state
 have y9:=h.m.cell 9 (.bool C.tx) rfl
 clear h;have HM:Hid (msB C=(C.tx && (stZ C.te C.re == 1))):=rfl
 generalize stZ C.te C.re=z at *;obtain⟨tx,etx⟩ : ∃ b,C.tx=b:=⟨_,rfl⟩
 rw[etx] at y9 HM
 clear etx;go_enter Tryz.func229,Tryz.ntmps229
 cases tx
 ·go_wp2_with fail;go_ret;exact⟨by rw[HM.out];rfl,H0.out,Below.refl _ _⟩
 ·go_wp2_with fail;refine HS.out.mono ?_
  rintro o w1 ⟨rfl,h1,hb⟩;have H1:=hidX (And.intro h1 hb)
  clear h1 hb;go_wp2_with fail;go_ret;exact⟨by rw[HM.out];rfl,H1.out⟩
def lgC (C:Co):Co:=if msB C=true then { C with ct:=0,p:=6 } else { C with ct:=0,p:=0,tx:=false }
set_option maxRecDepth 20000 in
theorem leave_any (h:mx w0 M G f1 f3 nm C W) :
  Calls Tryz.prog 218 #[.pointer (some ⟨M,0,none⟩)] W fun o w'=>o = .returned (.tuple #[])∧mx w0 M G f1 f3 nm (lgC C) w':=by
 have H0:Hid (mx w0 M G f1 f3 nm C W):=h
 have H1:Hid (mx w0 M G f1 f3 nm { C with ct:=0 } (World.setCell W ⟨M,4,none⟩ (.int .i64 0))):=(H0.out.set 4 (.int .i64 0) { C with ct:=0 } rfl rfl)
 have y4:=h.m.cell 4 (.int .i64 C.ct) rfl
 have z4:=h.m.free 4
 clear h;have HS:Hid (Calls Tryz.prog 229 #[.pointer (some ⟨M,0,none⟩)] (World.setCell W ⟨M,4,none⟩ (.int .i64 0)) fun o w'=>o = .returned (.bool (msB C))∧mx w0 M G f1 f3 nm { C with ct:=0 } w'∧Below ((World.setCell W ⟨M,4,none⟩ (.int .i64 0))).heap.size (World.setCell W ⟨M,4,none⟩ (.int .i64 0)) w'):=mustS_any H1.out
 obtain⟨b,e⟩ : ∃ b,msB C=b:=⟨_,rfl⟩
 have HL:Hid (lgC C=if b=true then { C with ct:=0,p:=6 } else { C with ct:=0,p:=0,tx:=false }):=by show _=_;unfold lgC;rw[e]
 rw[e] at HS
 clear e;go_enter Tryz.func218,Tryz.ntmps218
 go_wp2_with fail;refine HS.out.mono ?_
 rintro o w1 ⟨rfl,h2,_⟩;have H2:=hidX h2
 have y3:=h2.m.cell 3 (.int .i64 C.p) rfl
 have y9:=h2.m.cell 9 (.bool C.tx) rfl
 have z3:=h2.m.free 3
 have z9:=h2.m.free 9
 clear h2 HS H1 y4 z4;cases b
 ·have H3:Hid (mx w0 M G f1 f3 nm { C with ct:=0,p:=0,tx:=false } ((w1.setCell ⟨M,3,none⟩ (.int .i64 0)).setCell ⟨M,9,none⟩ (.bool false))):=(H2.out.set 3 (.int .i64 0) { C with ct:=0,p:=0 } rfl rfl).set 9 (.bool false) _ rfl rfl
  go_wp2_with fail;first | go_end0 | (try simp only[Exit.inBlock,Exit.then]);refine bodyPost_ret (results_none rfl _ _ _) rfl ?_
  exact⟨rfl,by rw[HL.out];exact H3.out⟩
 ·have H3:Hid (mx w0 M G f1 f3 nm { C with ct:=0,p:=6 } (w1.setCell ⟨M,3,none⟩ (.int .i64 6))):=H2.out.set 3 (.int .i64 6) _ rfl rfl
  go_wp2_with fail;first | go_end0 | (try simp only[Exit.inBlock,Exit.then]);refine bodyPost_ret (results_none rfl _ _ _) rfl ?_
  exact⟨rfl,by rw[HL.out];exact H3.out⟩
theorem bestR_ex (bx:List R8):∃ r,bestR bx r:=by
 rcases Classical.em (∃ i,isBest bx i) with⟨i,h⟩|h
 ·exact⟨i,Or.inr ⟨i,rfl,h⟩⟩
 ·exact⟨-1,Or.inl ⟨rfl,fun i hi=>h ⟨i,hi⟩⟩⟩
theorem mx.best (h:mx w0 M G f1 f3 nm C W) (hok:okBxs C.ho.st C.ho.bx) (r:Int) (hr:bestR C.ho.bx r):Calls Tryz.prog 228 #[.pointer (some ⟨G.P,0,none⟩)] W fun o w'=>o = .returned (.int .i64 r)∧mx w0 M G f1 f3 nm C w':=by
 obtain⟨hs,D,h⟩:=h
 refine (best_any W G.P _ G.n2 G.kb C.ho.bx C.ho.st (h.h.p.cell 5 _ rfl) (h.h.x.is h.h.bd.nk) h.h.bd.m2 hok).mono ?_
 rintro o w' ⟨r',rfl,h1,h2⟩;exact⟨by rw[bestR_one h1 hr],hs,D,h.below h2⟩
theorem mx.send (h:mx w0 M G f1 f3 nm C W) (i:Int):Calls Tryz.prog 230 #[.pointer (some ⟨G.P,0,none⟩),.int .i64 i] W fun o w'=>o = .returned (.tuple #[])∧mx w0 M G f1 f3 nm { C with ho:=takeHo C.ho i } w':=by
 obtain⟨hs,D,h⟩:=h
 refine (send_any W G.P G.gb G.n2 G.kb C.ho.bx i (h.h.p.cell 5 _ rfl) (h.h.x.is h.h.bd.nk) h.h.x.row h.h.bd.m2).mono ?_
 rintro o w' ⟨rfl,W1,hb,⟨rfl,e⟩|⟨k,hk,rfl,e,_⟩⟩
 ·refine⟨rfl,hs,D,?_⟩
  rw[show takeHo C.ho i=C.ho by unfold takeHo;rw[e]]
  exact h.below hb
 ·have h1:=h.below hb
  refine⟨rfl,hs,D,?_,?_,h.o⟩
  ·exact h1.m.setOther h.o.2.2.2.1 _ _
  ·rw[show takeHo C.ho i=stHo C.ho k 2 by unfold takeHo;rw[e,stHo_yes hk]]
   exact h1.h.state k hk 2
def jnC (C:Co) (r:Int):Co:=if (decide (0≤r) && !msB C)=true then { C with p:=1,ct:=0,tx:=true,ho:=takeHo C.ho r } else { C with p:=1,ct:=0,tx:=false }
variable {w0 : World} {M : Nat} {G : Lg} {f1 f3 nm : Nat} {C : Co} {W : World}
set_option maxRecDepth 20000 in
theorem join_any (h:mx w0 M G f1 f3 nm C W) (hok:okBxs C.ho.st C.ho.bx) (r:Int) (hr:bestR C.ho.bx r) :
  Calls Tryz.prog 217 #[.pointer (some ⟨M,0,none⟩)] W fun o w'=>o = .returned (.tuple #[])∧mx w0 M G f1 f3 nm (jnC C r) w':=by
 have HB:Hid (Calls Tryz.prog 228 #[.pointer (some ⟨G.P,0,none⟩)] W fun o w'=>o = .returned (.int .i64 r)∧mx w0 M G f1 f3 nm C w'):=h.best hok r hr
 have y0:=h.m.cell 0 (.pointer (some ⟨G.P,0,none⟩)) rfl
 have HMS:Hid (∀ V,mx w0 M G f1 f3 nm C V→Calls Tryz.prog 229 #[.pointer (some ⟨M,0,none⟩)] V fun o w'=>o = .returned (.bool (msB C))∧mx w0 M G f1 f3 nm C w'∧Below V.heap.size V w'):=fun V hV=>mustS_any hV
 have HSD:Hid (∀ V X,mx w0 M G f1 f3 nm X V→Calls Tryz.prog 230 #[.pointer (some ⟨G.P,0,none⟩),.int .i64 r] V fun o w'=>o = .returned (.tuple #[])∧mx w0 M G f1 f3 nm { X with ho:=takeHo X.ho r } w'):=fun V X hV=>hV.send r
 clear h hok hr;obtain⟨b,eb⟩ : ∃ b,decide (0≤r)=b:=⟨_,rfl⟩
 obtain⟨m,em⟩ : ∃ b,msB C=b:=⟨_,rfl⟩
 have HJ:Hid (jnC C r=if (b && !m)=true then { C with p:=1,ct:=0,tx:=true,ho:=takeHo C.ho r } else { C with p:=1,ct:=0,tx:=false }):=by show _=_;unfold jnC;rw[eb,em]
 rw[em] at HMS
 clear em;go_enter Tryz.func217,Tryz.ntmps217
 go_wp2_with fail;refine HB.out.mono ?_
 rintro o w1 ⟨rfl,h1⟩;have H1:=hidX h1
 have y3:=h1.m.cell 3 (.int .i64 C.p) rfl
 have y4:=h1.m.cell 4 (.int .i64 C.ct) rfl
 have y9:=h1.m.cell 9 (.bool C.tx) rfl
 have z3:=h1.m.free 3
 have z4:=h1.m.free 4
 have z9:=h1.m.free 9
 have x0:=h1.m.cell 0 (.pointer (some ⟨G.P,0,none⟩)) rfl
 clear h1 HB y0;cases b
 ·have H3:Hid (mx w0 M G f1 f3 nm { C with p:=1,ct:=0,tx:=false } (World.setCell (World.setCell (World.setCell w1 ⟨M,3,none⟩ (.int .i64 1)) ⟨M,4,none⟩ (.int .i64 0)) ⟨M,9,none⟩ (.bool false))):=(((H1.out.set 3 (.int .i64 1) { C with p:=1 } rfl rfl).set 4 (.int .i64 0) { C with p:=1,ct:=0 } rfl rfl).set 9 (.bool false) { C with p:=1,ct:=0,tx:=false } rfl rfl)
  go_wp2_with fail;first | go_end0 | (try simp only[Exit.inBlock,Exit.then]);refine bodyPost_ret (results_none rfl _ _ _) rfl ?_
  exact⟨rfl,by rw[HJ.out];exact H3.out⟩
 ·go_wp2_with fail;refine (HMS.out _ H1.out).mono ?_
  rintro o w2 ⟨rfl,h2,_⟩;have H2:=hidX h2
  clear y3 y4 y9 z3 z4 z9 x0;have y3:=h2.m.cell 3 (.int .i64 C.p) rfl
  have y4:=h2.m.cell 4 (.int .i64 C.ct) rfl
  have y9:=h2.m.cell 9 (.bool C.tx) rfl
  have z3:=h2.m.free 3
  have z4:=h2.m.free 4
  have z9:=h2.m.free 9
  have x0:=h2.m.cell 0 (.pointer (some ⟨G.P,0,none⟩)) rfl
  clear h2 HMS;cases m
  ·have H3:Hid (mx w0 M G f1 f3 nm { C with p:=1,ct:=0,tx:=true } (World.setCell (World.setCell (World.setCell w2 ⟨M,3,none⟩ (.int .i64 1)) ⟨M,4,none⟩ (.int .i64 0)) ⟨M,9,none⟩ (.bool true))):=(((H2.out.set 3 (.int .i64 1) { C with p:=1 } rfl rfl).set 4 (.int .i64 0) { C with p:=1,ct:=0 } rfl rfl).set 9 (.bool true) { C with p:=1,ct:=0,tx:=true } rfl rfl)
   go_wp2_with fail;refine (HSD.out _ _ H3.out).mono ?_
   rintro o w5 ⟨rfl,h5⟩;have H5:=hidX h5
   clear h5;go_wp2_with fail;first | go_end0 | (try simp only[Exit.inBlock,Exit.then]);refine bodyPost_ret (results_none rfl _ _ _) rfl ?_
   exact⟨rfl,by rw[HJ.out];exact H5.out⟩
  ·have H3:Hid (mx w0 M G f1 f3 nm { C with p:=1,ct:=0,tx:=false } (World.setCell (World.setCell (World.setCell w2 ⟨M,3,none⟩ (.int .i64 1)) ⟨M,4,none⟩ (.int .i64 0)) ⟨M,9,none⟩ (.bool false))):=(((H2.out.set 3 (.int .i64 1) { C with p:=1 } rfl rfl).set 4 (.int .i64 0) { C with p:=1,ct:=0 } rfl rfl).set 9 (.bool false) { C with p:=1,ct:=0,tx:=false } rfl rfl)
   go_wp2_with fail;first | go_end0 | (try simp only[Exit.inBlock,Exit.then]);refine bodyPost_ret (results_none rfl _ _ _) rfl ?_
   exact⟨rfl,by rw[HJ.out];exact H3.out⟩
def gpC (C:Co) (bit r:Int):Co:=if bit=0 then (if C.ct<2 then ovC C else jnC C r) else if C.ct+1=3 then lgC { C with ct:=C.ct+1 } else { C with ct:=C.ct+1 }
set_option maxRecDepth 20000 in
theorem gap_any (h:mx w0 M G f1 f3 nm C W) (bit:Int) (hc:0≤C.ct∧C.ct≤200) (hok:okBxs C.ho.st C.ho.bx) (r:Int) (hr:bestR C.ho.bx r) :
  Calls Tryz.prog 188 #[.pointer (some ⟨M,0,none⟩),.int .i64 bit] W fun o w'=>o = .returned (.tuple #[])∧mx w0 M G f1 f3 nm (gpC C bit r) w':=by
 have H0:Hid (mx w0 M G f1 f3 nm C W):=h
 have HJN:Hid (Calls Tryz.prog 217 #[.pointer (some ⟨M,0,none⟩)] W fun o w'=>o = .returned (.tuple #[])∧mx w0 M G f1 f3 nm (jnC C r) w'):=join_any h hok r hr
 have y4:=h.m.cell 4 (.int .i64 C.ct) rfl
 have z4:=h.m.free 4
 clear h hok hr;have hw:=wrap_ct hc
 clear hc;have H3:Hid (mx w0 M G f1 f3 nm { C with ct:=(C.ct+1) } (World.setCell W ⟨M,4,none⟩ (.int .i64 (C.ct+1)))):=(H0.out.set 4 (.int .i64 (C.ct+1)) { C with ct:=(C.ct+1) } rfl rfl)
 obtain⟨b,e,_,fb⟩:=eqB bit 0
 obtain⟨c,e2,fc⟩:=ltB C.ct 2
 obtain⟨d,e3,_,fd⟩:=eqB (C.ct+1) 3
 go_enter Tryz.func188,Tryz.ntmps188
 cases b
 ·cases d
  ·have HR:Hid (gpC C bit r = { C with ct:=C.ct+1 }):=by show _=_;unfold gpC;rw[if_neg (by simpa using fb.out),if_neg (by simpa using fd.out)]
   go_wp2_with fail;first | go_end0 | (try simp only[Exit.inBlock,Exit.then]);refine bodyPost_ret (results_none rfl _ _ _) rfl ?_
   exact⟨rfl,by rw[HR.out];exact H3.out⟩
  ·have HR:Hid (gpC C bit r=lgC { C with ct:=C.ct+1 }):=by show _=_;unfold gpC;rw[if_neg (by simpa using fb.out),if_pos (by simpa using fd.out)]
   go_wp2_with fail;refine (leave_any H3.out).mono ?_
   rintro o w1 ⟨rfl,h1⟩;have H1:=hidX h1
   clear h1;go_wp2_with fail;first | go_end0 | (try simp only[Exit.inBlock,Exit.then]);refine bodyPost_ret (results_none rfl _ _ _) rfl ?_
   exact⟨rfl,by rw[HR.out];exact H1.out⟩
 ·cases c
  ·have HR:Hid (gpC C bit r=jnC C r):=by show _=_;unfold gpC;rw[if_pos (by simpa using fb.out),if_neg (by simpa using fc.out)]
   go_wp2_with fail;refine (HJN.out).mono ?_
   rintro o w1 ⟨rfl,h1⟩;have H1:=hidX h1
   clear h1;go_wp2_with fail;first | go_end0 | (try simp only[Exit.inBlock,Exit.then]);refine bodyPost_ret (results_none rfl _ _ _) rfl ?_
   exact⟨rfl,by rw[HR.out];exact H1.out⟩
  ·have HR:Hid (gpC C bit r=ovC C):=by show _=_;unfold gpC;rw[if_pos (by simpa using fb.out),if_pos (by simpa using fc.out)]
   go_wp2_with fail;refine (overload_any H0.out).mono ?_
   rintro o w1 ⟨rfl,h1⟩;have H1:=hidX h1
   clear h1;go_wp2_with fail;first | go_end0 | (try simp only[Exit.inBlock,Exit.then]);refine bodyPost_ret (results_none rfl _ _ _) rfl ?_
   exact⟨rfl,by rw[HR.out];exact H1.out⟩
def stpC (C:Co) (bit r:Int):Co:=if C.p=0 then idC C bit else if C.p=2 then flC C bit else if C.p=3 then waC C bit else if C.p=4 then dlC C bit else if C.p=5 then gpC C bit r else if C.p=6 then suC C bit else if C.p=7 then ofC C bit else C
set_option maxRecDepth 20000 in
theorem l4over_c (w:World) (C:Co) (s:Sl) (B T0 T1 T2:Nat) (hb:bdQ 1000 C.ho) (h:spS B T0 T1 T2 C.ho s w) :
  Calls Tryz.prog 111 #[.agg (coL C s).toArray] w fun o w'=>∃ s',o = .returned (.agg (coL (ovC C) s').toArray)∧spS B T0 T1 T2 (ovC C).ho s' w'∧k41 T2 w w'∧Below B w w':=by
 have H0:Hid (vS w B T0 T1 T2 C s C.ho s ((w.alloc (.cells (coL C s).toArray 41)).alloc (.cells [.int .i64 0,.int .i64 0,.int .i64 0,.bool false,.bool false,.bool false,.bool false,.bool false,.int .i64 0,.int .i64 0,.int .i64 0,.int .i64 0,.int .i64 0,.int .i64 0,.int .i64 0,.slice none 0 0,.slice none 0 0,.slice none 0 0,.slice none 0 0,.int .i64 0,.int .i64 0].toArray 41))):=vS.new h
 have HSY:Hid (∀ W,spS B T0 T1 T2 C.ho s W→Calls Tryz.prog 77 #[.agg (coL C s).toArray,.int .i64 9,.int .i64 0,.int .i64 0] W fun o w'=>∃ s',o = .returned (.agg (coL { C with ho:=postHo C.ho (ev3 9 0 0) } s').toArray)∧spS B T0 T1 T2 (postHo C.ho (ev3 9 0 0)) s' w'∧k41 T2 W w'∧Below B W w'):=fun W hW=>l4say_c W C s B T0 T1 T2 9 0 0 hW hb
 clear h hb;go_enter Tryz.func111,Tryz.ntmps111
 go_wp2_with (first | (refine wpList_load_mid (P:=Tryz.prog) rfl 41 (.tmp 1) rfl w.heap.size 0 rfl (coL C s) _ H0.out.p.load Tryz.underlying41 rfl (szC41L _ _) ?_))
 refine (HSY.out _ H0.out.sp).mono ?_
 rintro o w2 ⟨s2,rfl,q1,q2,q3⟩;have HV2:Hid (vS w B T0 T1 T2 C s (postHo C.ho (ev3 9 0 0)) s2 w2):=H0.out.call q1 q2 q3
 clear q1 q2 q3 H0 HSY;go_upto_region 2 with (first | (refine wpList_store_mid (P:=Tryz.prog) rfl 41 (.tmp 1) (.tmp 4) rfl w.heap.size 0 (coL { C with ho:=postHo C.ho (ev3 9 0 0) } s2).toArray rfl rfl (HV2.out.p.there 0 _ (by rw[List.size_toArray,coL_len,coL_len];decide)) (szC41A _ _) (coL_one _ _) ?_;generalize hW3:World.setCells _ w.heap.size 0 _=w3;have HV3:=hidS hW3 (HV2.out.put { C with ho:=postHo C.ho (ev3 9 0 0) } s2);clear hW3))
 simp only[Act.put]
 obtain⟨X,eX⟩ : ∃ X:Co,X = { C with ho:=postHo C.ho (ev3 9 0 0) }:=⟨_,rfl⟩
 rw[← eX] at HV3
 have HR:Hid (ovC C = { X with p:=2,ct:=0,ov:=true }):=by show _=_;rw[eX];rfl
 have HHO:Hid (postHo C.ho (ev3 9 0 0)=X.ho):=by show _=_;rw[eX]
 rw[HHO.out] at HV3
 clear eX HHO HV2;have y0:=HV3.out.p.cell 0 (.int .i64 X.p) rfl
 have y1:=HV3.out.p.cell 1 (.int .i64 X.ct) rfl
 have y4:=HV3.out.p.cell 4 (.bool X.ov) rfl
 have z0:=HV3.out.p.free 0
 have z1:=HV3.out.p.free 1
 have z4:=HV3.out.p.free 4
 have HV9:Hid (vS w B T0 T1 T2 { X with p:=2,ct:=0,ov:=true } s2 X.ho s2 (World.setCell (World.setCell (World.setCell w3 ⟨w.heap.size,0,none⟩ (.int .i64 2)) ⟨w.heap.size,1,none⟩ (.int .i64 0)) ⟨w.heap.size,4,none⟩ (.bool true))):=(((HV3.out.set 0 (.int .i64 2) { X with p:=2 } rfl).set 1 (.int .i64 0) { X with p:=2,ct:=0 } rfl).set 4 (.bool true) { X with p:=2,ct:=0,ov:=true } rfl)
 go_upto_region 5 with fail
 generalize (World.setCell (World.setCell (World.setCell w3 ⟨w.heap.size,0,none⟩ (.int .i64 2)) ⟨w.heap.size,1,none⟩ (.int .i64 0)) ⟨w.heap.size,4,none⟩ (.bool true))=w9 at *;go_wp2_with (first | (refine wpList_load_mid (P:=Tryz.prog) rfl 41 (.tmp 1) rfl w.heap.size 0 rfl (coL { X with p:=2,ct:=0,ov:=true } s2) _ HV9.out.p.load Tryz.underlying41 rfl (szC41L _ _) ?_) | (refine wpList_store_mid (P:=Tryz.prog) rfl 41 (.tmp 2) (.tmp 8) rfl (w.heap.size+1) 0 (coL { X with p:=2,ct:=0,ov:=true } s2).toArray rfl rfl (HV9.out.r.there 0 _ (by rw[List.size_toArray,coL_len];decide)) (szC41A _ _) (coL_one _ _) ?_;generalize hW11:World.setCells _ (w.heap.size+1) 0 _=w11;have R11:=hidR hW11 (HV9.out.ret { X with p:=2,ct:=0,ov:=true } s2);clear hW11))
 have hL:=run_loadVar_mid (P:=Tryz.prog) w11 (w.heap.size+1) 0 41 _ _ R11.out.1.load Tryz.underlying41 rfl (szC41L _ _)
 refine bodyPost_ret (v:=.agg (coL { X with p:=2,ct:=0,ov:=true } s2).toArray) (results_cell Tryz.results111 _ w11 (w.heap.size+1) _ rfl hL) rfl ?_
 rw[HR.out]
 exact⟨s2,rfl,R11.out.2⟩
def ofI (A:Co):Co:=if A.te=256∧A.p≠7 then offC A else A
set_option maxRecDepth 20000 in
theorem l4off_c (w:World) (C:Co) (s:Sl) (B T0 T1 T2:Nat) (bit:Int) (hc:0≤C.ct∧C.ct≤200) (hn:0≤C.rn∧C.rn<128) (h:spS B T0 T1 T2 C.ho s w) :
  Calls Tryz.prog 119 #[.agg (coL C s).toArray,.int .i64 bit] w fun o w'=>∃ s',o = .returned (.agg (coL (ofC C bit) s').toArray)∧spS B T0 T1 T2 (ofC C bit).ho s' w'∧k41 T2 w w'∧Below B w w':=by
 have H0:Hid (vS w B T0 T1 T2 C s C.ho s ((w.alloc (.cells (coL C s).toArray 41)).alloc (.cells [.int .i64 0,.int .i64 0,.int .i64 0,.bool false,.bool false,.bool false,.bool false,.bool false,.int .i64 0,.int .i64 0,.int .i64 0,.int .i64 0,.int .i64 0,.int .i64 0,.int .i64 0,.slice none 0 0,.slice none 0 0,.slice none 0 0,.slice none 0 0,.int .i64 0,.int .i64 0].toArray 41))):=vS.new h
 have er:(C.rn == 128)=false:=by simp;omega
 have hw:=wrap_ct hc
 have hw2:=wrap_ct (n:=C.rn) (by omega)
 clear h hc hn;have y1:=H0.out.p.cell 1 (.int .i64 C.ct) rfl
 have y7:=H0.out.p.cell 7 (.bool C.ak) rfl
 have y8:=H0.out.p.cell 8 (.int .i64 C.rn) rfl
 have z1:=H0.out.p.free 1
 have z8:=H0.out.p.free 8
 obtain⟨ak,eak⟩ : ∃ b,C.ak=b:=⟨_,rfl⟩
 rw[eak] at y7
 have fak:Hid (ak=true↔C.ak=true):=by show _↔_;rw[eak]
 clear eak;obtain⟨b,e,_,fb⟩:=eqB bit 0
 obtain⟨c,e2,_,fc⟩:=eqB (C.ct+1) 11
 obtain⟨d,e3,_,fd⟩:=eqB (C.rn+1) 128
 generalize hW0:((w.alloc (.cells (coL C s).toArray 41)).alloc (.cells [.int .i64 0,.int .i64 0,.int .i64 0,.bool false,.bool false,.bool false,.bool false,.bool false,.int .i64 0,.int .i64 0,.int .i64 0,.int .i64 0,.int .i64 0,.int .i64 0,.int .i64 0,.slice none 0 0,.slice none 0 0,.slice none 0 0,.slice none 0 0,.int .i64 0,.int .i64 0].toArray 41))=W0 at *;go_enter Tryz.func119,Tryz.ntmps119
 cases ak
 ·have HR:Hid (ofC C bit=C):=by show _=_;unfold ofC;rw[if_neg (by simpa using fak.out)]
  have HV9:Hid (vS w B T0 T1 T2 C s C.ho s W0):=H0.out
  go_upto_region 2 with fail
  go_wp2_with (first | (refine wpList_load_mid (P:=Tryz.prog) rfl 41 (.tmp 2) rfl w.heap.size 0 rfl (coL C s) _ HV9.out.p.load Tryz.underlying41 rfl (szC41L _ _) ?_) | (refine wpList_store_mid (P:=Tryz.prog) rfl 41 (.tmp 4) (.tmp 8) rfl (w.heap.size+1) 0 (coL C s).toArray rfl rfl (HV9.out.r.there 0 _ (by rw[List.size_toArray,coL_len];decide)) (szC41A _ _) (coL_one _ _) ?_;generalize hW11:World.setCells _ (w.heap.size+1) 0 _=w11;have R11:=hidR hW11 (HV9.out.ret C s);clear hW11))
  have hL:=run_loadVar_mid (P:=Tryz.prog) w11 (w.heap.size+1) 0 41 _ _ R11.out.1.load Tryz.underlying41 rfl (szC41L _ _)
  refine bodyPost_ret (v:=.agg (coL C s).toArray) (results_cell Tryz.results119 _ w11 (w.heap.size+1) _ rfl hL) rfl ?_
  rw[HR.out]
  exact⟨s,rfl,R11.out.2⟩
 ·cases b
  ·cases c
   ·have HR:Hid (ofC C bit = { C with ct:=C.ct+1 }):=by show _=_;unfold ofC;rw[if_pos (by simpa using fak.out),if_neg (by simpa using fb.out),if_neg (by simpa using fc.out)]
    have HV9:Hid (vS w B T0 T1 T2 { C with ct:=(C.ct+1) } s C.ho s (World.setCell W0 ⟨w.heap.size,1,none⟩ (.int .i64 (C.ct+1)))):=(H0.out.set 1 (.int .i64 (C.ct+1)) { C with ct:=(C.ct+1) } rfl)
    go_upto_region 12 with fail
    generalize (World.setCell W0 ⟨w.heap.size,1,none⟩ (.int .i64 (C.ct+1)))=w9 at *;go_wp2_with (first | (refine wpList_load_mid (P:=Tryz.prog) rfl 41 (.tmp 2) rfl w.heap.size 0 rfl (coL { C with ct:=(C.ct+1) } s) _ HV9.out.p.load Tryz.underlying41 rfl (szC41L _ _) ?_) | (refine wpList_store_mid (P:=Tryz.prog) rfl 41 (.tmp 4) (.tmp 31) rfl (w.heap.size+1) 0 (coL { C with ct:=(C.ct+1) } s).toArray rfl rfl (HV9.out.r.there 0 _ (by rw[List.size_toArray,coL_len];decide)) (szC41A _ _) (coL_one _ _) ?_;generalize hW11:World.setCells _ (w.heap.size+1) 0 _=w11;have R11:=hidR hW11 (HV9.out.ret { C with ct:=(C.ct+1) } s);clear hW11))
    have hL:=run_loadVar_mid (P:=Tryz.prog) w11 (w.heap.size+1) 0 41 _ _ R11.out.1.load Tryz.underlying41 rfl (szC41L _ _)
    refine bodyPost_ret (v:=.agg (coL { C with ct:=(C.ct+1) } s).toArray) (results_cell Tryz.results119 _ w11 (w.heap.size+1) _ rfl hL) rfl ?_
    rw[HR.out]
    exact⟨s,rfl,R11.out.2⟩
   ·cases d
    ·have HR:Hid (ofC C bit = { C with ct:=0,rn:=C.rn+1 }):=by show _=_;unfold ofC;rw[if_pos (by simpa using fak.out),if_neg (by simpa using fb.out),if_pos (by simpa using fc.out),if_neg (by simpa using fd.out)]
     have HV9:Hid (vS w B T0 T1 T2 { C with ct:=0,rn:=(C.rn+1) } s C.ho s (World.setCell (World.setCell (World.setCell W0 ⟨w.heap.size,1,none⟩ (.int .i64 (C.ct+1))) ⟨w.heap.size,1,none⟩ (.int .i64 0)) ⟨w.heap.size,8,none⟩ (.int .i64 (C.rn+1)))):=(((H0.out.set 1 (.int .i64 (C.ct+1)) { C with ct:=(C.ct+1) } rfl).set 1 (.int .i64 0) { C with ct:=0 } rfl).set 8 (.int .i64 (C.rn+1)) { C with ct:=0,rn:=(C.rn+1) } rfl)
     go_upto_region 12 with fail
     generalize (World.setCell (World.setCell (World.setCell W0 ⟨w.heap.size,1,none⟩ (.int .i64 (C.ct+1))) ⟨w.heap.size,1,none⟩ (.int .i64 0)) ⟨w.heap.size,8,none⟩ (.int .i64 (C.rn+1)))=w9 at *;go_wp2_with (first | (refine wpList_load_mid (P:=Tryz.prog) rfl 41 (.tmp 2) rfl w.heap.size 0 rfl (coL { C with ct:=0,rn:=(C.rn+1) } s) _ HV9.out.p.load Tryz.underlying41 rfl (szC41L _ _) ?_) | (refine wpList_store_mid (P:=Tryz.prog) rfl 41 (.tmp 4) (.tmp 31) rfl (w.heap.size+1) 0 (coL { C with ct:=0,rn:=(C.rn+1) } s).toArray rfl rfl (HV9.out.r.there 0 _ (by rw[List.size_toArray,coL_len];decide)) (szC41A _ _) (coL_one _ _) ?_;generalize hW11:World.setCells _ (w.heap.size+1) 0 _=w11;have R11:=hidR hW11 (HV9.out.ret { C with ct:=0,rn:=(C.rn+1) } s);clear hW11))
     have hL:=run_loadVar_mid (P:=Tryz.prog) w11 (w.heap.size+1) 0 41 _ _ R11.out.1.load Tryz.underlying41 rfl (szC41L _ _)
     refine bodyPost_ret (v:=.agg (coL { C with ct:=0,rn:=(C.rn+1) } s).toArray) (results_cell Tryz.results119 _ w11 (w.heap.size+1) _ rfl hL) rfl ?_
     rw[HR.out]
     exact⟨s,rfl,R11.out.2⟩
    ·have HR:Hid (ofC C bit=bkC C):=by show _=_;unfold ofC;rw[if_pos (by simpa using fak.out),if_neg (by simpa using fb.out),if_pos (by simpa using fc.out),if_pos (by simpa using fd.out)]
     have HV9:Hid (vS w B T0 T1 T2 { C with ct:=0,rn:=(C.rn+1) } s C.ho s (World.setCell (World.setCell (World.setCell W0 ⟨w.heap.size,1,none⟩ (.int .i64 (C.ct+1))) ⟨w.heap.size,1,none⟩ (.int .i64 0)) ⟨w.heap.size,8,none⟩ (.int .i64 (C.rn+1)))):=(((H0.out.set 1 (.int .i64 (C.ct+1)) { C with ct:=(C.ct+1) } rfl).set 1 (.int .i64 0) { C with ct:=0 } rfl).set 8 (.int .i64 (C.rn+1)) { C with ct:=0,rn:=(C.rn+1) } rfl)
     go_upto_region 11 with fail
     generalize (World.setCell (World.setCell (World.setCell W0 ⟨w.heap.size,1,none⟩ (.int .i64 (C.ct+1))) ⟨w.heap.size,1,none⟩ (.int .i64 0)) ⟨w.heap.size,8,none⟩ (.int .i64 (C.rn+1)))=w9 at *;have q11:=HV9.out.p.cell 11 (.int .i64 C.ho.c0) rfl
     have q12:=HV9.out.p.cell 12 (.int .i64 C.ho.c1) rfl
     have q13:=HV9.out.p.cell 13 (.int .i64 C.ho.c2) rfl
     have q14:=HV9.out.p.cell 14 (.int .i64 C.ho.c3) rfl
     have q15:=HV9.out.p.cell 15 (.slice s.a1 s.n1 s.k1) rfl
     have q16:=HV9.out.p.cell 16 (.slice s.a2 s.n2 s.k2) rfl
     have q17:=HV9.out.p.cell 17 (.slice s.a3 s.n3 s.k3) rfl
     have q18:=HV9.out.p.cell 18 (.slice s.a4 s.n4 s.k4) rfl
     have q19:=HV9.out.p.cell 19 (.int .i64 C.ho.lo) rfl
     have q20:=HV9.out.p.cell 20 (.int .i64 C.ho.st) rfl
     go_wp2_with (first | (refine wpList_store_mid (P:=Tryz.prog) rfl 41 (.tmp 4) (.tmp 30) rfl (w.heap.size+1) 0 (coL (bkC C) s).toArray rfl rfl (HV9.out.r.there 0 _ (by rw[List.size_toArray,coL_len];decide)) (szC41A _ _) (coL_one _ _) ?_;generalize hW11:World.setCells _ (w.heap.size+1) 0 _=w11;have R11:=hidR hW11 (HV9.out.ret (bkC C) s);clear hW11))
     have hL:=run_loadVar_mid (P:=Tryz.prog) w11 (w.heap.size+1) 0 41 _ _ R11.out.1.load Tryz.underlying41 rfl (szC41L _ _)
     refine bodyPost_ret (v:=.agg (coL (bkC C) s).toArray) (results_cell Tryz.results119 _ w11 (w.heap.size+1) _ rfl hL) rfl ?_
     rw[HR.out]
     exact⟨s,rfl,R11.out.2⟩
  ·have HR:Hid (ofC C bit = { C with ct:=0 }):=by show _=_;unfold ofC;rw[if_pos (by simpa using fak.out),if_pos (by simpa using fb.out)]
   have HV9:Hid (vS w B T0 T1 T2 { C with ct:=0 } s C.ho s (World.setCell W0 ⟨w.heap.size,1,none⟩ (.int .i64 0))):=(H0.out.set 1 (.int .i64 0) { C with ct:=0 } rfl)
   go_upto_region 5 with fail
   generalize (World.setCell W0 ⟨w.heap.size,1,none⟩ (.int .i64 0))=w9 at *;go_wp2_with (first | (refine wpList_load_mid (P:=Tryz.prog) rfl 41 (.tmp 2) rfl w.heap.size 0 rfl (coL { C with ct:=0 } s) _ HV9.out.p.load Tryz.underlying41 rfl (szC41L _ _) ?_) | (refine wpList_store_mid (P:=Tryz.prog) rfl 41 (.tmp 4) (.tmp 12) rfl (w.heap.size+1) 0 (coL { C with ct:=0 } s).toArray rfl rfl (HV9.out.r.there 0 _ (by rw[List.size_toArray,coL_len];decide)) (szC41A _ _) (coL_one _ _) ?_;generalize hW11:World.setCells _ (w.heap.size+1) 0 _=w11;have R11:=hidR hW11 (HV9.out.ret { C with ct:=0 } s);clear hW11))
   have hL:=run_loadVar_mid (P:=Tryz.prog) w11 (w.heap.size+1) 0 41 _ _ R11.out.1.load Tryz.underlying41 rfl (szC41L _ _)
   refine bodyPost_ret (v:=.agg (coL { C with ct:=0 } s).toArray) (results_cell Tryz.results119 _ w11 (w.heap.size+1) _ rfl hL) rfl ?_
   rw[HR.out]
   exact⟨s,rfl,R11.out.2⟩
end Go.Proofs.YtkfcfigbgmbaiaaGreat
