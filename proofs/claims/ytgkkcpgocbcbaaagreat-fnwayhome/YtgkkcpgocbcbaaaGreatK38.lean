import Derived.Test.YtgkkcpgocbcbaaaGreatK37
import Derived.Deep.DeepCutAuto
import Derived.Deep.RegionWith
import Derived.Test.YtgkkcpgocbcbaaaGreatK18
import Derived.Test.YtgkkcpgocbcbaaaGreatK21
import Derived.Test.YtgkkcpgocbcbaaaGreatK12
import Derived.Test.YtgkkcpgocbcbaaaGreatK36
import Derived.Test.YtgkkcpgocbcbaaaGreatK35
namespace Go.Proofs.YtgkkcpgocbcbaaaGreat
open Go.RowKit
set_option linter.unusedVariables false
variable {w0 : World} {M : Nat} {G : Lg} {f1 f3 nm : Nat} {C : Co} {W : World}
theorem mx.off (h:mx w0 M G f1 f3 nm C W):mx w0 M G f1 f3 nm (offC C) (W.setCells M 3 [.int .i64 7,.int .i64 0,.int .i64 0,.bool false,.bool false,.bool false,.bool false,.bool false,.int .i64 0]):=by obtain⟨_,_,h⟩:=h;exact⟨_,_,h.moment⟩
def ovC (C:Co):Co:={ C with p:=2,ct:=0,ov:=true,ho:=postHo C.ho (ev3 9 0 0) }
set_option maxHeartbeats 8000000 in
set_option maxRecDepth 20000 in
theorem overload_any (h:mx w0 M G f1 f3 nm C W) :
  Calls Tryz.prog 112 #[.pointer (some ⟨M,0,none⟩)] W fun o w'=>o = .returned (.tuple #[])∧mx w0 M G f1 f3 nm (ovC C) w':=by
 have H0:Hid (mx w0 M G f1 f3 nm C W):=h
 have H3:Hid (mx w0 M G f1 f3 nm { C with p:=2,ct:=0,ov:=true } (World.setCell (World.setCell (World.setCell W ⟨M,3,none⟩ (.int .i64 2)) ⟨M,4,none⟩ (.int .i64 0)) ⟨M,7,none⟩ (.bool true))):=(((H0.out.set 3 (.int .i64 2) { C with p:=2 } rfl rfl).set 4 (.int .i64 0) { C with p:=2,ct:=0 } rfl rfl).set 7 (.bool true) { C with p:=2,ct:=0,ov:=true } rfl rfl)
 have y3:=h.m.cell 3 (.int .i64 C.p) rfl
 have y4:=h.m.cell 4 (.int .i64 C.ct) rfl
 have y7:=h.m.cell 7 (.bool C.ov) rfl
 have z3:=h.m.free 3
 have z4:=h.m.free 4
 have z7:=h.m.free 7
 have y0:=h.m.cell 0 (.pointer (some ⟨G.P,0,none⟩)) rfl
 clear h
 go_enter Tryz.func112,Tryz.ntmps112
 go_wp2_with fail
 refine (H3.out.post 9 0 0).mono ?_
 rintro o w1 ⟨rfl,h1⟩
 have H1:Hid (mx w0 M G f1 f3 nm (ovC C) w1):=h1
 clear h1 y0 y3 y4 y7 z3 z4 z7 H3 H0
 go_wp2_with fail
 first | go_end0 | (simp only[Exit.inBlock,Exit.then];refine bodyPost_ret (results_none rfl _ _ _) rfl ?_) | refine bodyPost_ret (results_none rfl _ _ _) rfl ?_
 exact⟨rfl,H1.out⟩
def idC (C:Co) (bit:Int):Co:=if bit=0 then { C with p:=1 } else C
set_option maxHeartbeats 8000000 in
set_option maxRecDepth 20000 in
theorem idle_any (h:mx w0 M G f1 f3 nm C W) (bit:Int) :
  Calls Tryz.prog 80 #[.pointer (some ⟨M,0,none⟩),.int .i64 bit] W fun o w'=>o = .returned (.tuple #[])∧mx w0 M G f1 f3 nm (idC C bit) w':=by
 have H0:Hid (mx w0 M G f1 f3 nm C W):=h
 have y3:=h.m.cell 3 (.int .i64 C.p) rfl
 have z3:=h.m.free 3
 clear h
 obtain⟨b,e,_,fb⟩:=eqB bit 0
 cases b
 ·have HR:Hid (idC C bit=C):=if_neg (fun x=>by have:=fb.out.2 x;cases this)
  go_enter Tryz.func80,Tryz.ntmps80
  go_wp2_with fail
  first | go_end0 | (simp only[Exit.inBlock,Exit.then];refine bodyPost_ret (results_none rfl _ _ _) rfl ?_) | refine bodyPost_ret (results_none rfl _ _ _) rfl ?_
  exact⟨rfl,by rw[HR.out];exact H0.out⟩
 ·have HR:Hid (idC C bit = { C with p:=1 }):=if_pos (fb.out.1 rfl)
  have H3:Hid (mx w0 M G f1 f3 nm { C with p:=1 } (World.setCell W ⟨M,3,none⟩ (.int .i64 1))):=(H0.out.set 3 (.int .i64 1) { C with p:=1 } rfl rfl)
  go_enter Tryz.func80,Tryz.ntmps80
  go_wp2_with fail
  first | go_end0 | (simp only[Exit.inBlock,Exit.then];refine bodyPost_ret (results_none rfl _ _ _) rfl ?_) | refine bodyPost_ret (results_none rfl _ _ _) rfl ?_
  exact⟨rfl,by rw[HR.out];exact H3.out⟩
def suC (C:Co) (bit:Int):Co:=if bit=0 then { C with p:=1,ct:=0,tx:=false } else if C.ct+1=8 then { C with p:=0,ct:=0,tx:=false } else { C with ct:=C.ct+1 }
theorem wrap_ct {n:Int} (h:0≤n∧n≤200):IntKind.i64.wrap (n+1)=n+1:=by rw[IntKind.wrap_i64];omega
set_option maxHeartbeats 8000000 in
set_option maxRecDepth 20000 in
theorem suspend_any (h:mx w0 M G f1 f3 nm C W) (bit:Int) (hc:0≤C.ct∧C.ct≤200) :
  Calls Tryz.prog 86 #[.pointer (some ⟨M,0,none⟩),.int .i64 bit] W fun o w'=>o = .returned (.tuple #[])∧mx w0 M G f1 f3 nm (suC C bit) w':=by
 have H0:Hid (mx w0 M G f1 f3 nm C W):=h
 have y3:=h.m.cell 3 (.int .i64 C.p) rfl
 have y4:=h.m.cell 4 (.int .i64 C.ct) rfl
 have y9:=h.m.cell 9 (.bool C.tx) rfl
 have z3:=h.m.free 3
 have z4:=h.m.free 4
 have z9:=h.m.free 9
 clear h
 have hw:=wrap_ct hc
 clear hc
 obtain⟨b,e,_,fb⟩:=eqB bit 0
 obtain⟨c,e2,_,fc⟩:=eqB (C.ct+1) 8
 go_enter Tryz.func86,Tryz.ntmps86
 cases b
 ·cases c
  ·have HR:Hid (suC C bit = { C with ct:=C.ct+1 }):=by show _=_;unfold suC;rw[if_neg (by simpa using fb.out),if_neg (by simpa using fc.out)]
   have H3:Hid (mx w0 M G f1 f3 nm { C with ct:=(C.ct+1) } (World.setCell W ⟨M,4,none⟩ (.int .i64 (C.ct+1)))):=(H0.out.set 4 (.int .i64 (C.ct+1)) { C with ct:=(C.ct+1) } rfl rfl)
   go_wp2_with fail
   first | go_end0 | (simp only[Exit.inBlock,Exit.then];refine bodyPost_ret (results_none rfl _ _ _) rfl ?_) | refine bodyPost_ret (results_none rfl _ _ _) rfl ?_
   exact⟨rfl,by rw[HR.out];exact H3.out⟩
  ·have HR:Hid (suC C bit = { C with p:=0,ct:=0,tx:=false }):=by show _=_;unfold suC;rw[if_neg (by simpa using fb.out),if_pos (by simpa using fc.out)]
   have H3:Hid (mx w0 M G f1 f3 nm { C with p:=0,ct:=0,tx:=false } (World.setCell (World.setCell (World.setCell (World.setCell W ⟨M,4,none⟩ (.int .i64 (C.ct+1))) ⟨M,3,none⟩ (.int .i64 0)) ⟨M,4,none⟩ (.int .i64 0)) ⟨M,9,none⟩ (.bool false))):=((((H0.out.set 4 (.int .i64 (C.ct+1)) { C with ct:=(C.ct+1) } rfl rfl).set 3 (.int .i64 0) { C with ct:=(C.ct+1),p:=0 } rfl rfl).set 4 (.int .i64 0) { C with p:=0,ct:=0 } rfl rfl).set 9 (.bool false) { C with p:=0,ct:=0,tx:=false } rfl rfl)
   go_wp2_with fail
   first | go_end0 | (simp only[Exit.inBlock,Exit.then];refine bodyPost_ret (results_none rfl _ _ _) rfl ?_) | refine bodyPost_ret (results_none rfl _ _ _) rfl ?_
   exact⟨rfl,by rw[HR.out];exact H3.out⟩
 ·have HR:Hid (suC C bit = { C with p:=1,ct:=0,tx:=false }):=by show _=_;unfold suC;rw[if_pos (by simpa using fb.out)]
  have H3:Hid (mx w0 M G f1 f3 nm { C with p:=1,ct:=0,tx:=false } (World.setCell (World.setCell (World.setCell (World.setCell W ⟨M,4,none⟩ (.int .i64 (C.ct+1))) ⟨M,3,none⟩ (.int .i64 1)) ⟨M,4,none⟩ (.int .i64 0)) ⟨M,9,none⟩ (.bool false))):=((((H0.out.set 4 (.int .i64 (C.ct+1)) { C with ct:=(C.ct+1) } rfl rfl).set 3 (.int .i64 1) { C with ct:=(C.ct+1),p:=1 } rfl rfl).set 4 (.int .i64 0) { C with p:=1,ct:=0 } rfl rfl).set 9 (.bool false) { C with p:=1,ct:=0,tx:=false } rfl rfl)
  go_wp2_with fail
  first | go_end0 | (simp only[Exit.inBlock,Exit.then];refine bodyPost_ret (results_none rfl _ _ _) rfl ?_) | refine bodyPost_ret (results_none rfl _ _ _) rfl ?_
  exact⟨rfl,by rw[HR.out];exact H3.out⟩
def dlC (C:Co) (bit:Int):Co:=if bit=0 then (if C.ct=7 then ovC C else fltC C 3) else if C.ct+1=8 then { C with p:=5,ct:=0,ov:=false } else { C with ct:=C.ct+1 }
set_option maxHeartbeats 8000000 in
set_option maxRecDepth 20000 in
theorem delim_any (h:mx w0 M G f1 f3 nm C W) (bit:Int) (hc:0≤C.ct∧C.ct≤200) (ht:0≤C.te∧C.te≤256) (hr:0≤C.re∧C.re≤255) (hwf:∀ j (hj:j<C.ho.bx.length),(Lit.int .i64 C.ho.bx[j].y).wf=true) :
  Calls Tryz.prog 84 #[.pointer (some ⟨M,0,none⟩),.int .i64 bit] W fun o w'=>o = .returned (.tuple #[])∧mx w0 M G f1 f3 nm (dlC C bit) w':=by
 have H0:Hid (mx w0 M G f1 f3 nm C W):=h
 have HFL:Hid (∀ k,Calls Tryz.prog 110 #[.pointer (some ⟨M,0,none⟩),.int .i64 k] W fun o w'=>o = .returned (.tuple #[])∧mx w0 M G f1 f3 nm (fltC C k) w'):=fun k=>h.fault k ht hr hwf
 have y3:=h.m.cell 3 (.int .i64 C.p) rfl
 have y4:=h.m.cell 4 (.int .i64 C.ct) rfl
 have y7:=h.m.cell 7 (.bool C.ov) rfl
 have z3:=h.m.free 3
 have z4:=h.m.free 4
 have z7:=h.m.free 7
 clear h ht hr hwf
 have hw:=wrap_ct hc
 clear hc
 obtain⟨b,e,_,fb⟩:=eqB bit 0
 obtain⟨c,e2,_,fc⟩:=eqB (C.ct+1) 8
 obtain⟨d,e3,_,fd⟩:=eqB C.ct 7
 go_enter Tryz.func84,Tryz.ntmps84
 cases b
 ·cases c
  ·have HR:Hid (dlC C bit = { C with ct:=C.ct+1 }):=by show _=_;unfold dlC;rw[if_neg (by simpa using fb.out),if_neg (by simpa using fc.out)]
   have H3:Hid (mx w0 M G f1 f3 nm { C with ct:=(C.ct+1) } (World.setCell W ⟨M,4,none⟩ (.int .i64 (C.ct+1)))):=(H0.out.set 4 (.int .i64 (C.ct+1)) { C with ct:=(C.ct+1) } rfl rfl)
   go_wp2_with fail
   first | go_end0 | (simp only[Exit.inBlock,Exit.then];refine bodyPost_ret (results_none rfl _ _ _) rfl ?_) | refine bodyPost_ret (results_none rfl _ _ _) rfl ?_
   exact⟨rfl,by rw[HR.out];exact H3.out⟩
  ·have HR:Hid (dlC C bit = { C with p:=5,ct:=0,ov:=false }):=by show _=_;unfold dlC;rw[if_neg (by simpa using fb.out),if_pos (by simpa using fc.out)]
   have H3:Hid (mx w0 M G f1 f3 nm { C with p:=5,ct:=0,ov:=false } (World.setCell (World.setCell (World.setCell (World.setCell W ⟨M,4,none⟩ (.int .i64 (C.ct+1))) ⟨M,3,none⟩ (.int .i64 5)) ⟨M,4,none⟩ (.int .i64 0)) ⟨M,7,none⟩ (.bool false))):=((((H0.out.set 4 (.int .i64 (C.ct+1)) { C with ct:=(C.ct+1) } rfl rfl).set 3 (.int .i64 5) { C with ct:=(C.ct+1),p:=5 } rfl rfl).set 4 (.int .i64 0) { C with p:=5,ct:=0 } rfl rfl).set 7 (.bool false) { C with p:=5,ct:=0,ov:=false } rfl rfl)
   go_wp2_with fail
   first | go_end0 | (simp only[Exit.inBlock,Exit.then];refine bodyPost_ret (results_none rfl _ _ _) rfl ?_) | refine bodyPost_ret (results_none rfl _ _ _) rfl ?_
   exact⟨rfl,by rw[HR.out];exact H3.out⟩
 ·cases d
  ·have HR:Hid (dlC C bit=fltC C 3):=by show _=_;unfold dlC;rw[if_pos (by simpa using fb.out),if_neg (by simpa using fd.out)]
   go_wp2_with fail
   refine (HFL.out 3).mono ?_
   rintro o w1 ⟨rfl,h1⟩
   have H1:=hidX h1
   clear h1
   go_wp2_with fail
   first | go_end0 | (simp only[Exit.inBlock,Exit.then];refine bodyPost_ret (results_none rfl _ _ _) rfl ?_) | refine bodyPost_ret (results_none rfl _ _ _) rfl ?_
   exact⟨rfl,by rw[HR.out];exact H1.out⟩
  ·have HR:Hid (dlC C bit=ovC C):=by show _=_;unfold dlC;rw[if_pos (by simpa using fb.out),if_pos (by simpa using fd.out)]
   go_wp2_with fail
   refine (overload_any H0.out).mono ?_
   rintro o w1 ⟨rfl,h1⟩
   have H1:=hidX h1
   clear h1
   go_wp2_with fail
   first | go_end0 | (simp only[Exit.inBlock,Exit.then];refine bodyPost_ret (results_none rfl _ _ _) rfl ?_) | refine bodyPost_ret (results_none rfl _ _ _) rfl ?_
   exact⟨rfl,by rw[HR.out];exact H1.out⟩
def wfX (X:Co) (bit:Int):Co:=if bit=X.lv then (if X.ct+1=6 then { X with p:=3,ct:=0,lv:=0,wk:=false,ow:=false } else { X with ct:=X.ct+1,lv:=bit }) else { X with ct:=1,lv:=bit }
def wfO (C:Co) (bit:Int):Co:=if C.ow=true∧bit=0 then addC { C with ow:=false } C.tx 8 else C
theorem wfO_ct (C:Co) (bit:Int):(wfO C bit).ct=C.ct:=by unfold wfO addC;split <;> (try split) <;> rfl
set_option maxHeartbeats 8000000 in
set_option maxRecDepth 20000 in
theorem weak_any (h:mx w0 M G f1 f3 nm C W) (bit:Int) (hc:0≤C.ct∧C.ct≤200) (ht:0≤C.te∧C.te≤256) (hr:0≤C.re∧C.re≤255) :
  Calls Tryz.prog 109 #[.pointer (some ⟨M,0,none⟩),.int .i64 bit] W fun o w'=>o = .returned (.tuple #[])∧mx w0 M G f1 f3 nm (wfX (wfO C bit) bit) w':=by
 have H0:Hid (mx w0 M G f1 f3 nm C W):=h
 have HAD:Hid (Calls Tryz.prog 111 #[.pointer (some ⟨M,0,none⟩),.bool C.tx,.int .i64 8] ((World.setCell W ⟨M,8,none⟩ (.bool false))).drew fun o w'=>o = .returned (.tuple #[])∧mx w0 M G f1 f3 nm (addC { C with ow:=false } C.tx 8) w'):=(((H0.out.set 8 (.bool false) { C with ow:=false } rfl rfl)).below (Below.refl _ _).drew).add C.tx 8 (by decide) ht hr
 have HC:Hid (0≤C.ct∧C.ct≤200):=hc
 have y8:=h.m.cell 8 (.bool C.ow) rfl
 have y9:=h.m.cell 9 (.bool C.tx) rfl
 have z8:=h.m.free 8
 clear h ht hr hc
 obtain⟨b,e,_,fb⟩:=eqB bit 0
 obtain⟨ow,eow⟩ : ∃ b,C.ow=b:=⟨_,rfl⟩
 rw[eow] at y8
 have HW:Hid (C.ow=ow):=eow
 clear eow
 go_enter Tryz.func109,Tryz.ntmps109
 go_upto_region 0 with fail
 go_cut [12] (fun x wx=>x = .bool (ow && b)∧wx=W)
 case first=>
  cases ow <;> cases b <;> (
   go_wp2_with fail
   go_meet
   case rel=>exact⟨rfl,rfl⟩)
 case rest=>
 obtain⟨rfl,hw⟩:=hcut
 subst hw
 obtain⟨c,ec⟩ : ∃ c,(ow && b)=c:=⟨_,rfl⟩
 rw[ec]
 have HE:Hid (wfO C bit=if c=true then addC { C with ow:=false } C.tx 8 else C):=by
  have hc:(C.ow=true∧bit=0)↔c=true:=by rw[← ec,HW.out,← fb.out];cases ow <;> cases b <;> simp
  show _=_
  unfold wfO
  simp only[hc]
 clear ec e fb HW
 go_upto_if 12 with fail
 go_cut [] (fun wx=>Hid (mx w0 M G f1 f3 nm (wfO C bit) wx))
 case first=>
  cases c
  ·go_wp2_with fail
   go_meet
   case rel=>rw[HE.out];exact H0.out
  ·go_wp2_with fail
   go_region_with (go_at_call 111;refine HAD.out.mono ?_;rintro o w1 ⟨rfl,h1⟩;have H1:=hidX h1;clear h1)
   all_goals (
    go_wp2_with fail
    go_meet
    case rel=>rw[HE.out];exact H1.out)
 case rest=>
 obtain⟨X,eX⟩ : ∃ X,wfO C bit=X:=⟨_,rfl⟩
 have HC2:Hid (0≤X.ct∧X.ct≤200):=by rw[← eX,wfO_ct];exact HC.out
 rw[eX] at hcut
 have HEX:Hid (wfO C bit=X):=eX
 clear eX HE HAD H0 HC y8 y9 z8
 have H0:=hcut
 clear hcut
 have y3:=H0.out.m.cell 3 (.int .i64 X.p) rfl
 have y4:=H0.out.m.cell 4 (.int .i64 X.ct) rfl
 have y5:=H0.out.m.cell 5 (.int .i64 X.lv) rfl
 have y6:=H0.out.m.cell 6 (.bool X.wk) rfl
 have y8:=H0.out.m.cell 8 (.bool X.ow) rfl
 have z3:=H0.out.m.free 3
 have z4:=H0.out.m.free 4
 have z5:=H0.out.m.free 5
 have z6:=H0.out.m.free 6
 have z8:=H0.out.m.free 8
 have hw:=wrap_ct HC2.out
 clear HC2
 obtain⟨b,e,n,fb⟩:=eqB bit X.lv
 obtain⟨d,e2,_,fd⟩:=eqB (X.ct+1) 6
 cases b
 ·have HR:Hid (wfX X bit = { X with ct:=1,lv:=bit }):=by show _=_;unfold wfX;rw[if_neg (by simpa using fb.out)]
  have H3:Hid (mx w0 M G f1 f3 nm { X with ct:=1,lv:=bit } (World.setCell (World.setCell (World.setCell wc ⟨M,4,none⟩ (.int .i64 0)) ⟨M,4,none⟩ (.int .i64 1)) ⟨M,5,none⟩ (.int .i64 bit))):=(((H0.out.set 4 (.int .i64 0) { X with ct:=0 } rfl rfl).set 4 (.int .i64 1) { X with ct:=1 } rfl rfl).set 5 (.int .i64 bit) { X with ct:=1,lv:=bit } rfl rfl)
  go_wp2_with fail
  first | go_end0 | (simp only[Exit.inBlock,Exit.then];refine bodyPost_ret (results_none rfl _ _ _) rfl ?_) | refine bodyPost_ret (results_none rfl _ _ _) rfl ?_
  exact⟨rfl,by rw[HEX.out,HR.out];exact H3.out⟩
 ·cases d
  ·have HR:Hid (wfX X bit = { X with ct:=X.ct+1,lv:=bit }):=by show _=_;unfold wfX;rw[if_pos (by simpa using fb.out),if_neg (by simpa using fd.out)]
   have H3:Hid (mx w0 M G f1 f3 nm { X with ct:=(X.ct+1),lv:=bit } (World.setCell (World.setCell wc ⟨M,4,none⟩ (.int .i64 (X.ct+1))) ⟨M,5,none⟩ (.int .i64 bit))):=((H0.out.set 4 (.int .i64 (X.ct+1)) { X with ct:=(X.ct+1) } rfl rfl).set 5 (.int .i64 bit) { X with ct:=(X.ct+1),lv:=bit } rfl rfl)
   go_wp2_with fail
   first | go_end0 | (simp only[Exit.inBlock,Exit.then];refine bodyPost_ret (results_none rfl _ _ _) rfl ?_) | refine bodyPost_ret (results_none rfl _ _ _) rfl ?_
   exact⟨rfl,by rw[HEX.out,HR.out];exact H3.out⟩
  ·have HR:Hid (wfX X bit = { X with p:=3,ct:=0,lv:=0,wk:=false,ow:=false }):=by show _=_;unfold wfX;rw[if_pos (by simpa using fb.out),if_pos (by simpa using fd.out)]
   have H3:Hid (mx w0 M G f1 f3 nm { X with p:=3,ct:=0,lv:=0,wk:=false,ow:=false } (World.setCell (World.setCell (World.setCell (World.setCell (World.setCell (World.setCell (World.setCell wc ⟨M,4,none⟩ (.int .i64 (X.ct+1))) ⟨M,5,none⟩ (.int .i64 bit)) ⟨M,3,none⟩ (.int .i64 3)) ⟨M,4,none⟩ (.int .i64 0)) ⟨M,5,none⟩ (.int .i64 0)) ⟨M,6,none⟩ (.bool false)) ⟨M,8,none⟩ (.bool false))):=(((((((H0.out.set 4 (.int .i64 (X.ct+1)) { X with ct:=(X.ct+1) } rfl rfl).set 5 (.int .i64 bit) { X with ct:=(X.ct+1),lv:=bit } rfl rfl).set 3 (.int .i64 3) { X with ct:=(X.ct+1),lv:=bit,p:=3 } rfl rfl).set 4 (.int .i64 0) { X with lv:=bit,p:=3,ct:=0 } rfl rfl).set 5 (.int .i64 0) { X with p:=3,ct:=0,lv:=0 } rfl rfl).set 6 (.bool false) { X with p:=3,ct:=0,lv:=0,wk:=false } rfl rfl).set 8 (.bool false) { X with p:=3,ct:=0,lv:=0,wk:=false,ow:=false } rfl rfl)
   go_wp2_with fail
   first | go_end0 | (simp only[Exit.inBlock,Exit.then];refine bodyPost_ret (results_none rfl _ _ _) rfl ?_) | refine bodyPost_ret (results_none rfl _ _ _) rfl ?_
   exact⟨rfl,by rw[HEX.out,HR.out];exact H3.out⟩
variable {w0 : World} {M : Nat} {G : Lg} {f1 f3 nm : Nat} {C : Co} {W : World}
def flC (C:Co) (bit:Int):Co:=if C.wk=true then wfX (wfO C bit) bit else if bit=1 then fltC C 1 else if C.ct+1=6 then { C with p:=3,ct:=0 } else { C with ct:=C.ct+1 }
set_option maxHeartbeats 8000000 in
set_option maxRecDepth 20000 in
theorem flagS_any (h:mx w0 M G f1 f3 nm C W) (bit:Int) (hc:0≤C.ct∧C.ct≤200) (ht:0≤C.te∧C.te≤256) (hr:0≤C.re∧C.re≤255) (hwf:∀ j (hj:j<C.ho.bx.length),(Lit.int .i64 C.ho.bx[j].y).wf=true) :
  Calls Tryz.prog 82 #[.pointer (some ⟨M,0,none⟩),.int .i64 bit] W fun o w'=>o = .returned (.tuple #[])∧mx w0 M G f1 f3 nm (flC C bit) w':=by
 have H0:Hid (mx w0 M G f1 f3 nm C W):=h
 have HFL:Hid (∀ k,Calls Tryz.prog 110 #[.pointer (some ⟨M,0,none⟩),.int .i64 k] W fun o w'=>o = .returned (.tuple #[])∧mx w0 M G f1 f3 nm (fltC C k) w'):=fun k=>h.fault k ht hr hwf
 have HWK:Hid (Calls Tryz.prog 109 #[.pointer (some ⟨M,0,none⟩),.int .i64 bit] W fun o w'=>o = .returned (.tuple #[])∧mx w0 M G f1 f3 nm (wfX (wfO C bit) bit) w'):=weak_any h bit hc ht hr
 have y3:=h.m.cell 3 (.int .i64 C.p) rfl
 have y4:=h.m.cell 4 (.int .i64 C.ct) rfl
 have y6:=h.m.cell 6 (.bool C.wk) rfl
 have z3:=h.m.free 3
 have z4:=h.m.free 4
 clear h ht hr hwf
 have hw:=wrap_ct hc
 clear hc
 obtain⟨wk,ewk⟩ : ∃ b,C.wk=b:=⟨_,rfl⟩
 rw[ewk] at y6
 have fwk:Hid (wk=true↔C.wk=true):=by show _↔_;rw[ewk]
 clear ewk
 obtain⟨b,e,_,fb⟩:=eqB bit 1
 obtain⟨c,e2,_,fc⟩:=eqB (C.ct+1) 6
 go_enter Tryz.func82,Tryz.ntmps82
 cases wk
 ·cases b
  ·cases c
   ·have HR:Hid (flC C bit = { C with ct:=C.ct+1 }):=by show _=_;unfold flC;rw[if_neg (by simpa using fwk.out),if_neg (by simpa using fb.out),if_neg (by simpa using fc.out)]
    have H3:Hid (mx w0 M G f1 f3 nm { C with ct:=(C.ct+1) } (World.setCell W ⟨M,4,none⟩ (.int .i64 (C.ct+1)))):=(H0.out.set 4 (.int .i64 (C.ct+1)) { C with ct:=(C.ct+1) } rfl rfl)
    go_wp2_with fail
    first | go_end0 | (simp only[Exit.inBlock,Exit.then];refine bodyPost_ret (results_none rfl _ _ _) rfl ?_) | refine bodyPost_ret (results_none rfl _ _ _) rfl ?_
    exact⟨rfl,by rw[HR.out];exact H3.out⟩
   ·have HR:Hid (flC C bit = { C with p:=3,ct:=0 }):=by show _=_;unfold flC;rw[if_neg (by simpa using fwk.out),if_neg (by simpa using fb.out),if_pos (by simpa using fc.out)]
    have H3:Hid (mx w0 M G f1 f3 nm { C with p:=3,ct:=0 } (World.setCell (World.setCell (World.setCell W ⟨M,4,none⟩ (.int .i64 (C.ct+1))) ⟨M,3,none⟩ (.int .i64 3)) ⟨M,4,none⟩ (.int .i64 0))):=(((H0.out.set 4 (.int .i64 (C.ct+1)) { C with ct:=(C.ct+1) } rfl rfl).set 3 (.int .i64 3) { C with ct:=(C.ct+1),p:=3 } rfl rfl).set 4 (.int .i64 0) { C with p:=3,ct:=0 } rfl rfl)
    go_wp2_with fail
    first | go_end0 | (simp only[Exit.inBlock,Exit.then];refine bodyPost_ret (results_none rfl _ _ _) rfl ?_) | refine bodyPost_ret (results_none rfl _ _ _) rfl ?_
    exact⟨rfl,by rw[HR.out];exact H3.out⟩
  ·have HR:Hid (flC C bit=fltC C 1):=by show _=_;unfold flC;rw[if_neg (by simpa using fwk.out),if_pos (by simpa using fb.out)]
   go_wp2_with fail
   refine (HFL.out 1).mono ?_
   rintro o w1 ⟨rfl,h1⟩
   have H1:=hidX h1
   clear h1
   go_wp2_with fail
   first | go_end0 | (simp only[Exit.inBlock,Exit.then];refine bodyPost_ret (results_none rfl _ _ _) rfl ?_) | refine bodyPost_ret (results_none rfl _ _ _) rfl ?_
   exact⟨rfl,by rw[HR.out];exact H1.out⟩
 ·have HR:Hid (flC C bit=wfX (wfO C bit) bit):=by show _=_;unfold flC;rw[if_pos (by simpa using fwk.out)]
  go_wp2_with fail
  refine (HWK.out).mono ?_
  rintro o w1 ⟨rfl,h1⟩
  have H1:=hidX h1
  clear h1
  go_wp2_with fail
  first | go_end0 | (simp only[Exit.inBlock,Exit.then];refine bodyPost_ret (results_none rfl _ _ _) rfl ?_) | refine bodyPost_ret (results_none rfl _ _ _) rfl ?_
  exact⟨rfl,by rw[HR.out];exact H1.out⟩
def waC (C:Co) (bit:Int):Co:=if bit=1 then { C with p:=4,ct:=1 } else if (C.ct+1=1∧C.tx=false∧C.ov=false)∨C.ct+1=8 then addC { C with ct:=C.ct+1 } C.tx 8 else if C.ct+1=16 then { addC { C with ct:=C.ct+1 } C.tx 8 with ct:=8 } else { C with ct:=C.ct+1 }
set_option maxHeartbeats 8000000 in
set_option maxRecDepth 20000 in
theorem wait_any (h:mx w0 M G f1 f3 nm C W) (bit:Int) (hc:0≤C.ct∧C.ct≤200) (ht:0≤C.te∧C.te≤256) (hr:0≤C.re∧C.re≤255) :
  Calls Tryz.prog 83 #[.pointer (some ⟨M,0,none⟩),.int .i64 bit] W fun o w'=>o = .returned (.tuple #[])∧mx w0 M G f1 f3 nm (waC C bit) w':=by
 have H0:Hid (mx w0 M G f1 f3 nm C W):=h
 have HA0:Hid (∀ b,Calls Tryz.prog 111 #[.pointer (some ⟨M,0,none⟩),.bool b,.int .i64 8] ((World.setCell W ⟨M,4,none⟩ (.int .i64 (C.ct+1)))).drew fun o w'=>o = .returned (.tuple #[])∧mx w0 M G f1 f3 nm (addC { C with ct:=C.ct+1 } b 8) w'):=fun b=>(((H0.out.set 4 (.int .i64 (C.ct+1)) { C with ct:=(C.ct+1) } rfl rfl)).below (Below.refl _ _).drew).add b 8 (by decide) ht hr
 have y3:=h.m.cell 3 (.int .i64 C.p) rfl
 have y4:=h.m.cell 4 (.int .i64 C.ct) rfl
 have y7:=h.m.cell 7 (.bool C.ov) rfl
 have y9:=h.m.cell 9 (.bool C.tx) rfl
 have z3:=h.m.free 3
 have z4:=h.m.free 4
 clear h ht hr
 have hw:=wrap_ct hc
 clear hc
 obtain⟨tx,etx⟩ : ∃ b,C.tx=b:=⟨_,rfl⟩
 obtain⟨ov,eov⟩ : ∃ b,C.ov=b:=⟨_,rfl⟩
 rw[etx] at y9
 rw[eov] at y7
 obtain⟨b,e,_,fb⟩:=eqB bit 1
 obtain⟨d1,e1,_,f1⟩:=eqB (C.ct+1) 1
 obtain⟨d8,e8,_,f8⟩:=eqB (C.ct+1) 8
 obtain⟨d16,e16,_,f16⟩:=eqB (C.ct+1) 16
 have HQ:Hid (waC C bit=if b=true then { C with p:=4,ct:=1 } else if ((d1 && !tx && !ov) || d8)=true then addC { C with ct:=C.ct+1 } tx 8 else if d16=true then { addC { C with ct:=C.ct+1 } tx 8 with ct:=8 } else { C with ct:=C.ct+1 }):=by
  show _=_
  have h1:(((d1 && !tx && !ov) || d8)=true)↔((C.ct+1=1∧C.tx=false∧C.ov=false)∨C.ct+1=8):=by rw[← f1.out,← f8.out,etx,eov];cases d1 <;> cases tx <;> cases ov <;> cases d8 <;> simp
  unfold waC
  simp only[h1,fb.out,f16.out,etx]
 have HAD:=HA0.out tx
 have HAD:=hidX HAD
 clear HA0 etx eov fb f1 f8 f16
 go_enter Tryz.func83,Tryz.ntmps83
 cases b
 ·cases d1
  ·cases d8
   ·cases d16
    ·have HR:Hid (waC C bit = { C with ct:=C.ct+1 }):=HQ.out
     have H3:Hid (mx w0 M G f1 f3 nm { C with ct:=(C.ct+1) } (World.setCell W ⟨M,4,none⟩ (.int .i64 (C.ct+1)))):=(H0.out.set 4 (.int .i64 (C.ct+1)) { C with ct:=(C.ct+1) } rfl rfl)
     go_wp2_with fail
     first | go_end0 | (simp only[Exit.inBlock,Exit.then];refine bodyPost_ret (results_none rfl _ _ _) rfl ?_) | refine bodyPost_ret (results_none rfl _ _ _) rfl ?_
     exact⟨rfl,by rw[HR.out];exact H3.out⟩
    ·have HR:Hid (waC C bit = { addC { C with ct:=C.ct+1 } tx 8 with ct:=8 }):=HQ.out
     go_wp2_with fail
     go_region_with (go_at_call 111;refine HAD.out.mono ?_;rintro o w1 ⟨rfl,h1⟩;have H1:=hidX h1;clear h1)
     all_goals (
      have u4:=H1.out.m.cell 4 (.int .i64 (addC { C with ct:=C.ct+1 } tx 8).ct) rfl
      have v4:=H1.out.m.free 4
      have H5:Hid (mx w0 M G f1 f3 nm { addC { C with ct:=C.ct+1 } tx 8 with ct:=8 } (World.setCell w1 ⟨M,4,none⟩ (.int .i64 8))):=H1.out.set 4 (.int .i64 8) _ rfl rfl
      go_wp2_with fail
      first | go_end0 | (simp only[Exit.inBlock,Exit.then];refine bodyPost_ret (results_none rfl _ _ _) rfl ?_) | refine bodyPost_ret (results_none rfl _ _ _) rfl ?_
      exact⟨rfl,by rw[HR.out];exact H5.out⟩)
   ·have HR:Hid (waC C bit=addC { C with ct:=C.ct+1 } tx 8):=HQ.out
    go_wp2_with fail
    go_region_with (go_at_call 111;refine HAD.out.mono ?_;rintro o w1 ⟨rfl,h1⟩;have H1:=hidX h1;clear h1)
    all_goals (
     go_wp2_with fail
     first | go_end0 | (simp only[Exit.inBlock,Exit.then];refine bodyPost_ret (results_none rfl _ _ _) rfl ?_) | refine bodyPost_ret (results_none rfl _ _ _) rfl ?_
     exact⟨rfl,by rw[HR.out];exact H1.out⟩)
  ·cases tx
   ·cases ov
    ·have HR:Hid (waC C bit=addC { C with ct:=C.ct+1 } false 8):=HQ.out
     go_wp2_with fail
     go_region_with (go_at_call 111;refine HAD.out.mono ?_;rintro o w1 ⟨rfl,h1⟩;have H1:=hidX h1;clear h1)
     all_goals (
      go_wp2_with fail
      first | go_end0 | (simp only[Exit.inBlock,Exit.then];refine bodyPost_ret (results_none rfl _ _ _) rfl ?_) | refine bodyPost_ret (results_none rfl _ _ _) rfl ?_
      exact⟨rfl,by rw[HR.out];exact H1.out⟩)
    ·cases d8
     ·cases d16
      ·have HR:Hid (waC C bit = { C with ct:=C.ct+1 }):=HQ.out
       have H3:Hid (mx w0 M G f1 f3 nm { C with ct:=(C.ct+1) } (World.setCell W ⟨M,4,none⟩ (.int .i64 (C.ct+1)))):=(H0.out.set 4 (.int .i64 (C.ct+1)) { C with ct:=(C.ct+1) } rfl rfl)
       go_wp2_with fail
       first | go_end0 | (simp only[Exit.inBlock,Exit.then];refine bodyPost_ret (results_none rfl _ _ _) rfl ?_) | refine bodyPost_ret (results_none rfl _ _ _) rfl ?_
       exact⟨rfl,by rw[HR.out];exact H3.out⟩
      ·have HR:Hid (waC C bit = { addC { C with ct:=C.ct+1 } false 8 with ct:=8 }):=HQ.out
       go_wp2_with fail
       go_region_with (go_at_call 111;refine HAD.out.mono ?_;rintro o w1 ⟨rfl,h1⟩;have H1:=hidX h1;clear h1)
       all_goals (
        have u4:=H1.out.m.cell 4 (.int .i64 (addC { C with ct:=C.ct+1 } false 8).ct) rfl
        have v4:=H1.out.m.free 4
        have H5:Hid (mx w0 M G f1 f3 nm { addC { C with ct:=C.ct+1 } false 8 with ct:=8 } (World.setCell w1 ⟨M,4,none⟩ (.int .i64 8))):=H1.out.set 4 (.int .i64 8) _ rfl rfl
        go_wp2_with fail
        first | go_end0 | (simp only[Exit.inBlock,Exit.then];refine bodyPost_ret (results_none rfl _ _ _) rfl ?_) | refine bodyPost_ret (results_none rfl _ _ _) rfl ?_
        exact⟨rfl,by rw[HR.out];exact H5.out⟩)
     ·have HR:Hid (waC C bit=addC { C with ct:=C.ct+1 } false 8):=HQ.out
      go_wp2_with fail
      go_region_with (go_at_call 111;refine HAD.out.mono ?_;rintro o w1 ⟨rfl,h1⟩;have H1:=hidX h1;clear h1)
      all_goals (
       go_wp2_with fail
       first | go_end0 | (simp only[Exit.inBlock,Exit.then];refine bodyPost_ret (results_none rfl _ _ _) rfl ?_) | refine bodyPost_ret (results_none rfl _ _ _) rfl ?_
       exact⟨rfl,by rw[HR.out];exact H1.out⟩)
   ·cases d8
    ·cases d16
     ·have HR:Hid (waC C bit = { C with ct:=C.ct+1 }):=HQ.out
      have H3:Hid (mx w0 M G f1 f3 nm { C with ct:=(C.ct+1) } (World.setCell W ⟨M,4,none⟩ (.int .i64 (C.ct+1)))):=(H0.out.set 4 (.int .i64 (C.ct+1)) { C with ct:=(C.ct+1) } rfl rfl)
      go_wp2_with fail
      first | go_end0 | (simp only[Exit.inBlock,Exit.then];refine bodyPost_ret (results_none rfl _ _ _) rfl ?_) | refine bodyPost_ret (results_none rfl _ _ _) rfl ?_
      exact⟨rfl,by rw[HR.out];exact H3.out⟩
     ·have HR:Hid (waC C bit = { addC { C with ct:=C.ct+1 } true 8 with ct:=8 }):=HQ.out
      go_wp2_with fail
      go_region_with (go_at_call 111;refine HAD.out.mono ?_;rintro o w1 ⟨rfl,h1⟩;have H1:=hidX h1;clear h1)
      all_goals (
       have u4:=H1.out.m.cell 4 (.int .i64 (addC { C with ct:=C.ct+1 } true 8).ct) rfl
       have v4:=H1.out.m.free 4
       have H5:Hid (mx w0 M G f1 f3 nm { addC { C with ct:=C.ct+1 } true 8 with ct:=8 } (World.setCell w1 ⟨M,4,none⟩ (.int .i64 8))):=H1.out.set 4 (.int .i64 8) _ rfl rfl
       go_wp2_with fail
       first | go_end0 | (simp only[Exit.inBlock,Exit.then];refine bodyPost_ret (results_none rfl _ _ _) rfl ?_) | refine bodyPost_ret (results_none rfl _ _ _) rfl ?_
       exact⟨rfl,by rw[HR.out];exact H5.out⟩)
    ·have HR:Hid (waC C bit=addC { C with ct:=C.ct+1 } true 8):=HQ.out
     go_wp2_with fail
     go_region_with (go_at_call 111;refine HAD.out.mono ?_;rintro o w1 ⟨rfl,h1⟩;have H1:=hidX h1;clear h1)
     all_goals (
      go_wp2_with fail
      first | go_end0 | (simp only[Exit.inBlock,Exit.then];refine bodyPost_ret (results_none rfl _ _ _) rfl ?_) | refine bodyPost_ret (results_none rfl _ _ _) rfl ?_
      exact⟨rfl,by rw[HR.out];exact H1.out⟩)
 ·have HR:Hid (waC C bit = { C with p:=4,ct:=1 }):=HQ.out
  have H3:Hid (mx w0 M G f1 f3 nm { C with p:=4,ct:=1 } (World.setCell (World.setCell W ⟨M,3,none⟩ (.int .i64 4)) ⟨M,4,none⟩ (.int .i64 1))):=((H0.out.set 3 (.int .i64 4) { C with p:=4 } rfl rfl).set 4 (.int .i64 1) { C with p:=4,ct:=1 } rfl rfl)
  go_wp2_with fail
  first | go_end0 | (simp only[Exit.inBlock,Exit.then];refine bodyPost_ret (results_none rfl _ _ _) rfl ?_) | refine bodyPost_ret (results_none rfl _ _ _) rfl ?_
  exact⟨rfl,by rw[HR.out];exact H3.out⟩
def opn (w:World) (C:Co) (M:Nat) (w':World):Prop:=∃ (w0:World) (G:Lg) (nm:Nat),mx w0 M G 0 0 nm C w'∧Below w.heap.size w w0∧M<w'.heap.size∧G.gb<w'.heap.size∧Below w.heap.size w w'
theorem openM (w:World) (C:Co) (s:Sl) (h:isHo w C.ho s) (hs:slSome s) (hok:okCo C) (hm:C.ho.le 1048576):Calls Tryz.prog 37 #[.agg (coL C s).toArray] w fun o w'=>∃ M,o = .returned (.pointer (some ⟨M,0,none⟩))∧opn w C M w':=by
 refine (openCore_gen (R:=fun P w'=>∃ (X:World) (G:Lg) (hd:Nat→Hd),Below w.heap.size w X∧lh X G C.ho 0 0 hd G.n2 (tagsD Unit C.ho.bx G.n2) w'∧P=G.P) ?_ w C s ?_).mono ?_
 ·rintro P W W' ⟨X,G,hd,h1,h2,h3⟩ hb
  exact⟨X,G,hd,h1,h2.below hb,h3⟩
 ·intro W hW
  refine (open_lh W C.ho s (h.below hW) hs hok.h hm).mono ?_
  rintro o w' ⟨G,hd,rfl,h1,_⟩
  exact⟨G.P,rfl,⟨W,G,hd,hW,h1,rfl⟩,h1.b⟩
 rintro o w' ⟨P,w5,rfl,rfl,⟨X,G,hd,h1,h2,rfl⟩,h3⟩
 have hb5:Below w5.heap.size w5 (w5.alloc (.cells (mcL G.P C).toArray 106)):=(Below.refl _ _).alloc (Nat.le_refl _) _
 have a1:=h2.p.lt
 have a2:=h2.m.lt
 have a3:=h2.hi
 have a4:=h2.x.hi
 have a5:=h2.b.size
 have hmc:mc X w5.heap.size G C 0 0 hd G.n2 (tagsD Unit C.ho.bx G.n2) (w5.alloc (.cells (mcL G.P C).toArray 106)):=
  ⟨blk.new w5 _ 106,h2.below hb5,⟨by omega,by omega,by omega,by omega,by omega,by omega,by omega⟩⟩
 refine⟨w5.heap.size,rfl,X,G,G.n2,⟨hd,_,hmc⟩,h1,by simp,by simp;omega,h3.trans (hb5.mono h3.size)⟩
theorem rfL_core {w:World} {b:Nat} {C:Co} {s:Sl} {hd:ByteArray} {T:TypeId} (h:blk w b (rfL C s hd) T):w.rangeAt b 0 (coL C s):=by
 have h':blk w b ([]++coL C s++[.string hd]) T:=h
 exact h'.loadAt [] (coL C s) [.string hd]
def opr (w:World) (C:Co) (R:Nat) (w':World):Prop:=∃ (w0:World) (M:Nat) (G:Lg) (nm:Nat),mx w0 M G 0 0 nm C w'∧Below w.heap.size w w0∧blk w' R [.pointer (some ⟨M,0,none⟩),.string ⟨#[]⟩] 111∧R≠M∧R≠G.gb
set_option maxHeartbeats 8000000 in
set_option maxRecDepth 20000 in
theorem openRef_any (w:World) (C:Co) (s:Sl) (h:isHo w C.ho s) (hs:slSome s) (hok:okCo C) (hm:C.ho.le 1048576) (hp:(C.p == 1)=false) :
  Calls Tryz.prog 22 #[.agg (rfL C s ⟨#[]⟩).toArray] w fun o w'=>∃ R,o = .returned (.tuple #[.pointer (some ⟨R,0,none⟩),.bool true])∧opr w C R w':=by
 have H0:Hid (blk (w.alloc (.cells (rfL C s ⟨#[]⟩).toArray 43)) w.heap.size (rfL C s ⟨#[]⟩) 43∧Below w.heap.size w (w.alloc (.cells (rfL C s ⟨#[]⟩).toArray 43))):=⟨blk.new w _ 43,(Below.refl _ _).alloc (Nat.le_refl _) _⟩
 have HV:Hid (∀ X,Below w.heap.size w X→Calls Tryz.prog 36 #[.agg (coL C s).toArray] X fun o w'=>o = .returned (.bool true)∧Below X.heap.size X w'):=fun X hX=>(validCore_any X C s (h.below hX) hm).mono fun o w' ⟨⟨b,h1,h2⟩,h3⟩=>⟨by rw[h1,h2.2 hok],h3⟩
 have HO:Hid (∀ X,Below w.heap.size w X→Calls Tryz.prog 37 #[.agg (coL C s).toArray] X fun o w'=>∃ M,o = .returned (.pointer (some ⟨M,0,none⟩))∧opn X C M w'):=fun X hX=>openM X C s (h.below hX) hs hok hm
 clear h hs hok hm
 obtain⟨v0,hv0⟩ : ∃ v0,v0=w.alloc (.cells (rfL C s ⟨#[]⟩).toArray 43):=⟨_,rfl⟩
 rw[← hv0] at H0
 go_enter Tryz.func22,Tryz.ntmps22
 go_upto_region 1 with fail
 rw[← hv0]
 clear hv0
 go_wp2_with (first | (refine wpList_load_mid (P:=Tryz.prog) rfl 39 _ rfl w.heap.size 0 rfl (coL C s) _ (rfL_core H0.out.1) Tryz.underlying39 rfl (szC41L C s) ?_))
 refine (HV.out _ H0.out.2).mono ?_
 rintro o w1 ⟨rfl,hb1⟩
 have H1:=hidX (And.intro (H0.out.1.below hb1) (H0.out.2.trans (hb1.mono H0.out.2.size)))
 clear hb1 H0 HV
 go_wp2_with fail
 refine wp_region_held (S:=fun X=>blk X w.heap.size (rfL C s ⟨#[]⟩) 43) (by kernel_rfl) ?_
 have hS:blk (World.drew w1) w.heap.size (rfL C s ⟨#[]⟩) 43:=H1.out.1.below (Below.refl _ _).drew
 have HB1:Hid (Below w.heap.size w (World.drew w1)):=H1.out.2.drew
 clear H1
 change wpAnyH Tryz.prog _ _ _ _ _ _ _ (World.drew w1)
 generalize World.drew w1=v0 at *
 refine wT (i:=0) (v:=.pointer (some ⟨w.heap.size,0,none⟩)) rfl (by kernel_rfl) (by kernel_rfl) (by kernel_rfl) (fun _ _ _ h=>h) (Or.inl ⟨by rfl,?_⟩) hS ?_
 ·intro W hSw
  clear hS
  go_simp
 simp only[Act.put,aA,aB,aC,aD,aE]
 refine wT (i:=1) (v:=.agg (coL C s).toArray) rfl (by kernel_rfl) (by kernel_rfl) (by kernel_rfl) (fun _ _ _ h=>h) (yieldsIf_load_mid (by rfl) 39 _ rfl w.heap.size 0 rfl (coL C s) _ (fun X h=>rfL_core h) Tryz.underlying39 rfl (szC41L C s)) hS ?_
 simp only[Act.put,aA,aB,aC,aD,aE,aF]
 refine wT (i:=3) (v:=.pointer (some ⟨w.heap.size,21,none⟩)) rfl (by kernel_rfl) (by kernel_rfl) (by kernel_rfl) (fun _ _ _ h=>h) (Or.inl ⟨by rfl,?_⟩) hS ?_
 ·intro W hSw
  clear hS
  go_simp
 simp only[Act.put,aA,aB,aC,aD,aE,aF]
 refine wT (i:=4) (v:=.string ⟨#[]⟩) rfl (by kernel_rfl) (by kernel_rfl) (by kernel_rfl) (fun _ _ _ h=>h) (Or.inl ⟨by rfl,?_⟩) hS ?_
 ·intro W hSw
  clear hS
  have y:=hSw.cell 21 (.string ⟨#[]⟩) rfl
  go_simp
 simp only[Act.put,aA,aB,aC,aD,aE,aF]
 refine wpAnyH_all (rs:=[2]) (by kernel_rfl) (by simp) ?_
 refine AllReadyH.cons rfl (fun K2 hK2=>?_) AllReadyH.nil
 go_simp
 refine (HO.out v0 HB1.out).mono ?_
 rintro o w2 ⟨M,rfl,hq⟩
 have H2:=hidX hq
 have hS2:blk w2 w.heap.size (rfL C s ⟨#[]⟩) 43:=by obtain⟨_,_,_,_,_,_,_,hb⟩:=hq;exact hS.below hb
 clear hq
 go_wp2_with fail
 refine hK2.out _ _ hS2 (fun hS3=>?_)
 clear hK2 K2 hS2 hS
 have hS:=hS3
 clear hS3
 refine wT (i:=5) (v:=.agg #[.pointer (some ⟨M,0,none⟩),.string ⟨#[]⟩]) rfl (by kernel_rfl) (by kernel_rfl) (by kernel_rfl) (fun _ _ _ h=>h) (Or.inl ⟨by rfl,?_⟩) hS ?_
 ·intro W hSw
  clear hS
  go_simp
 simp only[Act.put,aA,aB,aC,aD,aE,aF]
 refine wpAnyH_all (rs:=[6]) (by kernel_rfl) (by simp) ?_
 refine AllReadyH.cons rfl (fun K2 hK2=>?_) AllReadyH.nil
 go_simp
 have hS5:blk (w2.alloc (.cells #[.pointer (some ⟨M,0,none⟩),.string ⟨#[]⟩] 111)) w.heap.size (rfL C s ⟨#[]⟩) 43:=hS.alloc _
 refine hK2.out _ _ hS5 (fun hS3=>?_)
 clear hK2 K2 hS5 hS
 have hS:=hS3
 clear hS3
 have H3:Hid (opr w C w2.heap.size (w2.alloc (.cells #[.pointer (some ⟨M,0,none⟩),.string ⟨#[]⟩] 111))):=by
  obtain⟨w0,G,nm,h1,h2,h3,h4,h5⟩:=H2.out
  have hb:Below w2.heap.size w2 (w2.alloc (.cells #[.pointer (some ⟨M,0,none⟩),.string ⟨#[]⟩] 111)):=(Below.refl _ _).alloc (Nat.le_refl _) _
  exact⟨w0,M,G,nm,h1.below hb,HB1.out.trans (h2.mono HB1.out.size),blk.new w2 [.pointer (some ⟨M,0,none⟩),.string ⟨#[]⟩] 111,by omega,by omega⟩
 have HM:Hid (Calls Tryz.prog 42 #[.pointer (some ⟨w2.heap.size,0,none⟩)] (w2.alloc (.cells #[.pointer (some ⟨M,0,none⟩),.string ⟨#[]⟩] 111)) fun o w'=>o = .returned (.bool true)∧w'=(w2.alloc (.cells #[.pointer (some ⟨M,0,none⟩),.string ⟨#[]⟩] 111))):=by
  obtain⟨w0,G,nm,h1,h2,h3,h4,h5⟩:=H2.out
  have hb:Below w2.heap.size w2 (w2.alloc (.cells #[.pointer (some ⟨M,0,none⟩),.string ⟨#[]⟩] 111)):=(Below.refl _ _).alloc (Nat.le_refl _) _
  have hB:blk (w2.alloc (.cells #[.pointer (some ⟨M,0,none⟩),.string ⟨#[]⟩] 111)) w2.heap.size [.pointer (some ⟨M,0,none⟩),.string ⟨#[]⟩] 111:=blk.new w2 _ 111
  exact holds_out _ M w2.heap.size C.p C.tx hp (hB.cell 0 _ rfl) (hB.cell 1 _ rfl) ((h1.below hb).m.cell 3 _ rfl) ((h1.below hb).m.cell 9 _ rfl)
 clear H2 HO hp
 generalize w2.alloc (.cells #[.pointer (some ⟨M,0,none⟩),.string ⟨#[]⟩] 111)=v3 at *
 refine wT (i:=7) (v:=.pointer (some ⟨w2.heap.size,0,none⟩)) rfl (by kernel_rfl) (by kernel_rfl) (by kernel_rfl) (fun _ _ _ h=>h) (Or.inl ⟨by rfl,?_⟩) hS ?_
 ·intro W hSw
  clear hS
  go_simp
 simp only[Act.put,aA,aB,aC,aD,aE,aF]
 refine wpAnyH_done (by kernel_rfl) ?_ _
 clear hS
 go_wp2_with fail
 refine HM.out.mono ?_
 rintro o w4 ⟨rfl,rfl⟩
 go_wp2_with fail
 refine bodyPost_ret (v:=.tuple #[.pointer (some ⟨w2.heap.size,0,none⟩),.bool true]) (by simp[results,Tryz.results22,go_sem]) rfl ?_
 exact⟨_,rfl,H3.out⟩
end Go.Proofs.YtgkkcpgocbcbaaaGreat
