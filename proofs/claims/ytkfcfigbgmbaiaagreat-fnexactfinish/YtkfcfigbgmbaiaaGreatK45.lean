import Derived.Test.YtkfcfigbgmbaiaaGreatK44
import Derived.Deep.DeepCutAuto
import Derived.Deep.RegionWith
import Derived.Test.YtkfcfigbgmbaiaaGreatK20
import Derived.Test.YtkfcfigbgmbaiaaGreatK27
import Derived.Test.YtkfcfigbgmbaiaaGreatK42
import Derived.StillTailTactics
import Derived.Test.YtkfcfigbgmbaiaaGreatK31
import Derived.Test.YtkfcfigbgmbaiaaGreatK05
import Derived.Test.YtkfcfigbgmbaiaaGreatK32
import Derived.Deep.RegionHeld3
namespace Go.Proofs.YtkfcfigbgmbaiaaGreat
open Go.RowKit
set_option linter.unusedVariables false
def okRelP (P:Prop) (R T:Co):Prop:=(P∧T=R)∨(¬ P∧T=zCo)
theorem okRelP_ex (P:Prop) (R:Co):∃ T,okRelP P R T:=by
 rcases Classical.em P with h|h
 ·exact⟨_,Or.inl ⟨h,rfl⟩⟩
 ·exact⟨_,Or.inr ⟨h,rfl⟩⟩
theorem okRelP.yes {P:Prop} {R T:Co} (h:okRelP P R T) (hok:P):T=R:=by
 rcases h with⟨_,e⟩|⟨h,_⟩
 ·exact e
 ·exact absurd hok h
theorem okRelP.no {P:Prop} {R T:Co} (h:okRelP P R T) (hok:¬ P):T=zCo:=by
 rcases h with⟨h,_⟩|⟨_,e⟩
 ·exact absurd h hok
 ·exact e
theorem l4okB (w:World) (C:Co) (s:Sl) (h:isHo w C.ho s) (hn:C.ho.le 1048576):∃ b:Bool,Hid (b=true↔okCo C)∧Hid (∀ W,Below w.heap.size w W→Calls Tryz.prog 33 #[.agg (coL C s).toArray] W fun o w'=>o = .returned (.bool b)∧Below W.heap.size W w'):=by
 by_cases hok:okCo C
 ·exact⟨true,⟨fun _=>hok,fun _=>rfl⟩,fun W hW=>okLC W C s (h.below hW) hn hok⟩
 ·exact⟨false,⟨fun x=>(by cases x),fun x=>absurd x hok⟩,fun W hW=>badLC W C s (h.below hW) hn hok⟩
theorem ltB (x y:Int):∃ b:Bool,decide (x<y)=b∧Hid (b=true↔x<y):=⟨_,rfl,by show _↔_;simp⟩
set_option maxHeartbeats 16000000
variable {w0 : World} {M : Nat} {G : Lg} {f1 f3 nm : Nat} {C : Co} {W : World}
theorem mx.off (h:mx w0 M G f1 f3 nm C W):mx w0 M G f1 f3 nm (offC C) (W.setCells M 3 [.int .i64 7,.int .i64 0,.int .i64 0,.bool false,.bool false,.bool false,.bool false,.bool false,.int .i64 0]):=by obtain⟨_,_,h⟩:=h;exact⟨_,_,h.moment⟩
def ovC (C:Co):Co:={ C with p:=2,ct:=0,ov:=true,ho:=postHo C.ho (ev3 9 0 0) }
set_option maxRecDepth 20000 in
theorem overload_any (h:mx w0 M G f1 f3 nm C W) :
  Calls Tryz.prog 115 #[.pointer (some ⟨M,0,none⟩)] W fun o w'=>o = .returned (.tuple #[])∧mx w0 M G f1 f3 nm (ovC C) w':=by
 have H0:Hid (mx w0 M G f1 f3 nm C W):=h
 have H3:Hid (mx w0 M G f1 f3 nm { C with p:=2,ct:=0,ov:=true } (World.setCell (World.setCell (World.setCell W ⟨M,3,none⟩ (.int .i64 2)) ⟨M,4,none⟩ (.int .i64 0)) ⟨M,7,none⟩ (.bool true))):=(((H0.out.set 3 (.int .i64 2) { C with p:=2 } rfl rfl).set 4 (.int .i64 0) { C with p:=2,ct:=0 } rfl rfl).set 7 (.bool true) { C with p:=2,ct:=0,ov:=true } rfl rfl)
 have y3:=h.m.cell 3 (.int .i64 C.p) rfl
 have y4:=h.m.cell 4 (.int .i64 C.ct) rfl
 have y7:=h.m.cell 7 (.bool C.ov) rfl
 have z3:=h.m.free 3
 have z4:=h.m.free 4
 have z7:=h.m.free 7
 have y0:=h.m.cell 0 (.pointer (some ⟨G.P,0,none⟩)) rfl
 clear h;go_enter Tryz.func115,Tryz.ntmps115
 go_wp2_with fail;refine (H3.out.post 9 0 0).mono ?_
 rintro o w1 ⟨rfl,h1⟩;have H1:Hid (mx w0 M G f1 f3 nm (ovC C) w1):=h1
 clear h1 y0 y3 y4 y7 z3 z4 z7 H3 H0;go_wp2_with fail;first | go_end0 | (try simp only[Exit.inBlock,Exit.then]);refine bodyPost_ret (results_none rfl _ _ _) rfl ?_
 exact⟨rfl,H1.out⟩
variable {w0 : World} {M : Nat} {G : Lg} {f1 f3 nm : Nat} {C : Co} {W : World}
theorem hidE {V:World} (e:W=V) (h:mx w0 M G f1 f3 nm C W):Hid (mx w0 M G f1 f3 nm C V):=by rw[← e];exact h
variable {w0 : World} {M : Nat} {G : Lg} {f1 f3 nm : Nat} {C : Co} {W : World}
theorem okCo.ct {C:Co} (h:okCo C):0≤C.ct∧C.ct≤200:=by
 have h1:=h.m.ct
 unfold rLo rHi at h1
 constructor
 ·have h2:=h1.1
  split at h2 <;> omega
 ·have h2:=h1.2
  clear h1;split at h2
  ·omega
  split at h2
  ·omega
  split at h2
  ·omega
  split at h2
  ·omega
  split at h2
  ·omega
  split at h2 <;> omega
theorem mx.tell (h:mx w0 M G f1 f3 nm C W) (z:Int):Calls Tryz.prog 145 #[.pointer (some ⟨M,0,none⟩),.int .i64 z] W fun o w'=>o = .returned (.tuple #[])∧mx w0 M G f1 f3 nm (tellC C z) w':=by
 obtain⟨_,_,h⟩:=h
 exact (tell_any h z).mono fun o w' ⟨h1,h2⟩=>⟨h1,_,_,h2⟩
theorem mx.told (h:mx w0 M G f1 f3 nm C W):Calls Tryz.prog 86 #[.pointer (some ⟨M,0,none⟩)] W (toldC W C):=by
 obtain⟨_,_,h⟩:=h
 exact mtold_any W M G.P C h.m (fun Y hY=>(h.h.below hY).told)
def snkZ (n:Int):Int:=max (n-1) 0
theorem sink_any (w:World) (n:Int) (hn:0≤n∧n≤1000):Calls Tryz.prog 113 #[.int .i64 n] w fun o w'=>o = .returned (.int .i64 (snkZ n))∧w=w':=by
 go_enter Tryz.func113,Tryz.ntmps113
 go_wp2
 go_ret;exact⟨rfl,rfl⟩
def finC (C:Co) (k:Int) (F:R5):Co:=
 if k=1 then { C with ho:=relHo C.ho true,te:=snkZ C.te,p:=5 }
 else if k=2 then { C with ho:=delHo C.ho F,re:=snkZ (min C.re 128) }
 else if k=3 then { C with p:=5 }
 else if k=4 then ovC C
 else if k=5 then { C with ho:=relHo C.ho false,tx:=false }
 else C
def my (w0:World) (M:Nat) (G:Lg) (f3 nm:Nat) (C:Co) (W:World):Prop:=∃ f1,mx w0 M G f1 f3 nm C W
variable {w0 : World} {M : Nat} {G : Lg} {f1 f3 nm : Nat} {C : Co} {W : World}
set_option maxRecDepth 20000 in
theorem finish_any (h:mx w0 M G f1 f3 nm C W) (k:Int) (F:R5) (fa:Option Addr) (fm fc:Nat) (hf:isBytes w0 fa fm fc F.l) (hfm:fm≤1048576) (hc2:C.ho.c2=0∨C.ho.c2=1) (ht:0≤C.te∧C.te≤256) (hr:0≤C.re∧C.re≤255) (hwf:∀ j (hj:j<C.ho.bx.length),(Lit.int .i64 C.ho.bx[j].y).wf=true) :
  Calls Tryz.prog 52 #[.pointer (some ⟨M,0,none⟩),.int .i64 k,frV F.e F.i F.r F.d fa fm fc] W fun o w'=>o = .returned (.tuple #[])∧my w0 M G f3 nm (finC C k F) w':=by
 have hb0:Below W.heap.size W (W.alloc (.cells [.bool F.e,.int .u32 (F.i:Int),.bool F.r,.int .i64 F.d,.slice fa fm fc].toArray 55)):=(Below.refl _ _).alloc (Nat.le_refl _) _
 have HF:Hid (blk (W.alloc (.cells [.bool F.e,.int .u32 (F.i:Int),.bool F.r,.int .i64 F.d,.slice fa fm fc].toArray 55)) W.heap.size [.bool F.e,.int .u32 (F.i:Int),.bool F.r,.int .i64 F.d,.slice fa fm fc] 55):=blk.new W _ 55
 have H0:=hidX (h.below hb0)
 have HWF:=hidX hwf
 have HBF:=hidX hf
 generalize hV:W.alloc (.cells [.bool F.e,.int .u32 (F.i:Int),.bool F.r,.int .i64 F.d,.slice fa fm fc].toArray 55)=V at *;have y0:=H0.out.m.cell 0 (.pointer (some ⟨G.P,0,none⟩)) rfl
 have y3:=H0.out.m.cell 3 (.int .i64 C.p) rfl
 have z3:=H0.out.m.free 3
 clear h hb0 hwf hf;obtain⟨b1,e1,_,f1'⟩:=eqB k 1
 obtain⟨b2,e2,_,f2⟩:=eqB k 2
 obtain⟨b3,e3,_,f3'⟩:=eqB k 3
 obtain⟨b4,e4,_,f4⟩:=eqB k 4
 obtain⟨b5,e5,_,f5⟩:=eqB k 5
 have n1:b1=false→¬ k=1:=fun e x=>by have:=f1'.out.2 x;rw[e] at this;cases this
 have n2:b2=false→¬ k=2:=fun e x=>by have:=f2.out.2 x;rw[e] at this;cases this
 have n3:b3=false→¬ k=3:=fun e x=>by have:=f3'.out.2 x;rw[e] at this;cases this
 have n4:b4=false→¬ k=4:=fun e x=>by have:=f4.out.2 x;rw[e] at this;cases this
 have n5:b5=false→¬ k=5:=fun e x=>by have:=f5.out.2 x;rw[e] at this;cases this
 cases b1
 case true=>
  have HR:Hid (finC C k F = { C with ho:=relHo C.ho true,te:=snkZ C.te,p:=5 }):=by show _=_;unfold finC;rw[if_pos (f1'.out.1 rfl)]
  have HS:Hid (∀ X,Calls Tryz.prog 113 #[.int .i64 C.te] X fun o w'=>o = .returned (.int .i64 (snkZ C.te))∧X=w'):=fun X=>sink_any X _ ⟨ht.1,by omega⟩
  clear n1 n2 n3 n4 n5 f1' f2 f3' f4 f5 e2 e3 e4 e5;go_enter Tryz.func52,Tryz.ntmps52
  try rw[hV]
  go_wp2_with fail;refine (H0.out.release true HWF.out).mono ?_
  rintro o w1 ⟨rfl,h1⟩;have H1:=hidX h1
  have y1:=h1.m.cell 1 (.int .i64 C.te) rfl
  have z1:=h1.m.free 1
  have x3:=h1.m.cell 3 (.int .i64 C.p) rfl
  have w3:=h1.m.free 3
  clear h1 y0 y3 z3 H0 HF hV;go_wp2_with (first | (go_at_call 113;refine (HS.out _).mono ?_;rintro o w2 ⟨rfl,rfl⟩))
  first | go_end0 | (try simp only[Exit.inBlock,Exit.then]);refine bodyPost_ret (results_none rfl _ _ _) rfl ?_
  refine⟨rfl,f1,?_⟩
  rw[HR.out]
  exact (H1.out.set 1 (.int .i64 (snkZ C.te)) { C with ho:=relHo C.ho true,te:=snkZ C.te } rfl rfl).set 3 (.int .i64 5) _ rfl rfl
 cases b2
 case true=>
  have HR:Hid (finC C k F = { C with ho:=delHo C.ho F,re:=snkZ (min C.re 128) }):=by show _=_;unfold finC;rw[if_neg (n1 rfl),if_pos (f2.out.1 rfl)]
  have HS:Hid (∀ X,Calls Tryz.prog 113 #[.int .i64 (min C.re 128)] X fun o w'=>o = .returned (.int .i64 (snkZ (min C.re 128)))∧X=w'):=fun X=>sink_any X _ ⟨by omega,by omega⟩
  clear n1 n2 n3 n4 n5 f1' f2 f3' f4 f5 e3 e4 e5;go_enter Tryz.func52,Tryz.ntmps52
  try rw[hV]
  go_wp2_with fail;refine wp_region_still_tail 6 (by kernel_rfl) (by kernel_rfl) ?_
  have H1:=hidX (H0.out.below (Below.refl _ _).drew)
  have HF1:=hidX (HF.out.below (Below.refl _ _).drew)
  change wpStill Tryz.prog _ (World.drew V) (fun a'=>wpList Tryz.prog _ _ _ a' (World.drew V)) _ _
  have x0:=H1.out.m.cell 0 (.pointer (some ⟨G.P,0,none⟩)) rfl
  clear H0 HF hV y0 y3 z3;generalize World.drew V=v0 at *;simp only[List.take_succ_cons,List.take_zero,List.drop_succ_cons,List.drop_zero]
  still_step
  still_step
  still_step
  still_step
  still_step
  refine wpStill_load_mid (by rfl) 55 _ rfl W.heap.size 0 rfl [.bool F.e,.int .u32 (F.i:Int),.bool F.r,.int .i64 F.d,.slice fa fm fc] _ HF1.out.load Tryz.underlying55 rfl sz93 ?_
  refine wpStill_nil ?_
  go_wp2_with fail;refine (H1.out.deliver F fa fm fc HBF.out hfm hc2).mono ?_
  rintro o w1 ⟨rfl,f1n,h1⟩;have H2:=hidX h1
  have y2:=h1.m.cell 2 (.int .i64 C.re) rfl
  have z2:=h1.m.free 2
  clear h1 x0 H1 HF1;go_wp2_with (first | (go_at_call 113;refine (HS.out _).mono ?_;rintro o w2 ⟨rfl,rfl⟩))
  first | go_end0 | (try simp only[Exit.inBlock,Exit.then]);refine bodyPost_ret (results_none rfl _ _ _) rfl ?_
  refine⟨rfl,f1n,?_⟩
  rw[HR.out]
  exact H2.out.set 2 (.int .i64 (snkZ (min C.re 128))) _ rfl rfl
 cases b3
 case true=>
  have HR:Hid (finC C k F = { C with p:=5 }):=by show _=_;unfold finC;rw[if_neg (n1 rfl),if_neg (n2 rfl),if_pos (f3'.out.1 rfl)]
  clear n1 n2 n3 n4 n5 f1' f2 f3' f4 f5 e4 e5;go_enter Tryz.func52,Tryz.ntmps52
  try rw[hV]
  go_wp2_with fail;first | go_end0 | (try simp only[Exit.inBlock,Exit.then]);refine bodyPost_ret (results_none rfl _ _ _) rfl ?_
  refine⟨rfl,f1,?_⟩
  rw[HR.out]
  exact H0.out.set 3 (.int .i64 5) _ rfl rfl
 cases b4
 case true=>
  have HR:Hid (finC C k F=ovC C):=by show _=_;unfold finC;rw[if_neg (n1 rfl),if_neg (n2 rfl),if_neg (n3 rfl),if_pos (f4.out.1 rfl)]
  clear n1 n2 n3 n4 n5 f1' f2 f3' f4 f5 e5;go_enter Tryz.func52,Tryz.ntmps52
  try rw[hV]
  go_wp2_with fail;refine (overload_any H0.out).mono ?_
  rintro o w1 ⟨rfl,h1⟩;have H1:=hidX h1
  clear h1;go_wp2_with fail;first | go_end0 | (try simp only[Exit.inBlock,Exit.then]);refine bodyPost_ret (results_none rfl _ _ _) rfl ?_
  exact⟨rfl,f1,by rw[HR.out];exact H1.out⟩
 cases b5
 case true=>
  have HR:Hid (finC C k F = { C with ho:=relHo C.ho false,tx:=false }):=by show _=_;unfold finC;rw[if_neg (n1 rfl),if_neg (n2 rfl),if_neg (n3 rfl),if_neg (n4 rfl),if_pos (f5.out.1 rfl)]
  clear n1 n2 n3 n4 n5 f1' f2 f3' f4 f5;go_enter Tryz.func52,Tryz.ntmps52
  try rw[hV]
  go_wp2_with fail;refine (H0.out.release false HWF.out).mono ?_
  rintro o w1 ⟨rfl,h1⟩;have H1:=hidX h1
  have y9:=h1.m.cell 9 (.bool C.tx) rfl
  have z9:=h1.m.free 9
  clear h1 y0 y3 z3 H0 HF hV;go_wp2_with fail;first | go_end0 | (try simp only[Exit.inBlock,Exit.then]);refine bodyPost_ret (results_none rfl _ _ _) rfl ?_
  refine⟨rfl,f1,?_⟩
  rw[HR.out]
  exact H1.out.set 9 (.bool false) _ rfl rfl
 have HR:Hid (finC C k F=C):=by show _=_;unfold finC;rw[if_neg (n1 rfl),if_neg (n2 rfl),if_neg (n3 rfl),if_neg (n4 rfl),if_neg (n5 rfl)]
 clear n1 n2 n3 n4 n5 f1' f2 f3' f4 f5;go_enter Tryz.func52,Tryz.ntmps52
 try rw[hV]
 go_wp2_with fail;first | go_end0 | (try simp only[Exit.inBlock,Exit.then]);refine bodyPost_ret (results_none rfl _ _ _) rfl ?_
 exact⟨rfl,f1,by rw[HR.out];exact H0.out⟩
theorem lit51 (h:mx w0 M G f1 f3 nm C W) (Bh Bf:Nat) (k:Int) (F:R5) (fa:Option Addr) (fm fc:Nat) (yb:W.cell? ⟨Bh,0,none⟩=some (.int .i64 k)) (hbf:blk W Bf [.bool F.e,.int .u32 (F.i:Int),.bool F.r,.int .i64 F.d,.slice fa fm fc] 55) (hf:isBytes w0 fa fm fc F.l) (hfm:fm≤1048576) (hc2:C.ho.c2=0∨C.ho.c2=1) (ht:0≤C.te∧C.te≤256) (hr:0≤C.re∧C.re≤255) (hwf:∀ j (hj:j<C.ho.bx.length),(Lit.int .i64 C.ho.bx[j].y).wf=true) :
  Calls Tryz.prog 51 #[.pointer (some ⟨M,0,none⟩),.pointer (some ⟨Bh,0,none⟩),.pointer (some ⟨Bf,0,none⟩)] W fun o w'=>o = .returned (.tuple #[])∧my w0 M G f3 nm (finC C k F) w':=by
 have HS:=hidX (finish_any h k F fa fm fc hf hfm hc2 ht hr hwf)
 have HB:=hidX hbf
 clear h hf ht hr hwf hbf;go_enter Tryz.func51,Tryz.ntmps51
 go_wp2_with (first | (refine wpList_load_mid (P:=Tryz.prog) rfl 55 (.tmp 2) rfl Bf 0 rfl [.bool F.e,.int .u32 (F.i:Int),.bool F.r,.int .i64 F.d,.slice fa fm fc] _ HB.out.load Tryz.underlying55 rfl sz93 ?_))
 refine HS.out.mono ?_
 rintro o w5 ⟨rfl,hq⟩;have HQ:=hidX hq
 clear hq;go_wp2_with fail;first | go_end0 | (try simp only[Exit.inBlock,Exit.then]);refine bodyPost_ret (results_none rfl _ _ _) rfl ?_
 exact⟨rfl,HQ.out⟩
set_option maxRecDepth 20000 in
theorem act_fin (h:mx w0 M G f1 f3 nm C W) (A:Co) (Bh Bf:Nat) (Kp:World→Prop) (hk:∀ X,Below W.heap.size W X→Kp X) (hc:∀ X,mx w0 M G f1 f3 nm C X→Kp X→Calls Tryz.prog 51 #[.pointer (some ⟨M,0,none⟩),.pointer (some ⟨Bh,0,none⟩),.pointer (some ⟨Bf,0,none⟩)] X fun o w'=>o = .returned (.tuple #[])∧my w0 M G f3 nm A w') :
  Calls Tryz.prog 85 #[.pointer (some ⟨M,0,none⟩),.func (.func 51) #[] #[.pointer (some ⟨Bh,0,none⟩),.pointer (some ⟨Bf,0,none⟩)]] W fun o w'=>o = .returned (.tuple #[])∧my w0 M G f3 nm (actC C A) w':=by
 have HS:=hidX h.state
 have HC:=hidX hc
 have HYB:=hidX hk
 obtain⟨z0,ez0⟩ : ∃ z,stZ C.te C.re=z:=⟨_,rfl⟩
 obtain⟨z1,ez1⟩ : ∃ z,stZ A.te A.re=z:=⟨_,rfl⟩
 have HS2:Hid (∀ X f1,mx w0 M G f1 f3 nm A X→Calls Tryz.prog 106 #[.pointer (some ⟨M,0,none⟩)] X fun o w'=>o = .returned (.int .i64 z1)∧mx w0 M G f1 f3 nm A w'):=fun X f1 hX=>by rw[← ez1];exact hX.state.mono fun o w' ⟨a,b,_⟩=>⟨a,b⟩
 obtain⟨b2,e2,_,f2⟩:=eqB z1 2
 obtain⟨b7,e7,n7,f7⟩:=eqB A.p 7
 have HA:Hid (actC C A=tellC (if (b2 && !b7)=true then offC A else A) z0):=by
  have h1:(A.te=256∧A.p≠7)↔(b2 && !b7)=true:=by
   have h2:b2=true↔A.te=256:=by
    rw[f2.out,← ez1]
    unfold stZ
    split
    ·simp_all
    ·split <;> simp_all
   rw[← h2,ne_eq,← f7.out]
   cases b2 <;> cases b7 <;> simp
  show _=_
  unfold actC
  simp only[h1,ez0]
 rw[ez0] at HS
 clear h hk hc ez0 ez1 f2 f7;go_enter Tryz.func85,Tryz.ntmps85
 go_wp2_with fail;refine HS.out.mono ?_
 rintro o w1 ⟨rfl,h1,hb1⟩;have H1:=hidX (And.intro h1 (HYB.out _ hb1))
 clear h1 hb1 HS;go_wp2_with fail;refine (HC.out _ H1.out.1 H1.out.2).mono ?_
 rintro o w2 ⟨rfl,f1,h2⟩;have H2:=hidX h2
 clear h2 H1 HC;go_upto_region 2 with fail
 go_cut [24] (fun x wx=>x = .bool (b2 && !b7)∧Hid (mx w0 M G f1 f3 nm A wx))
 case first=>
  cases b2 <;> cases b7 <;> (
   go_wp2_with fail;refine (HS2.out _ _ H2.out).mono ?_
   rintro o w3 ⟨rfl,h3⟩;have H3:=hidX h3
   have y3:=h3.m.cell 3 (.int .i64 A.p) rfl
   clear h3;go_wp2_with fail;go_meet
   case rel=>exact⟨rfl,H3.out⟩)
 case rest=>
 obtain⟨rfl,H3⟩:=hcut
 obtain⟨c,ec⟩ : ∃ c,(b2 && !b7)=c:=⟨_,rfl⟩
 rw[ec] at HA ⊢
 clear ec e2 e7 n7 H2 HS2;go_upto_if 24 with fail
 go_cut [] (fun wx=>Hid (mx w0 M G f1 f3 nm (if c=true then offC A else A) wx))
 case first=>
  cases c
  ·go_wp2_with fail;go_meet
   case rel=>exact H3.out
  ·go_wp2_with (first
    | (refine wpList_store_mid (P:=Tryz.prog) rfl 116 (.tmp 28) (.tmp 26) rfl M 3 #[.int .i64 7,.int .i64 0,.int .i64 0,.bool false,.bool false,.bool false,.bool false,.bool false,.int .i64 0] rfl rfl (H3.out.m.there 3 9 (by rw[mcL_len];decide)) sz116 (all_oneCell_toArray (by simp[Value.oneCell'])) ?_;generalize hW4:World.setCells _ M 3 _=w4;have H4:=hidE hW4 H3.out.off;clear hW4))
   go_meet
   case rel=>exact H4.out
 case rest=>
 have H5:=hcut
 clear hcut H3;go_wp2_with fail;refine (H5.out.tell z0).mono ?_
 rintro o w5 ⟨rfl,h6⟩;have H6:=hidX h6
 clear h6;go_wp2_with fail;first | go_end0 | (try simp only[Exit.inBlock,Exit.then]);refine bodyPost_ret (results_none rfl _ _ _) rfl ?_
 exact⟨rfl,f1,by rw[HA.out];exact H6.out⟩
theorem open_fin (w:World) (C R:Co) (s:Sl) (fv:Value) (h:isHo w C.ho s) (hs:slSome s) (hok:okCo C) (hm:C.ho.le 1048576) (ha:∀ (w0:World) (M:Nat) (G:Lg) (f1 f3 nm:Nat) (W:World),Below w.heap.size w w0→Below w.heap.size w W→mx w0 M G f1 f3 nm C W→Calls Tryz.prog 85 #[.pointer (some ⟨M,0,none⟩),fv] W fun o w'=>o = .returned (.tuple #[])∧my w0 M G f3 nm R w') :
  Calls Tryz.prog 84 #[.agg (coL C s).toArray] w fun o w'=>∃ P,o = .returned (.pointer (some ⟨P,0,none⟩))∧Below w.heap.size w w'∧Calls Tryz.prog 85 #[.pointer (some ⟨P,0,none⟩),fv] w' fun o w2=>o = .returned (.tuple #[])∧Below w.heap.size w w2∧Calls Tryz.prog 86 #[.pointer (some ⟨P,0,none⟩)] w2 (toldC w2 R):=by
 refine (openCore_gen (R:=fun P w'=>∃ (X:World) (G:Lg) (hd:Nat→Hd),Below w.heap.size w X∧lh X G C.ho 0 0 hd G.n2 (tagsD Unit C.ho.bx G.n2) w'∧P=G.P) ?_ w C s ?_).mono ?_
 ·rintro P W W' ⟨X,G,hd,h1,h2,h3⟩ hb;exact⟨X,G,hd,h1,h2.below hb,h3⟩
 ·intro W hW;refine (open_lh W C.ho s (h.below hW) hs hok.h hm).mono ?_
  rintro o w' ⟨G,hd,rfl,h1,_⟩;exact⟨G.P,rfl,⟨W,G,hd,hW,h1,rfl⟩,h1.b⟩
 rintro o w' ⟨P,w5,rfl,rfl,⟨X,G,hd,h1,h2,rfl⟩,h3⟩;have hb5:Below w5.heap.size w5 (w5.alloc (.cells (mcL G.P C).toArray 125)):=(Below.refl _ _).alloc (Nat.le_refl _) _
 have hmc:mc X w5.heap.size G C 0 0 hd G.n2 (tagsD Unit C.ho.bx G.n2) (w5.alloc (.cells (mcL G.P C).toArray 125)):=by
  have a1:=h2.p.lt
  have a2:=h2.m.lt
  have a3:=h2.hi
  have a4:=h2.x.hi
  have a5:=h2.b.size
  exact⟨blk.new w5 _ 125,h2.below hb5,⟨by omega,by omega,by omega,by omega,by omega,by omega,by omega⟩⟩
 refine⟨w5.heap.size,rfl,h3.trans (hb5.mono h3.size),?_⟩
 have hb6:=h3.trans (hb5.mono h3.size)
 refine (ha X w5.heap.size G 0 0 G.n2 _ h1 hb6 ⟨hd,_,hmc⟩).mono ?_
 rintro o w2 ⟨rfl,f1,h4⟩;refine⟨rfl,?_,h4.told⟩
 obtain⟨_,_,h5⟩:=h4
 exact h1.trans (h5.h.b.mono h1.size)
set_option maxRecDepth 20000 in
theorem l4over_c (w:World) (C:Co) (s:Sl) (B T0 T1 T2:Nat) (hb:bdQ 1000 C.ho) (h:spS B T0 T1 T2 C.ho s w) :
  Calls Tryz.prog 111 #[.agg (coL C s).toArray] w fun o w'=>∃ s',o = .returned (.agg (coL (ovC C) s').toArray)∧spS B T0 T1 T2 (ovC C).ho s' w'∧k41 T2 w w'∧Below B w w':=by
 have H0:Hid (vS w B T0 T1 T2 C s C.ho s ((w.alloc (.cells (coL C s).toArray 41)).alloc (.cells [.int .i64 0,.int .i64 0,.int .i64 0,.bool false,.bool false,.bool false,.bool false,.bool false,.int .i64 0,.int .i64 0,.int .i64 0,.int .i64 0,.int .i64 0,.int .i64 0,.int .i64 0,.slice none 0 0,.slice none 0 0,.slice none 0 0,.slice none 0 0,.int .i64 0,.int .i64 0].toArray 41))):=vS.new h
 have HSY:Hid (∀ W,spS B T0 T1 T2 C.ho s W→Calls Tryz.prog 77 #[.agg (coL C s).toArray,.int .i64 9,.int .i64 0,.int .i64 0] W fun o w'=>∃ s',o = .returned (.agg (coL { C with ho:=postHo C.ho (ev3 9 0 0) } s').toArray)∧spS B T0 T1 T2 (postHo C.ho (ev3 9 0 0)) s' w'∧k41 T2 W w'∧Below B W w'):=fun W hW=>l4say_c W C s B T0 T1 T2 9 0 0 hW hb
 clear h hb;go_enter Tryz.func111,Tryz.ntmps111
 go_wp2_with (first | (refine wpList_load_mid (P:=Tryz.prog) rfl 41 (.tmp 1) rfl w.heap.size 0 rfl (coL C s) _ H0.out.p.load Tryz.underlying41 rfl (szC41L _ _) ?_))
 refine (HSY.out _ H0.out.sp).mono ?_
 rintro o w2 ⟨s2,rfl,q1,q2,q3⟩;have HV2:Hid (vS w B T0 T1 T2 C s (postHo C.ho (ev3 9 0 0)) s2 w2):=H0.out.call q1 q2 q3
 clear q1 q2 q3 H0 HSY;go_upto_region 2 with (first | (refine wpList_store_mid (P:=Tryz.prog) rfl 41 (.tmp 1) (.tmp 4) rfl w.heap.size 0 (coL { C with ho:=postHo C.ho (ev3 9 0 0) } s2).toArray rfl rfl (HV2.out.p.there 0 _ (by rw[List.size_toArray,coL_len,coL_len];decide)) (szC41A _ _) (coL_one _ _) ?_;generalize hW3:World.setCells _ w.heap.size 0 _=w3;have HV3:=hidS hW3 (HV2.out.put { C with ho:=postHo C.ho (ev3 9 0 0) } s2);clear hW3))
 simp only[Act.put]
 obtain⟨X,eX⟩ : ∃ X:Co,X = { C with ho:=postHo C.ho (ev3 9 0 0) }:=⟨_,rfl⟩
 rw[← eX] at HV3
 have HR:Hid (ovC C = { X with p:=2,ct:=0,ov:=true }):=by show _=_;rw[eX];rfl
 have HHO:Hid (postHo C.ho (ev3 9 0 0)=X.ho):=by show _=_;rw[eX]
 rw[HHO.out] at HV3
 clear eX HHO HV2;have y0:=HV3.out.p.cell 0 (.int .i64 X.p) rfl
 have y1:=HV3.out.p.cell 1 (.int .i64 X.ct) rfl
 have y4:=HV3.out.p.cell 4 (.bool X.ov) rfl
 have z0:=HV3.out.p.free 0
 have z1:=HV3.out.p.free 1
 have z4:=HV3.out.p.free 4
 have HV9:Hid (vS w B T0 T1 T2 { X with p:=2,ct:=0,ov:=true } s2 X.ho s2 (World.setCell (World.setCell (World.setCell w3 ⟨w.heap.size,0,none⟩ (.int .i64 2)) ⟨w.heap.size,1,none⟩ (.int .i64 0)) ⟨w.heap.size,4,none⟩ (.bool true))):=(((HV3.out.set 0 (.int .i64 2) { X with p:=2 } rfl).set 1 (.int .i64 0) { X with p:=2,ct:=0 } rfl).set 4 (.bool true) { X with p:=2,ct:=0,ov:=true } rfl)
 go_upto_region 5 with fail
 generalize (World.setCell (World.setCell (World.setCell w3 ⟨w.heap.size,0,none⟩ (.int .i64 2)) ⟨w.heap.size,1,none⟩ (.int .i64 0)) ⟨w.heap.size,4,none⟩ (.bool true))=w9 at *;go_wp2_with (first | (refine wpList_load_mid (P:=Tryz.prog) rfl 41 (.tmp 1) rfl w.heap.size 0 rfl (coL { X with p:=2,ct:=0,ov:=true } s2) _ HV9.out.p.load Tryz.underlying41 rfl (szC41L _ _) ?_) | (refine wpList_store_mid (P:=Tryz.prog) rfl 41 (.tmp 2) (.tmp 8) rfl (w.heap.size+1) 0 (coL { X with p:=2,ct:=0,ov:=true } s2).toArray rfl rfl (HV9.out.r.there 0 _ (by rw[List.size_toArray,coL_len];decide)) (szC41A _ _) (coL_one _ _) ?_;generalize hW11:World.setCells _ (w.heap.size+1) 0 _=w11;have R11:=hidR hW11 (HV9.out.ret { X with p:=2,ct:=0,ov:=true } s2);clear hW11))
 have hL:=run_loadVar_mid (P:=Tryz.prog) w11 (w.heap.size+1) 0 41 _ _ R11.out.1.load Tryz.underlying41 rfl (szC41L _ _)
 refine bodyPost_ret (v:=.agg (coL { X with p:=2,ct:=0,ov:=true } s2).toArray) (results_cell Tryz.results111 _ w11 (w.heap.size+1) _ rfl hL) rfl ?_
 rw[HR.out]
 exact⟨s2,rfl,R11.out.2⟩
theorem one21 (p ct lv:Int) (wk ov ow tx ak:Bool) (rn te re c0 c1 c2 c3:Int) (b1:Option Addr) (m1 l1:Nat) (b2:Option Addr) (m2 l2:Nat) (b3:Option Addr) (m3 l3:Nat) (b4:Option Addr) (m4 l4:Nat) (lo st:Int):(#[.int .i64 p,.int .i64 ct,.int .i64 lv,.bool wk,.bool ov,.bool ow,.bool tx,.bool ak,.int .i64 rn,.int .i64 te,.int .i64 re,.int .i64 c0,.int .i64 c1,.int .i64 c2,.int .i64 c3,.slice b1 m1 l1,.slice b2 m2 l2,.slice b3 m3 l3,.slice b4 m4 l4,.int .i64 lo,.int .i64 st]:Array Value).all (·.oneCell')=true:=
 all_oneCell_toArray (by simp[Value.oneCell'])
theorem heap_two (w:World) (C A B:Obj):(((w.alloc C).alloc A).alloc B).heap[w.heap.size+1]?=some A:=by
 rw[Below.heap_alloc _ _ _ (by simp)]
 have:=heap_alloc_new (w.alloc C) A
 simpa using this
theorem heap_three (w:World) (C A B:Obj):(((w.alloc C).alloc A).alloc B).heap[w.heap.size+1+1]?=some B:=by
 have:=heap_alloc_new ((w.alloc C).alloc A) B
 simpa using this
theorem core_a {p ct lv:Int} {wk ov ow tx ak:Bool} {rn te re c0 c1 c2 c3:Int} {b1:Option Addr} {m1 l1:Nat} {b2:Option Addr} {m2 l2:Nat} {b3:Option Addr} {m3 l3:Nat} {b4:Option Addr} {m4 l4:Nat} {lo st:Int} {w2 w3:World} {b:Nat} (h:w2.heap[b]?=some (.cells [.int .i64 p,.int .i64 ct,.int .i64 lv,.bool wk,.bool ov,.bool ow,.bool tx,.bool ak,.int .i64 rn,.int .i64 te,.int .i64 re,.int .i64 0,.int .i64 0,.int .i64 0,.int .i64 0,.slice none 0 0,.slice none 0 0,.slice none 0 0,.slice none 0 0,.int .i64 0,.int .i64 0].toArray 41)) (e:World.setCells w2 b 11 [.int .i64 c0,.int .i64 c1,.int .i64 c2,.int .i64 c3,.slice b1 m1 l1,.slice b2 m2 l2,.slice b3 m3 l3,.slice b4 m4 l4,.int .i64 lo,.int .i64 st]=w3):w3.heap[b]?=some (.cells [.int .i64 p,.int .i64 ct,.int .i64 lv,.bool wk,.bool ov,.bool ow,.bool tx,.bool ak,.int .i64 rn,.int .i64 te,.int .i64 re,.int .i64 c0,.int .i64 c1,.int .i64 c2,.int .i64 c3,.slice b1 m1 l1,.slice b2 m2 l2,.slice b3 m3 l3,.slice b4 m4 l4,.int .i64 lo,.int .i64 st].toArray 41):=by
 subst e;exact setCells_block b 41 [.int .i64 c0,.int .i64 c1,.int .i64 c2,.int .i64 c3,.slice b1 m1 l1,.slice b2 m2 l2,.slice b3 m3 l3,.slice b4 m4 l4,.int .i64 lo,.int .i64 st] zX [.int .i64 p,.int .i64 ct,.int .i64 lv,.bool wk,.bool ov,.bool ow,.bool tx,.bool ak,.int .i64 rn,.int .i64 te,.int .i64 re] [] w2 rfl h
theorem core_r {w2 w3:World} {b b':Nat} {l:Array Value} {vs:List Value} {o:Nat} (h:w2.heap[b]?=some (.cells l 41)) (e:World.setCells w2 b' o vs=w3) (hb:b≠b':=by omega):w3.heap[b]?=some (.cells l 41):=by
 subst e;exact (setCells_other b' b hb vs w2 o).trans h
theorem core_f {p ct lv:Int} {wk ov ow tx ak:Bool} {rn te re c0 c1 c2 c3:Int} {b1:Option Addr} {m1 l1:Nat} {b2:Option Addr} {m2 l2:Nat} {b3:Option Addr} {m3 l3:Nat} {b4:Option Addr} {m4 l4:Nat} {lo st:Int} {w3 w4:World} {b:Nat} (h:w3.heap[b]?=some (.cells [.int .i64 0,.int .i64 0,.int .i64 0,.bool false,.bool false,.bool false,.bool false,.bool false,.int .i64 0,.int .i64 0,.int .i64 0,.int .i64 0,.int .i64 0,.int .i64 0,.int .i64 0,.slice none 0 0,.slice none 0 0,.slice none 0 0,.slice none 0 0,.int .i64 0,.int .i64 0].toArray 41)) (e:World.setCells w3 b 0 [.int .i64 p,.int .i64 ct,.int .i64 lv,.bool wk,.bool ov,.bool ow,.bool tx,.bool ak,.int .i64 rn,.int .i64 te,.int .i64 re,.int .i64 c0,.int .i64 c1,.int .i64 c2,.int .i64 c3,.slice b1 m1 l1,.slice b2 m2 l2,.slice b3 m3 l3,.slice b4 m4 l4,.int .i64 lo,.int .i64 st]=w4):w4.heap[b]?=some (.cells [.int .i64 p,.int .i64 ct,.int .i64 lv,.bool wk,.bool ov,.bool ow,.bool tx,.bool ak,.int .i64 rn,.int .i64 te,.int .i64 re,.int .i64 c0,.int .i64 c1,.int .i64 c2,.int .i64 c3,.slice b1 m1 l1,.slice b2 m2 l2,.slice b3 m3 l3,.slice b4 m4 l4,.int .i64 lo,.int .i64 st].toArray 41):=by
 subst e;exact setCells_block b 41 [.int .i64 p,.int .i64 ct,.int .i64 lv,.bool wk,.bool ov,.bool ow,.bool tx,.bool ak,.int .i64 rn,.int .i64 te,.int .i64 re,.int .i64 c0,.int .i64 c1,.int .i64 c2,.int .i64 c3,.slice b1 m1 l1,.slice b2 m2 l2,.slice b3 m3 l3,.slice b4 m4 l4,.int .i64 lo,.int .i64 st] [.int .i64 0,.int .i64 0,.int .i64 0,.bool false,.bool false,.bool false,.bool false,.bool false,.int .i64 0,.int .i64 0,.int .i64 0,.int .i64 0,.int .i64 0,.int .i64 0,.int .i64 0,.slice none 0 0,.slice none 0 0,.slice none 0 0,.slice none 0 0,.int .i64 0,.int .i64 0] [] [] w3 rfl h
theorem results_mem10 (tmps:Array Value) (w:World) (b:Nat) (V:Value) (h2:tmps.getD 2 undef = .pointer (some ⟨b,0,none⟩)) (hL:(loadVar 41 ⟨b,0,none⟩).run Tryz.prog w = .ok V w):(results Tryz.f10 tmps).run Tryz.prog w = .ok V w:=by
 simp only[Array.getD_eq_getD_getElem?] at h2
 simp[results,Tryz.results10,h2,asAddr,hL]
set_option maxRecDepth 40000 in
theorem toCoWh (w:World) (C:Co) (s:Sl) (h:isHo w C.ho s) (hn:C.ho.le 1048576) :
  Calls Tryz.prog 10 #[.agg (coL C s).toArray] w fun o w'=>∃ s':Wh,o = .returned (.agg (coL C s'.sl).toArray)∧St w.heap.size w' (fun W=>isHo W C.ho s'.sl)∧whS w.heap.size w'.heap.size w' s'∧whD s'∧slSome s'.sl∧Below w.heap.size w w':=by
 have HC:Hid (∀ X,Below w.heap.size w X→w.heap.size+3≤X.heap.size→Calls Tryz.prog 36 #[hoV C.ho s] X fun o w'=>∃ s':Wh,o = .returned (hoV C.ho s'.sl)∧(St (w.heap.size+3) w' (fun W=>isHo W C.ho s'.sl)∧whS (w.heap.size+3) w'.heap.size w' s'∧whD s'∧slSome s'.sl)∧Below w.heap.size w w'∧Below X.heap.size X w'):=by
  intro X hX hz;rw[hoV_L]
  refine (toWh X C.ho s (h.below hX) hn).mono ?_
  rintro o w' ⟨s',rfl,h1,h2,h3,h4,h5⟩;exact⟨s',by rw[hoV_L],⟨h1.mono hz,h2.mono hz (Nat.le_refl _),h3,h4⟩,hX.trans (h5.mono hX.size),h5⟩
 clear h hn;show Calls Tryz.prog 10 #[coV C s] w _
 obtain⟨p,ct,lv,wk,ov,ow,tx,ak,rn,te,re,⟨c0,c1,c2,c3,fs,bx,ff,qu,lo,st⟩⟩:=C
 obtain⟨a1,n1,k1,a2,n2,k2,a3,n3,k3,a4,n4,k4⟩:=s
 go_enter Tryz.func10,Tryz.ntmps10
 go_wp2_with (first | (go_at_call 36;refine (HC.out _ (by (repeat refine Below.setCell ?_ (by simp;try omega) _);exact (((Below.refl _ _).alloc (Nat.le_refl _) _).alloc (by simp) _).alloc (by simp;omega) _) (by simp)).mono ?_;rintro o w2 ⟨s',rfl,S2,B2,K2⟩;have HO2:Hid (w2.heap[w.heap.size+1+1]?=some (.cells [.int .i64 p,.int .i64 ct,.int .i64 lv,.bool wk,.bool ov,.bool ow,.bool tx,.bool ak,.int .i64 rn,.int .i64 te,.int .i64 re,.int .i64 0,.int .i64 0,.int .i64 0,.int .i64 0,.slice none 0 0,.slice none 0 0,.slice none 0 0,.slice none 0 0,.int .i64 0,.int .i64 0].toArray 41)):=(K2.block (w.heap.size+1+1) (by simp)).trans (heap_three w _ _ _);have HR2:Hid (w2.heap[w.heap.size+1]?=some (.cells [.int .i64 0,.int .i64 0,.int .i64 0,.bool false,.bool false,.bool false,.bool false,.bool false,.int .i64 0,.int .i64 0,.int .i64 0,.int .i64 0,.int .i64 0,.int .i64 0,.int .i64 0,.slice none 0 0,.slice none 0 0,.slice none 0 0,.slice none 0 0,.int .i64 0,.int .i64 0].toArray 41)):=(K2.block (w.heap.size+1) (by simp)).trans (heap_two w _ _ _);have HS:Hid _:=S2;have HB:Hid _:=B2;clear S2 B2 K2) | (refine wpList_store_mid (P:=Tryz.prog) rfl 39 (.tmp 40) (.tmp 39) rfl (w.heap.size+1+1) 11 #[.int .i64 c0,.int .i64 c1,.int .i64 c2,.int .i64 c3,.slice s'.sl.a1 s'.sl.n1 s'.sl.k1,.slice s'.sl.a2 s'.sl.n2 s'.sl.k2,.slice s'.sl.a3 s'.sl.n3 s'.sl.k3,.slice s'.sl.a4 s'.sl.n4 s'.sl.k4,.int .i64 lo,.int .i64 st] rfl rfl (there_block HO2.out 11 10 (by simp)) sz41 (one10 _ _ _ _ _ _ _ _ _ _ _ _ _ _ _ _ _ _) ?_;generalize hW3:World.setCells w2 (w.heap.size+1+1) 11 _=w3;have HW3:Hid (World.setCells w2 (w.heap.size+1+1) 11 [.int .i64 c0,.int .i64 c1,.int .i64 c2,.int .i64 c3,.slice s'.sl.a1 s'.sl.n1 s'.sl.k1,.slice s'.sl.a2 s'.sl.n2 s'.sl.k2,.slice s'.sl.a3 s'.sl.n3 s'.sl.k3,.slice s'.sl.a4 s'.sl.n4 s'.sl.k4,.int .i64 lo,.int .i64 st]=w3):=hW3;clear hW3) | (refine wpList_load_mid (P:=Tryz.prog) rfl 41 (.tmp 3) rfl (w.heap.size+1+1) 0 rfl [.int .i64 p,.int .i64 ct,.int .i64 lv,.bool wk,.bool ov,.bool ow,.bool tx,.bool ak,.int .i64 rn,.int .i64 te,.int .i64 re,.int .i64 c0,.int .i64 c1,.int .i64 c2,.int .i64 c3,.slice s'.sl.a1 s'.sl.n1 s'.sl.k1,.slice s'.sl.a2 s'.sl.n2 s'.sl.k2,.slice s'.sl.a3 s'.sl.n3 s'.sl.k3,.slice s'.sl.a4 s'.sl.n4 s'.sl.k4,.int .i64 lo,.int .i64 st] _ (range_block (core_a HO2.out HW3.out)) Tryz.underlying41 rfl szC41 ?_) | (refine wpList_store_mid (P:=Tryz.prog) rfl 41 (.tmp 2) (.tmp 41) rfl (w.heap.size+1) 0 #[.int .i64 p,.int .i64 ct,.int .i64 lv,.bool wk,.bool ov,.bool ow,.bool tx,.bool ak,.int .i64 rn,.int .i64 te,.int .i64 re,.int .i64 c0,.int .i64 c1,.int .i64 c2,.int .i64 c3,.slice s'.sl.a1 s'.sl.n1 s'.sl.k1,.slice s'.sl.a2 s'.sl.n2 s'.sl.k2,.slice s'.sl.a3 s'.sl.n3 s'.sl.k3,.slice s'.sl.a4 s'.sl.n4 s'.sl.k4,.int .i64 lo,.int .i64 st] rfl rfl (there_block (core_r HR2.out HW3.out) 0 21 (by simp)) szC41 (one21 _ _ _ _ _ _ _ _ _ _ _ _ _ _ _ _ _ _ _ _ _ _ _ _ _ _ _ _ _) ?_;generalize hW4:World.setCells w3 (w.heap.size+1) 0 _=w4;have HW4:Hid (World.setCells w3 (w.heap.size+1) 0 [.int .i64 p,.int .i64 ct,.int .i64 lv,.bool wk,.bool ov,.bool ow,.bool tx,.bool ak,.int .i64 rn,.int .i64 te,.int .i64 re,.int .i64 c0,.int .i64 c1,.int .i64 c2,.int .i64 c3,.slice s'.sl.a1 s'.sl.n1 s'.sl.k1,.slice s'.sl.a2 s'.sl.n2 s'.sl.k2,.slice s'.sl.a3 s'.sl.n3 s'.sl.k3,.slice s'.sl.a4 s'.sl.n4 s'.sl.k4,.int .i64 lo,.int .i64 st]=w4):=hW4;clear hW4))
 have hF:=core_f (core_r HR2.out HW3.out) HW4.out
 have hL:=run_loadVar_mid (P:=Tryz.prog) w4 (w.heap.size+1) 0 41 [.int .i64 p,.int .i64 ct,.int .i64 lv,.bool wk,.bool ov,.bool ow,.bool tx,.bool ak,.int .i64 rn,.int .i64 te,.int .i64 re,.int .i64 c0,.int .i64 c1,.int .i64 c2,.int .i64 c3,.slice s'.sl.a1 s'.sl.n1 s'.sl.k1,.slice s'.sl.a2 s'.sl.n2 s'.sl.k2,.slice s'.sl.a3 s'.sl.n3 s'.sl.k3,.slice s'.sl.a4 s'.sl.n4 s'.sl.k4,.int .i64 lo,.int .i64 st] _ (range_block hF) Tryz.underlying41 rfl szC41
 refine bodyPost_ret (v:=coV ⟨p,ct,lv,wk,ov,ow,tx,ak,rn,te,re,⟨c0,c1,c2,c3,fs,bx,ff,qu,lo,st⟩⟩ s'.sl) (results_mem10 _ w4 (w.heap.size+1) _ rfl hL) rfl ?_
 have T:=HS.out
 have e3:=HW3.out
 have e4:=HW4.out
 have oth:∀ x,w.heap.size+3≤x→w4.heap[x]?=w2.heap[x]?:=fun x hx=>by
  rw[← e4,← e3]
  exact (setCells_other _ x (by omega) _ _ _).trans (setCells_other _ x (by omega) _ _ _)
 have hsz:w4.heap.size=w2.heap.size:=by rw[← e4,← e3];exact (setCells_size ..).trans (setCells_size ..)
 refine⟨s',rfl,fun W hW=>T.1 W (fun x h1 h2=>(hW x (by omega) (by omega)).trans (oth x h1)),?_,T.2.2.1,T.2.2.2,?_⟩
 ·rw[hsz]
  exact (T.2.1.same (fun x h1 h2=>oth x h1)).mono (by omega) (Nat.le_refl _)
 ·rw[← e4,← e3]
  exact setCells_below (by omega) 0 _ (setCells_below (by omega) 11 _ HB.out)
theorem markCo {W:World} {C:Co} {s:Sl} {Q:Nat→World→Prop} (hc:∀ X,Below W.heap.size W X→Calls Tryz.prog 40 #[.agg (hoL C.ho s).toArray,.int .i64 1] X fun o w'=>∃ k:Nat,o = .returned (.int .i64 (k:Int))∧Q k w') :
  Calls Tryz.prog 13 #[.agg (coL C s).toArray,.int .i64 1] W fun o w'=>∃ k:Nat,o = .returned (.int .i64 (k:Int))∧Q k w':=by
 have H0:Hid (ctS W W.heap.size C s (W.alloc (.cells (coL C s).toArray 41))):=ctS.new W C s
 have HC:Hid (∀ X,Below W.heap.size W X→Calls Tryz.prog 40 #[.agg (hoL C.ho s).toArray,.int .i64 1] X fun o w'=>∃ k:Nat,o = .returned (.int .i64 (k:Int))∧Q k w'):=hc
 clear hc;go_enter Tryz.func13,Tryz.ntmps13
 go_wp2_with (first
  | (refine wpList_load_mid (P:=Tryz.prog) rfl 39 (.tmp 5) rfl W.heap.size 11 rfl (hoL C.ho s) _ H0.out.p.hostAt Tryz.underlying39 rfl (sz39h C.ho s) ?_))
 refine (HC.out _ H0.out.b).mono ?_
 rintro o w2 ⟨k,rfl,hq⟩;have HQ:Hid (Q k w2):=hq
 clear hq;go_wp2_with fail;go_ret;exact⟨k,rfl,HQ.out⟩
theorem heldCo {W:World} {C:Co} {s:Sl} (k:Nat) (hc:∀ X,Below W.heap.size W X→Calls Tryz.prog 41 #[.agg (hoL C.ho s).toArray,.int .i64 1] X fun o w'=>o = .returned (.int .i64 (k:Int))∧Below X.heap.size X w') :
  Calls Tryz.prog 14 #[.agg (coL C s).toArray,.int .i64 1] W fun o w'=>o = .returned (.int .i64 (k:Int))∧Below W.heap.size W w':=by
 have H0:Hid (ctS W W.heap.size C s (W.alloc (.cells (coL C s).toArray 41))):=ctS.new W C s
 have HC:Hid (∀ X,Below W.heap.size W X→Calls Tryz.prog 41 #[.agg (hoL C.ho s).toArray,.int .i64 1] X fun o w'=>o = .returned (.int .i64 (k:Int))∧Below X.heap.size X w'):=hc
 have hk0:decide ((k:Int)<0)=false:=by simp
 clear hc;go_enter Tryz.func14,Tryz.ntmps14
 go_wp2_with (first
  | (refine wpList_load_mid (P:=Tryz.prog) rfl 39 (.tmp 5) rfl W.heap.size 11 rfl (hoL C.ho s) _ H0.out.p.hostAt Tryz.underlying39 rfl (sz39h C.ho s) ?_))
 refine (HC.out _ H0.out.b).mono ?_
 rintro o w2 ⟨rfl,hq⟩;have HQ:Hid (Below W.heap.size W w2):=H0.out.b.trans (hq.mono H0.out.b.size)
 clear hq;go_wp2_with fail;go_ret;exact⟨rfl,HQ.out⟩
def MKC (B:Nat) (T:Co) (sg:Sl) (w:World):Prop:=∀ W,(∀ x,B≤x→x<w.heap.size→W.heap[x]?=w.heap[x]?)→w.heap.size≤W.heap.size→Calls Tryz.prog 13 #[.agg (coL T sg).toArray,.int .i64 1] W fun o w1=>∃ k:Nat,o = .returned (.int .i64 (k:Int))∧Below B W w1∧(∀ x,w.heap.size≤x→x<W.heap.size→w1.heap[x]?=W.heap[x]?)∧∀ W2,Below w1.heap.size w1 W2→Calls Tryz.prog 14 #[.agg (coL T sg).toArray,.int .i64 1] W2 fun o w2=>o = .returned (.int .i64 (k:Int))∧Below W2.heap.size W2 w2
theorem MKQ.core {B:Nat} {T:Co} {sg:Sl} {w:World} (h:MKQ B T.ho sg w) (hB:B≤w.heap.size):MKC B T sg w:=by
 intro W hW hz;refine markCo (fun X hX=>?_)
 refine (h X (fun x h1 h2=>(hX.block x (by omega)).trans (hW x h1 h2)) (by have:=hX.size;omega)).mono ?_
 rintro o w1 ⟨k,rfl,h1,h2,h3⟩;refine⟨k,rfl,(hX.mono (by omega)).trans h1,fun x h4 h5=>(h2 x h4 (by have:=hX.size;omega)).trans (hX.block x h5),fun W2 hW2=>?_⟩
 exact heldCo k (fun X2 hX2=>h3 X2 (hW2.trans (hX2.mono hW2.size)))
theorem eqLC (X:World) (T:Co) (s1 s2:Sl) (h1:isHo X T.ho s1) (h2:isHo X T.ho s2) (hm:T.ho.le 1048576):Calls Tryz.prog 12 #[.agg (coL T s1).toArray,.agg (coL T s2).toArray] X fun o w'=>o = .returned (.bool true)∧Below X.heap.size X w':=by
 rw[← coV_L,← coV_L]
 exact eqCore_same X T s1 s2 h1 h2 hm
structure lcS (w:World) (C:Co) (s:Sl) (T:Co) (bw:Nat) (sw:Sl) (W:World):Prop where
 p:blk W w.heap.size (coL C s) 31
 q:blk W bw (coL T sw) 41
 t:isHo W T.ho sw
 h:isHo W C.ho s
 b:Below w.heap.size w W
theorem lcS.below {w:World} {C:Co} {s:Sl} {T:Co} {bw:Nat} {sw:Sl} {W W':World} (h:lcS w C s T bw sw W) (hb:Below W.heap.size W W'):lcS w C s T bw sw W':=⟨h.p.below hb,h.q.below hb,h.t.below hb,h.h.below hb,h.b.trans (hb.mono h.b.size)⟩
structure lcX (w:World) (C:Co) (s:Sl) (T:Co) (bw:Nat) (sw:Sl) (w4:World) (T5 bx:Nat) (sx:Wh) (W:World):Prop where
 l:lcS w C s T bw sw W
 x:blk W bx (coL C sx.sl) 41
 xh:isHo W C.ho sx.sl
 xw:whS w4.heap.size T5 W sx
 z:bw<w4.heap.size∧w.heap.size<w4.heap.size∧w4.heap.size≤T5∧T5≤bx
 b4:Below w4.heap.size w4 W
theorem lcX.below {w:World} {C:Co} {s:Sl} {T:Co} {bw:Nat} {sw:Sl} {w4:World} {T5 bx:Nat} {sx:Wh} {W W':World} (h:lcX w C s T bw sw w4 T5 bx sx W) (hb:Below W.heap.size W W'):lcX w C s T bw sw w4 T5 bx sx W':=⟨h.l.below hb,h.x.below hb,h.xh.below hb,h.xw.same (fun x _ hx=>hb.block x (by have:=h.x.lt;have:=h.z;omega)),h.z,h.b4.trans (hb.mono h.b4.size)⟩
structure lcG (w:World) (C:Co) (s:Sl) (T:Co) (bw:Nat) (sw:Sl) (w4:World) (bx B6:Nat) (w7:World) (bg:Nat) (sg:Sl) (W:World):Prop where
 l:lcS w C s T bw sw W
 g:blk W bg (coL T sg) 41
 k:∀ x,B6≤x→x<w7.heap.size→W.heap[x]?=w7.heap[x]?
 z:bx<B6∧B6≤w7.heap.size∧w7.heap.size≤bg
 y:bw<w4.heap.size∧w.heap.size<w4.heap.size∧w4.heap.size≤bx
 b4:Below w4.heap.size w4 W
theorem lcG.below {w:World} {C:Co} {s:Sl} {T:Co} {bw:Nat} {sw:Sl} {w4:World} {bx B6:Nat} {w7:World} {bg:Nat} {sg:Sl} {W W':World} (h:lcG w C s T bw sw w4 bx B6 w7 bg sg W) (hb:Below W.heap.size W W'):lcG w C s T bw sw w4 bx B6 w7 bg sg W':=⟨h.l.below hb,h.g.below hb,fun x h1 h2=>(hb.block x (by have:=h.g.lt;have:=h.z;omega)).trans (h.k x h1 h2),h.z,h.y,h.b4.trans (hb.mono h.b4.size)⟩
theorem lcG.gmark {w:World} {C:Co} {s:Sl} {T:Co} {bw:Nat} {sw:Sl} {w4:World} {bx B6:Nat} {w7:World} {bg:Nat} {sg:Sl} {W W':World} (h:lcG w C s T bw sw w4 bx B6 w7 bg sg W) (h4:isHo w4 T.ho sw∧isHo w4 C.ho s) (hb:Below B6 W W'):lcS w C s T bw sw W':=by
 have hz:=h.z
 have hy:=h.y
 have hb4:=h.b4.trans (hb.mono (by omega))
 exact⟨h.l.p.kept (hb.block _ (by omega)),h.l.q.kept (hb.block _ (by omega)),h4.1.below hb4,h4.2.below hb4,h.l.b.trans (hb.mono (by omega))⟩
theorem new_coreS {w:World} (l:List Value) (hl:l.length=21):blk (World.setCells (w.alloc (.cells [.int .i64 0,.int .i64 0,.int .i64 0,.bool false,.bool false,.bool false,.bool false,.bool false,.int .i64 0,.int .i64 0,.int .i64 0,.int .i64 0,.int .i64 0,.int .i64 0,.int .i64 0,.slice none 0 0,.slice none 0 0,.slice none 0 0,.slice none 0 0,.int .i64 0,.int .i64 0].toArray 41)) w.heap.size 0 l) w.heap.size l 41∧Below w.heap.size w (World.setCells (w.alloc (.cells [.int .i64 0,.int .i64 0,.int .i64 0,.bool false,.bool false,.bool false,.bool false,.bool false,.int .i64 0,.int .i64 0,.int .i64 0,.int .i64 0,.int .i64 0,.int .i64 0,.int .i64 0,.slice none 0 0,.slice none 0 0,.slice none 0 0,.slice none 0 0,.int .i64 0,.int .i64 0].toArray 41)) w.heap.size 0 l):=by
 refine⟨?_,setCells_below (Nat.le_refl _) 0 l ((Below.refl _ _).alloc (Nat.le_refl _) _)⟩
 have:=blk.put [] [.int .i64 0,.int .i64 0,.int .i64 0,.bool false,.bool false,.bool false,.bool false,.bool false,.int .i64 0,.int .i64 0,.int .i64 0,.int .i64 0,.int .i64 0,.int .i64 0,.int .i64 0,.slice none 0 0,.slice none 0 0,.slice none 0 0,.slice none 0 0,.int .i64 0,.int .i64 0] [] l (w:=w.alloc (.cells [.int .i64 0,.int .i64 0,.int .i64 0,.bool false,.bool false,.bool false,.bool false,.bool false,.int .i64 0,.int .i64 0,.int .i64 0,.int .i64 0,.int .i64 0,.int .i64 0,.int .i64 0,.slice none 0 0,.slice none 0 0,.slice none 0 0,.slice none 0 0,.int .i64 0,.int .i64 0].toArray 41)) (b:=w.heap.size) (T:=41) (by simpa using blk.new w _ 41) (by rw[hl];rfl)
 simpa using this
theorem zCo_le:zCo.ho.le 1048576:=⟨by decide,by decide,by decide,by decide,fun j hj=>(by cases hj),fun j hj=>(by cases hj),fun j hj=>(by cases hj)⟩
theorem actC_le {C A:Co} (h:A.ho.le 1048576) (hq:A.ho.qu.length≤1000):(actC C A).ho.le 1048576:=by
 have e:(if A.te=256∧A.p≠7 then offC A else A).ho=A.ho:=by split <;> rfl
 unfold actC
 generalize (if A.te=256∧A.p≠7 then offC A else A)=X at *;unfold tellC
 split
 ·rw[e];exact h
 ·show Ho.le (postHo X.ho _) _
  rw[e]
  exact h.post hq (Nat.zero_le _)
end Go.Proofs.YtkfcfigbgmbaiaaGreat
