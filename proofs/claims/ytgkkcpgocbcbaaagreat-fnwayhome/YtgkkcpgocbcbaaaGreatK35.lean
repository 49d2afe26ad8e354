import Derived.Test.YtgkkcpgocbcbaaaGreatK34
import Derived.Deep.DeepCutAuto
import Derived.Deep.RegionWith
namespace Go.Proofs.YtgkkcpgocbcbaaaGreat
open Go.RowKit
set_option linter.unusedVariables false
theorem hidX {P:Prop} (h:P):Hid P:=h
variable {w0 : World} {M : Nat} {G : Lg} {f1 f3 nm : Nat} {C : Co} {W : World}
def mx (w0:World) (M:Nat) (G:Lg) (f1 f3 nm:Nat) (C:Co) (W:World):Prop:=∃ hs D,mc w0 M G C f1 f3 hs nm D W
theorem mx.m (h:mx w0 M G f1 f3 nm C W):blk W M (mcL G.P C) 106:=by obtain⟨_,_,h⟩:=h;exact h.m
theorem mx.below (h:mx w0 M G f1 f3 nm C W) {W':World} (hb:Below W.heap.size W W'):mx w0 M G f1 f3 nm C W':=by obtain⟨_,_,h⟩:=h;exact⟨_,_,h.below hb⟩
theorem mx.set (h:mx w0 M G f1 f3 nm C W) (k:Nat) (v:Value) (C':Co) (e:(mcL G.P C).set k v=mcL G.P C') (eh:C'.ho=C.ho):mx w0 M G f1 f3 nm C' (W.setCell ⟨M,k,none⟩ v):=by obtain⟨_,_,h⟩:=h;exact⟨_,_,h.set k v e eh⟩
theorem mx.post (h:mx w0 M G f1 f3 nm C W) (k a b:Int):Calls Tryz.prog 40 #[.pointer (some ⟨G.P,0,none⟩),.agg #[.int .i64 k,.int .i64 a,.int .i64 b,.bool false,.int .u32 0,.bool false,.int .i64 0,.slice none 0 0]] W fun o w'=>o = .returned (.tuple #[])∧mx w0 M G f1 f3 nm { C with ho:=postHo C.ho (ev3 k a b) } w':=by
 obtain⟨_,_,h⟩:=h
 exact (h.post2 k a b).mono fun o w' ⟨h1,h2⟩=>⟨h1,_,_,h2⟩
theorem mx.add (h:mx w0 M G f1 f3 nm C W) (b:Bool) (n:Int) (hn:0≤n∧n≤8) (ht:0≤C.te∧C.te≤256) (hr:0≤C.re∧C.re≤255):Calls Tryz.prog 111 #[.pointer (some ⟨M,0,none⟩),.bool b,.int .i64 n] W fun o w'=>o = .returned (.tuple #[])∧mx w0 M G f1 f3 nm (addC C b n) w':=by
 obtain⟨_,_,h⟩:=h
 exact (add_any h b n hn ht hr).mono fun o w' ⟨h1,h2⟩=>⟨h1,_,_,h2⟩
theorem mx.state (h:mx w0 M G f1 f3 nm C W):Calls Tryz.prog 56 #[.pointer (some ⟨M,0,none⟩)] W fun o w'=>o = .returned (.int .i64 (stZ C.te C.re))∧mx w0 M G f1 f3 nm C w'∧Below W.heap.size W w':=by
 obtain⟨_,_,h⟩:=h
 exact (state_any h).mono fun o w' ⟨h1,h2,h3⟩=>⟨h1,⟨_,_,h2⟩,h3⟩
theorem mx.release (h:mx w0 M G f1 f3 nm C W) (sent:Bool) (hwf:∀ j (hj:j<C.ho.bx.length),(Lit.int .i64 C.ho.bx[j].y).wf=true):Calls Tryz.prog 133 #[.pointer (some ⟨G.P,0,none⟩),.bool sent] W fun o w'=>o = .returned (.tuple #[])∧mx w0 M G f1 f3 nm { C with ho:=relHo C.ho sent } w':=by
 obtain⟨_,_,h⟩:=h
 exact (h.release sent hwf).mono fun o w' ⟨h1,hs',D',h2⟩=>⟨h1,hs',D',h2⟩
def fltH (C:Co) (k:Int):Ho:=relHo (postHo C.ho (ev3 8 k (if C.tx then 1 else 0))) false
def fltW (C:Co):Bool:=stZ C.te C.re == 1
def fltO (C:Co) (k:Int):Bool:=fltW C && C.tx && (k == 5)
def fltM (C:Co) (k:Int):Co:={ C with wk:=fltW C,ow:=fltO C k,ho:=fltH C k }
def fltC (C:Co) (k:Int):Co:={ addC (fltM C k) C.tx (fwZ C.tx (fltO C k) C.p k) with p:=2,ct:=0,lv:=0,ov:=false }
theorem fwZ_in (a b:Bool) (p k:Int):0≤fwZ a b p k∧fwZ a b p k≤8:=by unfold fwZ;split <;> (try split) <;> omega
theorem eqB (x y:Int):∃ b:Bool,(x == y)=b∧(x != y) = !b∧Hid (b=true↔x=y):=⟨_,rfl,rfl,by show _↔_;simp⟩
set_option maxHeartbeats 8000000 in
set_option maxRecDepth 20000 in
theorem mx.fault (h:mx w0 M G f1 f3 nm C W) (k:Int) (ht:0≤C.te∧C.te≤256) (hr:0≤C.re∧C.re≤255) (hwf:∀ j (hj:j<C.ho.bx.length),(Lit.int .i64 C.ho.bx[j].y).wf=true) :
  Calls Tryz.prog 110 #[.pointer (some ⟨M,0,none⟩),.int .i64 k] W fun o w'=>o = .returned (.tuple #[])∧mx w0 M G f1 f3 nm (fltC C k) w':=by
 obtain⟨fv,hfv⟩ : ∃ fv:Int,fv=if C.tx then 1 else 0:=⟨_,rfl⟩
 have HFL:Hid (relHo (postHo C.ho (ev3 8 k fv)) false=fltH C k):=by show _=fltH C k;unfold fltH;rw[hfv]
 have HFV:Hid (∀ X,Calls Tryz.prog 41 #[.bool C.tx] X fun o w'=>o = .returned (.int .u64 fv)∧X=w'):=fun X=>by rw[hfv];exact flagValue_any X C.tx
 have hwv:IntKind.i64.wrap fv=fv:=by rw[hfv];generalize C.tx=q;cases q <;> decide
 have H0:Hid (mx w0 M G f1 f3 nm C W):=h
 have HPO:=hidX ((h.below (Below.refl _ _).drew).post 8 k fv)
 have HRL:Hid (∀ X,mx w0 M G f1 f3 nm { C with ho:=postHo C.ho (ev3 8 k fv) } X→Calls Tryz.prog 133 #[.pointer (some ⟨G.P,0,none⟩),.bool false] X fun o w'=>o = .returned (.tuple #[])∧mx w0 M G f1 f3 nm { C with ho:=fltH C k } w'):=fun X hX=>by rw[← HFL.out];exact hX.release false hwf
 have HST:Hid (∀ X,mx w0 M G f1 f3 nm { C with ho:=fltH C k } X→Calls Tryz.prog 56 #[.pointer (some ⟨M,0,none⟩)] X fun o w'=>o = .returned (.int .i64 (stZ C.te C.re))∧mx w0 M G f1 f3 nm { C with ho:=fltH C k } w'):=fun X hX=>hX.state.mono fun o w' ⟨h1,h2,_⟩=>⟨h1,h2⟩
 have HFW:Hid (∀ X,mx w0 M G f1 f3 nm (fltM C k) X→Calls Tryz.prog 134 #[.pointer (some ⟨M,0,none⟩),.int .i64 k] X fun o w'=>o = .returned (.int .i64 (fwZ C.tx (fltO C k) C.p k))∧X=w'):=fun X hX=>by obtain⟨_,_,hX⟩:=hX;exact faultWeight_any hX k
 have HAD:Hid (∀ X,mx w0 M G f1 f3 nm (fltM C k) X→Calls Tryz.prog 111 #[.pointer (some ⟨M,0,none⟩),.bool C.tx,.int .i64 (fwZ C.tx (fltO C k) C.p k)] X fun o w'=>o = .returned (.tuple #[])∧mx w0 M G f1 f3 nm (addC (fltM C k) C.tx (fwZ C.tx (fltO C k) C.p k)) w'):=fun X hX=>hX.add C.tx _ (fwZ_in _ _ _ _) ht hr
 obtain⟨wk,ewk⟩ : ∃ b,(stZ C.te C.re == 1)=b:=⟨_,rfl⟩
 obtain⟨tx,etx⟩ : ∃ b,C.tx=b:=⟨_,rfl⟩
 obtain⟨k5,e5,_,_⟩:=eqB k 5
 have HM:Hid (fltM C k = { { C with ho:=fltH C k } with wk:=wk,ow:=wk && tx && k5 }):=by show _=_;unfold fltM fltO fltW;rw[ewk,etx,e5]
 have HTX:=hidX etx
 generalize stZ C.te C.re=z at *
 have y9:=h.m.cell 9 (.bool C.tx) rfl
 have y0:=h.m.cell 0 (.pointer (some ⟨G.P,0,none⟩)) rfl
 clear h ht hr hwf hfv HFL etx
 go_enter Tryz.func110,Tryz.ntmps110
 go_upto_region 0 with fail
 go_cut [] (fun wx=>Hid (mx w0 M G f1 f3 nm { C with ho:=postHo C.ho (ev3 8 k fv) } wx))
 case first=>
  go_region_with (first | (go_at_call 41;refine (HFV.out _).mono ?_;rintro o w1 ⟨rfl,rfl⟩) | (go_at_call 40;refine HPO.out.mono ?_;rintro o w1 ⟨rfl,h1⟩;have H1:=hidX h1;clear h1))
  all_goals (
   go_wp2_with fail
   go_meet
   case rel=>exact H1.out)
 case rest=>
 have H1:=hcut
 clear hcut y9 y0 H0 HPO HFV
 have y0:=H1.out.m.cell 0 (.pointer (some ⟨G.P,0,none⟩)) rfl
 go_wp2_with fail
 refine (HRL.out _ H1.out).mono ?_
 rintro o w1 ⟨rfl,h2⟩
 have H2:=hidX h2
 clear h2 H1 HRL y0
 go_wp2_with fail
 refine (HST.out _ H2.out).mono ?_
 rintro o w2 ⟨rfl,h2⟩
 have H3:=hidX h2
 have y6:=h2.m.cell 6 (.bool C.wk) rfl
 have z6:=h2.m.free 6
 clear h2 H2 HST
 have H4:Hid (mx w0 M G f1 f3 nm { { C with ho:=fltH C k } with wk:=wk } (World.setCell w2 ⟨M,6,none⟩ (.bool wk))):=H3.out.set 6 (.bool wk) _ rfl rfl
 go_upto_region 3 with fail
 generalize World.setCell w2 ⟨M,6,none⟩ (.bool wk)=w3 at *
 clear y6 z6 H3
 have y6:=H4.out.m.cell 6 (.bool wk) rfl
 have y8:=H4.out.m.cell 8 (.bool C.ow) rfl
 have z8:=H4.out.m.free 8
 have y9:=H4.out.m.cell 9 (.bool C.tx) rfl
 rw[HTX.out] at y9
 go_cut [] (fun wx=>Hid (mx w0 M G f1 f3 nm (fltM C k) wx))
 case first=>
  cases wk <;> cases tx <;> cases k5 <;> (
   go_wp2_with fail
   go_meet
   case rel=>rw[HM.out];exact H4.out.set 8 _ _ rfl rfl)
 case rest=>
 have H5:=hcut
 clear hcut y6 y8 z8 y9 H4 HM e5 ewk
 have y9:=H5.out.m.cell 9 (.bool C.tx) rfl
 have H6:=hidX (H5.out.below (Below.refl _ _).drew)
 obtain⟨n,en⟩ : ∃ n,fwZ C.tx (fltO C k) C.p k=n:=⟨_,rfl⟩
 obtain⟨A,eA⟩ : ∃ A,addC (fltM C k) C.tx n=A:=⟨_,rfl⟩
 have HEA:Hid (fltC C k = { A with p:=2,ct:=0,lv:=0,ov:=false }):=by show _=_;rw[← eA,← en];rfl
 rw[en] at HFW HAD
 rw[eA] at HAD
 clear en eA
 go_upto_region 4 with fail
 go_cut [] (fun wx=>Hid (mx w0 M G f1 f3 nm A wx))
 case first=>
  go_region_with (first | (go_at_call 134;refine (HFW.out _ H6.out).mono ?_;rintro o w5 ⟨rfl,rfl⟩) | (go_at_call 111;refine (HAD.out _ H6.out).mono ?_;rintro o w5 ⟨rfl,h7⟩;have H7:=hidX h7;clear h7))
  all_goals (
   go_wp2_with fail
   go_meet
   case rel=>exact H7.out)
 case rest=>
 have H4:=hcut
 clear hcut y9 H5 H6 HFW HAD
 have y3:=H4.out.m.cell 3 (.int .i64 A.p) rfl
 have y4:=H4.out.m.cell 4 (.int .i64 A.ct) rfl
 have y5:=H4.out.m.cell 5 (.int .i64 A.lv) rfl
 have y7:=H4.out.m.cell 7 (.bool A.ov) rfl
 have z3:=H4.out.m.free 3
 have z4:=H4.out.m.free 4
 have z5:=H4.out.m.free 5
 have z7:=H4.out.m.free 7
 have H9:Hid (mx w0 M G f1 f3 nm { A with p:=2,ct:=0,lv:=0,ov:=false } (World.setCell (World.setCell (World.setCell (World.setCell wc ⟨M,3,none⟩ (.int .i64 2)) ⟨M,4,none⟩ (.int .i64 0)) ⟨M,5,none⟩ (.int .i64 0)) ⟨M,7,none⟩ (.bool false))):=((((H4.out.set 3 (.int .i64 2) { A with p:=2 } rfl rfl).set 4 (.int .i64 0) { A with p:=2,ct:=0 } rfl rfl).set 5 (.int .i64 0) { A with p:=2,ct:=0,lv:=0 } rfl rfl).set 7 (.bool false) { A with p:=2,ct:=0,lv:=0,ov:=false } rfl rfl)
 go_wp2_with fail
 first | go_end0 | (simp only[Exit.inBlock,Exit.then];refine bodyPost_ret (results_none rfl _ _ _) rfl ?_) | refine bodyPost_ret (results_none rfl _ _ _) rfl ?_
 exact⟨rfl,by rw[HEA.out];exact H9.out⟩
def offC (A:Co):Co:=⟨7,0,0,false,false,false,false,false,0,A.te,A.re,A.ho⟩
theorem mc.moment {w0:World} {M:Nat} {G:Lg} {C:Co} {f1 f3:Nat} {hs:Nat→Hd} {nm:Nat} {D:DataW Unit} {W:World} (h:mc w0 M G C f1 f3 hs nm D W):mc w0 M G (offC C) f1 f3 hs nm D (W.setCells M 3 [.int .i64 7,.int .i64 0,.int .i64 0,.bool false,.bool false,.bool false,.bool false,.bool false,.int .i64 0]):=by
 refine⟨?_,?_,h.o⟩
 ·have h':blk W M ([.pointer (some ⟨G.P,0,none⟩),.int .i64 C.te,.int .i64 C.re]++[.int .i64 C.p,.int .i64 C.ct,.int .i64 C.lv,.bool C.wk,.bool C.ov,.bool C.ow,.bool C.tx,.bool C.ak,.int .i64 C.rn]++(sgL++prL)) 106:=h.m
  exact blk.put [.pointer (some ⟨G.P,0,none⟩),.int .i64 C.te,.int .i64 C.re] [.int .i64 C.p,.int .i64 C.ct,.int .i64 C.lv,.bool C.wk,.bool C.ov,.bool C.ow,.bool C.tx,.bool C.ak,.int .i64 C.rn] (sgL++prL) [.int .i64 7,.int .i64 0,.int .i64 0,.bool false,.bool false,.bool false,.bool false,.bool false,.int .i64 0] h' rfl
 ·exact h.h.other M h.o (fun q hq=>setCells_other _ q hq _ _ _) (setCells_size ..) (setCells_below h.o.2.2.2.2.2.2 3 _ h.h.b)
theorem sz116:(Tryz.prog.info? 100).map (·.size)=some 9:=by kernel_rfl
def actC (C A:Co):Co:=tellC (if A.te=256∧A.p≠7 then offC A else A) (stZ C.te C.re)
end Go.Proofs.YtgkkcpgocbcbaaaGreat
