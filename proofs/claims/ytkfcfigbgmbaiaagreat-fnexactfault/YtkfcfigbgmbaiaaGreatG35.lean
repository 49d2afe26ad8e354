import Derived.Test.YtkfcfigbgmbaiaaGreatG34
import Derived.Deep.RegionHeld3
namespace Go.Proofs.YtkfcfigbgmbaiaaGreat
open Go.RowKit
set_option linter.unusedVariables false
def fltH (C:Co) (k:Int):Ho:=relHo (postHo C.ho (ev3 8 k (if C.tx then 1 else 0))) false
def fltW (C:Co):Bool:=stZ C.te C.re == 1
def fltO (C:Co) (k:Int):Bool:=fltW C && C.tx && (k == 5)
def fltM (C:Co) (k:Int):Co:={ C with wk:=fltW C,ow:=fltO C k,ho:=fltH C k }
def fltC (C:Co) (k:Int):Co:={ addC (fltM C k) C.tx (fwZ C.tx (fltO C k) C.p k) with p:=2,ct:=0,lv:=0,ov:=false }
theorem addC_tx (C:Co) (b:Bool) (n:Int):(addC C b n).tx=C.tx:=by unfold addC;split <;> rfl
theorem fwZ_in (a b:Bool) (p k:Int):0≤fwZ a b p k∧fwZ a b p k≤8:=by unfold fwZ;split <;> (try split) <;> omega
set_option maxHeartbeats 16000000 in
set_option maxRecDepth 20000 in
theorem fault_any {w0:World} {M:Nat} {G:Lg} {C:Co} {f1 f3:Nat} {hs:Nat→Hd} {nm:Nat} {D:DataW Unit} {W:World} (h:mc w0 M G C f1 f3 hs nm D W) (k:Int) (ht:0≤C.te∧C.te≤256) (hr:0≤C.re∧C.re≤255) (hwf:∀ j (hj:j<C.ho.bx.length),(Lit.int .i64 C.ho.bx[j].y).wf=true) :
  Calls Tryz.prog 45 #[.pointer (some ⟨M,0,none⟩),.int .i64 k] W fun o w'=>o = .returned (.tuple #[])∧∃ hs' D',mc w0 M G (fltC C k) f1 f3 hs' nm D' w':=by
 obtain⟨fv,hfv⟩ : ∃ fv:Int,fv=if C.tx then 1 else 0:=⟨_,rfl⟩
 have HFL:Hid (relHo (postHo C.ho (ev3 8 k fv)) false=fltH C k):=by show _=fltH C k;unfold fltH;rw[hfv]
 have HFV:Hid (∀ X,Calls Tryz.prog 88 #[.bool C.tx] X fun o w'=>o = .returned (.int .u64 fv)∧X=w'):=fun X=>by rw[hfv];exact flagValue_any X C.tx
 have hwv:IntKind.i64.wrap fv=fv:=by rw[hfv];generalize C.tx=q;cases q <;> decide
 have H0:Hid (mc w0 M G C f1 f3 hs nm D W):=h
 have HRL:Hid (∀ X,mc w0 M G { C with ho:=postHo C.ho (ev3 8 k fv) } f1 f3 hs nm D X→Calls Tryz.prog 105 #[.pointer (some ⟨G.P,0,none⟩),.bool false] X fun o w'=>o = .returned (.tuple #[])∧∃ hs' D',mc w0 M G { C with ho:=fltH C k } f1 f3 hs' nm D' w'):=fun X hX=>by rw[← HFL.out];exact hX.release false hwf
 have HST:Hid (∀ hs' D' X,mc w0 M G { C with ho:=fltH C k } f1 f3 hs' nm D' X→Calls Tryz.prog 106 #[.pointer (some ⟨M,0,none⟩)] X fun o w'=>o = .returned (.int .i64 (stZ C.te C.re))∧mc w0 M G { C with ho:=fltH C k } f1 f3 hs' nm D' w'):=fun hs' D' X hX=>(state_any hX).mono (by rintro o w' ⟨rfl,h1,_⟩;exact⟨rfl,h1⟩)
 have HFW0:Hid (∀ hs' D' X,mc w0 M G (fltM C k) f1 f3 hs' nm D' X→Calls Tryz.prog 108 #[.pointer (some ⟨M,0,none⟩),.int .i64 k] X fun o w'=>o = .returned (.int .i64 (fwZ C.tx (fltO C k) C.p k))∧X=w'):=fun hs' D' X hX=>faultWeight_any hX k
 have HAD0:Hid (∀ hs' D' X,mc w0 M G (fltM C k) f1 f3 hs' nm D' X→Calls Tryz.prog 107 #[.pointer (some ⟨M,0,none⟩),.bool C.tx,.int .i64 (fwZ C.tx (fltO C k) C.p k)] X fun o w'=>o = .returned (.tuple #[])∧mc w0 M G (addC (fltM C k) C.tx (fwZ C.tx (fltO C k) C.p k)) f1 f3 hs' nm D' w'):=fun hs' D' X hX=>add_any hX C.tx _ (fwZ_in _ _ _ _) ht hr
 have HW:Hid (fltW C=(stZ C.te C.re == 1)):=rfl
 clear h ht hr hwf hfv HFL;go_enter Tryz.func45,Tryz.ntmps45
 go_wp2_with fail;refine wp_region_held (S:=fun X=>blk X M (mcL G.P C) 125) (by kernel_rfl) ?_
 have hS:blk (World.drew W) M (mcL G.P C) 125:=H0.out.m.below (Below.refl _ _).drew
 have H2:Hid (mc w0 M G C f1 f3 hs nm D (World.drew W)):=H0.out.below (Below.refl _ _).drew
 clear H0;change wpAnyH Tryz.prog _ _ _ _ _ _ _ (World.drew W)
 generalize World.drew W=v1 at *;refine wT (i:=0) (v:=.pointer (some ⟨M,0,none⟩)) rfl (by kernel_rfl) (by kernel_rfl) (by kernel_rfl) (fun _ _ _ h=>h) (Or.inl ⟨by rfl,?_⟩) hS ?_
 ·intro W hSw;clear hS;go_simp
 simp only[Act.put,aA,aB,aC,aD,aE]
 refine wT (i:=1) (v:=.pointer (some ⟨M,0,none⟩)) rfl (by kernel_rfl) (by kernel_rfl) (by kernel_rfl) (fun _ _ _ h=>h) (Or.inl ⟨by rfl,?_⟩) hS ?_
 ·intro W hSw;clear hS;go_simp
 simp only[Act.put,aA,aB,aC,aD,aE,aF];refine wT (i:=2) (v:=.pointer (some ⟨M,0,none⟩)) rfl (by kernel_rfl) (by kernel_rfl) (by kernel_rfl) (fun _ _ _ h=>h) (Or.inl ⟨by rfl,?_⟩) hS ?_
 ·intro W hSw;clear hS;go_simp
 simp only[Act.put,aA,aB,aC,aD,aE,aF];refine wT (i:=3) (v:=.pointer (some ⟨M,0,none⟩)) rfl (by kernel_rfl) (by kernel_rfl) (by kernel_rfl) (fun _ _ _ h=>h) (Or.inl ⟨by rfl,?_⟩) hS ?_
 ·intro W hSw;clear hS;go_simp
 simp only[Act.put,aA,aB,aC,aD,aE,aF];refine wT (i:=4) (v:=.pointer (some ⟨G.P,0,none⟩)) rfl (by kernel_rfl) (by kernel_rfl) (by kernel_rfl) (fun _ _ _ h=>h) (Or.inl ⟨by rfl,?_⟩) hS ?_
 ·intro W hSw;clear hS;have y:=hSw.cell 0 (.pointer (some ⟨G.P,0,none⟩)) rfl
  go_simp
 simp only[Act.put,aA,aB,aC,aD,aE,aF];refine wT (i:=5) (v:=.int .i64 k) rfl (by kernel_rfl) (by kernel_rfl) (by kernel_rfl) (fun _ _ _ h=>h) (Or.inl ⟨by rfl,?_⟩) hS ?_
 ·intro W hSw;clear hS;go_simp
 simp only[Act.put,aA,aB,aC,aD,aE,aF];refine wT (i:=6) (v:=.pointer (some ⟨M,0,none⟩)) rfl (by kernel_rfl) (by kernel_rfl) (by kernel_rfl) (fun _ _ _ h=>h) (Or.inl ⟨by rfl,?_⟩) hS ?_
 ·intro W hSw;clear hS;go_simp
 simp only[Act.put,aA,aB,aC,aD,aE,aF];refine wT (i:=7) (v:=.pointer (some ⟨M,0,none⟩)) rfl (by kernel_rfl) (by kernel_rfl) (by kernel_rfl) (fun _ _ _ h=>h) (Or.inl ⟨by rfl,?_⟩) hS ?_
 ·intro W hSw;clear hS;go_simp
 simp only[Act.put,aA,aB,aC,aD,aE,aF];refine wT (i:=8) (v:=.pointer (some ⟨M,3,none⟩)) rfl (by kernel_rfl) (by kernel_rfl) (by kernel_rfl) (fun _ _ _ h=>h) (Or.inl ⟨by rfl,?_⟩) hS ?_
 ·intro W hSw;clear hS;go_simp
 simp only[Act.put,aA,aB,aC,aD,aE,aF];refine wT (i:=9) (v:=.pointer (some ⟨M,9,none⟩)) rfl (by kernel_rfl) (by kernel_rfl) (by kernel_rfl) (fun _ _ _ h=>h) (Or.inl ⟨by rfl,?_⟩) hS ?_
 ·intro W hSw;clear hS;go_simp
 simp only[Act.put,aA,aB,aC,aD,aE,aF];refine wT (i:=10) (v:=.bool C.tx) rfl (by kernel_rfl) (by kernel_rfl) (by kernel_rfl) (fun _ _ _ h=>h) (Or.inl ⟨by rfl,?_⟩) hS ?_
 ·intro W hSw;clear hS;have y:=hSw.cell 9 (.bool C.tx) rfl
  go_simp
 simp only[Act.put,aA,aB,aC,aD,aE,aF];refine wpAnyH_all (rs:=[11]) (by kernel_rfl) (by simp) ?_
 refine AllReadyH.cons rfl (fun K2 hK2=>?_) AllReadyH.nil
 go_simp;refine (HFV.out v1).mono ?_
 rintro o v2 ⟨rfl,rfl⟩;go_wp2_with fail;refine hK2.out _ _ hS (fun hS2=>?_)
 clear hK2 K2 hS;have hS:=hS2
 clear hS2;refine wT (i:=12) (v:=.int .i64 fv) rfl (by kernel_rfl) (by kernel_rfl) (by kernel_rfl) (fun _ _ _ h=>h) (Or.inl ⟨by rfl,?_⟩) hS ?_
 ·intro W hSw;clear hS;go_simp
 simp only[Act.put,aA,aB,aC,aD,aE,aF];refine wT (i:=13) (v:=.agg #[.int .i64 8,.int .i64 k,.int .i64 fv,.bool false,.int .u32 0,.bool false,.int .i64 0,.slice none 0 0]) rfl (by kernel_rfl) (by kernel_rfl) (by kernel_rfl) (fun _ _ _ h=>h) (Or.inl ⟨by rfl,?_⟩) hS ?_
 ·intro W hSw;clear hS;go_simp
 simp only[Act.put,aA,aB,aC,aD,aE,aF];refine wpAnyH_all (rs:=[14]) (by kernel_rfl) (by simp) ?_
 refine AllReadyH.cons rfl (fun K2 hK2=>?_) AllReadyH.nil
 go_simp;refine (H2.out.post2 8 k fv).mono ?_
 rintro o v3 ⟨rfl,h3⟩;have H3:Hid (mc w0 M G { C with ho:=postHo C.ho (ev3 8 k fv) } f1 f3 hs nm D v3):=h3
 have hS3:blk v3 M (mcL G.P C) 125:=h3.m
 clear h3 H2;go_wp2_with fail;refine hK2.out _ _ hS3 (fun hS2=>?_)
 clear hK2 K2 hS hS2;refine wpAnyH_done (by kernel_rfl) ?_ _
 have y0:=hS3.cell 0 (.pointer (some ⟨G.P,0,none⟩)) rfl
 clear hS3;go_wp2_with fail;refine (HRL.out _ H3.out).mono ?_
 rintro o w3 ⟨rfl,hs',D',h4⟩;have H4a:Hid (mc w0 M G { C with ho:=fltH C k } f1 f3 hs' nm D' w3):=h4
 have HFW:Hid (∀ X,mc w0 M G (fltM C k) f1 f3 hs' nm D' X→Calls Tryz.prog 108 #[.pointer (some ⟨M,0,none⟩),.int .i64 k] X fun o w'=>o = .returned (.int .i64 (fwZ C.tx (fltO C k) C.p k))∧X=w'):=HFW0.out hs' D'
 have HAD:Hid (∀ X,mc w0 M G (fltM C k) f1 f3 hs' nm D' X→Calls Tryz.prog 107 #[.pointer (some ⟨M,0,none⟩),.bool C.tx,.int .i64 (fwZ C.tx (fltO C k) C.p k)] X fun o w'=>o = .returned (.tuple #[])∧mc w0 M G (addC (fltM C k) C.tx (fwZ C.tx (fltO C k) C.p k)) f1 f3 hs' nm D' w'):=HAD0.out hs' D'
 clear h4 H3 HRL y0 HFW0 HAD0;go_wp2_with fail;refine (HST.out hs' D' _ H4a.out).mono ?_
 rintro o w4 ⟨rfl,h4⟩;have H4:Hid (mc w0 M G { C with ho:=fltH C k } f1 f3 hs' nm D' w4):=h4
 clear h4 H4a HST;generalize stZ C.te C.re=z at *;by_cases hz:z=1
 ·have dz:(z == 1)=true:=by simpa using hz
  have HWK:Hid (fltW C=true):=by show fltW C=true;rw[HW.out,dz]
  subst hz;clear HW;by_cases dx:C.tx=true
  ·have HDX:Hid (C.tx=true):=dx
   clear dx;by_cases h5:k=5
   ·have d5:(k == 5)=true:=by simpa using h5
    clear h5;have HEM:Hid (fltM C k = { C with wk:=true,ow:=true,ho:=fltH C k }):=by show fltM C k=_;unfold fltM fltO;rw[HWK.out];simp[HDX.out,d5]
    have hm6:mc w0 M G { C with wk:=true,ho:=fltH C k } f1 f3 hs' nm D' (w4.setCell ⟨M,6,none⟩ (.bool true)):=H4.out.set 6 (.bool true) rfl rfl
    have hm8:mc w0 M G (fltM C k) f1 f3 hs' nm D' ((w4.setCell ⟨M,6,none⟩ (.bool true)).setCell ⟨M,8,none⟩ (.bool true)):=by
     rw[HEM.out]
     exact hm6.set 8 (.bool true) rfl rfl
    have y6:=H4.out.m.cell 6 (.bool C.wk) rfl
    have y6':=hm6.m.cell 6 (.bool true) rfl
    have y8:=hm6.m.cell 8 (.bool C.ow) rfl
    have y9:=hm6.m.cell 9 (.bool C.tx) rfl
    have g6:=H4.out.m.free 6
    have g8:=hm6.m.free 8
    rw[HDX.out] at y9
    go_wp2_with fail;have H8:Hid (mc w0 M G (fltM C k) f1 f3 hs' nm D' ((w4.setCell ⟨M,6,none⟩ (.bool true)).setCell ⟨M,8,none⟩ (.bool true))):=hm8
    clear hm6 hm8 y6 y6' y8 y9 g6 g8 H4;generalize (w4.setCell ⟨M,6,none⟩ (.bool true)).setCell ⟨M,8,none⟩ (.bool true)=w8 at *;refine wp_region_held (S:=fun X=>X.cell? ⟨M,9,none⟩=some (.bool C.tx)) (by kernel_rfl) ?_
    have hS:(World.drew w8).cell? ⟨M,9,none⟩=some (.bool C.tx):=(H8.out.below (Below.refl _ _).drew).m.cell 9 (.bool C.tx) rfl
    have H9:Hid (mc w0 M G (fltM C k) f1 f3 hs' nm D' (World.drew w8)):=H8.out.below (Below.refl _ _).drew
    clear H8;change wpAnyH Tryz.prog _ _ _ _ _ _ _ (World.drew w8)
    generalize World.drew w8=w9 at *;refine wT (i:=0) (v:=.pointer (some ⟨M,0,none⟩)) rfl (by kernel_rfl) (by kernel_rfl) (by kernel_rfl) (fun _ _ _ h=>h) (Or.inl ⟨by rfl,?_⟩) hS ?_
    ·intro W hSw;clear hS;go_simp
    simp only[Act.put,aA,aB,aC,aD,aE]
    refine wT (i:=1) (v:=.pointer (some ⟨M,0,none⟩)) rfl (by kernel_rfl) (by kernel_rfl) (by kernel_rfl) (fun _ _ _ h=>h) (Or.inl ⟨by rfl,?_⟩) hS ?_
    ·intro W hSw;clear hS;go_simp
    simp only[Act.put,aA,aB,aC,aD,aE,aF];refine wT (i:=2) (v:=.pointer (some ⟨M,0,none⟩)) rfl (by kernel_rfl) (by kernel_rfl) (by kernel_rfl) (fun _ _ _ h=>h) (Or.inl ⟨by rfl,?_⟩) hS ?_
    ·intro W hSw;clear hS;go_simp
    simp only[Act.put,aA,aB,aC,aD,aE,aF];refine wT (i:=3) (v:=.pointer (some ⟨M,0,none⟩)) rfl (by kernel_rfl) (by kernel_rfl) (by kernel_rfl) (fun _ _ _ h=>h) (Or.inl ⟨by rfl,?_⟩) hS ?_
    ·intro W hSw;clear hS;go_simp
    simp only[Act.put,aA,aB,aC,aD,aE,aF];refine wT (i:=4) (v:=.pointer (some ⟨M,0,none⟩)) rfl (by kernel_rfl) (by kernel_rfl) (by kernel_rfl) (fun _ _ _ h=>h) (Or.inl ⟨by rfl,?_⟩) hS ?_
    ·intro W hSw;clear hS;go_simp
    simp only[Act.put,aA,aB,aC,aD,aE,aF];refine wT (i:=5) (v:=.pointer (some ⟨M,3,none⟩)) rfl (by kernel_rfl) (by kernel_rfl) (by kernel_rfl) (fun _ _ _ h=>h) (Or.inl ⟨by rfl,?_⟩) hS ?_
    ·intro W hSw;clear hS;go_simp
    simp only[Act.put,aA,aB,aC,aD,aE,aF];refine wT (i:=6) (v:=.pointer (some ⟨M,9,none⟩)) rfl (by kernel_rfl) (by kernel_rfl) (by kernel_rfl) (fun _ _ _ h=>h) (Or.inl ⟨by rfl,?_⟩) hS ?_
    ·intro W hSw;clear hS;go_simp
    simp only[Act.put,aA,aB,aC,aD,aE,aF];refine wT (i:=7) (v:=.bool C.tx) rfl (by kernel_rfl) (by kernel_rfl) (by kernel_rfl) (fun _ _ _ h=>h) (Or.inl ⟨by rfl,?_⟩) hS ?_
    ·intro W hSw;clear hS;go_simp
    simp only[Act.put,aA,aB,aC,aD,aE,aF];refine wT (i:=8) (v:=.pointer (some ⟨M,0,none⟩)) rfl (by kernel_rfl) (by kernel_rfl) (by kernel_rfl) (fun _ _ _ h=>h) (Or.inl ⟨by rfl,?_⟩) hS ?_
    ·intro W hSw;clear hS;go_simp
    simp only[Act.put,aA,aB,aC,aD,aE,aF];refine wT (i:=9) (v:=.int .i64 k) rfl (by kernel_rfl) (by kernel_rfl) (by kernel_rfl) (fun _ _ _ h=>h) (Or.inl ⟨by rfl,?_⟩) hS ?_
    ·intro W hSw;clear hS;go_simp
    simp only[Act.put,aA,aB,aC,aD,aE,aF];refine wpAnyH_all (rs:=[10]) (by kernel_rfl) (by simp) ?_
    refine AllReadyH.cons rfl (fun K2 hK2=>?_) AllReadyH.nil
    go_simp;refine (HFW.out _ H9.out).mono ?_
    rintro o w10 ⟨rfl,rfl⟩;go_wp2_with fail;refine hK2.out _ _ hS (fun hS2=>?_)
    clear hK2 K2 hS;have hS:=hS2
    clear hS2;refine wpAnyH_all (rs:=[11]) (by kernel_rfl) (by simp) ?_
    refine AllReadyH.cons rfl (fun K2 hK2=>?_) AllReadyH.nil
    go_simp;refine (HAD.out _ H9.out).mono ?_
    rintro o w11 ⟨rfl,h11⟩;have H11:Hid (mc w0 M G (addC (fltM C k) C.tx (fwZ C.tx (fltO C k) C.p k)) f1 f3 hs' nm D' w11):=h11
    have hS11:w11.cell? ⟨M,9,none⟩=some (.bool C.tx):=by have:=h11.m.cell 9 (.bool (addC (fltM C k) C.tx (fwZ C.tx (fltO C k) C.p k)).tx) rfl;rw[addC_tx] at this;exact this
    clear h11 H9;go_wp2_with fail;refine hK2.out _ _ hS11 (fun hS2=>?_)
    clear hK2 K2 hS hS2 hS11;refine wpAnyH_done (by kernel_rfl) ?_ _
    obtain⟨A,eA⟩ : ∃ A,A=addC (fltM C k) C.tx (fwZ C.tx (fltO C k) C.p k):=⟨_,rfl⟩
    have HEA:Hid (fltC C k = { A with p:=2,ct:=0,lv:=0,ov:=false }):=by show fltC C k=_;rw[eA];rfl
    have h12:mc w0 M G A f1 f3 hs' nm D' w11:=by rw[eA];exact H11.out
    have h13:mc w0 M G { A with p:=2 } f1 f3 hs' nm D' (w11.setCell ⟨M,3,none⟩ (.int .i64 2)):=h12.set 3 (.int .i64 2) rfl rfl
    have h14:mc w0 M G { A with p:=2,ct:=0 } f1 f3 hs' nm D' ((w11.setCell ⟨M,3,none⟩ (.int .i64 2)).setCell ⟨M,4,none⟩ (.int .i64 0)):=h13.set 4 (.int .i64 0) rfl rfl
    have h15:mc w0 M G { A with p:=2,ct:=0,lv:=0 } f1 f3 hs' nm D' (((w11.setCell ⟨M,3,none⟩ (.int .i64 2)).setCell ⟨M,4,none⟩ (.int .i64 0)).setCell ⟨M,5,none⟩ (.int .i64 0)):=h14.set 5 (.int .i64 0) rfl rfl
    have H16:Hid (mc w0 M G { A with p:=2,ct:=0,lv:=0,ov:=false } f1 f3 hs' nm D' ((((w11.setCell ⟨M,3,none⟩ (.int .i64 2)).setCell ⟨M,4,none⟩ (.int .i64 0)).setCell ⟨M,5,none⟩ (.int .i64 0)).setCell ⟨M,7,none⟩ (.bool false))):=h15.set 7 (.bool false) rfl rfl
    have u3:=h12.m.cell 3 (.int .i64 A.p) rfl
    have u4:=h13.m.cell 4 (.int .i64 A.ct) rfl
    have u5:=h14.m.cell 5 (.int .i64 A.lv) rfl
    have u7:=h15.m.cell 7 (.bool A.ov) rfl
    have k3:=h12.m.free 3
    have k4:=h13.m.free 4
    have k5:=h14.m.free 5
    have k7:=h15.m.free 7
    clear h12 h13 h14 h15 eA H11 HFW HAD;go_wp2_with fail;first | go_end0 | (simp only[Exit.inBlock,Exit.then];refine bodyPost_ret (results_none rfl _ _ _) rfl ?_) | refine bodyPost_ret (results_none rfl _ _ _) rfl ?_
    exact⟨rfl,hs',D',by rw[HEA.out];exact H16.out⟩
   ·have d5:(k == 5)=false:=by simpa using h5
    clear h5;have HEM:Hid (fltM C k = { C with wk:=true,ow:=false,ho:=fltH C k }):=by show fltM C k=_;unfold fltM fltO;rw[HWK.out];simp[HDX.out,d5]
    have hm6:mc w0 M G { C with wk:=true,ho:=fltH C k } f1 f3 hs' nm D' (w4.setCell ⟨M,6,none⟩ (.bool true)):=H4.out.set 6 (.bool true) rfl rfl
    have hm8:mc w0 M G (fltM C k) f1 f3 hs' nm D' ((w4.setCell ⟨M,6,none⟩ (.bool true)).setCell ⟨M,8,none⟩ (.bool false)):=by
     rw[HEM.out]
     exact hm6.set 8 (.bool false) rfl rfl
    have y6:=H4.out.m.cell 6 (.bool C.wk) rfl
    have y6':=hm6.m.cell 6 (.bool true) rfl
    have y8:=hm6.m.cell 8 (.bool C.ow) rfl
    have y9:=hm6.m.cell 9 (.bool C.tx) rfl
    have g6:=H4.out.m.free 6
    have g8:=hm6.m.free 8
    rw[HDX.out] at y9
    go_wp2_with fail;have H8:Hid (mc w0 M G (fltM C k) f1 f3 hs' nm D' ((w4.setCell ⟨M,6,none⟩ (.bool true)).setCell ⟨M,8,none⟩ (.bool false))):=hm8
    clear hm6 hm8 y6 y6' y8 y9 g6 g8 H4;generalize (w4.setCell ⟨M,6,none⟩ (.bool true)).setCell ⟨M,8,none⟩ (.bool false)=w8 at *;refine wp_region_held (S:=fun X=>X.cell? ⟨M,9,none⟩=some (.bool C.tx)) (by kernel_rfl) ?_
    have hS:(World.drew w8).cell? ⟨M,9,none⟩=some (.bool C.tx):=(H8.out.below (Below.refl _ _).drew).m.cell 9 (.bool C.tx) rfl
    have H9:Hid (mc w0 M G (fltM C k) f1 f3 hs' nm D' (World.drew w8)):=H8.out.below (Below.refl _ _).drew
    clear H8;change wpAnyH Tryz.prog _ _ _ _ _ _ _ (World.drew w8)
    generalize World.drew w8=w9 at *;refine wT (i:=0) (v:=.pointer (some ⟨M,0,none⟩)) rfl (by kernel_rfl) (by kernel_rfl) (by kernel_rfl) (fun _ _ _ h=>h) (Or.inl ⟨by rfl,?_⟩) hS ?_
    ·intro W hSw;clear hS;go_simp
    simp only[Act.put,aA,aB,aC,aD,aE]
    refine wT (i:=1) (v:=.pointer (some ⟨M,0,none⟩)) rfl (by kernel_rfl) (by kernel_rfl) (by kernel_rfl) (fun _ _ _ h=>h) (Or.inl ⟨by rfl,?_⟩) hS ?_
    ·intro W hSw;clear hS;go_simp
    simp only[Act.put,aA,aB,aC,aD,aE,aF];refine wT (i:=2) (v:=.pointer (some ⟨M,0,none⟩)) rfl (by kernel_rfl) (by kernel_rfl) (by kernel_rfl) (fun _ _ _ h=>h) (Or.inl ⟨by rfl,?_⟩) hS ?_
    ·intro W hSw;clear hS;go_simp
    simp only[Act.put,aA,aB,aC,aD,aE,aF];refine wT (i:=3) (v:=.pointer (some ⟨M,0,none⟩)) rfl (by kernel_rfl) (by kernel_rfl) (by kernel_rfl) (fun _ _ _ h=>h) (Or.inl ⟨by rfl,?_⟩) hS ?_
    ·intro W hSw;clear hS;go_simp
    simp only[Act.put,aA,aB,aC,aD,aE,aF];refine wT (i:=4) (v:=.pointer (some ⟨M,0,none⟩)) rfl (by kernel_rfl) (by kernel_rfl) (by kernel_rfl) (fun _ _ _ h=>h) (Or.inl ⟨by rfl,?_⟩) hS ?_
    ·intro W hSw;clear hS;go_simp
    simp only[Act.put,aA,aB,aC,aD,aE,aF];refine wT (i:=5) (v:=.pointer (some ⟨M,3,none⟩)) rfl (by kernel_rfl) (by kernel_rfl) (by kernel_rfl) (fun _ _ _ h=>h) (Or.inl ⟨by rfl,?_⟩) hS ?_
    ·intro W hSw;clear hS;go_simp
    simp only[Act.put,aA,aB,aC,aD,aE,aF];refine wT (i:=6) (v:=.pointer (some ⟨M,9,none⟩)) rfl (by kernel_rfl) (by kernel_rfl) (by kernel_rfl) (fun _ _ _ h=>h) (Or.inl ⟨by rfl,?_⟩) hS ?_
    ·intro W hSw;clear hS;go_simp
    simp only[Act.put,aA,aB,aC,aD,aE,aF];refine wT (i:=7) (v:=.bool C.tx) rfl (by kernel_rfl) (by kernel_rfl) (by kernel_rfl) (fun _ _ _ h=>h) (Or.inl ⟨by rfl,?_⟩) hS ?_
    ·intro W hSw;clear hS;go_simp
    simp only[Act.put,aA,aB,aC,aD,aE,aF];refine wT (i:=8) (v:=.pointer (some ⟨M,0,none⟩)) rfl (by kernel_rfl) (by kernel_rfl) (by kernel_rfl) (fun _ _ _ h=>h) (Or.inl ⟨by rfl,?_⟩) hS ?_
    ·intro W hSw;clear hS;go_simp
    simp only[Act.put,aA,aB,aC,aD,aE,aF];refine wT (i:=9) (v:=.int .i64 k) rfl (by kernel_rfl) (by kernel_rfl) (by kernel_rfl) (fun _ _ _ h=>h) (Or.inl ⟨by rfl,?_⟩) hS ?_
    ·intro W hSw;clear hS;go_simp
    simp only[Act.put,aA,aB,aC,aD,aE,aF];refine wpAnyH_all (rs:=[10]) (by kernel_rfl) (by simp) ?_
    refine AllReadyH.cons rfl (fun K2 hK2=>?_) AllReadyH.nil
    go_simp;refine (HFW.out _ H9.out).mono ?_
    rintro o w10 ⟨rfl,rfl⟩;go_wp2_with fail;refine hK2.out _ _ hS (fun hS2=>?_)
    clear hK2 K2 hS;have hS:=hS2
    clear hS2;refine wpAnyH_all (rs:=[11]) (by kernel_rfl) (by simp) ?_
    refine AllReadyH.cons rfl (fun K2 hK2=>?_) AllReadyH.nil
    go_simp;refine (HAD.out _ H9.out).mono ?_
    rintro o w11 ⟨rfl,h11⟩;have H11:Hid (mc w0 M G (addC (fltM C k) C.tx (fwZ C.tx (fltO C k) C.p k)) f1 f3 hs' nm D' w11):=h11
    have hS11:w11.cell? ⟨M,9,none⟩=some (.bool C.tx):=by have:=h11.m.cell 9 (.bool (addC (fltM C k) C.tx (fwZ C.tx (fltO C k) C.p k)).tx) rfl;rw[addC_tx] at this;exact this
    clear h11 H9;go_wp2_with fail;refine hK2.out _ _ hS11 (fun hS2=>?_)
    clear hK2 K2 hS hS2 hS11;refine wpAnyH_done (by kernel_rfl) ?_ _
    obtain⟨A,eA⟩ : ∃ A,A=addC (fltM C k) C.tx (fwZ C.tx (fltO C k) C.p k):=⟨_,rfl⟩
    have HEA:Hid (fltC C k = { A with p:=2,ct:=0,lv:=0,ov:=false }):=by show fltC C k=_;rw[eA];rfl
    have h12:mc w0 M G A f1 f3 hs' nm D' w11:=by rw[eA];exact H11.out
    have h13:mc w0 M G { A with p:=2 } f1 f3 hs' nm D' (w11.setCell ⟨M,3,none⟩ (.int .i64 2)):=h12.set 3 (.int .i64 2) rfl rfl
    have h14:mc w0 M G { A with p:=2,ct:=0 } f1 f3 hs' nm D' ((w11.setCell ⟨M,3,none⟩ (.int .i64 2)).setCell ⟨M,4,none⟩ (.int .i64 0)):=h13.set 4 (.int .i64 0) rfl rfl
    have h15:mc w0 M G { A with p:=2,ct:=0,lv:=0 } f1 f3 hs' nm D' (((w11.setCell ⟨M,3,none⟩ (.int .i64 2)).setCell ⟨M,4,none⟩ (.int .i64 0)).setCell ⟨M,5,none⟩ (.int .i64 0)):=h14.set 5 (.int .i64 0) rfl rfl
    have H16:Hid (mc w0 M G { A with p:=2,ct:=0,lv:=0,ov:=false } f1 f3 hs' nm D' ((((w11.setCell ⟨M,3,none⟩ (.int .i64 2)).setCell ⟨M,4,none⟩ (.int .i64 0)).setCell ⟨M,5,none⟩ (.int .i64 0)).setCell ⟨M,7,none⟩ (.bool false))):=h15.set 7 (.bool false) rfl rfl
    have u3:=h12.m.cell 3 (.int .i64 A.p) rfl
    have u4:=h13.m.cell 4 (.int .i64 A.ct) rfl
    have u5:=h14.m.cell 5 (.int .i64 A.lv) rfl
    have u7:=h15.m.cell 7 (.bool A.ov) rfl
    have k3:=h12.m.free 3
    have k4:=h13.m.free 4
    have k5:=h14.m.free 5
    have k7:=h15.m.free 7
    clear h12 h13 h14 h15 eA H11 HFW HAD;go_wp2_with fail;first | go_end0 | (simp only[Exit.inBlock,Exit.then];refine bodyPost_ret (results_none rfl _ _ _) rfl ?_) | refine bodyPost_ret (results_none rfl _ _ _) rfl ?_
    exact⟨rfl,hs',D',by rw[HEA.out];exact H16.out⟩
  ·have HDX:Hid (C.tx=false):=(by simpa using dx:C.tx=false)
   clear dx;have HEM:Hid (fltM C k = { C with wk:=true,ow:=false,ho:=fltH C k }):=by show fltM C k=_;unfold fltM fltO;rw[HWK.out];simp[HDX.out,]
   have hm6:mc w0 M G { C with wk:=true,ho:=fltH C k } f1 f3 hs' nm D' (w4.setCell ⟨M,6,none⟩ (.bool true)):=H4.out.set 6 (.bool true) rfl rfl
   have hm8:mc w0 M G (fltM C k) f1 f3 hs' nm D' ((w4.setCell ⟨M,6,none⟩ (.bool true)).setCell ⟨M,8,none⟩ (.bool false)):=by
    rw[HEM.out]
    exact hm6.set 8 (.bool false) rfl rfl
   have y6:=H4.out.m.cell 6 (.bool C.wk) rfl
   have y6':=hm6.m.cell 6 (.bool true) rfl
   have y8:=hm6.m.cell 8 (.bool C.ow) rfl
   have y9:=hm6.m.cell 9 (.bool C.tx) rfl
   have g6:=H4.out.m.free 6
   have g8:=hm6.m.free 8
   rw[HDX.out] at y9
   go_wp2_with fail;have H8:Hid (mc w0 M G (fltM C k) f1 f3 hs' nm D' ((w4.setCell ⟨M,6,none⟩ (.bool true)).setCell ⟨M,8,none⟩ (.bool false))):=hm8
   clear hm6 hm8 y6 y6' y8 y9 g6 g8 H4;generalize (w4.setCell ⟨M,6,none⟩ (.bool true)).setCell ⟨M,8,none⟩ (.bool false)=w8 at *;refine wp_region_held (S:=fun X=>X.cell? ⟨M,9,none⟩=some (.bool C.tx)) (by kernel_rfl) ?_
   have hS:(World.drew w8).cell? ⟨M,9,none⟩=some (.bool C.tx):=(H8.out.below (Below.refl _ _).drew).m.cell 9 (.bool C.tx) rfl
   have H9:Hid (mc w0 M G (fltM C k) f1 f3 hs' nm D' (World.drew w8)):=H8.out.below (Below.refl _ _).drew
   clear H8;change wpAnyH Tryz.prog _ _ _ _ _ _ _ (World.drew w8)
   generalize World.drew w8=w9 at *;refine wT (i:=0) (v:=.pointer (some ⟨M,0,none⟩)) rfl (by kernel_rfl) (by kernel_rfl) (by kernel_rfl) (fun _ _ _ h=>h) (Or.inl ⟨by rfl,?_⟩) hS ?_
   ·intro W hSw;clear hS;go_simp
   simp only[Act.put,aA,aB,aC,aD,aE]
   refine wT (i:=1) (v:=.pointer (some ⟨M,0,none⟩)) rfl (by kernel_rfl) (by kernel_rfl) (by kernel_rfl) (fun _ _ _ h=>h) (Or.inl ⟨by rfl,?_⟩) hS ?_
   ·intro W hSw;clear hS;go_simp
   simp only[Act.put,aA,aB,aC,aD,aE,aF];refine wT (i:=2) (v:=.pointer (some ⟨M,0,none⟩)) rfl (by kernel_rfl) (by kernel_rfl) (by kernel_rfl) (fun _ _ _ h=>h) (Or.inl ⟨by rfl,?_⟩) hS ?_
   ·intro W hSw;clear hS;go_simp
   simp only[Act.put,aA,aB,aC,aD,aE,aF];refine wT (i:=3) (v:=.pointer (some ⟨M,0,none⟩)) rfl (by kernel_rfl) (by kernel_rfl) (by kernel_rfl) (fun _ _ _ h=>h) (Or.inl ⟨by rfl,?_⟩) hS ?_
   ·intro W hSw;clear hS;go_simp
   simp only[Act.put,aA,aB,aC,aD,aE,aF];refine wT (i:=4) (v:=.pointer (some ⟨M,0,none⟩)) rfl (by kernel_rfl) (by kernel_rfl) (by kernel_rfl) (fun _ _ _ h=>h) (Or.inl ⟨by rfl,?_⟩) hS ?_
   ·intro W hSw;clear hS;go_simp
   simp only[Act.put,aA,aB,aC,aD,aE,aF];refine wT (i:=5) (v:=.pointer (some ⟨M,3,none⟩)) rfl (by kernel_rfl) (by kernel_rfl) (by kernel_rfl) (fun _ _ _ h=>h) (Or.inl ⟨by rfl,?_⟩) hS ?_
   ·intro W hSw;clear hS;go_simp
   simp only[Act.put,aA,aB,aC,aD,aE,aF];refine wT (i:=6) (v:=.pointer (some ⟨M,9,none⟩)) rfl (by kernel_rfl) (by kernel_rfl) (by kernel_rfl) (fun _ _ _ h=>h) (Or.inl ⟨by rfl,?_⟩) hS ?_
   ·intro W hSw;clear hS;go_simp
   simp only[Act.put,aA,aB,aC,aD,aE,aF];refine wT (i:=7) (v:=.bool C.tx) rfl (by kernel_rfl) (by kernel_rfl) (by kernel_rfl) (fun _ _ _ h=>h) (Or.inl ⟨by rfl,?_⟩) hS ?_
   ·intro W hSw;clear hS;go_simp
   simp only[Act.put,aA,aB,aC,aD,aE,aF];refine wT (i:=8) (v:=.pointer (some ⟨M,0,none⟩)) rfl (by kernel_rfl) (by kernel_rfl) (by kernel_rfl) (fun _ _ _ h=>h) (Or.inl ⟨by rfl,?_⟩) hS ?_
   ·intro W hSw;clear hS;go_simp
   simp only[Act.put,aA,aB,aC,aD,aE,aF];refine wT (i:=9) (v:=.int .i64 k) rfl (by kernel_rfl) (by kernel_rfl) (by kernel_rfl) (fun _ _ _ h=>h) (Or.inl ⟨by rfl,?_⟩) hS ?_
   ·intro W hSw;clear hS;go_simp
   simp only[Act.put,aA,aB,aC,aD,aE,aF];refine wpAnyH_all (rs:=[10]) (by kernel_rfl) (by simp) ?_
   refine AllReadyH.cons rfl (fun K2 hK2=>?_) AllReadyH.nil
   go_simp;refine (HFW.out _ H9.out).mono ?_
   rintro o w10 ⟨rfl,rfl⟩;go_wp2_with fail;refine hK2.out _ _ hS (fun hS2=>?_)
   clear hK2 K2 hS;have hS:=hS2
   clear hS2;refine wpAnyH_all (rs:=[11]) (by kernel_rfl) (by simp) ?_
   refine AllReadyH.cons rfl (fun K2 hK2=>?_) AllReadyH.nil
   go_simp;refine (HAD.out _ H9.out).mono ?_
   rintro o w11 ⟨rfl,h11⟩;have H11:Hid (mc w0 M G (addC (fltM C k) C.tx (fwZ C.tx (fltO C k) C.p k)) f1 f3 hs' nm D' w11):=h11
   have hS11:w11.cell? ⟨M,9,none⟩=some (.bool C.tx):=by have:=h11.m.cell 9 (.bool (addC (fltM C k) C.tx (fwZ C.tx (fltO C k) C.p k)).tx) rfl;rw[addC_tx] at this;exact this
   clear h11 H9;go_wp2_with fail;refine hK2.out _ _ hS11 (fun hS2=>?_)
   clear hK2 K2 hS hS2 hS11;refine wpAnyH_done (by kernel_rfl) ?_ _
   obtain⟨A,eA⟩ : ∃ A,A=addC (fltM C k) C.tx (fwZ C.tx (fltO C k) C.p k):=⟨_,rfl⟩
   have HEA:Hid (fltC C k = { A with p:=2,ct:=0,lv:=0,ov:=false }):=by show fltC C k=_;rw[eA];rfl
   have h12:mc w0 M G A f1 f3 hs' nm D' w11:=by rw[eA];exact H11.out
   have h13:mc w0 M G { A with p:=2 } f1 f3 hs' nm D' (w11.setCell ⟨M,3,none⟩ (.int .i64 2)):=h12.set 3 (.int .i64 2) rfl rfl
   have h14:mc w0 M G { A with p:=2,ct:=0 } f1 f3 hs' nm D' ((w11.setCell ⟨M,3,none⟩ (.int .i64 2)).setCell ⟨M,4,none⟩ (.int .i64 0)):=h13.set 4 (.int .i64 0) rfl rfl
   have h15:mc w0 M G { A with p:=2,ct:=0,lv:=0 } f1 f3 hs' nm D' (((w11.setCell ⟨M,3,none⟩ (.int .i64 2)).setCell ⟨M,4,none⟩ (.int .i64 0)).setCell ⟨M,5,none⟩ (.int .i64 0)):=h14.set 5 (.int .i64 0) rfl rfl
   have H16:Hid (mc w0 M G { A with p:=2,ct:=0,lv:=0,ov:=false } f1 f3 hs' nm D' ((((w11.setCell ⟨M,3,none⟩ (.int .i64 2)).setCell ⟨M,4,none⟩ (.int .i64 0)).setCell ⟨M,5,none⟩ (.int .i64 0)).setCell ⟨M,7,none⟩ (.bool false))):=h15.set 7 (.bool false) rfl rfl
   have u3:=h12.m.cell 3 (.int .i64 A.p) rfl
   have u4:=h13.m.cell 4 (.int .i64 A.ct) rfl
   have u5:=h14.m.cell 5 (.int .i64 A.lv) rfl
   have u7:=h15.m.cell 7 (.bool A.ov) rfl
   have k3:=h12.m.free 3
   have k4:=h13.m.free 4
   have k5:=h14.m.free 5
   have k7:=h15.m.free 7
   clear h12 h13 h14 h15 eA H11 HFW HAD;go_wp2_with fail;first | go_end0 | (simp only[Exit.inBlock,Exit.then];refine bodyPost_ret (results_none rfl _ _ _) rfl ?_) | refine bodyPost_ret (results_none rfl _ _ _) rfl ?_
   exact⟨rfl,hs',D',by rw[HEA.out];exact H16.out⟩
 ·have dz:(z == 1)=false:=by simpa using hz
  have HWK:Hid (fltW C=false):=by show fltW C=false;rw[HW.out,dz]
  clear HW;have HEM:Hid (fltM C k = { C with wk:=false,ow:=false,ho:=fltH C k }):=by show fltM C k=_;unfold fltM fltO;rw[HWK.out];simp[]
  have hm6:mc w0 M G { C with wk:=false,ho:=fltH C k } f1 f3 hs' nm D' (w4.setCell ⟨M,6,none⟩ (.bool false)):=H4.out.set 6 (.bool false) rfl rfl
  have hm8:mc w0 M G (fltM C k) f1 f3 hs' nm D' ((w4.setCell ⟨M,6,none⟩ (.bool false)).setCell ⟨M,8,none⟩ (.bool false)):=by
   rw[HEM.out]
   exact hm6.set 8 (.bool false) rfl rfl
  have y6:=H4.out.m.cell 6 (.bool C.wk) rfl
  have y6':=hm6.m.cell 6 (.bool false) rfl
  have y8:=hm6.m.cell 8 (.bool C.ow) rfl
  have y9:=hm6.m.cell 9 (.bool C.tx) rfl
  have g6:=H4.out.m.free 6
  have g8:=hm6.m.free 8
  go_wp2_with fail;have H8:Hid (mc w0 M G (fltM C k) f1 f3 hs' nm D' ((w4.setCell ⟨M,6,none⟩ (.bool false)).setCell ⟨M,8,none⟩ (.bool false))):=hm8
  clear hm6 hm8 y6 y6' y8 y9 g6 g8 H4;generalize (w4.setCell ⟨M,6,none⟩ (.bool false)).setCell ⟨M,8,none⟩ (.bool false)=w8 at *;refine wp_region_held (S:=fun X=>X.cell? ⟨M,9,none⟩=some (.bool C.tx)) (by kernel_rfl) ?_
  have hS:(World.drew w8).cell? ⟨M,9,none⟩=some (.bool C.tx):=(H8.out.below (Below.refl _ _).drew).m.cell 9 (.bool C.tx) rfl
  have H9:Hid (mc w0 M G (fltM C k) f1 f3 hs' nm D' (World.drew w8)):=H8.out.below (Below.refl _ _).drew
  clear H8;change wpAnyH Tryz.prog _ _ _ _ _ _ _ (World.drew w8)
  generalize World.drew w8=w9 at *;refine wT (i:=0) (v:=.pointer (some ⟨M,0,none⟩)) rfl (by kernel_rfl) (by kernel_rfl) (by kernel_rfl) (fun _ _ _ h=>h) (Or.inl ⟨by rfl,?_⟩) hS ?_
  ·intro W hSw;clear hS;go_simp
  simp only[Act.put,aA,aB,aC,aD,aE]
  refine wT (i:=1) (v:=.pointer (some ⟨M,0,none⟩)) rfl (by kernel_rfl) (by kernel_rfl) (by kernel_rfl) (fun _ _ _ h=>h) (Or.inl ⟨by rfl,?_⟩) hS ?_
  ·intro W hSw;clear hS;go_simp
  simp only[Act.put,aA,aB,aC,aD,aE,aF];refine wT (i:=2) (v:=.pointer (some ⟨M,0,none⟩)) rfl (by kernel_rfl) (by kernel_rfl) (by kernel_rfl) (fun _ _ _ h=>h) (Or.inl ⟨by rfl,?_⟩) hS ?_
  ·intro W hSw;clear hS;go_simp
  simp only[Act.put,aA,aB,aC,aD,aE,aF];refine wT (i:=3) (v:=.pointer (some ⟨M,0,none⟩)) rfl (by kernel_rfl) (by kernel_rfl) (by kernel_rfl) (fun _ _ _ h=>h) (Or.inl ⟨by rfl,?_⟩) hS ?_
  ·intro W hSw;clear hS;go_simp
  simp only[Act.put,aA,aB,aC,aD,aE,aF];refine wT (i:=4) (v:=.pointer (some ⟨M,0,none⟩)) rfl (by kernel_rfl) (by kernel_rfl) (by kernel_rfl) (fun _ _ _ h=>h) (Or.inl ⟨by rfl,?_⟩) hS ?_
  ·intro W hSw;clear hS;go_simp
  simp only[Act.put,aA,aB,aC,aD,aE,aF];refine wT (i:=5) (v:=.pointer (some ⟨M,3,none⟩)) rfl (by kernel_rfl) (by kernel_rfl) (by kernel_rfl) (fun _ _ _ h=>h) (Or.inl ⟨by rfl,?_⟩) hS ?_
  ·intro W hSw;clear hS;go_simp
  simp only[Act.put,aA,aB,aC,aD,aE,aF];refine wT (i:=6) (v:=.pointer (some ⟨M,9,none⟩)) rfl (by kernel_rfl) (by kernel_rfl) (by kernel_rfl) (fun _ _ _ h=>h) (Or.inl ⟨by rfl,?_⟩) hS ?_
  ·intro W hSw;clear hS;go_simp
  simp only[Act.put,aA,aB,aC,aD,aE,aF];refine wT (i:=7) (v:=.bool C.tx) rfl (by kernel_rfl) (by kernel_rfl) (by kernel_rfl) (fun _ _ _ h=>h) (Or.inl ⟨by rfl,?_⟩) hS ?_
  ·intro W hSw;clear hS;go_simp
  simp only[Act.put,aA,aB,aC,aD,aE,aF];refine wT (i:=8) (v:=.pointer (some ⟨M,0,none⟩)) rfl (by kernel_rfl) (by kernel_rfl) (by kernel_rfl) (fun _ _ _ h=>h) (Or.inl ⟨by rfl,?_⟩) hS ?_
  ·intro W hSw;clear hS;go_simp
  simp only[Act.put,aA,aB,aC,aD,aE,aF];refine wT (i:=9) (v:=.int .i64 k) rfl (by kernel_rfl) (by kernel_rfl) (by kernel_rfl) (fun _ _ _ h=>h) (Or.inl ⟨by rfl,?_⟩) hS ?_
  ·intro W hSw;clear hS;go_simp
  simp only[Act.put,aA,aB,aC,aD,aE,aF];refine wpAnyH_all (rs:=[10]) (by kernel_rfl) (by simp) ?_
  refine AllReadyH.cons rfl (fun K2 hK2=>?_) AllReadyH.nil
  go_simp;refine (HFW.out _ H9.out).mono ?_
  rintro o w10 ⟨rfl,rfl⟩;go_wp2_with fail;refine hK2.out _ _ hS (fun hS2=>?_)
  clear hK2 K2 hS;have hS:=hS2
  clear hS2;refine wpAnyH_all (rs:=[11]) (by kernel_rfl) (by simp) ?_
  refine AllReadyH.cons rfl (fun K2 hK2=>?_) AllReadyH.nil
  go_simp;refine (HAD.out _ H9.out).mono ?_
  rintro o w11 ⟨rfl,h11⟩;have H11:Hid (mc w0 M G (addC (fltM C k) C.tx (fwZ C.tx (fltO C k) C.p k)) f1 f3 hs' nm D' w11):=h11
  have hS11:w11.cell? ⟨M,9,none⟩=some (.bool C.tx):=by have:=h11.m.cell 9 (.bool (addC (fltM C k) C.tx (fwZ C.tx (fltO C k) C.p k)).tx) rfl;rw[addC_tx] at this;exact this
  clear h11 H9;go_wp2_with fail;refine hK2.out _ _ hS11 (fun hS2=>?_)
  clear hK2 K2 hS hS2 hS11;refine wpAnyH_done (by kernel_rfl) ?_ _
  obtain⟨A,eA⟩ : ∃ A,A=addC (fltM C k) C.tx (fwZ C.tx (fltO C k) C.p k):=⟨_,rfl⟩
  have HEA:Hid (fltC C k = { A with p:=2,ct:=0,lv:=0,ov:=false }):=by show fltC C k=_;rw[eA];rfl
  have h12:mc w0 M G A f1 f3 hs' nm D' w11:=by rw[eA];exact H11.out
  have h13:mc w0 M G { A with p:=2 } f1 f3 hs' nm D' (w11.setCell ⟨M,3,none⟩ (.int .i64 2)):=h12.set 3 (.int .i64 2) rfl rfl
  have h14:mc w0 M G { A with p:=2,ct:=0 } f1 f3 hs' nm D' ((w11.setCell ⟨M,3,none⟩ (.int .i64 2)).setCell ⟨M,4,none⟩ (.int .i64 0)):=h13.set 4 (.int .i64 0) rfl rfl
  have h15:mc w0 M G { A with p:=2,ct:=0,lv:=0 } f1 f3 hs' nm D' (((w11.setCell ⟨M,3,none⟩ (.int .i64 2)).setCell ⟨M,4,none⟩ (.int .i64 0)).setCell ⟨M,5,none⟩ (.int .i64 0)):=h14.set 5 (.int .i64 0) rfl rfl
  have H16:Hid (mc w0 M G { A with p:=2,ct:=0,lv:=0,ov:=false } f1 f3 hs' nm D' ((((w11.setCell ⟨M,3,none⟩ (.int .i64 2)).setCell ⟨M,4,none⟩ (.int .i64 0)).setCell ⟨M,5,none⟩ (.int .i64 0)).setCell ⟨M,7,none⟩ (.bool false))):=h15.set 7 (.bool false) rfl rfl
  have u3:=h12.m.cell 3 (.int .i64 A.p) rfl
  have u4:=h13.m.cell 4 (.int .i64 A.ct) rfl
  have u5:=h14.m.cell 5 (.int .i64 A.lv) rfl
  have u7:=h15.m.cell 7 (.bool A.ov) rfl
  have k3:=h12.m.free 3
  have k4:=h13.m.free 4
  have k5:=h14.m.free 5
  have k7:=h15.m.free 7
  clear h12 h13 h14 h15 eA H11 HFW HAD;go_wp2_with fail;first | go_end0 | (simp only[Exit.inBlock,Exit.then];refine bodyPost_ret (results_none rfl _ _ _) rfl ?_) | refine bodyPost_ret (results_none rfl _ _ _) rfl ?_
  exact⟨rfl,hs',D',by rw[HEA.out];exact H16.out⟩
def offC (A:Co):Co:=⟨7,0,0,false,false,false,false,false,0,A.te,A.re,A.ho⟩
theorem mc.moment {w0:World} {M:Nat} {G:Lg} {C:Co} {f1 f3:Nat} {hs:Nat→Hd} {nm:Nat} {D:DataW Unit} {W:World} (h:mc w0 M G C f1 f3 hs nm D W):mc w0 M G (offC C) f1 f3 hs nm D (W.setCells M 3 [.int .i64 7,.int .i64 0,.int .i64 0,.bool false,.bool false,.bool false,.bool false,.bool false,.int .i64 0]):=by
 refine⟨?_,?_,h.o⟩
 ·have h':blk W M ([.pointer (some ⟨G.P,0,none⟩),.int .i64 C.te,.int .i64 C.re]++[.int .i64 C.p,.int .i64 C.ct,.int .i64 C.lv,.bool C.wk,.bool C.ov,.bool C.ow,.bool C.tx,.bool C.ak,.int .i64 C.rn]++(sgL++prL)) 125:=h.m
  exact blk.put [.pointer (some ⟨G.P,0,none⟩),.int .i64 C.te,.int .i64 C.re] [.int .i64 C.p,.int .i64 C.ct,.int .i64 C.lv,.bool C.wk,.bool C.ov,.bool C.ow,.bool C.tx,.bool C.ak,.int .i64 C.rn] (sgL++prL) [.int .i64 7,.int .i64 0,.int .i64 0,.bool false,.bool false,.bool false,.bool false,.bool false,.int .i64 0] h' rfl
 ·exact h.h.other M h.o (fun q hq=>setCells_other _ q hq _ _ _) (setCells_size ..) (setCells_below h.o.2.2.2.2.2.2 3 _ h.h.b)
theorem sz116:(Tryz.prog.info? 116).map (·.size)=some 9:=by kernel_rfl
def actC (C A:Co):Co:=tellC (if A.te=256∧A.p≠7 then offC A else A) (stZ C.te C.re)
theorem lit44 {w0:World} {M:Nat} {G:Lg} {C:Co} {f1 f3:Nat} {hs:Nat→Hd} {nm:Nat} {D:DataW Unit} {W:World} (h:mc w0 M G C f1 f3 hs nm D W) (Bx:Nat) (k:Int) (yb:W.cell? ⟨Bx,0,none⟩=some (.int .i64 k)) (ht:0≤C.te∧C.te≤256) (hr:0≤C.re∧C.re≤255) (hwf:∀ j (hj:j<C.ho.bx.length),(Lit.int .i64 C.ho.bx[j].y).wf=true) :
  Calls Tryz.prog 44 #[.pointer (some ⟨M,0,none⟩),.pointer (some ⟨Bx,0,none⟩)] W fun o w'=>o = .returned (.tuple #[])∧∃ hs' D',mc w0 M G (fltC C k) f1 f3 hs' nm D' w':=by
 have HS:Hid (Calls Tryz.prog 45 #[.pointer (some ⟨M,0,none⟩),.int .i64 k] W fun o w'=>o = .returned (.tuple #[])∧∃ hs' D',mc w0 M G (fltC C k) f1 f3 hs' nm D' w'):=fault_any h k ht hr hwf
 clear h hwf ht hr;go_enter Tryz.func44,Tryz.ntmps44
 go_wp2_with fail;refine HS.out.mono ?_
 rintro o w5 ⟨rfl,hs',D',hq⟩;have HQ:Hid (mc w0 M G (fltC C k) f1 f3 hs' nm D' w5):=hq
 clear hq;go_wp2_with fail;first | go_end0 | (simp only[Exit.inBlock,Exit.then];refine bodyPost_ret (results_none rfl _ _ _) rfl ?_) | refine bodyPost_ret (results_none rfl _ _ _) rfl ?_
 exact⟨rfl,hs',D',HQ.out⟩
theorem fltC_p (C:Co) (k:Int):(fltC C k).p=2:=rfl
set_option maxHeartbeats 8000000 in
set_option maxRecDepth 20000 in
theorem act_flt {w0:World} {M:Nat} {G:Lg} {C:Co} {f1 f3:Nat} {hs:Nat→Hd} {nm:Nat} {D:DataW Unit} {W:World} (h:mc w0 M G C f1 f3 hs nm D W) (Bx:Nat) (k:Int) (yb:W.cell? ⟨Bx,0,none⟩=some (.int .i64 k)) (ht:0≤C.te∧C.te≤256) (hr:0≤C.re∧C.re≤255) (hwf:∀ j (hj:j<C.ho.bx.length),(Lit.int .i64 C.ho.bx[j].y).wf=true) :
  Calls Tryz.prog 85 #[.pointer (some ⟨M,0,none⟩),.func (.func 44) #[] #[.pointer (some ⟨Bx,0,none⟩)]] W fun o w'=>o = .returned (.tuple #[])∧∃ hs' D',mc w0 M G (actC C (fltC C k)) f1 f3 hs' nm D' w':=by
 have HS:Hid (Calls Tryz.prog 106 #[.pointer (some ⟨M,0,none⟩)] W fun o w'=>o = .returned (.int .i64 (stZ C.te C.re))∧mc w0 M G C f1 f3 hs nm D w'∧Below W.heap.size W w'):=state_any h
 have HR:Hid (∀ X,mc w0 M G C f1 f3 hs nm D X→X.cell? ⟨Bx,0,none⟩=some (.int .i64 k)→Calls Tryz.prog 44 #[.pointer (some ⟨M,0,none⟩),.pointer (some ⟨Bx,0,none⟩)] X fun o w'=>o = .returned (.tuple #[])∧∃ hs' D',mc w0 M G (fltC C k) f1 f3 hs' nm D' w'):=fun X hX hy=>lit44 hX Bx k hy ht hr hwf
 have HS2:Hid (∀ hs' D' X,mc w0 M G (fltC C k) f1 f3 hs' nm D' X→Calls Tryz.prog 106 #[.pointer (some ⟨M,0,none⟩)] X fun o w'=>o = .returned (.int .i64 (stZ (fltC C k).te (fltC C k).re))∧mc w0 M G (fltC C k) f1 f3 hs' nm D' w'):=fun hs' D' X hX=>(state_any hX).mono (by rintro o w' ⟨rfl,h1,_⟩;exact⟨rfl,h1⟩)
 have HYB:Hid (W.cell? ⟨Bx,0,none⟩=some (.int .i64 k)):=yb
 clear h yb ht hr hwf;obtain⟨z0,ez0⟩ : ∃ z0,stZ C.te C.re=z0:=⟨_,rfl⟩
 obtain⟨z1,ez1⟩ : ∃ z1,stZ (fltC C k).te (fltC C k).re=z1:=⟨_,rfl⟩
 by_cases e:(fltC C k).te=256
 ·have e2:z1=2:=by rw[← ez1];unfold stZ;rw[if_pos e]
  have HAC:Hid (actC C (fltC C k)=tellC (offC (fltC C k)) z0):=by show actC C (fltC C k)=_;unfold actC;rw[if_pos ⟨e,by rw[fltC_p];decide⟩,ez0]
  rw[ez0] at HS
  rw[ez1,e2] at HS2
  clear e e2 ez0 ez1;go_enter Tryz.func85,Tryz.ntmps85
  go_wp2_with fail;refine HS.out.mono ?_
  rintro o w1 ⟨rfl,h1,hb1⟩;have H1:Hid (mc w0 M G C f1 f3 hs nm D w1∧w1.cell? ⟨Bx,0,none⟩=some (.int .i64 k)):=⟨h1,(hb1.cell (by exact World.block_lt_of_cell? W _ HYB.out)).trans HYB.out⟩
  clear h1 hb1 HS;go_wp2_with fail;refine (HR.out _ H1.out.1 H1.out.2).mono ?_
  rintro o w2 ⟨rfl,hs',D',h2⟩;have H2:Hid (mc w0 M G (fltC C k) f1 f3 hs' nm D' w2):=h2
  clear h2 H1 HR;go_wp2_with fail;refine (HS2.out hs' D' _ H2.out).mono ?_
  rintro o w3 ⟨rfl,h3⟩;have H3:Hid (mc w0 M G (fltC C k) f1 f3 hs' nm D' w3):=h3
  have y3:=h3.m.cell 3 (.int .i64 2) rfl
  clear h3 H2 HS2;go_wp2_with (first
   | (refine wpList_store_mid (P:=Tryz.prog) rfl 116 (.tmp 28) (.tmp 26) rfl M 3 #[.int .i64 7,.int .i64 0,.int .i64 0,.bool false,.bool false,.bool false,.bool false,.bool false,.int .i64 0] rfl rfl (H3.out.m.there 3 9 (by rw[mcL_len];decide)) sz116 (all_oneCell_toArray (by simp[Value.oneCell'])) ?_;generalize hW4:World.setCells w3 M 3 _=w4;have H4:Hid (mc w0 M G (offC (fltC C k)) f1 f3 hs' nm D' w4):=(by rw[← hW4];exact H3.out.moment);clear hW4))
  refine (tell_any H4.out z0).mono ?_
  rintro o w5 ⟨rfl,h5⟩;have H5:Hid (mc w0 M G (tellC (offC (fltC C k)) z0) f1 f3 hs' nm D' w5):=h5
  clear h5;go_wp2_with fail;first | go_end0 | (simp only[Exit.inBlock,Exit.then];refine bodyPost_ret (results_none rfl _ _ _) rfl ?_) | refine bodyPost_ret (results_none rfl _ _ _) rfl ?_
  exact⟨rfl,hs',D',by rw[HAC.out];exact H5.out⟩
 ·have e2:¬ z1=2:=by rw[← ez1];unfold stZ;rw[if_neg e];split <;> omega
  have HAC:Hid (actC C (fltC C k)=tellC (fltC C k) z0):=by show actC C (fltC C k)=_;unfold actC;rw[if_neg (fun x=>e x.1),ez0]
  have d2:(z1 == 2)=false:=by simpa using e2
  rw[ez0] at HS
  rw[ez1] at HS2
  clear e e2 ez0 ez1;go_enter Tryz.func85,Tryz.ntmps85
  go_wp2_with fail;refine HS.out.mono ?_
  rintro o w1 ⟨rfl,h1,hb1⟩;have H1:Hid (mc w0 M G C f1 f3 hs nm D w1∧w1.cell? ⟨Bx,0,none⟩=some (.int .i64 k)):=⟨h1,(hb1.cell (by exact World.block_lt_of_cell? W _ HYB.out)).trans HYB.out⟩
  clear h1 hb1 HS;go_wp2_with fail;refine (HR.out _ H1.out.1 H1.out.2).mono ?_
  rintro o w2 ⟨rfl,hs',D',h2⟩;have H2:Hid (mc w0 M G (fltC C k) f1 f3 hs' nm D' w2):=h2
  clear h2 H1 HR;go_wp2_with fail;refine (HS2.out hs' D' _ H2.out).mono ?_
  rintro o w3 ⟨rfl,h3⟩;have H3:Hid (mc w0 M G (fltC C k) f1 f3 hs' nm D' w3):=h3
  have y3:=h3.m.cell 3 (.int .i64 2) rfl
  clear h3 H2 HS2;go_wp2_with fail;refine (tell_any H3.out z0).mono ?_
  rintro o w5 ⟨rfl,h5⟩;have H5:Hid (mc w0 M G (tellC (fltC C k) z0) f1 f3 hs' nm D' w5):=h5
  clear h5;go_wp2_with fail;first | go_end0 | (simp only[Exit.inBlock,Exit.then];refine bodyPost_ret (results_none rfl _ _ _) rfl ?_) | refine bodyPost_ret (results_none rfl _ _ _) rfl ?_
  exact⟨rfl,hs',D',by rw[HAC.out];exact H5.out⟩
end Go.Proofs.YtkfcfigbgmbaiaaGreat
