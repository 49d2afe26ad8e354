import Derived.Test.YtkfcfigbgmbaiaaGreatG33
import Derived.StillTailTactics
import Derived.Deep.RegionHeld3
namespace Go.Proofs.YtkfcfigbgmbaiaaGreat
open Go.RowKit
set_option linter.unusedVariables false
def lhU (G:Lg) (B:Nat):Prop:=G.P<B∧G.mb<B∧G.gf<B∧G.gb<B∧G.gr<B∧G.gq<B
theorem lh.put {w0:World} {G:Lg} {H:Ho} {f1 f3:Nat} {hs:Nat→Hd} {nm:Nat} {D:DataW Unit} {W:World} (h:lh w0 G H f1 f3 hs nm D W) {B x:Nat} (hB:lhU G B) (hx:B≤x) (o:Nat) (l:List Value):lh w0 G H f1 f3 hs nm D (W.setCells x o l):=by
 obtain⟨b1,b2,b3,b4,b5,b6⟩:=hB
 have hlo:=h.d.lo
 have he:∀ q,q<B→(W.setCells x o l).heap[q]?=W.heap[q]?:=fun q hq=>setCells_other _ q (by omega) _ _ _
 have hb:Below w0.heap.size w0 (W.setCells x o l):=setCells_below (by omega) o l h.b
 have hz:(W.setCells x o l).heap.size=W.heap.size:=setCells_size ..
 refine⟨h.p.kept (he _ b1),h.f.same (he _ b3),h.x.at0 (he _ b4) hb,h.r.keep (he _ b5),h.rz.up (he _ b5),h.q.keep (he _ b6),h.qz.up (he _ b6),?_,hb,by rw[hz];exact h.hi,h.d,h.bd⟩
 obtain⟨es,clock,q1,q2⟩:=h.m
 exact⟨es,clock,(he _ b2).trans q1,q2⟩
theorem okBxs.wf {st:Int} {bx:List R8} (h:okBxs st bx):∀ j (hj:j<bx.length),(Lit.int .i64 bx[j].y).wf=true:=fun j hj=>by
 have:=h.1 j hj
 unfold okBx at this
 split at this
 ·rw[this.1]
  exact wf_small (by omega) (by omega)
 ·exact wf_small (by omega) (by omega)
def tellC (C:Co) (b:Int):Co:=if stZ C.te C.re=b then C else { C with ho:=postHo C.ho ⟨10,stZ C.te C.re,0,false,0,false,0,[]⟩ }
set_option maxHeartbeats 8000000 in
set_option maxRecDepth 20000 in
theorem tell_any {w0:World} {M:Nat} {G:Lg} {C:Co} {f1 f3:Nat} {hs:Nat→Hd} {nm:Nat} {D:DataW Unit} {W:World} (h:mc w0 M G C f1 f3 hs nm D W) (b:Int):Calls Tryz.prog 145 #[.pointer (some ⟨M,0,none⟩),.int .i64 b] W fun o w'=>o = .returned (.tuple #[])∧mc w0 M G (tellC C b) f1 f3 hs nm D w':=by
 have HS:Hid (Calls Tryz.prog 106 #[.pointer (some ⟨M,0,none⟩)] W fun o w'=>o = .returned (.int .i64 (stZ C.te C.re))∧mc w0 M G C f1 f3 hs nm D w'∧Below W.heap.size W w'):=state_any h
 have HP:Hid (∀ X,mc w0 M G C f1 f3 hs nm D X→Calls Tryz.prog 87 #[.pointer (some ⟨G.P,0,none⟩),.agg #[.int .i64 10,.int .i64 (stZ C.te C.re),.int .i64 0,.bool false,.int .u32 0,.bool false,.int .i64 0,.slice none 0 0]] X fun o w'=>o = .returned (.tuple #[])∧mc w0 M G { C with ho:=postHo C.ho ⟨10,stZ C.te C.re,0,false,0,false,0,[]⟩ } f1 f3 hs nm D w'):=fun X hX=>hX.post 10 (stZ C.te C.re)
 have HT:Hid (tellC C b=if stZ C.te C.re=b then C else { C with ho:=postHo C.ho ⟨10,stZ C.te C.re,0,false,0,false,0,[]⟩ }):=rfl
 clear h
 generalize stZ C.te C.re=z at *
 by_cases e:z=b
 ·subst e
  have HT2:Hid (tellC C z=C):=by have:=HT.out;rw[if_pos rfl] at this;exact this
  go_enter Tryz.func145,Tryz.ntmps145
  go_wp2_with fail
  refine HS.out.mono ?_
  rintro o w1 ⟨rfl,h1,hb⟩
  have H1:Hid (mc w0 M G C f1 f3 hs nm D w1):=h1
  clear h1 hb HS
  go_wp2_with fail
  first | go_end0 | (simp only[Exit.inBlock,Exit.then];refine bodyPost_ret (results_none rfl _ _ _) rfl ?_) | refine bodyPost_ret (results_none rfl _ _ _) rfl ?_
  exact⟨rfl,by rw[HT2.out];exact H1.out⟩
 ·have d1:(z == b)=false:=by simpa using e
  have d2:(z != b)=true:=by simpa using e
  have HT2:Hid (tellC C b = { C with ho:=postHo C.ho ⟨10,z,0,false,0,false,0,[]⟩ }):=by have:=HT.out;rw[if_neg e] at this;exact this
  go_enter Tryz.func145,Tryz.ntmps145
  go_wp2_with fail
  refine HS.out.mono ?_
  rintro o w1 ⟨rfl,h1,hb⟩
  have H1:Hid (mc w0 M G C f1 f3 hs nm D w1):=h1
  have y0:=h1.m.cell 0 (.pointer (some ⟨G.P,0,none⟩)) rfl
  clear h1 hb HS
  go_wp2_with fail
  refine (HP.out _ H1.out).mono ?_
  rintro o w2 ⟨rfl,h2⟩
  have H2:Hid (mc w0 M G { C with ho:=postHo C.ho ⟨10,z,0,false,0,false,0,[]⟩ } f1 f3 hs nm D w2):=h2
  clear h2 HP
  go_wp2_with fail
  first | go_end0 | (simp only[Exit.inBlock,Exit.then];refine bodyPost_ret (results_none rfl _ _ _) rfl ?_) | refine bodyPost_ret (results_none rfl _ _ _) rfl ?_
  exact⟨rfl,by rw[HT2.out];exact H2.out⟩
theorem flagValue_any (w:World) (b:Bool):Calls Tryz.prog 88 #[.bool b] w fun o w'=>o = .returned (.int .u64 (if b then 1 else 0))∧w=w':=by
 cases b
 ·go_enter Tryz.func88,Tryz.ntmps88
  go_wp2
  go_ret
  exact⟨rfl,rfl⟩
 ·go_enter Tryz.func88,Tryz.ntmps88
  go_wp2
  go_ret
  exact⟨rfl,rfl⟩
theorem flag_true (w:World):Calls Tryz.prog 88 #[.bool true] w fun o w'=>o = .returned (.int .u64 1)∧w=w':=flagValue_any w true
theorem flag_false (w:World):Calls Tryz.prog 88 #[.bool false] w fun o w'=>o = .returned (.int .u64 0)∧w=w':=flagValue_any w false
def rstT (C:Co):Bool:=C.p == 7 && !C.ak
def rstC (C:Co):Co:={ C with ak:=C.ak || rstT C,ho:=postHo C.ho ⟨11,if rstT C then 1 else 0,0,false,0,false,0,[]⟩ }
set_option maxHeartbeats 8000000 in
set_option maxRecDepth 20000 in
theorem rst_yes {w0:World} {M:Nat} {G:Lg} {C:Co} {f1 f3:Nat} {hs:Nat→Hd} {nm:Nat} {D:DataW Unit} {W:World} (h:mc w0 M G C f1 f3 hs nm D W) (ep:(C.p == 7)=true) (ea:C.ak=false):Calls Tryz.prog 38 #[.pointer (some ⟨M,0,none⟩)] W fun o w'=>o = .returned (.tuple #[])∧mc w0 M G { C with ak:=true,ho:=postHo C.ho ⟨11,1,0,false,0,false,0,[]⟩ } f1 f3 hs nm D w':=by
 obtain⟨C1,e1⟩ : ∃ C1:Co,C1 = { C with ak:=true }:=⟨_,rfl⟩
 have e2:(mcL G.P C).set 10 (.bool true)=mcL G.P C1:=by rw[e1];rfl
 have HM:Hid (mc w0 M G C1 f1 f3 hs nm D (W.setCell ⟨M,10,none⟩ (.bool true))):=h.set 10 (.bool true) e2 (by rw[e1])
 have HE:Hid ({ C with ak:=true,ho:=postHo C.ho ⟨11,1,0,false,0,false,0,[]⟩ } = { C1 with ho:=postHo C1.ho ⟨11,1,0,false,0,false,0,[]⟩ }):=by rw[e1];rfl
 have y3:=h.m.cell 3 (.int .i64 C.p) rfl
 have y10:=h.m.cell 10 (.bool C.ak) rfl
 have f10:=h.m.free 10
 rw[ea] at y10
 generalize C.p=p at *
 clear h e1 e2 ea
 go_enter Tryz.func38,Tryz.ntmps38
 go_wp2_with fail
 have hm1:=HM.out
 clear HM y3 y10 f10
 generalize W.setCell ⟨M,10,none⟩ (.bool true)=v0 at *
 have H1:Hid (mc w0 M G C1 f1 f3 hs nm D v0):=hm1
 refine wp_region_held (S:=fun X=>blk X M (mcL G.P C1) 125) (by kernel_rfl) ?_
 have hS:blk (World.drew v0) M (mcL G.P C1) 125:=H1.out.m.below (Below.refl _ _).drew
 have H2:Hid (mc w0 M G C1 f1 f3 hs nm D (World.drew v0)):=H1.out.below (Below.refl _ _).drew
 clear H1 hm1
 change wpAnyH Tryz.prog _ _ _ _ _ _ _ (World.drew v0)
 generalize World.drew v0=v1 at *
 refine wT (i:=0) (v:=.pointer (some ⟨M,0,none⟩)) rfl (by kernel_rfl) (by kernel_rfl) (by kernel_rfl) (fun _ _ _ h=>h) (Or.inl ⟨by rfl,?_⟩) hS ?_
 ·intro W hSw
  clear hS
  go_simp
 simp only[Act.put,aA,aB,aC,aD,aE]
 refine wT (i:=1) (v:=.pointer (some ⟨M,0,none⟩)) rfl (by kernel_rfl) (by kernel_rfl) (by kernel_rfl) (fun _ _ _ h=>h) (Or.inl ⟨by rfl,?_⟩) hS ?_
 ·intro W hSw
  clear hS
  go_simp
 simp only[Act.put,aA,aB,aC,aD,aE,aF]
 refine wT (i:=2) (v:=.pointer (some ⟨M,0,none⟩)) rfl (by kernel_rfl) (by kernel_rfl) (by kernel_rfl) (fun _ _ _ h=>h) (Or.inl ⟨by rfl,?_⟩) hS ?_
 ·intro W hSw
  clear hS
  go_simp
 simp only[Act.put,aA,aB,aC,aD,aE,aF]
 refine wT (i:=3) (v:=.pointer (some ⟨M,0,none⟩)) rfl (by kernel_rfl) (by kernel_rfl) (by kernel_rfl) (fun _ _ _ h=>h) (Or.inl ⟨by rfl,?_⟩) hS ?_
 ·intro W hSw
  clear hS
  go_simp
 simp only[Act.put,aA,aB,aC,aD,aE,aF]
 refine wT (i:=4) (v:=.pointer (some ⟨G.P,0,none⟩)) rfl (by kernel_rfl) (by kernel_rfl) (by kernel_rfl) (fun _ _ _ h=>h) (Or.inl ⟨by rfl,?_⟩) hS ?_
 ·intro W hSw
  clear hS
  have y:=hSw.cell 0 (.pointer (some ⟨G.P,0,none⟩)) rfl
  go_simp
 simp only[Act.put,aA,aB,aC,aD,aE,aF]
 refine wT (i:=5) (v:=.bool true) rfl (by kernel_rfl) (by kernel_rfl) (by kernel_rfl) (fun _ _ _ h=>h) (Or.inl ⟨by rfl,?_⟩) hS ?_
 ·intro W hSw
  clear hS
  go_simp
 simp only[Act.put,aA,aB,aC,aD,aE,aF]
 refine wpAnyH_all (rs:=[6]) (by kernel_rfl) (by simp) ?_
 refine AllReadyH.cons rfl (fun K2 hK2=>?_) AllReadyH.nil
 go_simp
 refine (flag_true v1).mono ?_
 rintro o v2 ⟨rfl,rfl⟩
 go_wp2_with fail
 refine hK2.out _ _ hS (fun hS2=>?_)
 clear hK2 K2 hS
 have hS:=hS2
 clear hS2
 refine wT (i:=7) (v:=.int .i64 1) rfl (by kernel_rfl) (by kernel_rfl) (by kernel_rfl) (fun _ _ _ h=>h) (Or.inl ⟨by rfl,?_⟩) hS ?_
 ·intro W hSw
  clear hS
  go_simp
  decide
 simp only[Act.put,aA,aB,aC,aD,aE,aF]
 refine wT (i:=8) (v:=.agg #[.int .i64 11,.int .i64 1,.int .i64 0,.bool false,.int .u32 0,.bool false,.int .i64 0,.slice none 0 0]) rfl (by kernel_rfl) (by kernel_rfl) (by kernel_rfl) (fun _ _ _ h=>h) (Or.inl ⟨by rfl,?_⟩) hS ?_
 ·intro W hSw
  clear hS
  go_simp
 simp only[Act.put,aA,aB,aC,aD,aE,aF]
 refine wpAnyH_all (rs:=[9]) (by kernel_rfl) (by simp) ?_
 refine AllReadyH.cons rfl (fun K2 hK2=>?_) AllReadyH.nil
 go_simp
 refine (H2.out.post 11 1).mono ?_
 rintro o v3 ⟨rfl,h3⟩
 have H3:Hid (mc w0 M G { C1 with ho:=postHo C1.ho ⟨11,1,0,false,0,false,0,[]⟩ } f1 f3 hs nm D v3):=h3
 have hS3:blk v3 M (mcL G.P C1) 125:=h3.m
 clear h3 H2
 go_wp2_with fail
 refine hK2.out _ _ hS3 (fun hS2=>?_)
 clear hK2 K2 hS hS2 hS3
 refine wpAnyH_done (by kernel_rfl) ?_ _
 go_wp2_with fail
 first | go_end0 | (simp only[Exit.inBlock,Exit.then];refine bodyPost_ret (results_none rfl _ _ _) rfl ?_) | refine bodyPost_ret (results_none rfl _ _ _) rfl ?_
 exact⟨rfl,by rw[HE.out];exact H3.out⟩
set_option maxHeartbeats 8000000 in
set_option maxRecDepth 20000 in
theorem rst_old {w0:World} {M:Nat} {G:Lg} {C:Co} {f1 f3:Nat} {hs:Nat→Hd} {nm:Nat} {D:DataW Unit} {W:World} (h:mc w0 M G C f1 f3 hs nm D W) (ep:(C.p == 7)=true) (ea:C.ak=true):Calls Tryz.prog 38 #[.pointer (some ⟨M,0,none⟩)] W fun o w'=>o = .returned (.tuple #[])∧mc w0 M G { C with ak:=true,ho:=postHo C.ho ⟨11,0,0,false,0,false,0,[]⟩ } f1 f3 hs nm D w':=by
 obtain⟨C1,e1⟩ : ∃ C1:Co,C1 = { C with ak:=true }:=⟨_,rfl⟩
 have e2:(mcL G.P C).set 10 (.bool true)=mcL G.P C1:=by rw[e1];rfl
 have HM:Hid (mc w0 M G C1 f1 f3 hs nm D (W.setCell ⟨M,10,none⟩ (.bool true))):=h.set 10 (.bool true) e2 (by rw[e1])
 have HE:Hid ({ C with ak:=true,ho:=postHo C.ho ⟨11,0,0,false,0,false,0,[]⟩ } = { C1 with ho:=postHo C1.ho ⟨11,0,0,false,0,false,0,[]⟩ }):=by rw[e1];rfl
 have y3:=h.m.cell 3 (.int .i64 C.p) rfl
 have y10:=h.m.cell 10 (.bool C.ak) rfl
 have f10:=h.m.free 10
 rw[ea] at y10
 generalize C.p=p at *
 clear h e1 e2 ea
 go_enter Tryz.func38,Tryz.ntmps38
 go_wp2_with fail
 have hm1:=HM.out
 clear HM y3 y10 f10
 generalize W.setCell ⟨M,10,none⟩ (.bool true)=v0 at *
 have H1:Hid (mc w0 M G C1 f1 f3 hs nm D v0):=hm1
 refine wp_region_held (S:=fun X=>blk X M (mcL G.P C1) 125) (by kernel_rfl) ?_
 have hS:blk (World.drew v0) M (mcL G.P C1) 125:=H1.out.m.below (Below.refl _ _).drew
 have H2:Hid (mc w0 M G C1 f1 f3 hs nm D (World.drew v0)):=H1.out.below (Below.refl _ _).drew
 clear H1 hm1
 change wpAnyH Tryz.prog _ _ _ _ _ _ _ (World.drew v0)
 generalize World.drew v0=v1 at *
 refine wT (i:=0) (v:=.pointer (some ⟨M,0,none⟩)) rfl (by kernel_rfl) (by kernel_rfl) (by kernel_rfl) (fun _ _ _ h=>h) (Or.inl ⟨by rfl,?_⟩) hS ?_
 ·intro W hSw
  clear hS
  go_simp
 simp only[Act.put,aA,aB,aC,aD,aE]
 refine wT (i:=1) (v:=.pointer (some ⟨M,0,none⟩)) rfl (by kernel_rfl) (by kernel_rfl) (by kernel_rfl) (fun _ _ _ h=>h) (Or.inl ⟨by rfl,?_⟩) hS ?_
 ·intro W hSw
  clear hS
  go_simp
 simp only[Act.put,aA,aB,aC,aD,aE,aF]
 refine wT (i:=2) (v:=.pointer (some ⟨M,0,none⟩)) rfl (by kernel_rfl) (by kernel_rfl) (by kernel_rfl) (fun _ _ _ h=>h) (Or.inl ⟨by rfl,?_⟩) hS ?_
 ·intro W hSw
  clear hS
  go_simp
 simp only[Act.put,aA,aB,aC,aD,aE,aF]
 refine wT (i:=3) (v:=.pointer (some ⟨M,0,none⟩)) rfl (by kernel_rfl) (by kernel_rfl) (by kernel_rfl) (fun _ _ _ h=>h) (Or.inl ⟨by rfl,?_⟩) hS ?_
 ·intro W hSw
  clear hS
  go_simp
 simp only[Act.put,aA,aB,aC,aD,aE,aF]
 refine wT (i:=4) (v:=.pointer (some ⟨G.P,0,none⟩)) rfl (by kernel_rfl) (by kernel_rfl) (by kernel_rfl) (fun _ _ _ h=>h) (Or.inl ⟨by rfl,?_⟩) hS ?_
 ·intro W hSw
  clear hS
  have y:=hSw.cell 0 (.pointer (some ⟨G.P,0,none⟩)) rfl
  go_simp
 simp only[Act.put,aA,aB,aC,aD,aE,aF]
 refine wT (i:=5) (v:=.bool false) rfl (by kernel_rfl) (by kernel_rfl) (by kernel_rfl) (fun _ _ _ h=>h) (Or.inl ⟨by rfl,?_⟩) hS ?_
 ·intro W hSw
  clear hS
  go_simp
 simp only[Act.put,aA,aB,aC,aD,aE,aF]
 refine wpAnyH_all (rs:=[6]) (by kernel_rfl) (by simp) ?_
 refine AllReadyH.cons rfl (fun K2 hK2=>?_) AllReadyH.nil
 go_simp
 refine (flag_false v1).mono ?_
 rintro o v2 ⟨rfl,rfl⟩
 go_wp2_with fail
 refine hK2.out _ _ hS (fun hS2=>?_)
 clear hK2 K2 hS
 have hS:=hS2
 clear hS2
 refine wT (i:=7) (v:=.int .i64 0) rfl (by kernel_rfl) (by kernel_rfl) (by kernel_rfl) (fun _ _ _ h=>h) (Or.inl ⟨by rfl,?_⟩) hS ?_
 ·intro W hSw
  clear hS
  go_simp
  decide
 simp only[Act.put,aA,aB,aC,aD,aE,aF]
 refine wT (i:=8) (v:=.agg #[.int .i64 11,.int .i64 0,.int .i64 0,.bool false,.int .u32 0,.bool false,.int .i64 0,.slice none 0 0]) rfl (by kernel_rfl) (by kernel_rfl) (by kernel_rfl) (fun _ _ _ h=>h) (Or.inl ⟨by rfl,?_⟩) hS ?_
 ·intro W hSw
  clear hS
  go_simp
 simp only[Act.put,aA,aB,aC,aD,aE,aF]
 refine wpAnyH_all (rs:=[9]) (by kernel_rfl) (by simp) ?_
 refine AllReadyH.cons rfl (fun K2 hK2=>?_) AllReadyH.nil
 go_simp
 refine (H2.out.post 11 0).mono ?_
 rintro o v3 ⟨rfl,h3⟩
 have H3:Hid (mc w0 M G { C1 with ho:=postHo C1.ho ⟨11,0,0,false,0,false,0,[]⟩ } f1 f3 hs nm D v3):=h3
 have hS3:blk v3 M (mcL G.P C1) 125:=h3.m
 clear h3 H2
 go_wp2_with fail
 refine hK2.out _ _ hS3 (fun hS2=>?_)
 clear hK2 K2 hS hS2 hS3
 refine wpAnyH_done (by kernel_rfl) ?_ _
 go_wp2_with fail
 first | go_end0 | (simp only[Exit.inBlock,Exit.then];refine bodyPost_ret (results_none rfl _ _ _) rfl ?_) | refine bodyPost_ret (results_none rfl _ _ _) rfl ?_
 exact⟨rfl,by rw[HE.out];exact H3.out⟩
set_option maxHeartbeats 8000000 in
set_option maxRecDepth 20000 in
theorem rst_no {w0:World} {M:Nat} {G:Lg} {C:Co} {f1 f3:Nat} {hs:Nat→Hd} {nm:Nat} {D:DataW Unit} {W:World} (h:mc w0 M G C f1 f3 hs nm D W) (ep:(C.p == 7)=false) (ea:C.ak=false):Calls Tryz.prog 38 #[.pointer (some ⟨M,0,none⟩)] W fun o w'=>o = .returned (.tuple #[])∧mc w0 M G { C with ak:=false,ho:=postHo C.ho ⟨11,0,0,false,0,false,0,[]⟩ } f1 f3 hs nm D w':=by
 obtain⟨C1,e1⟩ : ∃ C1:Co,C1 = { C with ak:=false }:=⟨_,rfl⟩
 have e2:(mcL G.P C).set 10 (.bool false)=mcL G.P C1:=by rw[e1];rfl
 have HM:Hid (mc w0 M G C1 f1 f3 hs nm D (W.setCell ⟨M,10,none⟩ (.bool false))):=h.set 10 (.bool false) e2 (by rw[e1])
 have HE:Hid ({ C with ak:=false,ho:=postHo C.ho ⟨11,0,0,false,0,false,0,[]⟩ } = { C1 with ho:=postHo C1.ho ⟨11,0,0,false,0,false,0,[]⟩ }):=by rw[e1];rfl
 have y3:=h.m.cell 3 (.int .i64 C.p) rfl
 have y10:=h.m.cell 10 (.bool C.ak) rfl
 have f10:=h.m.free 10
 rw[ea] at y10
 generalize C.p=p at *
 clear h e1 e2 ea
 go_enter Tryz.func38,Tryz.ntmps38
 go_wp2_with fail
 have hm1:=HM.out
 clear HM y3 y10 f10
 generalize W.setCell ⟨M,10,none⟩ (.bool false)=v0 at *
 have H1:Hid (mc w0 M G C1 f1 f3 hs nm D v0):=hm1
 refine wp_region_held (S:=fun X=>blk X M (mcL G.P C1) 125) (by kernel_rfl) ?_
 have hS:blk (World.drew v0) M (mcL G.P C1) 125:=H1.out.m.below (Below.refl _ _).drew
 have H2:Hid (mc w0 M G C1 f1 f3 hs nm D (World.drew v0)):=H1.out.below (Below.refl _ _).drew
 clear H1 hm1
 change wpAnyH Tryz.prog _ _ _ _ _ _ _ (World.drew v0)
 generalize World.drew v0=v1 at *
 refine wT (i:=0) (v:=.pointer (some ⟨M,0,none⟩)) rfl (by kernel_rfl) (by kernel_rfl) (by kernel_rfl) (fun _ _ _ h=>h) (Or.inl ⟨by rfl,?_⟩) hS ?_
 ·intro W hSw
  clear hS
  go_simp
 simp only[Act.put,aA,aB,aC,aD,aE]
 refine wT (i:=1) (v:=.pointer (some ⟨M,0,none⟩)) rfl (by kernel_rfl) (by kernel_rfl) (by kernel_rfl) (fun _ _ _ h=>h) (Or.inl ⟨by rfl,?_⟩) hS ?_
 ·intro W hSw
  clear hS
  go_simp
 simp only[Act.put,aA,aB,aC,aD,aE,aF]
 refine wT (i:=2) (v:=.pointer (some ⟨M,0,none⟩)) rfl (by kernel_rfl) (by kernel_rfl) (by kernel_rfl) (fun _ _ _ h=>h) (Or.inl ⟨by rfl,?_⟩) hS ?_
 ·intro W hSw
  clear hS
  go_simp
 simp only[Act.put,aA,aB,aC,aD,aE,aF]
 refine wT (i:=3) (v:=.pointer (some ⟨M,0,none⟩)) rfl (by kernel_rfl) (by kernel_rfl) (by kernel_rfl) (fun _ _ _ h=>h) (Or.inl ⟨by rfl,?_⟩) hS ?_
 ·intro W hSw
  clear hS
  go_simp
 simp only[Act.put,aA,aB,aC,aD,aE,aF]
 refine wT (i:=4) (v:=.pointer (some ⟨G.P,0,none⟩)) rfl (by kernel_rfl) (by kernel_rfl) (by kernel_rfl) (fun _ _ _ h=>h) (Or.inl ⟨by rfl,?_⟩) hS ?_
 ·intro W hSw
  clear hS
  have y:=hSw.cell 0 (.pointer (some ⟨G.P,0,none⟩)) rfl
  go_simp
 simp only[Act.put,aA,aB,aC,aD,aE,aF]
 refine wT (i:=5) (v:=.bool false) rfl (by kernel_rfl) (by kernel_rfl) (by kernel_rfl) (fun _ _ _ h=>h) (Or.inl ⟨by rfl,?_⟩) hS ?_
 ·intro W hSw
  clear hS
  go_simp
 simp only[Act.put,aA,aB,aC,aD,aE,aF]
 refine wpAnyH_all (rs:=[6]) (by kernel_rfl) (by simp) ?_
 refine AllReadyH.cons rfl (fun K2 hK2=>?_) AllReadyH.nil
 go_simp
 refine (flag_false v1).mono ?_
 rintro o v2 ⟨rfl,rfl⟩
 go_wp2_with fail
 refine hK2.out _ _ hS (fun hS2=>?_)
 clear hK2 K2 hS
 have hS:=hS2
 clear hS2
 refine wT (i:=7) (v:=.int .i64 0) rfl (by kernel_rfl) (by kernel_rfl) (by kernel_rfl) (fun _ _ _ h=>h) (Or.inl ⟨by rfl,?_⟩) hS ?_
 ·intro W hSw
  clear hS
  go_simp
  decide
 simp only[Act.put,aA,aB,aC,aD,aE,aF]
 refine wT (i:=8) (v:=.agg #[.int .i64 11,.int .i64 0,.int .i64 0,.bool false,.int .u32 0,.bool false,.int .i64 0,.slice none 0 0]) rfl (by kernel_rfl) (by kernel_rfl) (by kernel_rfl) (fun _ _ _ h=>h) (Or.inl ⟨by rfl,?_⟩) hS ?_
 ·intro W hSw
  clear hS
  go_simp
 simp only[Act.put,aA,aB,aC,aD,aE,aF]
 refine wpAnyH_all (rs:=[9]) (by kernel_rfl) (by simp) ?_
 refine AllReadyH.cons rfl (fun K2 hK2=>?_) AllReadyH.nil
 go_simp
 refine (H2.out.post 11 0).mono ?_
 rintro o v3 ⟨rfl,h3⟩
 have H3:Hid (mc w0 M G { C1 with ho:=postHo C1.ho ⟨11,0,0,false,0,false,0,[]⟩ } f1 f3 hs nm D v3):=h3
 have hS3:blk v3 M (mcL G.P C1) 125:=h3.m
 clear h3 H2
 go_wp2_with fail
 refine hK2.out _ _ hS3 (fun hS2=>?_)
 clear hK2 K2 hS hS2 hS3
 refine wpAnyH_done (by kernel_rfl) ?_ _
 go_wp2_with fail
 first | go_end0 | (simp only[Exit.inBlock,Exit.then];refine bodyPost_ret (results_none rfl _ _ _) rfl ?_) | refine bodyPost_ret (results_none rfl _ _ _) rfl ?_
 exact⟨rfl,by rw[HE.out];exact H3.out⟩
set_option maxHeartbeats 8000000 in
set_option maxRecDepth 20000 in
theorem rst_off {w0:World} {M:Nat} {G:Lg} {C:Co} {f1 f3:Nat} {hs:Nat→Hd} {nm:Nat} {D:DataW Unit} {W:World} (h:mc w0 M G C f1 f3 hs nm D W) (ep:(C.p == 7)=false) (ea:C.ak=true):Calls Tryz.prog 38 #[.pointer (some ⟨M,0,none⟩)] W fun o w'=>o = .returned (.tuple #[])∧mc w0 M G { C with ak:=true,ho:=postHo C.ho ⟨11,0,0,false,0,false,0,[]⟩ } f1 f3 hs nm D w':=by
 obtain⟨C1,e1⟩ : ∃ C1:Co,C1 = { C with ak:=true }:=⟨_,rfl⟩
 have e2:(mcL G.P C).set 10 (.bool true)=mcL G.P C1:=by rw[e1];rfl
 have HM:Hid (mc w0 M G C1 f1 f3 hs nm D (W.setCell ⟨M,10,none⟩ (.bool true))):=h.set 10 (.bool true) e2 (by rw[e1])
 have HE:Hid ({ C with ak:=true,ho:=postHo C.ho ⟨11,0,0,false,0,false,0,[]⟩ } = { C1 with ho:=postHo C1.ho ⟨11,0,0,false,0,false,0,[]⟩ }):=by rw[e1];rfl
 have y3:=h.m.cell 3 (.int .i64 C.p) rfl
 have y10:=h.m.cell 10 (.bool C.ak) rfl
 have f10:=h.m.free 10
 rw[ea] at y10
 generalize C.p=p at *
 clear h e1 e2 ea
 go_enter Tryz.func38,Tryz.ntmps38
 go_wp2_with fail
 have hm1:=HM.out
 clear HM y3 y10 f10
 generalize W.setCell ⟨M,10,none⟩ (.bool true)=v0 at *
 have H1:Hid (mc w0 M G C1 f1 f3 hs nm D v0):=hm1
 refine wp_region_held (S:=fun X=>blk X M (mcL G.P C1) 125) (by kernel_rfl) ?_
 have hS:blk (World.drew v0) M (mcL G.P C1) 125:=H1.out.m.below (Below.refl _ _).drew
 have H2:Hid (mc w0 M G C1 f1 f3 hs nm D (World.drew v0)):=H1.out.below (Below.refl _ _).drew
 clear H1 hm1
 change wpAnyH Tryz.prog _ _ _ _ _ _ _ (World.drew v0)
 generalize World.drew v0=v1 at *
 refine wT (i:=0) (v:=.pointer (some ⟨M,0,none⟩)) rfl (by kernel_rfl) (by kernel_rfl) (by kernel_rfl) (fun _ _ _ h=>h) (Or.inl ⟨by rfl,?_⟩) hS ?_
 ·intro W hSw
  clear hS
  go_simp
 simp only[Act.put,aA,aB,aC,aD,aE]
 refine wT (i:=1) (v:=.pointer (some ⟨M,0,none⟩)) rfl (by kernel_rfl) (by kernel_rfl) (by kernel_rfl) (fun _ _ _ h=>h) (Or.inl ⟨by rfl,?_⟩) hS ?_
 ·intro W hSw
  clear hS
  go_simp
 simp only[Act.put,aA,aB,aC,aD,aE,aF]
 refine wT (i:=2) (v:=.pointer (some ⟨M,0,none⟩)) rfl (by kernel_rfl) (by kernel_rfl) (by kernel_rfl) (fun _ _ _ h=>h) (Or.inl ⟨by rfl,?_⟩) hS ?_
 ·intro W hSw
  clear hS
  go_simp
 simp only[Act.put,aA,aB,aC,aD,aE,aF]
 refine wT (i:=3) (v:=.pointer (some ⟨M,0,none⟩)) rfl (by kernel_rfl) (by kernel_rfl) (by kernel_rfl) (fun _ _ _ h=>h) (Or.inl ⟨by rfl,?_⟩) hS ?_
 ·intro W hSw
  clear hS
  go_simp
 simp only[Act.put,aA,aB,aC,aD,aE,aF]
 refine wT (i:=4) (v:=.pointer (some ⟨G.P,0,none⟩)) rfl (by kernel_rfl) (by kernel_rfl) (by kernel_rfl) (fun _ _ _ h=>h) (Or.inl ⟨by rfl,?_⟩) hS ?_
 ·intro W hSw
  clear hS
  have y:=hSw.cell 0 (.pointer (some ⟨G.P,0,none⟩)) rfl
  go_simp
 simp only[Act.put,aA,aB,aC,aD,aE,aF]
 refine wT (i:=5) (v:=.bool false) rfl (by kernel_rfl) (by kernel_rfl) (by kernel_rfl) (fun _ _ _ h=>h) (Or.inl ⟨by rfl,?_⟩) hS ?_
 ·intro W hSw
  clear hS
  go_simp
 simp only[Act.put,aA,aB,aC,aD,aE,aF]
 refine wpAnyH_all (rs:=[6]) (by kernel_rfl) (by simp) ?_
 refine AllReadyH.cons rfl (fun K2 hK2=>?_) AllReadyH.nil
 go_simp
 refine (flag_false v1).mono ?_
 rintro o v2 ⟨rfl,rfl⟩
 go_wp2_with fail
 refine hK2.out _ _ hS (fun hS2=>?_)
 clear hK2 K2 hS
 have hS:=hS2
 clear hS2
 refine wT (i:=7) (v:=.int .i64 0) rfl (by kernel_rfl) (by kernel_rfl) (by kernel_rfl) (fun _ _ _ h=>h) (Or.inl ⟨by rfl,?_⟩) hS ?_
 ·intro W hSw
  clear hS
  go_simp
  decide
 simp only[Act.put,aA,aB,aC,aD,aE,aF]
 refine wT (i:=8) (v:=.agg #[.int .i64 11,.int .i64 0,.int .i64 0,.bool false,.int .u32 0,.bool false,.int .i64 0,.slice none 0 0]) rfl (by kernel_rfl) (by kernel_rfl) (by kernel_rfl) (fun _ _ _ h=>h) (Or.inl ⟨by rfl,?_⟩) hS ?_
 ·intro W hSw
  clear hS
  go_simp
 simp only[Act.put,aA,aB,aC,aD,aE,aF]
 refine wpAnyH_all (rs:=[9]) (by kernel_rfl) (by simp) ?_
 refine AllReadyH.cons rfl (fun K2 hK2=>?_) AllReadyH.nil
 go_simp
 refine (H2.out.post 11 0).mono ?_
 rintro o v3 ⟨rfl,h3⟩
 have H3:Hid (mc w0 M G { C1 with ho:=postHo C1.ho ⟨11,0,0,false,0,false,0,[]⟩ } f1 f3 hs nm D v3):=h3
 have hS3:blk v3 M (mcL G.P C1) 125:=h3.m
 clear h3 H2
 go_wp2_with fail
 refine hK2.out _ _ hS3 (fun hS2=>?_)
 clear hK2 K2 hS hS2 hS3
 refine wpAnyH_done (by kernel_rfl) ?_ _
 go_wp2_with fail
 first | go_end0 | (simp only[Exit.inBlock,Exit.then];refine bodyPost_ret (results_none rfl _ _ _) rfl ?_) | refine bodyPost_ret (results_none rfl _ _ _) rfl ?_
 exact⟨rfl,by rw[HE.out];exact H3.out⟩
theorem restart_any {w0:World} {M:Nat} {G:Lg} {C:Co} {f1 f3:Nat} {hs:Nat→Hd} {nm:Nat} {D:DataW Unit} {W:World} (h:mc w0 M G C f1 f3 hs nm D W):Calls Tryz.prog 38 #[.pointer (some ⟨M,0,none⟩)] W fun o w'=>o = .returned (.tuple #[])∧mc w0 M G (rstC C) f1 f3 hs nm D w':=by
 unfold rstC rstT
 by_cases hp:(C.p == 7)=true
 ·cases ha:C.ak
  ·have:=rst_yes h hp ha
   simpa[hp,ha] using this
  ·have:=rst_old h hp ha
   simpa[hp,ha] using this
 ·have hp':(C.p == 7)=false:=by simpa using hp
  cases ha:C.ak
  ·have:=rst_no h hp' ha
   simpa[hp',ha] using this
  ·have:=rst_off h hp' ha
   simpa[hp',ha] using this
end Go.Proofs.YtkfcfigbgmbaiaaGreat
