import Derived.Test.YtkfcfigbgmbaiaaGreatK34
import Derived.Test.YtkfcfigbgmbaiaaGreatK32
import Derived.Deep.RegionHeld3
namespace Go.Proofs.YtkfcfigbgmbaiaaGreat
open Go.RowKit
set_option linter.unusedVariables false
set_option maxHeartbeats 16000000
def stZ (te re:Int):Int:=if te=256 then 2 else if 128≤te∨128≤re then 1 else 0
theorem stateOf_Z (w:World) (te re:Int):Calls Tryz.prog 70 #[.bool (te == 256),.int .i64 te,.int .i64 re] w fun o w'=>o = .returned (.int .i64 (stZ te re))∧w=w':=by
 have h:=stateOf_any w (if te=256 then 7 else 0) te re (te == 256) (by by_cases e:te=256 <;> simp[e])
 have e:esZ (if te=256 then 7 else 0) te re=stZ te re:=by
  unfold esZ stZ
  by_cases e:te=256 <;> simp[e]
 rw[e] at h
 exact h
theorem lh.other {w0:World} {G:Lg} {H:Ho} {f1 f3:Nat} {hs:Nat→Hd} {nm:Nat} {D:DataW Unit} {W W':World} (h:lh w0 G H f1 f3 hs nm D W) (M:Nat) (hM:M≠G.P∧M≠G.mb∧M≠G.gf∧M≠G.gb∧M≠G.gr∧M≠G.gq∧w0.heap.size≤M) (he:∀ q,q≠M→W'.heap[q]?=W.heap[q]?) (hz:W'.heap.size=W.heap.size) (hb':Below w0.heap.size w0 W'):lh w0 G H f1 f3 hs nm D W':=by
 obtain⟨a1,a2,a3,a4,a5,a6,a7⟩:=hM
 refine⟨h.p.kept (he _ (Ne.symm a1)),h.f.same (he _ (Ne.symm a3)),h.x.at0 (he _ (Ne.symm a4)) hb',h.r.keep (he _ (Ne.symm a5)),h.rz.up (he _ (Ne.symm a5)),h.q.keep (he _ (Ne.symm a6)),h.qz.up (he _ (Ne.symm a6)),?_,hb',by rw[hz];exact h.hi,h.d,h.bd⟩
 obtain⟨es,clock,q1,q2⟩:=h.m
 exact⟨es,clock,(he _ (Ne.symm a2)).trans q1,q2⟩
structure mc (w0:World) (M:Nat) (G:Lg) (C:Co) (f1 f3:Nat) (hs:Nat→Hd) (nm:Nat) (D:DataW Unit) (W:World):Prop where
 m:blk W M (mcL G.P C) 125
 h:lh w0 G C.ho f1 f3 hs nm D W
 o:M≠G.P∧M≠G.mb∧M≠G.gf∧M≠G.gb∧M≠G.gr∧M≠G.gq∧w0.heap.size≤M
theorem mc.below {w0:World} {M:Nat} {G:Lg} {C:Co} {f1 f3:Nat} {hs:Nat→Hd} {nm:Nat} {D:DataW Unit} {W W':World} (h:mc w0 M G C f1 f3 hs nm D W) (hb:Below W.heap.size W W'):mc w0 M G C f1 f3 hs nm D W':=⟨h.m.below hb,h.h.below hb,h.o⟩
theorem mc.set {w0:World} {M:Nat} {G:Lg} {C C':Co} {f1 f3:Nat} {hs:Nat→Hd} {nm:Nat} {D:DataW Unit} {W:World} (h:mc w0 M G C f1 f3 hs nm D W) (k:Nat) (v:Value) (e:(mcL G.P C).set k v=mcL G.P C') (eh:C'.ho=C.ho):mc w0 M G C' f1 f3 hs nm D (W.setCell ⟨M,k,none⟩ v):=by
 refine⟨by rw[← e];exact h.m.set k v,?_,h.o⟩
 rw[eh]
 exact h.h.other M h.o (fun q hq=>heap_setCell_other W ⟨M,k,none⟩ q _ hq) (by simp) (h.h.b.setCell (by exact h.o.2.2.2.2.2.2) _)
theorem mc.post {w0:World} {M:Nat} {G:Lg} {C:Co} {f1 f3:Nat} {hs:Nat→Hd} {nm:Nat} {D:DataW Unit} {W:World} (h:mc w0 M G C f1 f3 hs nm D W) (k a:Int) :
  Calls Tryz.prog 87 #[.pointer (some ⟨G.P,0,none⟩),.agg #[.int .i64 k,.int .i64 a,.int .i64 0,.bool false,.int .u32 0,.bool false,.int .i64 0,.slice none 0 0]] W fun o w'=>o = .returned (.tuple #[])∧mc w0 M G { C with ho:=postHo C.ho ⟨k,a,0,false,0,false,0,[]⟩ } f1 f3 hs nm D w':=by
 refine (h.h.post ⟨k,a,0,false,0,false,0,[]⟩ none 0 0 (none8 _) (Nat.zero_le _)).mono ?_
 rintro o w' ⟨rfl,h1,h2,h3⟩;exact⟨rfl,h.m.kept (h2 M h.o.1 h.o.2.2.2.2.2.1 h.m.lt),h1,h.o⟩
set_option maxRecDepth 20000 in
theorem state_any {w0:World} {M:Nat} {G:Lg} {C:Co} {f1 f3:Nat} {hs:Nat→Hd} {nm:Nat} {D:DataW Unit} {W:World} (h:mc w0 M G C f1 f3 hs nm D W):Calls Tryz.prog 106 #[.pointer (some ⟨M,0,none⟩)] W fun o w'=>o = .returned (.int .i64 (stZ C.te C.re))∧mc w0 M G C f1 f3 hs nm D w'∧Below W.heap.size W w':=by
 have HS:Hid (∀ X,Calls Tryz.prog 70 #[.bool (C.te == 256),.int .i64 C.te,.int .i64 C.re] X fun o w'=>o = .returned (.int .i64 (stZ C.te C.re))∧X=w'):=fun X=>stateOf_Z X C.te C.re
 have H0:Hid (mc w0 M G C f1 f3 hs nm D W):=h
 clear h;go_enter Tryz.func106,Tryz.ntmps106
 go_wp2_with fail;refine wp_region_held (S:=fun X=>mc w0 M G C f1 f3 hs nm D X) (by kernel_rfl) ?_
 have hS:mc w0 M G C f1 f3 hs nm D (World.drew W):=H0.out.below (Below.refl _ _).drew
 have HBD:Hid (Below W.heap.size W (World.drew W)):=(Below.refl _ _).drew
 clear H0;change wpAnyH Tryz.prog _ _ _ _ _ _ _ (World.drew W)
 generalize World.drew W=v0 at *;refine wV 0 (.pointer (some ⟨M,0,none⟩)) rfl (by kernel_rfl) ?_ hS ?_ fun _ _ _ h=>h
 ·intro W hSw;clear hS;go_simp
 simp only[Act.put,aA,aB,aC,aD,aE]
 refine wV 1 (.pointer (some ⟨M,0,none⟩)) rfl (by kernel_rfl) ?_ hS ?_ fun _ _ _ h=>h
 ·intro W hSw;clear hS;go_simp
 simp only[Act.put,aA,aB,aC,aD,aE,aF];refine wV 2 (.pointer (some ⟨M,1,none⟩)) rfl (by kernel_rfl) ?_ hS ?_ fun _ _ _ h=>h
 ·intro W hSw;clear hS;go_simp
 simp only[Act.put,aA,aB,aC,aD,aE,aF];refine wV 3 (.int .i64 C.te) rfl (by kernel_rfl) ?_ hS ?_ fun _ _ _ h=>h
 ·intro W hSw;clear hS;have y:=hSw.m.cell 1 (.int .i64 C.te) rfl
  go_simp
 simp only[Act.put,aA,aB,aC,aD,aE,aF];refine wV 4 (.bool (C.te == 256)) rfl (by kernel_rfl) ?_ hS ?_ fun _ _ _ h=>h
 ·intro W hSw;clear hS;go_simp
 simp only[Act.put,aA,aB,aC,aD,aE,aF];refine wV 5 (.pointer (some ⟨M,0,none⟩)) rfl (by kernel_rfl) ?_ hS ?_ fun _ _ _ h=>h
 ·intro W hSw;clear hS;go_simp
 simp only[Act.put,aA,aB,aC,aD,aE,aF];refine wV 6 (.pointer (some ⟨M,0,none⟩)) rfl (by kernel_rfl) ?_ hS ?_ fun _ _ _ h=>h
 ·intro W hSw;clear hS;go_simp
 simp only[Act.put,aA,aB,aC,aD,aE,aF];refine wV 7 (.pointer (some ⟨M,1,none⟩)) rfl (by kernel_rfl) ?_ hS ?_ fun _ _ _ h=>h
 ·intro W hSw;clear hS;go_simp
 simp only[Act.put,aA,aB,aC,aD,aE,aF];refine wV 8 (.int .i64 C.te) rfl (by kernel_rfl) ?_ hS ?_ fun _ _ _ h=>h
 ·intro W hSw;clear hS;have y:=hSw.m.cell 1 (.int .i64 C.te) rfl
  go_simp
 simp only[Act.put,aA,aB,aC,aD,aE,aF];refine wV 9 (.pointer (some ⟨M,0,none⟩)) rfl (by kernel_rfl) ?_ hS ?_ fun _ _ _ h=>h
 ·intro W hSw;clear hS;go_simp
 simp only[Act.put,aA,aB,aC,aD,aE,aF];refine wV 10 (.pointer (some ⟨M,0,none⟩)) rfl (by kernel_rfl) ?_ hS ?_ fun _ _ _ h=>h
 ·intro W hSw;clear hS;go_simp
 simp only[Act.put,aA,aB,aC,aD,aE,aF];refine wV 11 (.pointer (some ⟨M,2,none⟩)) rfl (by kernel_rfl) ?_ hS ?_ fun _ _ _ h=>h
 ·intro W hSw;clear hS;go_simp
 simp only[Act.put,aA,aB,aC,aD,aE,aF];refine wV 12 (.int .i64 C.re) rfl (by kernel_rfl) ?_ hS ?_ fun _ _ _ h=>h
 ·intro W hSw;clear hS;have y:=hSw.m.cell 2 (.int .i64 C.re) rfl
  go_simp
 simp only[Act.put,aA,aB,aC,aD,aE,aF];refine wpAnyH_all (rs:=[13]) (by kernel_rfl) (by simp) ?_
 refine AllReadyH.cons rfl (fun K2 hK2=>?_) AllReadyH.nil
 go_simp;refine (HS.out _).mono ?_
 rintro o v1 ⟨rfl,rfl⟩;go_wp2_with fail;refine hK2.out _ _ hS (fun hS2=>?_)
 clear hK2 K2 hS;have hS:=hS2
 clear hS2;refine wV 14 (.int .i64 (stZ C.te C.re)) rfl (by kernel_rfl) ?_ hS ?_ fun _ _ _ h=>h
 ·intro W hSw;clear hS;go_simp
 simp only[Act.put,aA,aB,aC,aD,aE,aF];refine wpAnyH_done (by kernel_rfl) ?_ _
 go_wp2_with fail;go_ret;exact⟨rfl,hS,HBD.out⟩
end Go.Proofs.YtkfcfigbgmbaiaaGreat
