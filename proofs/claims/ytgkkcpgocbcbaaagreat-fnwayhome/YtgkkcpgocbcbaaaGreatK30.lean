import Derived.Test.YtgkkcpgocbcbaaaGreatK29
import Derived.Test.YtgkkcpgocbcbaaaGreatK04
import Derived.Test.YtgkkcpgocbcbaaaGreatK23
import Derived.Test.YtgkkcpgocbcbaaaGreatK02
import Derived.Test.YtgkkcpgocbcbaaaGreatK27
import Derived.Deep.RegionHeld3
namespace Go.Proofs.YtgkkcpgocbcbaaaGreat
open Go.RowKit
set_option linter.unusedVariables false
def onWb (b:R8):Bool:=b.x == 2 || b.x == 3
def wireIx (bx:List R8):Nat:=bx.findIdx onWb
theorem bsy.ix {bx:List R8} {r:Int} (h:bsy bx r):(r = -1∧¬ wireIx bx<bx.length)∨(r=(wireIx bx:Int)∧wireIx bx<bx.length):=by
 have e:∀ b,onWb b=true↔onW b:=fun b=>by simp[onWb,onW]
 rcases h with⟨k,hk,h1,h2,rfl⟩|⟨h1,rfl⟩
 ·right
  have e:wireIx bx=k:=by
   unfold wireIx
   rw[List.findIdx_eq hk]
   refine⟨(e _).2 h1,fun j hj=>?_⟩
   have:=h2 j (by omega) hj
   rw[← e] at this
   simpa using this
  rw[e]
  exact⟨rfl,hk⟩
 ·left
  refine⟨rfl,?_⟩
  have:wireIx bx=bx.length:=List.findIdx_eq_length.2 fun b hb=>by
   obtain⟨j,hj,rfl⟩:=List.getElem_of_mem hb
   have:=h1 j hj
   rw[← e] at this
   simpa using this
  omega
theorem wireIx_on {bx:List R8} (h:wireIx bx<bx.length):bx[wireIx bx].x=2∨bx[wireIx bx].x=3:=by
 have e:onWb (bx[wireIx bx])=true:=List.findIdx_getElem (xs:=bx) (p:=onWb) (w:=h)
 generalize bx[wireIx bx]=b at *
 simpa[onWb] using e
def freeHo (H:Ho) (k:Nat):Ho:={ H with bx:=H.bx.set k z8 }
def stHo (H:Ho) (k:Nat) (v:Int):Ho:=if h:k<H.bx.length then { H with bx:=H.bx.set k { H.bx[k] with x:=v } } else H
def relHo (H:Ho) (sent:Bool):Ho:=
 if h:wireIx H.bx<H.bx.length then
  (if sent=true then postHo (freeHo H (wireIx H.bx)) ⟨1,H.bx[wireIx H.bx].y,0,H.bx[wireIx H.bx].e,H.bx[wireIx H.bx].i,H.bx[wireIx H.bx].r,H.bx[wireIx H.bx].d,H.bx[wireIx H.bx].l⟩
   else if H.bx[wireIx H.bx].x=3 then postHo (freeHo H (wireIx H.bx)) (ev3 6 H.bx[wireIx H.bx].y 0)
   else stHo H (wireIx H.bx) 1)
 else H
theorem relHo_none {H:Ho} {sent:Bool} (h:¬ wireIx H.bx<H.bx.length):relHo H sent=H:=by unfold relHo;rw[dif_neg h]
structure reS (w:World) (L:List Value) (W:World):Prop where
 p:blk W w.heap.size L 30
 r:blk W (w.heap.size+1) Z10 30
theorem reS.new (w:World) (L:List Value):reS w L ((w.alloc (.cells L.toArray 30)).alloc (.cells Z10.toArray 30)):=by
 refine⟨(blk.new w _ 30).alloc _,?_⟩
 have:=blk.new (w.alloc (.cells L.toArray 30)) Z10 30
 simpa using this
theorem reS.below {w:World} {L:List Value} {W W':World} (h:reS w L W) (hb:Below W.heap.size W W'):reS w L W':=⟨h.p.below hb,h.r.below hb⟩
theorem reS.kept {w:World} {L:List Value} {W W':World} (h:reS w L W) (hp:W'.heap[w.heap.size]?=W.heap[w.heap.size]?) (hr:W'.heap[w.heap.size+1]?=W.heap[w.heap.size+1]?):reS w L W':=⟨h.p.kept hp,h.r.kept hr⟩
abbrev Z8:List Value:=[.int .i64 0,.int .i64 0,.int .i64 0,.bool false,.int .u32 0,.bool false,.int .i64 0,.slice none 0 0]
theorem rowQ8.glt {B T E g n k:Nat} {bs:List R8} {W:World} (h:rowQ8 B T E g n k bs W):B≤g:=by
 obtain⟨rs,h1,_⟩:=h
 exact h1.lt.1
theorem none8 (W:World):isBytes W none 0 0 []:=⟨rfl,Nat.le_refl _,fun q hq=>(by cases hq),fun h=>absurd rfl h⟩
theorem rowQ8.ghi {B T E g n k:Nat} {bs:List R8} {W:World} (h:rowQ8 B T E g n k bs W):g<T:=by
 obtain⟨rs,h1,_,_,h2,_⟩:=h
 exact h2
theorem stHo_yes {H:Ho} {k:Nat} (hk:k<H.bx.length) (v:Int):stHo H k v = { H with bx:=H.bx.set k { H.bx[k] with x:=v } }:=by
 unfold stHo
 rw[dif_pos hk]
def tagBb (t:Int) (b:R8):Bool:=!(b.x == 0) && b.y == t
def tagIx (bx:List R8) (t:Int):Nat:=bx.findIdx (tagBb t)
theorem fstB.tag {bx:List R8} {t r:Int} (h:fstB (tagB t) bx r):(r = -1∧¬ tagIx bx t<bx.length)∨(r=(tagIx bx t:Int)∧tagIx bx t<bx.length):=by
 have e:∀ b,tagBb t b=true↔tagB t b:=fun b=>by simp[tagBb,tagB]
 rcases h with⟨k,hk,h1,h2,rfl⟩|⟨h1,rfl⟩
 ·right
  have e:tagIx bx t=k:=by
   unfold tagIx
   rw[List.findIdx_eq hk]
   refine⟨(e _).2 h1,fun j hj=>?_⟩
   have:=h2 j (by omega) hj
   rw[← e] at this
   simpa using this
  rw[e]
  exact⟨rfl,hk⟩
 ·left
  refine⟨rfl,?_⟩
  have:tagIx bx t=bx.length:=List.findIdx_eq_length.2 fun b hb=>by
   obtain⟨j,hj,rfl⟩:=List.getElem_of_mem hb
   have:=h1 j hj
   rw[← e] at this
   simpa using this
  omega
set_option maxHeartbeats 8000000 in
set_option maxRecDepth 20000 in
theorem validCore_gen (w:World) (C:Co) (s:Sl) (VP CP MP SP:Prop) (hv:∀ W,Below w.heap.size w W→Calls Tryz.prog 44 #[.agg (hoL C.ho s).toArray] W fun o w'=>retB o VP∧Below W.heap.size W w')
  (hc:(0≤C.p∧C.p≤7)→∀ W,Below w.heap.size w W→Calls Tryz.prog 52 #[.agg (coL C s).toArray] W fun o w'=>retB o CP∧Below W.heap.size W w')
  (hm:(0≤C.p∧C.p≤7)→∀ W,Below w.heap.size w W→Calls Tryz.prog 53 #[.agg (coL C s).toArray] W fun o w'=>retB o MP∧Below W.heap.size W w')
  (hz:VP→∀ W,Below w.heap.size w W→Calls Tryz.prog 54 #[.agg (coL C s).toArray] W fun o w'=>retB o SP∧Below W.heap.size W w') :
  Calls Tryz.prog 36 #[.agg (coL C s).toArray] w fun o w'=>retB o ((0≤C.p∧C.p≤7)∧VP∧CP∧MP∧((C.p=1∧C.tx=true)↔SP))∧Below w.heap.size w w':=by
 have HV:Hid (∀ W,Below w.heap.size w W→Calls Tryz.prog 44 #[.agg (hoL C.ho s).toArray] W fun o w'=>retB o VP∧Below W.heap.size W w'):=hv
 have HC0:Hid ((0≤C.p∧C.p≤7)→∀ W,Below w.heap.size w W→Calls Tryz.prog 52 #[.agg (coL C s).toArray] W fun o w'=>retB o CP∧Below W.heap.size W w'):=hc
 have HM0:Hid ((0≤C.p∧C.p≤7)→∀ W,Below w.heap.size w W→Calls Tryz.prog 53 #[.agg (coL C s).toArray] W fun o w'=>retB o MP∧Below W.heap.size W w'):=hm
 have HZ0:Hid (VP→∀ W,Below w.heap.size w W→Calls Tryz.prog 54 #[.agg (coL C s).toArray] W fun o w'=>retB o SP∧Below W.heap.size W w'):=hz
 have HIR:Hid (∀ W v l m,Calls Tryz.prog 51 #[.int .i64 v,.int .i64 l,.int .i64 m] W fun o w'=>o = .returned (.bool (decide (l≤v∧v≤m)))∧W=w'):=inRange_any
 have H0:Hid (ctS w w.heap.size C s (w.alloc (.cells (coL C s).toArray 39))):=ctS.new w C s
 have y0:=H0.out.p.cell 0 (.int .i64 C.p) rfl
 clear hv hc hm hz
 go_enter Tryz.func36,Tryz.ntmps36
 generalize hW0:w.alloc (.cells (coL C s).toArray 39)=W0 at *
 by_cases hin:0≤C.p∧C.p≤7
 ·have din:decide (0≤C.p∧C.p≤7)=true:=by simpa using hin
  have HIN:Hid (0≤C.p∧C.p≤7):=hin
  have HC:Hid (∀ W,Below w.heap.size w W→Calls Tryz.prog 52 #[.agg (coL C s).toArray] W fun o w'=>retB o CP∧Below W.heap.size W w'):=HC0.out hin
  have HM:Hid (∀ W,Below w.heap.size w W→Calls Tryz.prog 53 #[.agg (coL C s).toArray] W fun o w'=>retB o MP∧Below W.heap.size W w'):=HM0.out hin
  clear hin HC0 HM0
  go_wp2_with (first
   | (go_at_call 51;refine (HIR.out _ _ _ _).mono ?_;rintro o w2 ⟨rfl,rfl⟩)
   | (refine wpList_load_midG (by first | rfl | (simp[Region.wanted,yielded];done) | (simp[Region.wanted,yielded];omega)) 30 (.tmp 8) rfl w.heap.size 11 rfl (hoL C.ho s) _ H0.out.p.hostAt Tryz.underlying30 rfl (sz39h C.ho s) ?_))
  clear hW0
  refine (HV.out _ H0.out.b).mono ?_
  rintro o w1 ⟨⟨b,rfl,hvp⟩,hb1⟩
  have H1:Hid (ctS w w.heap.size C s w1):=H0.out.below hb1
  clear hb1 H0 HV y0
  cases b
  ·go_wp2_with fail
   go_ret
   exact⟨⟨false,rfl,by simp only[Bool.false_eq_true,false_iff];rintro⟨_,h,_⟩;exact absurd (hvp.2 h) (by simp)⟩,H1.out.b⟩
  have HVP:Hid VP:=hvp.1 rfl
  have HS:Hid (∀ W,Below w.heap.size w W→Calls Tryz.prog 54 #[.agg (coL C s).toArray] W fun o w'=>retB o SP∧Below W.heap.size W w'):=HZ0.out HVP.out
  clear hvp HZ0
  go_wp2_with fail
  refine wp_region_held (S:=fun X=>ctS w w.heap.size C s X) (by kernel_rfl) ?_
  have hS:ctS w w.heap.size C s (World.drew w1):=H1.out.below (Below.refl _ _).drew
  clear H1
  change wpAnyH Tryz.prog _ _ _ _ _ _ _ (World.drew w1)
  generalize World.drew w1=v0 at *
  refine wT (i:=0) (v:=.agg (coL C s).toArray) rfl (by kernel_rfl) (by kernel_rfl) (by kernel_rfl) (fun _ _ _ h=>h) (yieldsIf_load_mid (by rfl) 39 (.tmp 1) rfl w.heap.size 0 rfl (coL C s) _ (fun X h=>h.p.load) Tryz.underlying39 rfl (szC41L C s)) hS ?_
  simp only[Act.put,aA,aB,aC,aD,aE]
  refine wpAnyH_all (rs:=[1]) (by kernel_rfl) (by simp) ?_
  refine AllReadyH.cons rfl (fun K2 hK2=>?_) AllReadyH.nil
  go_simp
  refine (HC.out _ hS.b).mono ?_
  rintro o v1 ⟨⟨b,rfl,hx⟩,hb⟩
  have hS1:=hS.below hb
  have HXC:Hid (b=true↔CP):=hx
  clear hb hx
  go_wp2_with fail
  refine hK2.out _ _ hS1 (fun hS2=>?_)
  clear hK2 K2 hS1 hS
  have hS:=hS2
  clear hS2
  cases b
  ·refine wT (i:=2) (v:=.bool false) rfl (by kernel_rfl) (by kernel_rfl) (by kernel_rfl) (fun _ _ _ h=>h) (Or.inl ⟨by rfl,?_⟩) hS ?_
   ·intro W hSw
    clear hS
    go_simp
   simp only[Act.put,aA,aB,aC,aD,aE,aF]
   refine wT (i:=3) (v:=undef) rfl (by kernel_rfl) (by kernel_rfl) (by kernel_rfl) (fun _ _ _ h=>h) (Or.inr ⟨by rfl,rfl⟩) hS ?_
   simp only[Act.put,aA,aB,aC,aD,aE,aF]
   refine wT (i:=4) (v:=undef) rfl (by kernel_rfl) (by kernel_rfl) (by kernel_rfl) (fun _ _ _ h=>h) (Or.inr ⟨by rfl,rfl⟩) hS ?_
   simp only[Act.put,aA,aB,aC,aD,aE,aF]
   refine wT (i:=5) (v:=.bool false) rfl (by kernel_rfl) (by kernel_rfl) (by kernel_rfl) (fun _ _ _ h=>h) (Or.inl ⟨by rfl,?_⟩) hS ?_
   ·intro W hSw
    clear hS
    go_simp
   simp only[Act.put,aA,aB,aC,aD,aE,aF]
   refine wT (i:=6) (v:=.bool false) rfl (by kernel_rfl) (by kernel_rfl) (by kernel_rfl) (fun _ _ _ h=>h) (Or.inl ⟨by rfl,?_⟩) hS ?_
   ·intro W hSw
    clear hS
    go_simp
   simp only[Act.put,aA,aB,aC,aD,aE,aF]
   refine wT (i:=7) (v:=undef) rfl (by kernel_rfl) (by kernel_rfl) (by kernel_rfl) (fun _ _ _ h=>h) (Or.inr ⟨by rfl,rfl⟩) hS ?_
   simp only[Act.put,aA,aB,aC,aD,aE,aF]
   refine wT (i:=8) (v:=undef) rfl (by kernel_rfl) (by kernel_rfl) (by kernel_rfl) (fun _ _ _ h=>h) (Or.inr ⟨by rfl,rfl⟩) hS ?_
   simp only[Act.put,aA,aB,aC,aD,aE,aF]
   refine wT (i:=9) (v:=undef) rfl (by kernel_rfl) (by kernel_rfl) (by kernel_rfl) (fun _ _ _ h=>h) (Or.inr ⟨by rfl,rfl⟩) hS ?_
   simp only[Act.put,aA,aB,aC,aD,aE,aF]
   refine wT (i:=10) (v:=undef) rfl (by kernel_rfl) (by kernel_rfl) (by kernel_rfl) (fun _ _ _ h=>h) (Or.inr ⟨by rfl,rfl⟩) hS ?_
   simp only[Act.put,aA,aB,aC,aD,aE,aF]
   refine wT (i:=11) (v:=undef) rfl (by kernel_rfl) (by kernel_rfl) (by kernel_rfl) (fun _ _ _ h=>h) (Or.inr ⟨by rfl,rfl⟩) hS ?_
   simp only[Act.put,aA,aB,aC,aD,aE,aF]
   refine wT (i:=12) (v:=undef) rfl (by kernel_rfl) (by kernel_rfl) (by kernel_rfl) (fun _ _ _ h=>h) (Or.inr ⟨by rfl,rfl⟩) hS ?_
   simp only[Act.put,aA,aB,aC,aD,aE,aF]
   refine wT (i:=13) (v:=undef) rfl (by kernel_rfl) (by kernel_rfl) (by kernel_rfl) (fun _ _ _ h=>h) (Or.inr ⟨by rfl,rfl⟩) hS ?_
   simp only[Act.put,aA,aB,aC,aD,aE,aF]
   refine wT (i:=14) (v:=undef) rfl (by kernel_rfl) (by kernel_rfl) (by kernel_rfl) (fun _ _ _ h=>h) (Or.inr ⟨by rfl,rfl⟩) hS ?_
   simp only[Act.put,aA,aB,aC,aD,aE,aF]
   refine wT (i:=15) (v:=undef) rfl (by kernel_rfl) (by kernel_rfl) (by kernel_rfl) (fun _ _ _ h=>h) (Or.inr ⟨by rfl,rfl⟩) hS ?_
   simp only[Act.put,aA,aB,aC,aD,aE,aF]
   refine wT (i:=16) (v:=undef) rfl (by kernel_rfl) (by kernel_rfl) (by kernel_rfl) (fun _ _ _ h=>h) (Or.inr ⟨by rfl,rfl⟩) hS ?_
   simp only[Act.put,aA,aB,aC,aD,aE,aF]
   refine wT (i:=17) (v:=.bool false) rfl (by kernel_rfl) (by kernel_rfl) (by kernel_rfl) (fun _ _ _ h=>h) (Or.inl ⟨by rfl,?_⟩) hS ?_
   ·intro W hSw
    clear hS
    go_simp
   simp only[Act.put,aA,aB,aC,aD,aE,aF]
   refine wT (i:=18) (v:=.bool false) rfl (by kernel_rfl) (by kernel_rfl) (by kernel_rfl) (fun _ _ _ h=>h) (Or.inl ⟨by rfl,?_⟩) hS ?_
   ·intro W hSw
    clear hS
    go_simp
   simp only[Act.put,aA,aB,aC,aD,aE,aF]
   refine wpAnyH_done (by kernel_rfl) ?_ _
   go_wp2_with fail
   go_ret
   exact⟨⟨_,rfl,by simp only[Bool.false_eq_true,false_iff];rintro⟨_,_,h,_⟩;exact absurd (HXC.out.2 h) (by simp)⟩,hS.b⟩
  refine wT (i:=2) (v:=.bool true) rfl (by kernel_rfl) (by kernel_rfl) (by kernel_rfl) (fun _ _ _ h=>h) (Or.inl ⟨by rfl,?_⟩) hS ?_
  ·intro W hSw
   clear hS
   go_simp
  simp only[Act.put,aA,aB,aC,aD,aE,aF]
  refine wT (i:=3) (v:=.agg (coL C s).toArray) rfl (by kernel_rfl) (by kernel_rfl) (by kernel_rfl) (fun _ _ _ h=>h) (yieldsIf_load_mid (by rfl) 39 (.tmp 1) rfl w.heap.size 0 rfl (coL C s) _ (fun X h=>h.p.load) Tryz.underlying39 rfl (szC41L C s)) hS ?_
  simp only[Act.put,aA,aB,aC,aD,aE,aF]
  refine wpAnyH_all (rs:=[4]) (by kernel_rfl) (by simp) ?_
  refine AllReadyH.cons rfl (fun K2 hK2=>?_) AllReadyH.nil
  go_simp
  refine (HM.out _ hS.b).mono ?_
  rintro o v2 ⟨⟨b,rfl,hx⟩,hb⟩
  have hS1:=hS.below hb
  have HXM:Hid (b=true↔MP):=hx
  clear hb hx
  go_wp2_with fail
  refine hK2.out _ _ hS1 (fun hS2=>?_)
  clear hK2 K2 hS1 hS
  have hS:=hS2
  clear hS2
  cases b
  ·refine wT (i:=5) (v:=.bool false) rfl (by kernel_rfl) (by kernel_rfl) (by kernel_rfl) (fun _ _ _ h=>h) (Or.inl ⟨by rfl,?_⟩) hS ?_
   ·intro W hSw
    clear hS
    go_simp
   simp only[Act.put,aA,aB,aC,aD,aE,aF]
   refine wT (i:=6) (v:=.bool false) rfl (by kernel_rfl) (by kernel_rfl) (by kernel_rfl) (fun _ _ _ h=>h) (Or.inl ⟨by rfl,?_⟩) hS ?_
   ·intro W hSw
    clear hS
    go_simp
   simp only[Act.put,aA,aB,aC,aD,aE,aF]
   refine wT (i:=7) (v:=undef) rfl (by kernel_rfl) (by kernel_rfl) (by kernel_rfl) (fun _ _ _ h=>h) (Or.inr ⟨by rfl,rfl⟩) hS ?_
   simp only[Act.put,aA,aB,aC,aD,aE,aF]
   refine wT (i:=8) (v:=undef) rfl (by kernel_rfl) (by kernel_rfl) (by kernel_rfl) (fun _ _ _ h=>h) (Or.inr ⟨by rfl,rfl⟩) hS ?_
   simp only[Act.put,aA,aB,aC,aD,aE,aF]
   refine wT (i:=9) (v:=undef) rfl (by kernel_rfl) (by kernel_rfl) (by kernel_rfl) (fun _ _ _ h=>h) (Or.inr ⟨by rfl,rfl⟩) hS ?_
   simp only[Act.put,aA,aB,aC,aD,aE,aF]
   refine wT (i:=10) (v:=undef) rfl (by kernel_rfl) (by kernel_rfl) (by kernel_rfl) (fun _ _ _ h=>h) (Or.inr ⟨by rfl,rfl⟩) hS ?_
   simp only[Act.put,aA,aB,aC,aD,aE,aF]
   refine wT (i:=11) (v:=undef) rfl (by kernel_rfl) (by kernel_rfl) (by kernel_rfl) (fun _ _ _ h=>h) (Or.inr ⟨by rfl,rfl⟩) hS ?_
   simp only[Act.put,aA,aB,aC,aD,aE,aF]
   refine wT (i:=12) (v:=undef) rfl (by kernel_rfl) (by kernel_rfl) (by kernel_rfl) (fun _ _ _ h=>h) (Or.inr ⟨by rfl,rfl⟩) hS ?_
   simp only[Act.put,aA,aB,aC,aD,aE,aF]
   refine wT (i:=13) (v:=undef) rfl (by kernel_rfl) (by kernel_rfl) (by kernel_rfl) (fun _ _ _ h=>h) (Or.inr ⟨by rfl,rfl⟩) hS ?_
   simp only[Act.put,aA,aB,aC,aD,aE,aF]
   refine wT (i:=14) (v:=undef) rfl (by kernel_rfl) (by kernel_rfl) (by kernel_rfl) (fun _ _ _ h=>h) (Or.inr ⟨by rfl,rfl⟩) hS ?_
   simp only[Act.put,aA,aB,aC,aD,aE,aF]
   refine wT (i:=15) (v:=undef) rfl (by kernel_rfl) (by kernel_rfl) (by kernel_rfl) (fun _ _ _ h=>h) (Or.inr ⟨by rfl,rfl⟩) hS ?_
   simp only[Act.put,aA,aB,aC,aD,aE,aF]
   refine wT (i:=16) (v:=undef) rfl (by kernel_rfl) (by kernel_rfl) (by kernel_rfl) (fun _ _ _ h=>h) (Or.inr ⟨by rfl,rfl⟩) hS ?_
   simp only[Act.put,aA,aB,aC,aD,aE,aF]
   refine wT (i:=17) (v:=.bool false) rfl (by kernel_rfl) (by kernel_rfl) (by kernel_rfl) (fun _ _ _ h=>h) (Or.inl ⟨by rfl,?_⟩) hS ?_
   ·intro W hSw
    clear hS
    go_simp
   simp only[Act.put,aA,aB,aC,aD,aE,aF]
   refine wT (i:=18) (v:=.bool false) rfl (by kernel_rfl) (by kernel_rfl) (by kernel_rfl) (fun _ _ _ h=>h) (Or.inl ⟨by rfl,?_⟩) hS ?_
   ·intro W hSw
    clear hS
    go_simp
   simp only[Act.put,aA,aB,aC,aD,aE,aF]
   refine wpAnyH_done (by kernel_rfl) ?_ _
   go_wp2_with fail
   go_ret
   exact⟨⟨_,rfl,by simp only[Bool.false_eq_true,false_iff];rintro⟨_,_,_,h,_⟩;exact absurd (HXM.out.2 h) (by simp)⟩,hS.b⟩
  refine wT (i:=5) (v:=.bool true) rfl (by kernel_rfl) (by kernel_rfl) (by kernel_rfl) (fun _ _ _ h=>h) (Or.inl ⟨by rfl,?_⟩) hS ?_
  ·intro W hSw
   clear hS
   go_simp
  simp only[Act.put,aA,aB,aC,aD,aE,aF]
  refine wT (i:=6) (v:=.bool true) rfl (by kernel_rfl) (by kernel_rfl) (by kernel_rfl) (fun _ _ _ h=>h) (Or.inl ⟨by rfl,?_⟩) hS ?_
  ·intro W hSw
   clear hS
   go_simp
  simp only[Act.put,aA,aB,aC,aD,aE,aF]
  refine wT (i:=7) (v:=.agg (coL C s).toArray) rfl (by kernel_rfl) (by kernel_rfl) (by kernel_rfl) (fun _ _ _ h=>h) (yieldsIf_load_mid (by rfl) 39 (.tmp 1) rfl w.heap.size 0 rfl (coL C s) _ (fun X h=>h.p.load) Tryz.underlying39 rfl (szC41L C s)) hS ?_
  simp only[Act.put,aA,aB,aC,aD,aE,aF]
  refine wT (i:=9) (v:=.pointer (some ⟨w.heap.size,0,none⟩)) rfl (by kernel_rfl) (by kernel_rfl) (by kernel_rfl) (fun _ _ _ h=>h) (Or.inl ⟨by rfl,?_⟩) hS ?_
  ·intro W hSw
   clear hS
   go_simp
  simp only[Act.put,aA,aB,aC,aD,aE,aF]
  refine wT (i:=10) (v:=.int .i64 C.p) rfl (by kernel_rfl) (by kernel_rfl) (by kernel_rfl) (fun _ _ _ h=>h) (Or.inl ⟨by rfl,?_⟩) hS ?_
  ·intro W hSw
   clear hS
   have y:=hSw.p.cell 0 (.int .i64 C.p) rfl
   go_simp
  simp only[Act.put,aA,aB,aC,aD,aE,aF]
  by_cases hp1:C.p=1
  ·have dp1:(C.p == 1)=true:=by simpa using hp1
   refine wT (i:=11) (v:=.bool true) rfl (by kernel_rfl) (by kernel_rfl) (by kernel_rfl) (fun _ _ _ h=>h) (Or.inl ⟨by rfl,?_⟩) hS ?_
   ·intro W hSw
    clear hS
    go_simp
   simp only[Act.put,aA,aB,aC,aD,aE,aF]
   refine wpAnyH_all (rs:=[8]) (by kernel_rfl) (by simp) ?_
   refine AllReadyH.cons rfl (fun K2 hK2=>?_) AllReadyH.nil
   go_simp
   refine (HS.out _ hS.b).mono ?_
   rintro o v3 ⟨⟨b,rfl,hx⟩,hb⟩
   have hS1:=hS.below hb
   have HXS:Hid (b=true↔SP):=hx
   clear hb hx
   go_wp2_with fail
   refine hK2.out _ _ hS1 (fun hS2=>?_)
   clear hK2 K2 hS1 hS
   have hS:=hS2
   clear hS2
   refine wT (i:=12) (v:=.bool true) rfl (by kernel_rfl) (by kernel_rfl) (by kernel_rfl) (fun _ _ _ h=>h) (Or.inl ⟨by rfl,?_⟩) hS ?_
   ·intro W hSw
    clear hS
    go_simp
   simp only[Act.put,aA,aB,aC,aD,aE,aF]
   refine wT (i:=13) (v:=.pointer (some ⟨w.heap.size,6,none⟩)) rfl (by kernel_rfl) (by kernel_rfl) (by kernel_rfl) (fun _ _ _ h=>h) (Or.inl ⟨by rfl,?_⟩) hS ?_
   ·intro W hSw
    clear hS
    go_simp
   simp only[Act.put,aA,aB,aC,aD,aE,aF]
   refine wT (i:=14) (v:=.bool C.tx) rfl (by kernel_rfl) (by kernel_rfl) (by kernel_rfl) (fun _ _ _ h=>h) (Or.inl ⟨by rfl,?_⟩) hS ?_
   ·intro W hSw
    clear hS
    have y:=hSw.p.cell 6 (.bool C.tx) rfl
    go_simp
   simp only[Act.put,aA,aB,aC,aD,aE,aF]
   refine wT (i:=15) (v:=.bool C.tx) rfl (by kernel_rfl) (by kernel_rfl) (by kernel_rfl) (fun _ _ _ h=>h) (Or.inl ⟨by rfl,?_⟩) hS ?_
   ·intro W hSw
    clear hS
    go_simp
   simp only[Act.put,aA,aB,aC,aD,aE,aF]
   refine wT (i:=16) (v:=.bool (b == C.tx)) rfl (by kernel_rfl) (by kernel_rfl) (by kernel_rfl) (fun _ _ _ h=>h) (Or.inl ⟨by rfl,?_⟩) hS ?_
   ·intro W hSw
    clear hS
    go_simp
   simp only[Act.put,aA,aB,aC,aD,aE,aF]
   refine wT (i:=17) (v:=.bool (b == C.tx)) rfl (by kernel_rfl) (by kernel_rfl) (by kernel_rfl) (fun _ _ _ h=>h) (Or.inl ⟨by rfl,?_⟩) hS ?_
   ·intro W hSw
    clear hS
    go_simp
   simp only[Act.put,aA,aB,aC,aD,aE,aF]
   refine wT (i:=18) (v:=.bool (b == C.tx)) rfl (by kernel_rfl) (by kernel_rfl) (by kernel_rfl) (fun _ _ _ h=>h) (Or.inl ⟨by rfl,?_⟩) hS ?_
   ·intro W hSw
    clear hS
    go_simp
   simp only[Act.put,aA,aB,aC,aD,aE,aF]
   have h1:=HXC.out.1 (by simp)
   have h2:=HXM.out.1 (by simp)
   have h3:=HXS.out
   have h4:=HVP.out
   have h5:=HIN.out
   refine wpAnyH_done (by kernel_rfl) ?_ _
   go_wp2_with fail
   go_ret
   refine⟨⟨_,rfl,?_⟩,hS.b⟩
   simp only[h1,h2,h4,h5,true_and,← h3]
   generalize C.tx=q
   cases b <;> cases q <;> simp[hp1]
  ·have dp1:(C.p == 1)=false:=by simpa using hp1
   refine wT (i:=11) (v:=.bool false) rfl (by kernel_rfl) (by kernel_rfl) (by kernel_rfl) (fun _ _ _ h=>h) (Or.inl ⟨by rfl,?_⟩) hS ?_
   ·intro W hSw
    clear hS
    go_simp
   simp only[Act.put,aA,aB,aC,aD,aE,aF]
   refine wpAnyH_all (rs:=[8]) (by kernel_rfl) (by simp) ?_
   refine AllReadyH.cons rfl (fun K2 hK2=>?_) AllReadyH.nil
   go_simp
   refine (HS.out _ hS.b).mono ?_
   rintro o v3 ⟨⟨b,rfl,hx⟩,hb⟩
   have hS1:=hS.below hb
   have HXS:Hid (b=true↔SP):=hx
   clear hb hx
   go_wp2_with fail
   refine hK2.out _ _ hS1 (fun hS2=>?_)
   clear hK2 K2 hS1 hS
   have hS:=hS2
   clear hS2
   refine wT (i:=12) (v:=.bool false) rfl (by kernel_rfl) (by kernel_rfl) (by kernel_rfl) (fun _ _ _ h=>h) (Or.inl ⟨by rfl,?_⟩) hS ?_
   ·intro W hSw
    clear hS
    go_simp
   simp only[Act.put,aA,aB,aC,aD,aE,aF]
   refine wT (i:=13) (v:=undef) rfl (by kernel_rfl) (by kernel_rfl) (by kernel_rfl) (fun _ _ _ h=>h) (Or.inr ⟨by rfl,rfl⟩) hS ?_
   simp only[Act.put,aA,aB,aC,aD,aE,aF]
   refine wT (i:=14) (v:=undef) rfl (by kernel_rfl) (by kernel_rfl) (by kernel_rfl) (fun _ _ _ h=>h) (Or.inr ⟨by rfl,rfl⟩) hS ?_
   simp only[Act.put,aA,aB,aC,aD,aE,aF]
   refine wT (i:=15) (v:=.bool false) rfl (by kernel_rfl) (by kernel_rfl) (by kernel_rfl) (fun _ _ _ h=>h) (Or.inl ⟨by rfl,?_⟩) hS ?_
   ·intro W hSw
    clear hS
    go_simp
   simp only[Act.put,aA,aB,aC,aD,aE,aF]
   refine wT (i:=16) (v:=.bool (!b)) rfl (by kernel_rfl) (by kernel_rfl) (by kernel_rfl) (fun _ _ _ h=>h) (Or.inl ⟨by rfl,?_⟩) hS ?_
   ·intro W hSw
    clear hS
    go_simp
   simp only[Act.put,aA,aB,aC,aD,aE,aF]
   refine wT (i:=17) (v:=.bool (!b)) rfl (by kernel_rfl) (by kernel_rfl) (by kernel_rfl) (fun _ _ _ h=>h) (Or.inl ⟨by rfl,?_⟩) hS ?_
   ·intro W hSw
    clear hS
    go_simp
   simp only[Act.put,aA,aB,aC,aD,aE,aF]
   refine wT (i:=18) (v:=.bool (!b)) rfl (by kernel_rfl) (by kernel_rfl) (by kernel_rfl) (fun _ _ _ h=>h) (Or.inl ⟨by rfl,?_⟩) hS ?_
   ·intro W hSw
    clear hS
    go_simp
   simp only[Act.put,aA,aB,aC,aD,aE,aF]
   have h1:=HXC.out.1 (by simp)
   have h2:=HXM.out.1 (by simp)
   have h3:=HXS.out
   have h4:=HVP.out
   have h5:=HIN.out
   refine wpAnyH_done (by kernel_rfl) ?_ _
   go_wp2_with fail
   go_ret
   refine⟨⟨_,rfl,?_⟩,hS.b⟩
   simp only[h1,h2,h4,h5,true_and,← h3]
   cases b <;> simp[hp1]
 ·have din:decide (0≤C.p∧C.p≤7)=false:=by simpa using hin
  go_wp2_with (first
   | (go_at_call 51;refine (HIR.out _ _ _ _).mono ?_;rintro o w2 ⟨rfl,rfl⟩))
  go_ret
  exact⟨⟨false,rfl,by simp only[Bool.false_eq_true,false_iff];rintro⟨h,_⟩;exact hin h⟩,H0.out.b⟩
theorem okHo.n4 {H:Ho} (h:okHo H):H.qu.length≤1000:=by
 have h1:=of_decide_eq_true h.cf
 have h2:=h.nq
 omega
theorem copyS (W:World) (H:Ho) (s:Sl) (h:isHo W H s) (hn:H.le 1048576):Calls Tryz.prog 14 #[.agg (hoL H s).toArray] W fun o w'=>∃ s' T0 T1 T2,o = .returned (.agg (hoL H s').toArray)∧spS (W.heap.size+3) T0 T1 T2 H s' w'∧s'.n2=H.bx.length∧s'.n4=H.qu.length∧Below W.heap.size W w':=by
 rw[← hoV_L]
 refine (l3copy_own W H s h hn).mono ?_
 rintro o w' ⟨gf,kf,gb,kb,gq,kq,g4,k4,T0,T1,T2,T3,rfl,⟨o1,o2,o3,o4,o5,o6⟩,hst,hb⟩
 obtain⟨h1,h2,h3,h4⟩:=hst.now
 obtain⟨hs,h2'⟩:=h2.bxR
 exact⟨⟨some ⟨gf,0,none⟩,s.n1,kf,some ⟨gb,0,none⟩,s.n2,kb,some ⟨gq,0,none⟩,s.n3,kq,some ⟨g4,0,none⟩,s.n4,k4⟩,T0,T1,T2,by rw[hoV_L],⟨⟨gf,rfl,o1,o2,h1⟩,⟨gb,hs,rfl,h2'⟩,⟨gq,rfl,h3⟩,⟨g4,rfl,h4.mono o6⟩,⟨by omega,o3,o4,by omega⟩⟩,h.bx.len,h.qu.len,hb⟩
end Go.Proofs.YtgkkcpgocbcbaaaGreat
