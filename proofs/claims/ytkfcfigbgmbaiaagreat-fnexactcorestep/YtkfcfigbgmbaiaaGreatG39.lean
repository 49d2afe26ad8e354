import Derived.Test.YtkfcfigbgmbaiaaGreatG09
import Derived.Test.YtkfcfigbgmbaiaaGreatG26
import Derived.Test.YtkfcfigbgmbaiaaGreatG12
import Derived.Test.YtkfcfigbgmbaiaaGreatG07
import Derived.Test.YtkfcfigbgmbaiaaGreatCC
import Derived.Test.YtkfcfigbgmbaiaaGreatG04
import Derived.Test.YtkfcfigbgmbaiaaGreatG30
import Derived.Deep.RegionHeld3
namespace Go.Proofs.YtkfcfigbgmbaiaaGreat
open Go.RowKit
set_option linter.unusedVariables false
set_option maxHeartbeats 16000000
theorem at8.rg {w:World} {g o:Nat} {b:R8} {ao:Option Addr} {m c:Nat} (h:at8 w g o b ao m c):w.rangeAt g o [.int .i64 b.x,.int .i64 b.y,.int .i64 b.z,.bool b.e,.int .u32 (b.i:Int),.bool b.r,.int .i64 b.d,.slice ao m c]:=by
 intro j v hv;match j,hv with
 | 0,hv=>cases hv;exact h.c0
 | 1,hv=>cases hv;exact h.c1
 | 2,hv=>cases hv;exact h.c2
 | 3,hv=>cases hv;exact h.c3
 | 4,hv=>cases hv;exact h.c4
 | 5,hv=>cases hv;exact h.c5
 | 6,hv=>cases hv;exact h.c6
 | 7,hv=>cases hv;exact h.cs
 | j+8,hv=>simp at hv
def wrP (bx:List R8):Prop:=¬ ∀ k (h:k<bx.length),¬ onW bx[k]
set_option maxRecDepth 20000 in
theorem isSending_any (w:World) (C:Co) (s:Sl) (h:isR8s w s.a2 s.n2 s.k2 C.ho.bx) (hn:s.n2≤1000) :
  Calls Tryz.prog 143 #[.agg (coL C s).toArray] w fun o w'=>retB o (wrP C.ho.bx)∧Below w.heap.size w w':=by
 have H0:Hid (ctS w w.heap.size C s (w.alloc (.cells (coL C s).toArray 41))):=ctS.new w C s
 have hcp:=h.cap
 have HL:Hid (s.n2=C.ho.bx.length):=h.len
 have HH:Hid (isR8s w s.a2 s.n2 s.k2 C.ho.bx):=h
 obtain⟨n2,e2⟩ : ∃ n2,s.n2=n2:=⟨_,rfl⟩
 obtain⟨a2,ea⟩ : ∃ a2,s.a2=a2:=⟨_,rfl⟩
 obtain⟨k2,ek⟩ : ∃ k2,s.k2=k2:=⟨_,rfl⟩
 obtain⟨bx,eb⟩ : ∃ bx,C.ho.bx=bx:=⟨_,rfl⟩
 have HY:Hid (∀ X,ctS w w.heap.size C s X→X.cell? ⟨w.heap.size,16,none⟩=some (.slice a2 n2 k2)):=fun X hX=>by
  have:=hX.p.cell 16 (.slice s.a2 s.n2 s.k2) rfl
  rw[e2,ea,ek] at this
  exact this
 rw[e2,ea,ek,eb] at HH
 rw[e2,eb] at HL
 rw[e2,ek] at hcp
 rw[e2] at hn
 rw[eb]
 have y16:=HY.out _ H0.out
 clear h e2 ea ek eb;go_enter Tryz.func143,Tryz.ntmps143
 generalize hW0:w.alloc (.cells (coL C s).toArray 41)=W0 at *;go_wp2_with fail;clear y16;go_loopw [9] (fun i wr=>∃ k:Nat,k≤n2∧i = .int .i64 (k:Int)∧(∀ j (hj:j<bx.length),j<k→¬ onW bx[j])∧Below w.heap.size w wr) (fun i _=>n2-(intOf i).toNat)
 case atStart=>exact⟨0,Nat.zero_le _,rfl,fun j hj h=>absurd h (Nat.not_lt_zero _),H0.out.b⟩
 case round=>
  obtain⟨k,hk,rfl,hA,hb⟩:=hrel
  have HB:Hid (Below w.heap.size w wr):=hb
  have HA:Hid (∀ j (hj:j<bx.length),j<k→¬ onW bx[j]):=hA
  clear hb hA H0;by_cases hlt:k<n2
  ·have hkl:k<bx.length:=by have:=HL.out;omega
   obtain⟨g,off,rfl,hc⟩:=HH.out.cells (by intro e;rw[e] at hkl;cases hkl)
   obtain⟨ao,m,c,hx⟩:=hc k hkl
   have HR:Hid (wr.rangeAt g (off+k*8) [.int .i64 bx[k].x,.int .i64 bx[k].y,.int .i64 bx[k].z,.bool bx[k].e,.int .u32 (bx[k].i:Int),.bool bx[k].r,.int .i64 bx[k].d,.slice ao m c]):=(hx.below HB.out).rg
   have HON:Hid (∀ W,Calls Tryz.prog 182 #[bxV bx[k].x bx[k].y bx[k].z bx[k].e bx[k].i bx[k].r bx[k].d ao m c] W fun o w'=>o = .returned (.bool (bx[k].x == 2 || bx[k].x == 3))∧Below W.heap.size W w'):=fun W=>isOnWire_any W bx[k] ao m c
   have HW:Hid (onW bx[k]↔(bx[k].x == 2 || bx[k].x == 3)=true):=by unfold Hid onW;simp
   have HNX:Hid (¬ onW bx[k]→∀ j (hj:j<bx.length),j<k+1→¬ onW bx[j]):=fun hx j hj hjk=>by
    by_cases e:j=k
    ·subst e;exact hx
    ·exact HA.out j hj (by omega)
   have HYS:Hid (onW bx[k]→wrP bx):=fun h hall=>hall k hkl h
   clear hc hx HA;generalize onW bx[k]=ON at *;generalize bx[k]=b at *;obtain⟨bX,bY,bZ,bE,bI,bR,bD,bl⟩:=b
   simp only[] at *
   have HZ:Hid (blk (wr.alloc (.cells ([.int .i64 0,.int .i64 0,.int .i64 0,.bool false,.int .u32 0,.bool false,.int .i64 0,.slice none 0 0]:List Value).toArray 166)) wr.heap.size ([.int .i64 0,.int .i64 0,.int .i64 0,.bool false,.int .u32 0,.bool false,.int .i64 0,.slice none 0 0]:List Value) 166∧Below wr.heap.size wr (wr.alloc (.cells ([.int .i64 0,.int .i64 0,.int .i64 0,.bool false,.int .u32 0,.bool false,.int .i64 0,.slice none 0 0]:List Value).toArray 166))):=⟨blk.new wr _ 166,(Below.refl _ _).alloc (Nat.le_refl _) _⟩
   go_wp2_with (first
    | (refine wpList_load_mid (P:=Tryz.prog) rfl 166 (.tmp 11) rfl g (off+k*8) rfl [.int .i64 bX,.int .i64 bY,.int .i64 bZ,.bool bE,.int .u32 (bI:Int),.bool bR,.int .i64 bD,.slice ao m c] _ HR.out Tryz.underlying166 rfl sz95 ?_)
    | (refine wpList_store_mid (P:=Tryz.prog) rfl 166 (.tmp 4) (.tmp 12) rfl wr.heap.size 0 #[.int .i64 bX,.int .i64 bY,.int .i64 bZ,.bool bE,.int .u32 (bI:Int),.bool bR,.int .i64 bD,.slice ao m c] rfl rfl (HZ.out.1.there 0 8 (by simp)) sz95 (one8 _ _ _ _ _ _ _ _ _ _) ?_;generalize hW6:World.setCells (wr.alloc _) wr.heap.size 0 _=w6;have HP6:Hid (blk w6 wr.heap.size [.int .i64 bX,.int .i64 bY,.int .i64 bZ,.bool bE,.int .u32 (bI:Int),.bool bR,.int .i64 bD,.slice ao m c] 166∧Below wr.heap.size wr w6):=(by rw[← hW6];exact⟨(by have:=blk.put [] ([.int .i64 0,.int .i64 0,.int .i64 0,.bool false,.int .u32 0,.bool false,.int .i64 0,.slice none 0 0]:List Value) [] [.int .i64 bX,.int .i64 bY,.int .i64 bZ,.bool bE,.int .u32 (bI:Int),.bool bR,.int .i64 bD,.slice ao m c] (w:=wr.alloc (.cells ([.int .i64 0,.int .i64 0,.int .i64 0,.bool false,.int .u32 0,.bool false,.int .i64 0,.slice none 0 0]:List Value).toArray 166)) (b:=wr.heap.size) (T:=166) (by simpa using HZ.out.1) rfl;simpa using this),setCells_below (Nat.le_refl _) 0 _ HZ.out.2⟩);clear hW6 HZ)
    | (refine wpList_load_mid (P:=Tryz.prog) rfl 166 (.tmp 4) rfl wr.heap.size 0 rfl [.int .i64 bX,.int .i64 bY,.int .i64 bZ,.bool bE,.int .u32 (bI:Int),.bool bR,.int .i64 bD,.slice ao m c] _ HP6.out.1.load Tryz.underlying166 rfl sz95 ?_))
   refine (HON.out _).mono ?_
   rintro o w7 ⟨rfl,hb7⟩;have HB7:Hid (Below w.heap.size w w7):=HB.out.trans ((HP6.out.2.trans (hb7.mono HP6.out.2.size)).mono HB.out.size)
   clear hb7 HP6 HON HR HB;have HWo:=HW
   generalize (bX == 2 || bX == 3)=q at *;cases q
   ·have HN:Hid (∀ j (hj:j<bx.length),j<k+1→¬ onW bx[j]):=HNX.out (fun h=>by have:=HW.out.1 h;simp at this)
    go_wp2_with fail;go_roundw
    case rel=>exact⟨k+1,by omega,by go_num,HN.out,HB7.out⟩
    case measure=>simp[intOf];omega
   ·go_wp2_with fail;go_ret;exact⟨⟨true,rfl,by simp;exact HYS.out (HW.out.2 trivial)⟩,HB7.out⟩
  ·have hkn:k=n2:=by omega
   subst hkn;go_wp2_with fail;go_ret;exact⟨⟨false,rfl,by simp only[Bool.false_eq_true,false_iff];exact fun h=>h (fun j hj=>HA.out j hj (by have:=HL.out;omega))⟩,HB.out⟩
set_option maxRecDepth 20000 in
theorem validCore_gen (w:World) (C:Co) (s:Sl) (VP CP MP SP:Prop) (hv:∀ W,Below w.heap.size w W→Calls Tryz.prog 122 #[.agg (hoL C.ho s).toArray] W fun o w'=>retB o VP∧Below W.heap.size W w')
  (hc:(0≤C.p∧C.p≤7)→∀ W,Below w.heap.size w W→Calls Tryz.prog 141 #[.agg (coL C s).toArray] W fun o w'=>retB o CP∧Below W.heap.size W w')
  (hm:(0≤C.p∧C.p≤7)→∀ W,Below w.heap.size w W→Calls Tryz.prog 142 #[.agg (coL C s).toArray] W fun o w'=>retB o MP∧Below W.heap.size W w')
  (hz:VP→∀ W,Below w.heap.size w W→Calls Tryz.prog 143 #[.agg (coL C s).toArray] W fun o w'=>retB o SP∧Below W.heap.size W w') :
  Calls Tryz.prog 83 #[.agg (coL C s).toArray] w fun o w'=>retB o ((0≤C.p∧C.p≤7)∧VP∧CP∧MP∧((C.p=1∧C.tx=true)↔SP))∧Below w.heap.size w w':=by
 have HV:Hid (∀ W,Below w.heap.size w W→Calls Tryz.prog 122 #[.agg (hoL C.ho s).toArray] W fun o w'=>retB o VP∧Below W.heap.size W w'):=hv
 have HC0:Hid ((0≤C.p∧C.p≤7)→∀ W,Below w.heap.size w W→Calls Tryz.prog 141 #[.agg (coL C s).toArray] W fun o w'=>retB o CP∧Below W.heap.size W w'):=hc
 have HM0:Hid ((0≤C.p∧C.p≤7)→∀ W,Below w.heap.size w W→Calls Tryz.prog 142 #[.agg (coL C s).toArray] W fun o w'=>retB o MP∧Below W.heap.size W w'):=hm
 have HZ0:Hid (VP→∀ W,Below w.heap.size w W→Calls Tryz.prog 143 #[.agg (coL C s).toArray] W fun o w'=>retB o SP∧Below W.heap.size W w'):=hz
 have HIR:Hid (∀ W v l m,Calls Tryz.prog 43 #[.int .i64 v,.int .i64 l,.int .i64 m] W fun o w'=>o = .returned (.bool (decide (l≤v∧v≤m)))∧W=w'):=inRange_any
 have H0:Hid (ctS w w.heap.size C s (w.alloc (.cells (coL C s).toArray 41))):=ctS.new w C s
 have y0:=H0.out.p.cell 0 (.int .i64 C.p) rfl
 clear hv hc hm hz;go_enter Tryz.func83,Tryz.ntmps83
 generalize hW0:w.alloc (.cells (coL C s).toArray 41)=W0 at *;by_cases hin:0≤C.p∧C.p≤7
 ·have din:decide (0≤C.p∧C.p≤7)=true:=by simpa using hin
  have HIN:Hid (0≤C.p∧C.p≤7):=hin
  have HC:Hid (∀ W,Below w.heap.size w W→Calls Tryz.prog 141 #[.agg (coL C s).toArray] W fun o w'=>retB o CP∧Below W.heap.size W w'):=HC0.out hin
  have HM:Hid (∀ W,Below w.heap.size w W→Calls Tryz.prog 142 #[.agg (coL C s).toArray] W fun o w'=>retB o MP∧Below W.heap.size W w'):=HM0.out hin
  clear hin HC0 HM0;go_wp2_with (first
   | (go_at_call 43;refine (HIR.out _ _ _ _).mono ?_;rintro o w2 ⟨rfl,rfl⟩)
   | (refine wpList_load_midG (by first | rfl | (simp[Region.wanted,yielded];done) | (simp[Region.wanted,yielded];omega)) 39 (.tmp 8) rfl w.heap.size 11 rfl (hoL C.ho s) _ H0.out.p.hostAt Tryz.underlying39 rfl (sz39h C.ho s) ?_))
  clear hW0;refine (HV.out _ H0.out.b).mono ?_
  rintro o w1 ⟨⟨b,rfl,hvp⟩,hb1⟩;have H1:Hid (ctS w w.heap.size C s w1):=H0.out.below hb1
  clear hb1 H0 HV y0;cases b
  ·go_wp2_with fail;go_ret;exact⟨⟨false,rfl,by simp only[Bool.false_eq_true,false_iff];rintro⟨_,h,_⟩;exact absurd (hvp.2 h) (by simp)⟩,H1.out.b⟩
  have HVP:Hid VP:=hvp.1 rfl
  have HS:Hid (∀ W,Below w.heap.size w W→Calls Tryz.prog 143 #[.agg (coL C s).toArray] W fun o w'=>retB o SP∧Below W.heap.size W w'):=HZ0.out HVP.out
  clear hvp HZ0;go_wp2_with fail;refine wp_region_held (S:=fun X=>ctS w w.heap.size C s X) (by kernel_rfl) ?_
  have hS:ctS w w.heap.size C s (World.drew w1):=H1.out.below (Below.refl _ _).drew
  clear H1;change wpAnyH Tryz.prog _ _ _ _ _ _ _ (World.drew w1)
  generalize World.drew w1=v0 at *;refine wU 0 (.agg (coL C s).toArray) rfl (by kernel_rfl) (yieldsIf_load_mid (by rfl) 41 (.tmp 1) rfl w.heap.size 0 rfl (coL C s) _ (fun X h=>h.p.load) Tryz.underlying41 rfl (szC41L C s)) hS ?_ fun _ _ _ h=>h
  simp only[Act.put,aA,aB,aC,aD,aE]
  refine wpAnyH_all (rs:=[1]) (by kernel_rfl) (by simp) ?_
  refine AllReadyH.cons rfl (fun K2 hK2=>?_) AllReadyH.nil
  go_simp;refine (HC.out _ hS.b).mono ?_
  rintro o v1 ⟨⟨b,rfl,hx⟩,hb⟩;have hS1:=hS.below hb
  have HXC:Hid (b=true↔CP):=hx
  clear hb hx;go_wp2_with fail;refine hK2.out _ _ hS1 (fun hS2=>?_)
  clear hK2 K2 hS1 hS;have hS:=hS2
  clear hS2;cases b
  ·refine wV 2 (.bool false) rfl (by kernel_rfl) ?_ hS ?_ fun _ _ _ h=>h
   ·intro W hSw;clear hS;go_simp
   simp only[Act.put,aA,aB,aC,aD,aE,aF];refine wW 3 rfl (by kernel_rfl) hS ?_ fun _ _ _ h=>h
   simp only[Act.put,aA,aB,aC,aD,aE,aF];refine wW 4 rfl (by kernel_rfl) hS ?_ fun _ _ _ h=>h
   simp only[Act.put,aA,aB,aC,aD,aE,aF];refine wV 5 (.bool false) rfl (by kernel_rfl) ?_ hS ?_ fun _ _ _ h=>h
   ·intro W hSw;clear hS;go_simp
   simp only[Act.put,aA,aB,aC,aD,aE,aF];refine wV 6 (.bool false) rfl (by kernel_rfl) ?_ hS ?_ fun _ _ _ h=>h
   ·intro W hSw;clear hS;go_simp
   simp only[Act.put,aA,aB,aC,aD,aE,aF];refine wW 7 rfl (by kernel_rfl) hS ?_ fun _ _ _ h=>h
   simp only[Act.put,aA,aB,aC,aD,aE,aF];refine wW 8 rfl (by kernel_rfl) hS ?_ fun _ _ _ h=>h
   simp only[Act.put,aA,aB,aC,aD,aE,aF];refine wW 9 rfl (by kernel_rfl) hS ?_ fun _ _ _ h=>h
   simp only[Act.put,aA,aB,aC,aD,aE,aF];refine wW 10 rfl (by kernel_rfl) hS ?_ fun _ _ _ h=>h
   simp only[Act.put,aA,aB,aC,aD,aE,aF];refine wW 11 rfl (by kernel_rfl) hS ?_ fun _ _ _ h=>h
   simp only[Act.put,aA,aB,aC,aD,aE,aF];refine wW 12 rfl (by kernel_rfl) hS ?_ fun _ _ _ h=>h
   simp only[Act.put,aA,aB,aC,aD,aE,aF];refine wW 13 rfl (by kernel_rfl) hS ?_ fun _ _ _ h=>h
   simp only[Act.put,aA,aB,aC,aD,aE,aF];refine wW 14 rfl (by kernel_rfl) hS ?_ fun _ _ _ h=>h
   simp only[Act.put,aA,aB,aC,aD,aE,aF];refine wW 15 rfl (by kernel_rfl) hS ?_ fun _ _ _ h=>h
   simp only[Act.put,aA,aB,aC,aD,aE,aF];refine wW 16 rfl (by kernel_rfl) hS ?_ fun _ _ _ h=>h
   simp only[Act.put,aA,aB,aC,aD,aE,aF];refine wV 17 (.bool false) rfl (by kernel_rfl) ?_ hS ?_ fun _ _ _ h=>h
   ·intro W hSw;clear hS;go_simp
   simp only[Act.put,aA,aB,aC,aD,aE,aF];refine wV 18 (.bool false) rfl (by kernel_rfl) ?_ hS ?_ fun _ _ _ h=>h
   ·intro W hSw;clear hS;go_simp
   simp only[Act.put,aA,aB,aC,aD,aE,aF];refine wpAnyH_done (by kernel_rfl) ?_ _
   go_wp2_with fail;go_ret;exact⟨⟨_,rfl,by simp only[Bool.false_eq_true,false_iff];rintro⟨_,_,h,_⟩;exact absurd (HXC.out.2 h) (by simp)⟩,hS.b⟩
  refine wV 2 (.bool true) rfl (by kernel_rfl) ?_ hS ?_ fun _ _ _ h=>h
  ·intro W hSw;clear hS;go_simp
  simp only[Act.put,aA,aB,aC,aD,aE,aF];refine wU 3 (.agg (coL C s).toArray) rfl (by kernel_rfl) (yieldsIf_load_mid (by rfl) 41 (.tmp 1) rfl w.heap.size 0 rfl (coL C s) _ (fun X h=>h.p.load) Tryz.underlying41 rfl (szC41L C s)) hS ?_ fun _ _ _ h=>h
  simp only[Act.put,aA,aB,aC,aD,aE,aF];refine wpAnyH_all (rs:=[4]) (by kernel_rfl) (by simp) ?_
  refine AllReadyH.cons rfl (fun K2 hK2=>?_) AllReadyH.nil
  go_simp;refine (HM.out _ hS.b).mono ?_
  rintro o v2 ⟨⟨b,rfl,hx⟩,hb⟩;have hS1:=hS.below hb
  have HXM:Hid (b=true↔MP):=hx
  clear hb hx;go_wp2_with fail;refine hK2.out _ _ hS1 (fun hS2=>?_)
  clear hK2 K2 hS1 hS;have hS:=hS2
  clear hS2;cases b
  ·refine wV 5 (.bool false) rfl (by kernel_rfl) ?_ hS ?_ fun _ _ _ h=>h
   ·intro W hSw;clear hS;go_simp
   simp only[Act.put,aA,aB,aC,aD,aE,aF];refine wV 6 (.bool false) rfl (by kernel_rfl) ?_ hS ?_ fun _ _ _ h=>h
   ·intro W hSw;clear hS;go_simp
   simp only[Act.put,aA,aB,aC,aD,aE,aF];refine wW 7 rfl (by kernel_rfl) hS ?_ fun _ _ _ h=>h
   simp only[Act.put,aA,aB,aC,aD,aE,aF];refine wW 8 rfl (by kernel_rfl) hS ?_ fun _ _ _ h=>h
   simp only[Act.put,aA,aB,aC,aD,aE,aF];refine wW 9 rfl (by kernel_rfl) hS ?_ fun _ _ _ h=>h
   simp only[Act.put,aA,aB,aC,aD,aE,aF];refine wW 10 rfl (by kernel_rfl) hS ?_ fun _ _ _ h=>h
   simp only[Act.put,aA,aB,aC,aD,aE,aF];refine wW 11 rfl (by kernel_rfl) hS ?_ fun _ _ _ h=>h
   simp only[Act.put,aA,aB,aC,aD,aE,aF];refine wW 12 rfl (by kernel_rfl) hS ?_ fun _ _ _ h=>h
   simp only[Act.put,aA,aB,aC,aD,aE,aF];refine wW 13 rfl (by kernel_rfl) hS ?_ fun _ _ _ h=>h
   simp only[Act.put,aA,aB,aC,aD,aE,aF];refine wW 14 rfl (by kernel_rfl) hS ?_ fun _ _ _ h=>h
   simp only[Act.put,aA,aB,aC,aD,aE,aF];refine wW 15 rfl (by kernel_rfl) hS ?_ fun _ _ _ h=>h
   simp only[Act.put,aA,aB,aC,aD,aE,aF];refine wW 16 rfl (by kernel_rfl) hS ?_ fun _ _ _ h=>h
   simp only[Act.put,aA,aB,aC,aD,aE,aF];refine wV 17 (.bool false) rfl (by kernel_rfl) ?_ hS ?_ fun _ _ _ h=>h
   ·intro W hSw;clear hS;go_simp
   simp only[Act.put,aA,aB,aC,aD,aE,aF];refine wV 18 (.bool false) rfl (by kernel_rfl) ?_ hS ?_ fun _ _ _ h=>h
   ·intro W hSw;clear hS;go_simp
   simp only[Act.put,aA,aB,aC,aD,aE,aF];refine wpAnyH_done (by kernel_rfl) ?_ _
   go_wp2_with fail;go_ret;exact⟨⟨_,rfl,by simp only[Bool.false_eq_true,false_iff];rintro⟨_,_,_,h,_⟩;exact absurd (HXM.out.2 h) (by simp)⟩,hS.b⟩
  refine wV 5 (.bool true) rfl (by kernel_rfl) ?_ hS ?_ fun _ _ _ h=>h
  ·intro W hSw;clear hS;go_simp
  simp only[Act.put,aA,aB,aC,aD,aE,aF];refine wV 6 (.bool true) rfl (by kernel_rfl) ?_ hS ?_ fun _ _ _ h=>h
  ·intro W hSw;clear hS;go_simp
  simp only[Act.put,aA,aB,aC,aD,aE,aF];refine wU 7 (.agg (coL C s).toArray) rfl (by kernel_rfl) (yieldsIf_load_mid (by rfl) 41 (.tmp 1) rfl w.heap.size 0 rfl (coL C s) _ (fun X h=>h.p.load) Tryz.underlying41 rfl (szC41L C s)) hS ?_ fun _ _ _ h=>h
  simp only[Act.put,aA,aB,aC,aD,aE,aF];refine wV 9 (.pointer (some ⟨w.heap.size,0,none⟩)) rfl (by kernel_rfl) ?_ hS ?_ fun _ _ _ h=>h
  ·intro W hSw;clear hS;go_simp
  simp only[Act.put,aA,aB,aC,aD,aE,aF];refine wV 10 (.int .i64 C.p) rfl (by kernel_rfl) ?_ hS ?_ fun _ _ _ h=>h
  ·intro W hSw;clear hS;have y:=hSw.p.cell 0 (.int .i64 C.p) rfl
   go_simp
  simp only[Act.put,aA,aB,aC,aD,aE,aF];by_cases hp1:C.p=1
  ·have dp1:(C.p == 1)=true:=by simpa using hp1
   refine wV 11 (.bool true) rfl (by kernel_rfl) ?_ hS ?_ fun _ _ _ h=>h
   ·intro W hSw;clear hS;go_simp
   simp only[Act.put,aA,aB,aC,aD,aE,aF];refine wpAnyH_all (rs:=[8]) (by kernel_rfl) (by simp) ?_
   refine AllReadyH.cons rfl (fun K2 hK2=>?_) AllReadyH.nil
   go_simp;refine (HS.out _ hS.b).mono ?_
   rintro o v3 ⟨⟨b,rfl,hx⟩,hb⟩;have hS1:=hS.below hb
   have HXS:Hid (b=true↔SP):=hx
   clear hb hx;go_wp2_with fail;refine hK2.out _ _ hS1 (fun hS2=>?_)
   clear hK2 K2 hS1 hS;have hS:=hS2
   clear hS2;refine wV 12 (.bool true) rfl (by kernel_rfl) ?_ hS ?_ fun _ _ _ h=>h
   ·intro W hSw;clear hS;go_simp
   simp only[Act.put,aA,aB,aC,aD,aE,aF];refine wV 13 (.pointer (some ⟨w.heap.size,6,none⟩)) rfl (by kernel_rfl) ?_ hS ?_ fun _ _ _ h=>h
   ·intro W hSw;clear hS;go_simp
   simp only[Act.put,aA,aB,aC,aD,aE,aF];refine wV 14 (.bool C.tx) rfl (by kernel_rfl) ?_ hS ?_ fun _ _ _ h=>h
   ·intro W hSw;clear hS;have y:=hSw.p.cell 6 (.bool C.tx) rfl
    go_simp
   simp only[Act.put,aA,aB,aC,aD,aE,aF];refine wV 15 (.bool C.tx) rfl (by kernel_rfl) ?_ hS ?_ fun _ _ _ h=>h
   ·intro W hSw;clear hS;go_simp
   simp only[Act.put,aA,aB,aC,aD,aE,aF];refine wV 16 (.bool (b == C.tx)) rfl (by kernel_rfl) ?_ hS ?_ fun _ _ _ h=>h
   ·intro W hSw;clear hS;go_simp
   simp only[Act.put,aA,aB,aC,aD,aE,aF];refine wV 17 (.bool (b == C.tx)) rfl (by kernel_rfl) ?_ hS ?_ fun _ _ _ h=>h
   ·intro W hSw;clear hS;go_simp
   simp only[Act.put,aA,aB,aC,aD,aE,aF];refine wV 18 (.bool (b == C.tx)) rfl (by kernel_rfl) ?_ hS ?_ fun _ _ _ h=>h
   ·intro W hSw;clear hS;go_simp
   simp only[Act.put,aA,aB,aC,aD,aE,aF];have h1:=HXC.out.1 (by simp)
   have h2:=HXM.out.1 (by simp)
   have h3:=HXS.out
   have h4:=HVP.out
   have h5:=HIN.out
   refine wpAnyH_done (by kernel_rfl) ?_ _
   go_wp2_with fail;go_ret;refine⟨⟨_,rfl,?_⟩,hS.b⟩
   simp only[h1,h2,h4,h5,true_and,← h3]
   generalize C.tx=q
   cases b <;> cases q <;> simp[hp1]
  ·have dp1:(C.p == 1)=false:=by simpa using hp1
   refine wV 11 (.bool false) rfl (by kernel_rfl) ?_ hS ?_ fun _ _ _ h=>h
   ·intro W hSw;clear hS;go_simp
   simp only[Act.put,aA,aB,aC,aD,aE,aF];refine wpAnyH_all (rs:=[8]) (by kernel_rfl) (by simp) ?_
   refine AllReadyH.cons rfl (fun K2 hK2=>?_) AllReadyH.nil
   go_simp;refine (HS.out _ hS.b).mono ?_
   rintro o v3 ⟨⟨b,rfl,hx⟩,hb⟩;have hS1:=hS.below hb
   have HXS:Hid (b=true↔SP):=hx
   clear hb hx;go_wp2_with fail;refine hK2.out _ _ hS1 (fun hS2=>?_)
   clear hK2 K2 hS1 hS;have hS:=hS2
   clear hS2;refine wV 12 (.bool false) rfl (by kernel_rfl) ?_ hS ?_ fun _ _ _ h=>h
   ·intro W hSw;clear hS;go_simp
   simp only[Act.put,aA,aB,aC,aD,aE,aF];refine wW 13 rfl (by kernel_rfl) hS ?_ fun _ _ _ h=>h
   simp only[Act.put,aA,aB,aC,aD,aE,aF];refine wW 14 rfl (by kernel_rfl) hS ?_ fun _ _ _ h=>h
   simp only[Act.put,aA,aB,aC,aD,aE,aF];refine wV 15 (.bool false) rfl (by kernel_rfl) ?_ hS ?_ fun _ _ _ h=>h
   ·intro W hSw;clear hS;go_simp
   simp only[Act.put,aA,aB,aC,aD,aE,aF];refine wV 16 (.bool (!b)) rfl (by kernel_rfl) ?_ hS ?_ fun _ _ _ h=>h
   ·intro W hSw;clear hS;go_simp
   simp only[Act.put,aA,aB,aC,aD,aE,aF];refine wV 17 (.bool (!b)) rfl (by kernel_rfl) ?_ hS ?_ fun _ _ _ h=>h
   ·intro W hSw;clear hS;go_simp
   simp only[Act.put,aA,aB,aC,aD,aE,aF];refine wV 18 (.bool (!b)) rfl (by kernel_rfl) ?_ hS ?_ fun _ _ _ h=>h
   ·intro W hSw;clear hS;go_simp
   simp only[Act.put,aA,aB,aC,aD,aE,aF];have h1:=HXC.out.1 (by simp)
   have h2:=HXM.out.1 (by simp)
   have h3:=HXS.out
   have h4:=HVP.out
   have h5:=HIN.out
   refine wpAnyH_done (by kernel_rfl) ?_ _
   go_wp2_with fail;go_ret;refine⟨⟨_,rfl,?_⟩,hS.b⟩
   simp only[h1,h2,h4,h5,true_and,← h3]
   cases b <;> simp[hp1]
 ·have din:decide (0≤C.p∧C.p≤7)=false:=by simpa using hin
  go_wp2_with (first
   | (go_at_call 43;refine (HIR.out _ _ _ _).mono ?_;rintro o w2 ⟨rfl,rfl⟩))
  go_ret;exact⟨⟨false,rfl,by simp only[Bool.false_eq_true,false_iff];rintro⟨h,_⟩;exact hin h⟩,H0.out.b⟩
end Go.Proofs.YtkfcfigbgmbaiaaGreat
