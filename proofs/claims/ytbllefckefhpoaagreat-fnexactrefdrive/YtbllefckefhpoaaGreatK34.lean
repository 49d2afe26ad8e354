import Derived.Test.YtbllefckefhpoaaGreatK33
import Derived.Test.YtbllefckefhpoaaGreatK29
import Derived.Test.YtbllefckefhpoaaGreatK32
import Derived.Test.YtbllefckefhpoaaGreatK07
import Derived.Test.YtbllefckefhpoaaGreatK09
import Derived.Test.YtbllefckefhpoaaGreatK05
import Derived.Deep.RegionHeld3
import Derived.Test.YtbllefckefhpoaaGreatK28
namespace Go.Proofs.YtbllefckefhpoaaGreat
open Go.RowKit
set_option linter.unusedVariables false
theorem rowQ8.F {B T E g n k:Nat} {bs:List R8} {W:World} (h:rowQ8 B T E g n k bs W):B≤g∧g<T∧rowF W g (n*8):=by
 obtain⟨rs,h2,_,h4,h5,_⟩:=h
 refine⟨h2.lt.1,h5,?_⟩
 rcases ownsRow_split h2.own with⟨e,_⟩|⟨g',cap,e,_,_,_,hr,_⟩
 ·cases e
 ·injection e with e1 e2 e3
  injection e1 with e1
  injection e1 with e1
  subst e1;rw[h4] at hr
  exact hr
abbrev zHo:Ho:=⟨0,0,0,0,[],[],[],[],0,0⟩
abbrev zSl:Sl:=⟨none,0,0,none,0,0,none,0,0,none,0,0⟩
theorem zHo_is (W:World):isHo W zHo zSl:=⟨⟨rfl,Nat.le_refl _,fun e=>absurd rfl e⟩,⟨rfl,Nat.le_refl _,fun e=>absurd rfl e⟩,⟨rfl,Nat.le_refl _,fun e=>absurd rfl e⟩,⟨rfl,Nat.le_refl _,fun e=>absurd rfl e⟩⟩
theorem whS.mono {B T B' T':Nat} {W:World} {s:Wh} (h:whS B T W s) (hB:B'≤B) (hT:T≤T'):whS B' T' W s:=
 ⟨h.f,h.fc,⟨by have:=h.fb.1;omega,by have:=h.fb.2;omega⟩,h.x,h.xb.mono hB hT,h.r,h.rb.mono hB hT,h.q,h.qb.mono hB hT,h.m1,h.m2,h.m3,h.m4⟩
theorem toldQ.put {w w3 w4 w8:World} {H:Ho} {s4:Wh} {R:Nat} (hz:w.heap.size≤w3.heap.size) (hR:R<w3.heap.size) (q1:St w3.heap.size w4 (fun W=>isHo W H s4.sl)) (q2:whS w3.heap.size w4.heap.size w4 s4) (oth:∀ x,x≠R→w8.heap[x]?=w4.heap[x]?) (hs:w8.heap.size=w4.heap.size):St w.heap.size w8 (fun W=>isHo W H s4.sl)∧whS w.heap.size w8.heap.size w8 s4:=by
 refine⟨fun W hW=>q1 W (fun x h1 h2=>(hW x (by omega) (by omega)).trans (oth x (by omega))),?_⟩
 rw[hs]
 exact (q2.same (fun x h1 h2=>oth x (by omega))).mono hz (Nat.le_refl _)
set_option maxHeartbeats 16000000
open Go.Value renaming int→I,slice→sL,bool→bO,pointer→pT,agg→aG
open Go.IntKind renaming i64→J
open Go.Ending renaming returned→rT
open Go.Proofs.Tryz renaming prog→Tp
set_option maxRecDepth 20000 in
theorem validCore_gen (w:World) (C:Co) (s:Sl) (VP CP MP SP:Prop) (hv:∀ W,Below w.heap.size w W→Calls Tp 67 #[aG (hoL C.ho s).toArray] W fun o w'=>retB o VP∧Below W.heap.size W w')
  (hc:(0≤C.p∧C.p≤7)→∀ W,Below w.heap.size w W→Calls Tp 68 #[aG (coL C s).toArray] W fun o w'=>retB o CP∧Below W.heap.size W w')
  (hm:(0≤C.p∧C.p≤7)→∀ W,Below w.heap.size w W→Calls Tp 69 #[aG (coL C s).toArray] W fun o w'=>retB o MP∧Below W.heap.size W w')
  (hz:VP→∀ W,Below w.heap.size w W→Calls Tp 70 #[aG (coL C s).toArray] W fun o w'=>retB o SP∧Below W.heap.size W w') :
  Calls Tp 35 #[aG (coL C s).toArray] w fun o w'=>retB o ((0≤C.p∧C.p≤7)∧VP∧CP∧MP∧((C.p=1∧C.tx=true)↔SP))∧Below w.heap.size w w':=by
 have HV:Hid (∀ W,Below w.heap.size w W→Calls Tp 67 #[aG (hoL C.ho s).toArray] W fun o w'=>retB o VP∧Below W.heap.size W w'):=hv
 have HC0:Hid ((0≤C.p∧C.p≤7)→∀ W,Below w.heap.size w W→Calls Tp 68 #[aG (coL C s).toArray] W fun o w'=>retB o CP∧Below W.heap.size W w'):=hc
 have HM0:Hid ((0≤C.p∧C.p≤7)→∀ W,Below w.heap.size w W→Calls Tp 69 #[aG (coL C s).toArray] W fun o w'=>retB o MP∧Below W.heap.size W w'):=hm
 have HZ0:Hid (VP→∀ W,Below w.heap.size w W→Calls Tp 70 #[aG (coL C s).toArray] W fun o w'=>retB o SP∧Below W.heap.size W w'):=hz
 have HIR:Hid (∀ W v l m,Calls Tp 66 #[I J v,I J l,I J m] W fun o w'=>o = rT (bO (decide (l≤v∧v≤m)))∧W=w'):=inRange_any
 have H0:Hid (ctS w w.heap.size C s (w.alloc (.cells (coL C s).toArray 43))):=ctS.new w C s
 have y0:=H0.out.p.cell 0 (I J C.p) rfl
 clear hv hc hm hz;go_enter Tryz.func35,Tryz.ntmps35
 generalize hW0:w.alloc (.cells (coL C s).toArray 43)=W0 at *;by_cases hin:0≤C.p∧C.p≤7
 ·have din:decide (0≤C.p∧C.p≤7)=true:=by simpa using hin
  have HIN:Hid (0≤C.p∧C.p≤7):=hin
  have HC:Hid (∀ W,Below w.heap.size w W→Calls Tp 68 #[aG (coL C s).toArray] W fun o w'=>retB o CP∧Below W.heap.size W w'):=HC0.out hin
  have HM:Hid (∀ W,Below w.heap.size w W→Calls Tp 69 #[aG (coL C s).toArray] W fun o w'=>retB o MP∧Below W.heap.size W w'):=HM0.out hin
  clear hin HC0 HM0;go_wp2_with (first
   | (go_at_call 66;refine (HIR.out _ _ _ _).mono ?_;rintro o w2 ⟨rfl,rfl⟩)
   | (refine wpList_load_midG (by first | rfl | (simp[Region.wanted,yielded];done) | (simp[Region.wanted,yielded];omega)) 41 (.tmp 8) rfl w.heap.size 11 rfl (hoL C.ho s) _ H0.out.p.hostAt Tryz.underlying41 rfl (sz39h C.ho s) ?_))
  clear hW0;refine (HV.out _ H0.out.b).mono ?_
  rintro o w1 ⟨⟨b,rfl,hvp⟩,hb1⟩;have H1:Hid (ctS w w.heap.size C s w1):=H0.out.below hb1
  clear hb1 H0 HV y0;cases b
  ·go_wp2_with fail;go_ret;exact⟨⟨false,rfl,by simp only[Bool.false_eq_true,false_iff];rintro⟨_,h,_⟩;exact absurd (hvp.2 h) (by simp)⟩,H1.out.b⟩
  have HVP:Hid VP:=hvp.1 rfl
  have HS:Hid (∀ W,Below w.heap.size w W→Calls Tp 70 #[aG (coL C s).toArray] W fun o w'=>retB o SP∧Below W.heap.size W w'):=HZ0.out HVP.out
  clear hvp HZ0;go_wp2_with fail;refine wp_region_held (S:=fun X=>ctS w w.heap.size C s X) (by kernel_rfl) ?_
  have hS:ctS w w.heap.size C s (World.drew w1):=H1.out.below (Below.refl _ _).drew
  clear H1;change wpAnyH Tp _ _ _ _ _ _ _ (World.drew w1)
  generalize World.drew w1=v0 at *;refine wU 0 (aG (coL C s).toArray) rfl (yieldsIf_load_mid (by rfl) 43 (.tmp 1) rfl w.heap.size 0 rfl (coL C s) _ (fun X h=>h.p.load) Tryz.underlying43 rfl (szC41L C s)) hS ?_
  simp only[Act.put,aA,aB,aC,aD,aE]
  refine wpAnyH_all (rs:=[1]) (by kernel_rfl) (by simp) ?_
  refine AllReadyH.cons rfl (fun K2 hK2=>?_) AllReadyH.nil
  go_simp;refine (HC.out _ hS.b).mono ?_
  rintro o v1 ⟨⟨b,rfl,hx⟩,hb⟩;have hS1:=hS.below hb
  have HXC:Hid (b=true↔CP):=hx
  clear hb hx;go_wp2_with fail;refine hK2.out _ _ hS1 (fun hS2=>?_)
  clear hK2 K2 hS1 hS;have hS:=hS2
  clear hS2;cases b
  ·refine wV 2 (bO false) ?_ hS ?_
   ·intro W hSw;clear hS;go_simp
   simp only[aZ];refine wW 3 hS ?_
   simp only[aZ];refine wW 4 hS ?_
   simp only[aZ];refine wV 5 (bO false) ?_ hS ?_
   ·intro W hSw;clear hS;go_simp
   simp only[aZ];refine wV 6 (bO false) ?_ hS ?_
   ·intro W hSw;clear hS;go_simp
   simp only[aZ];refine wW 7 hS ?_
   simp only[aZ];refine wW 8 hS ?_
   simp only[aZ];refine wW 9 hS ?_
   simp only[aZ];refine wW 10 hS ?_
   simp only[aZ];refine wW 11 hS ?_
   simp only[aZ];refine wW 12 hS ?_
   simp only[aZ];refine wW 13 hS ?_
   simp only[aZ];refine wW 14 hS ?_
   simp only[aZ];refine wW 15 hS ?_
   simp only[aZ];refine wW 16 hS ?_
   simp only[aZ];refine wV 17 (bO false) ?_ hS ?_
   ·intro W hSw;clear hS;go_simp
   simp only[aZ];refine wV 18 (bO false) ?_ hS ?_
   ·intro W hSw;clear hS;go_simp
   simp only[aZ];refine wpAnyH_done (by kernel_rfl) ?_ _
   go_wp2_with fail;go_ret;exact⟨⟨_,rfl,by simp only[Bool.false_eq_true,false_iff];rintro⟨_,_,h,_⟩;exact absurd (HXC.out.2 h) (by simp)⟩,hS.b⟩
  refine wV 2 (bO true) ?_ hS ?_
  ·intro W hSw;clear hS;go_simp
  simp only[aZ];refine wU 3 (aG (coL C s).toArray) rfl (yieldsIf_load_mid (by rfl) 43 (.tmp 1) rfl w.heap.size 0 rfl (coL C s) _ (fun X h=>h.p.load) Tryz.underlying43 rfl (szC41L C s)) hS ?_
  simp only[aZ];refine wpAnyH_all (rs:=[4]) (by kernel_rfl) (by simp) ?_
  refine AllReadyH.cons rfl (fun K2 hK2=>?_) AllReadyH.nil
  go_simp;refine (HM.out _ hS.b).mono ?_
  rintro o v2 ⟨⟨b,rfl,hx⟩,hb⟩;have hS1:=hS.below hb
  have HXM:Hid (b=true↔MP):=hx
  clear hb hx;go_wp2_with fail;refine hK2.out _ _ hS1 (fun hS2=>?_)
  clear hK2 K2 hS1 hS;have hS:=hS2
  clear hS2;cases b
  ·refine wV 5 (bO false) ?_ hS ?_
   ·intro W hSw;clear hS;go_simp
   simp only[aZ];refine wV 6 (bO false) ?_ hS ?_
   ·intro W hSw;clear hS;go_simp
   simp only[aZ];refine wW 7 hS ?_
   simp only[aZ];refine wW 8 hS ?_
   simp only[aZ];refine wW 9 hS ?_
   simp only[aZ];refine wW 10 hS ?_
   simp only[aZ];refine wW 11 hS ?_
   simp only[aZ];refine wW 12 hS ?_
   simp only[aZ];refine wW 13 hS ?_
   simp only[aZ];refine wW 14 hS ?_
   simp only[aZ];refine wW 15 hS ?_
   simp only[aZ];refine wW 16 hS ?_
   simp only[aZ];refine wV 17 (bO false) ?_ hS ?_
   ·intro W hSw;clear hS;go_simp
   simp only[aZ];refine wV 18 (bO false) ?_ hS ?_
   ·intro W hSw;clear hS;go_simp
   simp only[aZ];refine wpAnyH_done (by kernel_rfl) ?_ _
   go_wp2_with fail;go_ret;exact⟨⟨_,rfl,by simp only[Bool.false_eq_true,false_iff];rintro⟨_,_,_,h,_⟩;exact absurd (HXM.out.2 h) (by simp)⟩,hS.b⟩
  refine wV 5 (bO true) ?_ hS ?_
  ·intro W hSw;clear hS;go_simp
  simp only[aZ];refine wV 6 (bO true) ?_ hS ?_
  ·intro W hSw;clear hS;go_simp
  simp only[aZ];refine wU 7 (aG (coL C s).toArray) rfl (yieldsIf_load_mid (by rfl) 43 (.tmp 1) rfl w.heap.size 0 rfl (coL C s) _ (fun X h=>h.p.load) Tryz.underlying43 rfl (szC41L C s)) hS ?_
  simp only[aZ];refine wV 9 (pT (some ⟨w.heap.size,0,none⟩)) ?_ hS ?_
  ·intro W hSw;clear hS;go_simp
  simp only[aZ];refine wV 10 (I J C.p) ?_ hS ?_
  ·intro W hSw;clear hS;have y:=hSw.p.cell 0 (I J C.p) rfl
   go_simp
  simp only[aZ];by_cases hp1:C.p=1
  ·have dp1:(C.p == 1)=true:=by simpa using hp1
   refine wV 11 (bO true) ?_ hS ?_
   ·intro W hSw;clear hS;go_simp
   simp only[aZ];refine wpAnyH_all (rs:=[8]) (by kernel_rfl) (by simp) ?_
   refine AllReadyH.cons rfl (fun K2 hK2=>?_) AllReadyH.nil
   go_simp;refine (HS.out _ hS.b).mono ?_
   rintro o v3 ⟨⟨b,rfl,hx⟩,hb⟩;have hS1:=hS.below hb
   have HXS:Hid (b=true↔SP):=hx
   clear hb hx;go_wp2_with fail;refine hK2.out _ _ hS1 (fun hS2=>?_)
   clear hK2 K2 hS1 hS;have hS:=hS2
   clear hS2;refine wV 12 (bO true) ?_ hS ?_
   ·intro W hSw;clear hS;go_simp
   simp only[aZ];refine wV 13 (pT (some ⟨w.heap.size,6,none⟩)) ?_ hS ?_
   ·intro W hSw;clear hS;go_simp
   simp only[aZ];refine wV 14 (bO C.tx) ?_ hS ?_
   ·intro W hSw;clear hS;have y:=hSw.p.cell 6 (bO C.tx) rfl
    go_simp
   simp only[aZ];refine wV 15 (bO C.tx) ?_ hS ?_
   ·intro W hSw;clear hS;go_simp
   simp only[aZ];refine wV 16 (bO (b == C.tx)) ?_ hS ?_
   ·intro W hSw;clear hS;go_simp
   simp only[aZ];refine wV 17 (bO (b == C.tx)) ?_ hS ?_
   ·intro W hSw;clear hS;go_simp
   simp only[aZ];refine wV 18 (bO (b == C.tx)) ?_ hS ?_
   ·intro W hSw;clear hS;go_simp
   simp only[aZ];have h1:=HXC.out.1 (by simp)
   have h2:=HXM.out.1 (by simp)
   have h3:=HXS.out
   have h4:=HVP.out
   have h5:=HIN.out
   refine wpAnyH_done (by kernel_rfl) ?_ _
   go_wp2_with fail;go_ret;refine⟨⟨_,rfl,?_⟩,hS.b⟩
   simp only[h1,h2,h4,h5,true_and,← h3]
   generalize C.tx=q
   cases b <;> cases q <;> simp[hp1]
  ·have dp1:(C.p == 1)=false:=by simpa using hp1
   refine wV 11 (bO false) ?_ hS ?_
   ·intro W hSw;clear hS;go_simp
   simp only[aZ];refine wpAnyH_all (rs:=[8]) (by kernel_rfl) (by simp) ?_
   refine AllReadyH.cons rfl (fun K2 hK2=>?_) AllReadyH.nil
   go_simp;refine (HS.out _ hS.b).mono ?_
   rintro o v3 ⟨⟨b,rfl,hx⟩,hb⟩;have hS1:=hS.below hb
   have HXS:Hid (b=true↔SP):=hx
   clear hb hx;go_wp2_with fail;refine hK2.out _ _ hS1 (fun hS2=>?_)
   clear hK2 K2 hS1 hS;have hS:=hS2
   clear hS2;refine wV 12 (bO false) ?_ hS ?_
   ·intro W hSw;clear hS;go_simp
   simp only[aZ];refine wW 13 hS ?_
   simp only[aZ];refine wW 14 hS ?_
   simp only[aZ];refine wV 15 (bO false) ?_ hS ?_
   ·intro W hSw;clear hS;go_simp
   simp only[aZ];refine wV 16 (bO (!b)) ?_ hS ?_
   ·intro W hSw;clear hS;go_simp
   simp only[aZ];refine wV 17 (bO (!b)) ?_ hS ?_
   ·intro W hSw;clear hS;go_simp
   simp only[aZ];refine wV 18 (bO (!b)) ?_ hS ?_
   ·intro W hSw;clear hS;go_simp
   simp only[aZ];have h1:=HXC.out.1 (by simp)
   have h2:=HXM.out.1 (by simp)
   have h3:=HXS.out
   have h4:=HVP.out
   have h5:=HIN.out
   refine wpAnyH_done (by kernel_rfl) ?_ _
   go_wp2_with fail;go_ret;refine⟨⟨_,rfl,?_⟩,hS.b⟩
   simp only[h1,h2,h4,h5,true_and,← h3]
   cases b <;> simp[hp1]
 ·have din:decide (0≤C.p∧C.p≤7)=false:=by simpa using hin
  go_wp2_with (first
   | (go_at_call 66;refine (HIR.out _ _ _ _).mono ?_;rintro o w2 ⟨rfl,rfl⟩))
  go_ret;exact⟨⟨false,rfl,by simp only[Bool.false_eq_true,false_iff];rintro⟨h,_⟩;exact hin h⟩,H0.out.b⟩
def toldC (w:World) (C:Co) (o:Ending) (w':World):Prop:=∃ s4:Wh,o = rT (aG (coL C s4.sl).toArray)∧St w.heap.size w' (fun W=>isHo W C.ho s4.sl)∧whS w.heap.size w'.heap.size w' s4∧whD s4∧whE s4∧Below w.heap.size w w'
set_option maxRecDepth 20000 in
theorem mtold_any (w:World) (M P:Nat) (C:Co) (hm:blk w M (mcL P C) 144) (ht:∀ X,Below w.heap.size w X→Calls Tp 140 #[pT (some ⟨P,0,none⟩)] X (toldQ X C.ho)) :
  Calls Tp 80 #[pT (some ⟨M,0,none⟩)] w (toldC w C):=by
 have HT:Hid (∀ X,Below w.heap.size w X→Calls Tp 140 #[pT (some ⟨P,0,none⟩)] X (toldQ X C.ho)):=ht
 have HA:Hid (Below w.heap.size w (w.alloc (.cells Z21.toArray 43))):=(Below.refl _ _).alloc (Nat.le_refl _) _
 have HM:Hid (blk (w.alloc (.cells Z21.toArray 43)) M (mcL P C) 144∧blk (w.alloc (.cells Z21.toArray 43)) w.heap.size Z21 43∧Below w.heap.size w (w.alloc (.cells Z21.toArray 43))):=⟨hm.below HA.out,blk.new w _ 43,HA.out⟩
 clear hm ht HA;go_enter Tryz.func80,Tryz.ntmps80
 go_wp2_with fail;refine wp_region_held (S:=fun X=>blk X M (mcL P C) 144∧(∃ l:List Value,l.length=21∧blk X w.heap.size l 43)∧Below w.heap.size w X) (by kernel_rfl) ?_
 have hS:(fun X=>blk X M (mcL P C) 144∧(∃ l:List Value,l.length=21∧blk X w.heap.size l 43)∧Below w.heap.size w X) (World.drew (w.alloc (.cells Z21.toArray 43))):=⟨HM.out.1.below (Below.refl _ _).drew,⟨Z21,rfl,HM.out.2.1.below (Below.refl _ _).drew⟩,HM.out.2.2.drew⟩
 clear HM;change wpAnyH Tp _ _ _ _ _ _ _ (World.drew (w.alloc (.cells Z21.toArray 43)))
 generalize World.drew (w.alloc (.cells Z21.toArray 43))=v0 at *;refine wV 0 (pT (some ⟨M,0,none⟩)) ?_ hS ?_
 ·intro W hSw;clear hS;go_simp
 simp only[Act.put,aA,aB,aC,aD,aE]
 refine wV 1 (pT (some ⟨M,0,none⟩)) ?_ hS ?_
 ·intro W hSw;clear hS;go_simp
 simp only[aZ];refine wV 2 (pT (some ⟨M,3,none⟩)) ?_ hS ?_
 ·intro W hSw;clear hS;go_simp
 simp only[aZ];refine wV 3 (pT (some ⟨M,3,none⟩)) ?_ hS ?_
 ·intro W hSw;clear hS;go_simp
 simp only[aZ];refine wV 4 (I J C.p) ?_ hS ?_
 ·intro W hSw;clear hS;have y:=hSw.1.cell 3 (I J C.p) rfl
  go_simp
 simp only[aZ];refine wV 5 (pT (some ⟨M,0,none⟩)) ?_ hS ?_
 ·intro W hSw;clear hS;go_simp
 simp only[aZ];refine wV 6 (pT (some ⟨M,0,none⟩)) ?_ hS ?_
 ·intro W hSw;clear hS;go_simp
 simp only[aZ];refine wV 7 (pT (some ⟨M,3,none⟩)) ?_ hS ?_
 ·intro W hSw;clear hS;go_simp
 simp only[aZ];refine wV 8 (pT (some ⟨M,4,none⟩)) ?_ hS ?_
 ·intro W hSw;clear hS;go_simp
 simp only[aZ];refine wV 9 (I J C.ct) ?_ hS ?_
 ·intro W hSw;clear hS;have y:=hSw.1.cell 4 (I J C.ct) rfl
  go_simp
 simp only[aZ];refine wV 10 (pT (some ⟨M,0,none⟩)) ?_ hS ?_
 ·intro W hSw;clear hS;go_simp
 simp only[aZ];refine wV 11 (pT (some ⟨M,0,none⟩)) ?_ hS ?_
 ·intro W hSw;clear hS;go_simp
 simp only[aZ];refine wV 12 (pT (some ⟨M,3,none⟩)) ?_ hS ?_
 ·intro W hSw;clear hS;go_simp
 simp only[aZ];refine wV 13 (pT (some ⟨M,5,none⟩)) ?_ hS ?_
 ·intro W hSw;clear hS;go_simp
 simp only[aZ];refine wV 14 (I J C.lv) ?_ hS ?_
 ·intro W hSw;clear hS;have y:=hSw.1.cell 5 (I J C.lv) rfl
  go_simp
 simp only[aZ];refine wV 15 (pT (some ⟨M,0,none⟩)) ?_ hS ?_
 ·intro W hSw;clear hS;go_simp
 simp only[aZ];refine wV 16 (pT (some ⟨M,0,none⟩)) ?_ hS ?_
 ·intro W hSw;clear hS;go_simp
 simp only[aZ];refine wV 17 (pT (some ⟨M,3,none⟩)) ?_ hS ?_
 ·intro W hSw;clear hS;go_simp
 simp only[aZ];refine wV 18 (pT (some ⟨M,6,none⟩)) ?_ hS ?_
 ·intro W hSw;clear hS;go_simp
 simp only[aZ];refine wV 19 (bO C.wk) ?_ hS ?_
 ·intro W hSw;clear hS;have y:=hSw.1.cell 6 (bO C.wk) rfl
  go_simp
 simp only[aZ];refine wV 20 (pT (some ⟨M,0,none⟩)) ?_ hS ?_
 ·intro W hSw;clear hS;go_simp
 simp only[aZ];refine wV 21 (pT (some ⟨M,0,none⟩)) ?_ hS ?_
 ·intro W hSw;clear hS;go_simp
 simp only[aZ];refine wV 22 (pT (some ⟨M,3,none⟩)) ?_ hS ?_
 ·intro W hSw;clear hS;go_simp
 simp only[aZ];refine wV 23 (pT (some ⟨M,7,none⟩)) ?_ hS ?_
 ·intro W hSw;clear hS;go_simp
 simp only[aZ];refine wV 24 (bO C.ov) ?_ hS ?_
 ·intro W hSw;clear hS;have y:=hSw.1.cell 7 (bO C.ov) rfl
  go_simp
 simp only[aZ];refine wV 25 (pT (some ⟨M,0,none⟩)) ?_ hS ?_
 ·intro W hSw;clear hS;go_simp
 simp only[aZ];refine wV 26 (pT (some ⟨M,0,none⟩)) ?_ hS ?_
 ·intro W hSw;clear hS;go_simp
 simp only[aZ];refine wV 27 (pT (some ⟨M,3,none⟩)) ?_ hS ?_
 ·intro W hSw;clear hS;go_simp
 simp only[aZ];refine wV 28 (pT (some ⟨M,8,none⟩)) ?_ hS ?_
 ·intro W hSw;clear hS;go_simp
 simp only[aZ];refine wV 29 (bO C.ow) ?_ hS ?_
 ·intro W hSw;clear hS;have y:=hSw.1.cell 8 (bO C.ow) rfl
  go_simp
 simp only[aZ];refine wV 30 (pT (some ⟨M,0,none⟩)) ?_ hS ?_
 ·intro W hSw;clear hS;go_simp
 simp only[aZ];refine wV 31 (pT (some ⟨M,0,none⟩)) ?_ hS ?_
 ·intro W hSw;clear hS;go_simp
 simp only[aZ];refine wV 32 (pT (some ⟨M,3,none⟩)) ?_ hS ?_
 ·intro W hSw;clear hS;go_simp
 simp only[aZ];refine wV 33 (pT (some ⟨M,9,none⟩)) ?_ hS ?_
 ·intro W hSw;clear hS;go_simp
 simp only[aZ];refine wV 34 (bO C.tx) ?_ hS ?_
 ·intro W hSw;clear hS;have y:=hSw.1.cell 9 (bO C.tx) rfl
  go_simp
 simp only[aZ];refine wV 35 (pT (some ⟨M,0,none⟩)) ?_ hS ?_
 ·intro W hSw;clear hS;go_simp
 simp only[aZ];refine wV 36 (pT (some ⟨M,0,none⟩)) ?_ hS ?_
 ·intro W hSw;clear hS;go_simp
 simp only[aZ];refine wV 37 (pT (some ⟨M,3,none⟩)) ?_ hS ?_
 ·intro W hSw;clear hS;go_simp
 simp only[aZ];refine wV 38 (pT (some ⟨M,10,none⟩)) ?_ hS ?_
 ·intro W hSw;clear hS;go_simp
 simp only[aZ];refine wV 39 (bO C.ak) ?_ hS ?_
 ·intro W hSw;clear hS;have y:=hSw.1.cell 10 (bO C.ak) rfl
  go_simp
 simp only[aZ];refine wV 40 (pT (some ⟨M,0,none⟩)) ?_ hS ?_
 ·intro W hSw;clear hS;go_simp
 simp only[aZ];refine wV 41 (pT (some ⟨M,0,none⟩)) ?_ hS ?_
 ·intro W hSw;clear hS;go_simp
 simp only[aZ];refine wV 42 (pT (some ⟨M,3,none⟩)) ?_ hS ?_
 ·intro W hSw;clear hS;go_simp
 simp only[aZ];refine wV 43 (pT (some ⟨M,11,none⟩)) ?_ hS ?_
 ·intro W hSw;clear hS;go_simp
 simp only[aZ];refine wV 44 (I J C.rn) ?_ hS ?_
 ·intro W hSw;clear hS;have y:=hSw.1.cell 11 (I J C.rn) rfl
  go_simp
 simp only[aZ];refine wV 45 (pT (some ⟨M,0,none⟩)) ?_ hS ?_
 ·intro W hSw;clear hS;go_simp
 simp only[aZ];refine wV 46 (pT (some ⟨M,0,none⟩)) ?_ hS ?_
 ·intro W hSw;clear hS;go_simp
 simp only[aZ];refine wV 47 (pT (some ⟨M,0,none⟩)) ?_ hS ?_
 ·intro W hSw;clear hS;go_simp
 simp only[aZ];refine wV 48 (pT (some ⟨M,1,none⟩)) ?_ hS ?_
 ·intro W hSw;clear hS;go_simp
 simp only[aZ];refine wV 49 (I J C.te) ?_ hS ?_
 ·intro W hSw;clear hS;have y:=hSw.1.cell 1 (I J C.te) rfl
  go_simp
 simp only[aZ];refine wV 50 (pT (some ⟨M,0,none⟩)) ?_ hS ?_
 ·intro W hSw;clear hS;go_simp
 simp only[aZ];refine wV 51 (pT (some ⟨M,0,none⟩)) ?_ hS ?_
 ·intro W hSw;clear hS;go_simp
 simp only[aZ];refine wV 52 (pT (some ⟨M,0,none⟩)) ?_ hS ?_
 ·intro W hSw;clear hS;go_simp
 simp only[aZ];refine wV 53 (pT (some ⟨M,2,none⟩)) ?_ hS ?_
 ·intro W hSw;clear hS;go_simp
 simp only[aZ];refine wV 54 (I J C.re) ?_ hS ?_
 ·intro W hSw;clear hS;have y:=hSw.1.cell 2 (I J C.re) rfl
  go_simp
 simp only[aZ];refine wV 55 (pT (some ⟨M,0,none⟩)) ?_ hS ?_
 ·intro W hSw;clear hS;go_simp
 simp only[aZ];refine wV 56 (pT (some ⟨M,0,none⟩)) ?_ hS ?_
 ·intro W hSw;clear hS;go_simp
 simp only[aZ];refine wV 57 (pT (some ⟨M,0,none⟩)) ?_ hS ?_
 ·intro W hSw;clear hS;go_simp
 simp only[aZ];refine wV 58 (pT (some ⟨M,0,none⟩)) ?_ hS ?_
 ·intro W hSw;clear hS;go_simp
 simp only[aZ];refine wV 59 (pT (some ⟨P,0,none⟩)) ?_ hS ?_
 ·intro W hSw;clear hS;have y:=hSw.1.cell 0 (pT (some ⟨P,0,none⟩)) rfl
  go_simp
 simp only[aZ];refine wpAnyH_all (rs:=[60]) (by kernel_rfl) (by simp) ?_
 refine AllReadyH.cons rfl (fun K2 hK2=>?_) AllReadyH.nil
 go_simp;refine (HT.out _ hS.2.2).mono ?_
 rintro o w2 ⟨s4,rfl,q1,q2,q3,q4,hb⟩;have hS2:(fun X=>blk X M (mcL P C) 144∧(∃ l:List Value,l.length=21∧blk X w.heap.size l 43)∧Below w.heap.size w X) w2:=⟨hS.1.below hb,(by obtain⟨l,h1,h2⟩:=hS.2.1;exact⟨l,h1,h2.below hb⟩),hS.2.2.trans (hb.mono hS.2.2.size)⟩
 have HQ:Hid (St v0.heap.size w2 (fun W=>isHo W C.ho s4.sl)∧whS v0.heap.size w2.heap.size w2 s4∧whD s4∧whE s4):=⟨q1,q2,q3,q4⟩
 have HZ:Hid (w.heap.size≤v0.heap.size∧w.heap.size<v0.heap.size):=⟨hS.2.2.size,(by obtain⟨l,h1,h2⟩:=hS.2.1;exact h2.lt)⟩
 clear q1 q2 q3 q4 hb;go_wp2_with fail;refine hK2.out _ _ hS2 (fun hS3=>?_)
 clear hK2 K2 hS2 hS;have hS:=hS3
 clear hS3;refine wV 61 (aG (coL C s4.sl).toArray) ?_ hS ?_
 ·intro W hSw;clear hS;simp only[coL,hoL]
  go_simp
 simp only[aZ];refine wpAnyH_all (rs:=[62]) (by kernel_rfl) (by simp) ?_
 refine AllReadyH.cons rfl (fun K2 hK2=>?_) AllReadyH.nil
 rw[if_pos (by rfl)]
 obtain⟨l0,hl0,hbl⟩:=hS.2.1
 have HL0:Hid (l0.length=21∧blk w2 w.heap.size l0 43):=⟨hl0,hbl⟩
 refine wp_store_mid 43 (.tmp 2) (.tmp 64) rfl w.heap.size 0 (coL C s4.sl).toArray rfl rfl (hbl.there 0 _ (by rw[List.size_toArray,coL_len,hl0];decide)) (szC41A C s4.sl) (coL_one C s4.sl) ?_
 generalize hW8:World.setCells w2 w.heap.size 0 _=w8
 have HM8:Hid (M≠w.heap.size):=fun e=>by
  have h1:=hS.1
  have h2:=HL0.out.2
  rw[e] at h1
  have:=h1.symm.trans h2
  simp at this
 have hf8:blk w8 w.heap.size (coL C s4.sl) 43:=by
  rw[← hW8]
  have:=blk.put [] l0 [] (coL C s4.sl) (w:=w2) (b:=w.heap.size) (T:=43) (by simpa using HL0.out.2) (by rw[HL0.out.1,coL_len])
  simpa using this
 have HF:Hid (blk w8 w.heap.size (coL C s4.sl) 43):=hf8
 clear hf8;have oth:∀ x,x≠w.heap.size→w8.heap[x]?=w2.heap[x]?:=fun x hx=>by rw[← hW8];exact setCells_other _ x hx _ _ _
 have hsz:w8.heap.size=w2.heap.size:=by rw[← hW8];exact setCells_size ..
 have HB8:Hid (Below w.heap.size w w8):=by rw[← hW8];exact setCells_below (by omega) 0 _ hS.2.2
 have HQ8:Hid (St w.heap.size w8 (fun W=>isHo W C.ho s4.sl)∧whS w.heap.size w8.heap.size w8 s4):=toldQ.put (w:=w) HZ.out.1 HZ.out.2 HQ.out.1 HQ.out.2.1 oth hsz
 have hS8:(fun X=>blk X M (mcL P C) 144∧(∃ l:List Value,l.length=21∧blk X w.heap.size l 43)∧Below w.heap.size w X) w8:=⟨hS.1.kept (oth _ HM8.out),⟨_,coL_len _ _,HF.out⟩,HB8.out⟩
 clear oth hsz hW8 hbl hl0;refine hK2.out _ _ hS8 (fun hS3=>?_)
 clear hK2 K2 hS8 hS hS3 HL0 HM8 HZ;refine wpAnyH_done (by kernel_rfl) ?_ _
 go_wp2_with fail;have hL:=run_loadVar_mid (P:=Tp) w8 w.heap.size 0 43 _ _ HF.out.load Tryz.underlying43 rfl (szC41L C s4.sl)
 refine bodyPost_ret (v:=aG (coL C s4.sl).toArray) (results_cell Tryz.results80 _ w8 w.heap.size _ rfl hL) rfl ?_
 exact⟨s4,rfl,HQ8.out.1,HQ8.out.2,HQ.out.2.2.1,HQ.out.2.2.2,HB8.out⟩
structure ptS (w:World) (L:List Value) (F:List Value) (W:World):Prop where
 p:blk W w.heap.size L 41
 f:blk W (w.heap.size+1) F 67
 r:blk W (w.heap.size+1+1) Z10 41
 b:Below w.heap.size w W
theorem ptS.below {w:World} {L F:List Value} {W W':World} (h:ptS w L F W) (hb:Below W.heap.size W W'):ptS w L F W':=⟨h.p.below hb,h.f.below hb,h.r.below hb,h.b.trans (hb.mono h.b.size)⟩
theorem ptS.new (w:World) (L F:List Value):ptS w L F (((w.alloc (.cells L.toArray 41)).alloc (.cells F.toArray 67)).alloc (.cells zX.toArray 41)):=by
 refine⟨((blk.new w _ 41).alloc _).alloc _,?_,?_,(((Below.refl _ _).alloc (Nat.le_refl _) _).alloc (by simp) _).alloc (by simp;omega) _⟩
 ·have:=(blk.new (w.alloc (.cells L.toArray 41)) F 67).alloc (.cells zX.toArray 41)
  simpa using this
 ·have:=blk.new ((w.alloc (.cells L.toArray 41)).alloc (.cells F.toArray 67)) Z10 41
  have e:((w.alloc (.cells L.toArray 41)).alloc (.cells F.toArray 67)).heap.size=w.heap.size+1+1:=by simp
  rw[e] at this
  exact this
theorem ownG.other {α:Type} {F:Rc α} {w w':World} {B E sz g k q:Nat} {rs:List α} (h:ownG F w B E sz g k rs) (he:∀ b,b≠q→w'.heap[b]?=w.heap[b]?) (hg:g≠q) (hd:∀ p ∈ rs,F.gd p≠q) (hz:w.heap.size≤w'.heap.size):ownG F w' B E sz g k rs:=by
 refine⟨ownsRow_kept h.own (he g hg),fun p hp=>?_⟩
 obtain⟨d1,d2,d3,d4⟩:=h.dat p hp
 exact⟨d1.other (he _ (hd p hp)),d2,d3,Nat.lt_of_lt_of_le d4 hz⟩
def quP (c3:Int) (qu:List R8) (e:R8):List R8:=if (qu.length:Int)<c3 then qu++[e] else qu
def loP (c3:Int) (qu:List R8) (lo:Int):Int:=if (qu.length:Int)<c3 then lo else if lo<100000 then lo+1 else lo
def postHo (H:Ho) (e:R8):Ho:={ H with qu:=quP H.c3 H.qu e,lo:=loP H.c3 H.qu H.lo }
def qSl (s:Sl) (g n k:Nat):Sl:={ s with a4:=some ⟨g,0,none⟩,n4:=n,k4:=k }
abbrev ev3 (x y z:Int):R8:=⟨x,y,z,false,0,false,0,[]⟩
abbrev z8:R8:=⟨0,0,0,false,0,false,0,[]⟩
structure bxR (B T g n k:Nat) (bx:List R8) (hs:Nat→Hd) (W:World):Prop where
 len:n=bx.length
 cap:n≤k
 lo:B≤g
 hi:g<T
 row:rowF W g (n*8)
 rng:∀ j (h:j<bx.length),W.rangeAt g (j*8) (x8 (bx[j],hs j))
 dat:∀ j (h:j<bx.length),isBytes W (hs j).1 (hs j).2.1 (hs j).2.2 bx[j].l∧(((hs j).1=none∧(hs j).2.1=0)∨∃ b,(hs j).1=some ⟨b,0,none⟩∧B≤b∧b<T∧b≠g)
theorem isBytes.none0 {W W':World} {a:Option Addr} {n c:Nat} {l:List Nat} (h:isBytes W a n c l) (hn:n=0):isBytes W' a n c l:=⟨h.len,h.cap,h.small,fun hne=>absurd (List.length_pos_iff.2 hne) (by have:=h.len;omega)⟩
theorem bxR.st {B T g n k:Nat} {bx:List R8} {hs:Nat→Hd} {W W':World} (h:bxR B T g n k bx hs W) (he:∀ x,B≤x→x<T→W'.heap[x]?=W.heap[x]?):bxR B T g n k bx hs W':=
 ⟨h.len,h.cap,h.lo,h.hi,h.row.up (he g h.lo h.hi),fun j hj=>rangeAt.up (h.rng j hj) (he g h.lo h.hi),fun j hj=>by
  obtain⟨h1,h2⟩:=h.dat j hj
  refine⟨?_,h2⟩
  rcases h2 with⟨e1,e2⟩|⟨b,e1,e2,e3,_⟩
  ·exact h1.none0 e2
  ·rw[e1] at h1 ⊢
   exact h1.other (he b e2 e3)⟩
theorem x8_at8 {W:World} {g o:Nat} {b:R8} {h:Hd} (hr:W.rangeAt g o (x8 (b,h))) (hd:isBytes W h.1 h.2.1 h.2.2 b.l):at8 W g o b h.1 h.2.1 h.2.2:=
 ⟨hr 0 _ rfl,hr 1 _ rfl,hr 2 _ rfl,hr 3 _ rfl,hr 4 _ rfl,hr 5 _ rfl,hr 6 _ rfl,hr 7 _ rfl,hd⟩
theorem bxR.is {B T g n k:Nat} {bx:List R8} {hs:Nat→Hd} {W:World} (h:bxR B T g n k bx hs W):isR8s W (some ⟨g,0,none⟩) n k bx:=
 ⟨h.len,h.cap,fun _=>⟨g,0,rfl,fun j hj=>⟨_,_,_,by rw[Nat.zero_add];exact x8_at8 (h.rng j hj) (h.dat j hj).1⟩⟩⟩
theorem rowQ8.bxR {B T E g n k:Nat} {bx:List R8} {W:World} (h:rowQ8 B T E g n k bx W):∃ hs,bxR B T g n k bx hs W:=by
 have hi:=h.is
 obtain⟨rs,h2,h3,h4,h5,h6⟩:=h
 have hl:=h2.lt
 obtain⟨g1,c1,e1,q1,q2,q3,q4⟩:=own_slice h2.own (by intro e;cases e)
 rcases ownsRow_split h2.own with⟨e,_⟩|⟨g2,c2,e2,_,_,_,hrf,hrg⟩
 ·cases e
 cases e2
 subst h3;refine⟨fun j=>(rs.map fun p=>((some ⟨p.2.1,0,none⟩,p.1.l.length,p.2.2):Hd)).getD j (none,0,0),⟨hi.len,hi.cap,hl.1,h5,by rw[← h4];exact hrf,fun j hj=>?_,fun j hj=>?_⟩⟩
 ·have hj':j<rs.length:=by simpa using hj
  have e:x8 ((rs.map (·.1))[j],(rs.map fun p=>((some ⟨p.2.1,0,none⟩,p.1.l.length,p.2.2):Hd)).getD j (none,0,0))=rc8.enc rs[j]:=by
   simp[x8,rc8,List.getD,hj']
  rw[e]
  intro t u hu;have ht:t<8:=by have:=(List.getElem?_eq_some_iff.mp hu).1;simpa[rc8] using this
  have:=hrg (j*8+t) u (by rw[flat_at rc8.enc 8 (fun _=>rfl) rs j hj' t ht];exact hu)
  rw[Nat.zero_add] at this
  exact this
 ·have hj':j<rs.length:=by simpa using hj
  have hm:=List.getElem_mem hj'
  obtain⟨d1,d2,d3,d4⟩:=h2.dat rs[j] hm
  simp only[List.getElem_map,List.getD,List.getElem?_map,List.getElem?_eq_getElem hj',Option.map_some,Option.getD_some]
  exact⟨d1,Or.inr ⟨_,rfl,d2,h6 _ hm,d3⟩⟩
theorem bxR.put {B T g n k:Nat} {bx:List R8} {hs:Nat→Hd} {W:World} (h:bxR B T g n k bx hs W) (i:Nat) (hi:i<bx.length) (b:R8) (hd:Hd) (hb:isBytes W hd.1 hd.2.1 hd.2.2 b.l) (hw:(hd.1=none∧hd.2.1=0)∨∃ b,hd.1=some ⟨b,0,none⟩∧B≤b∧b<T∧b≠g):bxR B T g n k (bx.set i b) (fun j=>if j=i then hd else hs j) (setRow W g (i*8) (x8 (b,hd))):=by
 have hln:=h.len
 have oth:∀ x,x≠g→(setRow W g (i*8) (x8 (b,hd))).heap[x]?=W.heap[x]?:=fun x hx=>setRow_block g x hx _ _ _
 have dk:∀ (hd':Hd) (l:List Nat),isBytes W hd'.1 hd'.2.1 hd'.2.2 l→((hd'.1=none∧hd'.2.1=0)∨∃ b,hd'.1=some ⟨b,0,none⟩∧B≤b∧b<T∧b≠g)→isBytes (setRow W g (i*8) (x8 (b,hd))) hd'.1 hd'.2.1 hd'.2.2 l:=by
  intro hd' l h1 h2;rcases h2 with⟨e1,e2⟩|⟨c,e1,e2,e3,e4⟩
  ·exact h1.none0 e2
  ·rw[e1] at h1 ⊢
   exact h1.other (oth c e4)
 refine⟨by rw[List.length_set];exact h.len,h.cap,h.lo,h.hi,h.row.setRow _ _ _ _,fun j hj=>?_,fun j hj=>?_⟩
 ·have hj':j<bx.length:=by simpa using hj
  by_cases e:j=i
  ·subst e;rw[List.getElem_set_self,if_pos rfl]
   intro t u hu;have ht:t<(x8 (b,hd)).length:=(List.getElem?_eq_some_iff.mp hu).1
   have ht8:t<8:=by simpa[x8] using ht
   rw[setRow_at g _ _ _ t ht ((h.row (j*8+t) (by omega)).1)]
   rw[List.getElem?_eq_getElem ht] at hu
   exact hu
  ·rw[List.getElem_set_ne (fun x=>e x.symm),if_neg e]
   intro t u hu;have ht:t<8:=by have:=(List.getElem?_eq_some_iff.mp hu).1;simpa[x8] using this
   rw[setRow_other g _ _ _ _ (by simp[x8];omega)]
   exact h.rng j hj' t u hu
 ·have hj':j<bx.length:=by simpa using hj
  by_cases e:j=i
  ·subst e;rw[List.getElem_set_self,if_pos rfl]
   exact⟨dk hd b.l hb hw,hw⟩
  ·rw[List.getElem_set_ne (fun x=>e x.symm),if_neg e]
   exact⟨dk _ _ (h.dat j hj').1 (h.dat j hj').2,(h.dat j hj').2⟩
theorem bxR.there {B T g n k:Nat} {bx:List R8} {hs:Nat→Hd} {W:World} (h:bxR B T g n k bx hs W) (i:Nat) (hi:i<bx.length):W.there g (i*8) 8:=fun j hj=>by
 obtain⟨⟨v,hv⟩,hf⟩:=h.row (i*8+j) (by have:=h.len;omega)
 exact⟨by rw[hv];rfl,hf⟩
theorem bxR.setX {B T g n k:Nat} {bx:List R8} {hs:Nat→Hd} {W:World} (h:bxR B T g n k bx hs W) (i:Nat) (hi:i<bx.length) (v:Int):bxR B T g n k (bx.set i { bx[i] with x:=v }) hs (W.setCell ⟨g,i*8,none⟩ (I J v)):=by
 have oth:∀ x,x≠g→(W.setCell ⟨g,i*8,none⟩ (I J v)).heap[x]?=W.heap[x]?:=fun x hx=>heap_setCell_other W ⟨g,i*8,none⟩ x _ hx
 refine⟨by rw[List.length_set];exact h.len,h.cap,h.lo,h.hi,h.row.setCell _ _,fun j hj=>?_,fun j hj=>?_⟩
 ·have hj':j<bx.length:=by simpa using hj
  have ot:∀ t,j*8+t≠i*8→(W.setCell ⟨g,i*8,none⟩ (I J v)).cell? ⟨g,j*8+t,none⟩=W.cell? ⟨g,j*8+t,none⟩:=fun t ht=>World.cell?_setCell_other _ _ _ _ (by intro e;simp at e <;> omega)
  intro t u hu;have ht:t<8:=by have:=(List.getElem?_eq_some_iff.mp hu).1;simpa[x8] using this
  by_cases e:j=i
  ·subst e;rw[List.getElem_set_self] at hu
   by_cases et:t=0
   ·subst et;have e0:u = I J v:=by simpa[x8] using hu.symm
    subst e0;obtain⟨⟨w0,hw0⟩,_⟩:=h.row (j*8) (by have:=h.len;omega)
    exact World.cell?_setCell_same _ _ _ hw0
   ·rw[ot t (by omega)]
    refine h.rng j hj' t u ?_
    rw[← hu]
    match t,ht,et with
    | 1,_,_ | 2,_,_ | 3,_,_ | 4,_,_ | 5,_,_ | 6,_,_ | 7,_,_=>rfl
  ·rw[List.getElem_set_ne (fun x=>e x.symm)] at hu
   rw[ot t (by omega)]
   exact h.rng j hj' t u hu
 ·have hj':j<bx.length:=by simpa using hj
  have e:(bx.set i { bx[i] with x:=v })[j].l=bx[j].l:=by
   by_cases e:j=i
   ·subst e;rw[List.getElem_set_self]
   ·rw[List.getElem_set_ne (fun x=>e x.symm)]
  rw[e]
  obtain⟨h1,h2⟩:=h.dat j hj'
  refine⟨?_,h2⟩
  rcases h2 with⟨e1,e2⟩|⟨b,e1,e2,e3,e4⟩
  ·exact h1.none0 e2
  ·rw[e1] at h1 ⊢
   exact h1.other (oth b e4)
structure spS (B T0 T1 T2:Nat) (H:Ho) (s:Sl) (W:World):Prop where
 f:∃ gf,s.a1=some ⟨gf,0,none⟩∧B≤gf∧gf<T0∧isR3s W (some ⟨gf,0,none⟩) s.n1 s.k1 H.fs
 x:∃ gb hs,s.a2=some ⟨gb,0,none⟩∧bxR T0 T1 gb s.n2 s.k2 H.bx hs W
 r:∃ gq,s.a3=some ⟨gq,0,none⟩∧rowQ5 T1 T2 67 gq s.n3 s.k3 H.ff W
 q:∃ g4,s.a4=some ⟨g4,0,none⟩∧rowQ8 T2 W.heap.size 173 g4 s.n4 s.k4 H.qu W
 o:B≤T0∧T0≤T1∧T1≤T2∧T2≤W.heap.size
theorem spS.is {B T0 T1 T2:Nat} {H:Ho} {s:Sl} {W:World} (h:spS B T0 T1 T2 H s W):isHo W H s:=by
 obtain⟨gf,e1,_,_,h1⟩:=h.f
 obtain⟨gb,hs,e2,h2⟩:=h.x
 obtain⟨gq,e3,h3⟩:=h.r
 obtain⟨g4,e4,h4⟩:=h.q
 exact⟨by rw[e1];exact h1,by rw[e2];exact h2.is,by rw[e3];exact h3.is,by rw[e4];exact h4.is⟩
theorem rowQ8.mono {B T T' E g n k:Nat} {bs:List R8} {W:World} (h:rowQ8 B T E g n k bs W) (hT:T≤T'):rowQ8 B T' E g n k bs W:=by
 obtain⟨rs,h1,h2,h3,h4,h5⟩:=h
 exact⟨rs,h1,h2,h3,by omega,fun p hp=>Nat.lt_of_lt_of_le (h5 p hp) hT⟩
theorem rowQ8.keep {B T E g n k:Nat} {bs:List R8} {W W':World} (h:rowQ8 B T E g n k bs W) (he:∀ x,B≤x→x<T→W'.heap[x]?=W.heap[x]?):rowQ8 B T E g n k bs W':=by
 obtain⟨rs,h1,h2,h3,h4,h5⟩:=h
 refine⟨rs,⟨ownsRow_kept h1.own (he g h1.lt.1 h4),fun p hp=>?_⟩,h2,h3,h4,h5⟩
 obtain⟨d1,d2,d3,d4⟩:=h1.dat p hp
 have e:=he _ d2 (h5 p hp)
 refine⟨d1.other e,d2,d3,?_⟩
 rw[Array.getElem?_eq_getElem d4] at e
 exact lt_of_some e
theorem rowQ5.keep {B T E g n k:Nat} {bs:List R5} {W W':World} (h:rowQ5 B T E g n k bs W) (he:∀ x,B≤x→x<T→W'.heap[x]?=W.heap[x]?):rowQ5 B T E g n k bs W':=by
 obtain⟨rs,h1,h2,h3,h4,h5⟩:=h
 refine⟨rs,⟨ownsRow_kept h1.own (he g h1.lt.1 h4),fun p hp=>?_⟩,h2,h3,h4,h5⟩
 obtain⟨d1,d2,d3,d4⟩:=h1.dat p hp
 have e:=he _ d2 (h5 p hp)
 refine⟨d1.other e,d2,d3,?_⟩
 rw[Array.getElem?_eq_getElem d4] at e
 exact lt_of_some e
theorem spS.st {B T0 T1 T2:Nat} {H:Ho} {s:Sl} {W W':World} (h:spS B T0 T1 T2 H s W) (he:∀ x,B≤x→x<W.heap.size→W'.heap[x]?=W.heap[x]?) (hz:W.heap.size≤W'.heap.size):spS B T0 T1 T2 H s W':=by
 obtain⟨o1,o2,o3,o4⟩:=h.o
 obtain⟨gf,e1,h1a,h1b,h1⟩:=h.f
 obtain⟨gb,hs,e2,h2⟩:=h.x
 obtain⟨gq,e3,h3⟩:=h.r
 obtain⟨g4,e4,h4⟩:=h.q
 exact⟨⟨gf,e1,h1a,h1b,h1.same (he gf h1a (by omega))⟩,⟨gb,hs,e2,h2.st fun x h1 h2=>he x (by omega) (by omega)⟩,⟨gq,e3,h3.keep fun x h1 h2=>he x (by omega) (by omega)⟩,⟨g4,e4,(h4.keep fun x h1 h2=>he x (by omega) h2).mono hz⟩,⟨o1,o2,o3,by omega⟩⟩
theorem spS.below {B T0 T1 T2:Nat} {H:Ho} {s:Sl} {W W':World} (h:spS B T0 T1 T2 H s W) (hb:Below W.heap.size W W'):spS B T0 T1 T2 H s W':=h.st (fun x _ hx=>hb.block x hx) hb.size
theorem spS.post {B T0 T1 T2:Nat} {H:Ho} {s:Sl} {W V:World} {e:R8} {g' n' k':Nat} (h:spS B T0 T1 T2 H s W) (hq:rowQ8 T2 V.heap.size 173 g' n' k' (quP H.c3 H.qu e) V) (he:∀ q,B≤q→q<T2→V.heap[q]?=W.heap[q]?) (hz:W.heap.size≤V.heap.size):spS B T0 T1 T2 (postHo H e) (qSl s g' n' k') V:=by
 obtain⟨o1,o2,o3,o4⟩:=h.o
 obtain⟨gf,e1,h1a,h1b,h1⟩:=h.f
 obtain⟨gb,hs,e2,h2⟩:=h.x
 obtain⟨gq,e3,h3⟩:=h.r
 exact⟨⟨gf,e1,h1a,h1b,h1.same (he gf (by omega) (by omega))⟩,⟨gb,hs,e2,h2.st fun x h1 h2=>he x (by omega) (by omega)⟩,⟨gq,e3,h3.keep fun x h1 h2=>he x (by omega) (by omega)⟩,⟨g',rfl,hq⟩,⟨o1,o2,o3,by omega⟩⟩
theorem spS.box {B T0 T1 T2 gb:Nat} {H:Ho} {s:Sl} {W W':World} {bx:List R8} {hs:Nat→Hd} (h:spS B T0 T1 T2 H s W) (e2:s.a2=some ⟨gb,0,none⟩) (hx:bxR T0 T1 gb s.n2 s.k2 bx hs W') (he:∀ q,q≠gb→W'.heap[q]?=W.heap[q]?) (hz:W'.heap.size=W.heap.size):spS B T0 T1 T2 { H with bx:=bx } s W':=by
 obtain⟨o1,o2,o3,o4⟩:=h.o
 obtain⟨gf,e1,h1a,h1b,h1⟩:=h.f
 obtain⟨gq,e3,h3⟩:=h.r
 obtain⟨g4,e4,h4⟩:=h.q
 have:=hx.lo
 have:=hx.hi
 refine⟨⟨gf,e1,h1a,h1b,h1.same (he gf (by omega))⟩,⟨gb,hs,e2,hx⟩,⟨gq,e3,h3.keep fun x h1 h2=>he x (by omega)⟩,⟨g4,e4,?_⟩,⟨o1,o2,o3,by omega⟩⟩
 rw[hz]
 exact h4.keep fun x h1 h2=>he x (by omega)
def onWb (b:R8):Bool:=b.x == 2 || b.x == 3
def wireIx (bx:List R8):Nat:=bx.findIdx onWb
def freeHo (H:Ho) (k:Nat):Ho:={ H with bx:=H.bx.set k z8 }
def stHo (H:Ho) (k:Nat) (v:Int):Ho:=if h:k<H.bx.length then { H with bx:=H.bx.set k { H.bx[k] with x:=v } } else H
def relHo (H:Ho) (sent:Bool):Ho:=
 if h:wireIx H.bx<H.bx.length then
  (if sent=true then postHo (freeHo H (wireIx H.bx)) ⟨1,H.bx[wireIx H.bx].y,0,H.bx[wireIx H.bx].e,H.bx[wireIx H.bx].i,H.bx[wireIx H.bx].r,H.bx[wireIx H.bx].d,H.bx[wireIx H.bx].l⟩
   else if H.bx[wireIx H.bx].x=3 then postHo (freeHo H (wireIx H.bx)) (ev3 6 H.bx[wireIx H.bx].y 0)
   else stHo H (wireIx H.bx) 1)
 else H
structure reS (w:World) (L:List Value) (W:World):Prop where
 p:blk W w.heap.size L 41
 r:blk W (w.heap.size+1) Z10 41
theorem reS.new (w:World) (L:List Value):reS w L ((w.alloc (.cells L.toArray 41)).alloc (.cells Z10.toArray 41)):=by
 refine⟨(blk.new w _ 41).alloc _,?_⟩
 have:=blk.new (w.alloc (.cells L.toArray 41)) Z10 41
 simpa using this
theorem reS.below {w:World} {L:List Value} {W W':World} (h:reS w L W) (hb:Below W.heap.size W W'):reS w L W':=⟨h.p.below hb,h.r.below hb⟩
theorem reS.kept {w:World} {L:List Value} {W W':World} (h:reS w L W) (hp:W'.heap[w.heap.size]?=W.heap[w.heap.size]?) (hr:W'.heap[w.heap.size+1]?=W.heap[w.heap.size+1]?):reS w L W':=⟨h.p.kept hp,h.r.kept hr⟩
abbrev Z8:List Value:=[I J 0,I J 0,I J 0,bO false,I .u32 0,bO false,I J 0,sL none 0 0]
theorem none8 (W:World):isBytes W none 0 0 []:=⟨rfl,Nat.le_refl _,fun q hq=>(by cases hq),fun h=>absurd rfl h⟩
theorem stHo_yes {H:Ho} {k:Nat} (hk:k<H.bx.length) (v:Int):stHo H k v = { H with bx:=H.bx.set k { H.bx[k] with x:=v } }:=by
 unfold stHo
 rw[dif_pos hk]
theorem sp_state {B T0 T1 T2 gb:Nat} {w w5 w6 w9:World} {H:Ho} {s:Sl} {k:Nat} {hs:Nat→Hd} (h0:spS B T0 T1 T2 H s w) (h5:spS B T0 T1 T2 H s w5) (b5:Below w.heap.size w w5) (b6:Below w5.heap.size w5 w6) (e2:s.a2=some ⟨gb,0,none⟩) (hx:bxR T0 T1 gb s.n2 s.k2 H.bx hs w6) (hk:k<H.bx.length) (v:Int) (hz:w.heap.size<w5.heap.size∧w.heap.size+1<w5.heap.size) {L:List Value} (e9:(w6.setCell ⟨gb,k*8,none⟩ (I J v)).setCells (w.heap.size+1) 0 L=w9):spS B T0 T1 T2 (stHo H k v) s w9:=by
 have ho:=h0.o
 have hxl:=hx.lo
 have hxh:=hx.hi
 have hz9:w9.heap.size=w6.heap.size:=by rw[← e9,setCells_size];simp
 have hz6:=b6.size
 have o9:∀ x,x≠w.heap.size+1→w9.heap[x]?=(w6.setCell ⟨gb,k*8,none⟩ (I J v)).heap[x]?:=fun x hx=>by rw[← e9];exact setCells_other _ x hx _ _ _
 have o7:∀ x,x≠gb→(w6.setCell ⟨gb,k*8,none⟩ (I J v)).heap[x]?=w6.heap[x]?:=fun x hx=>heap_setCell_other w6 ⟨gb,k*8,none⟩ x _ hx
 have k9:∀ x,x≠gb→x<w.heap.size→w9.heap[x]?=w.heap[x]?:=fun x h1 h2=>(o9 x (by omega)).trans ((o7 x h1).trans ((b6.block x (by omega)).trans (b5.block x h2)))
 rw[stHo_yes hk]
 obtain⟨gf,e1,h1a,h1b,h1⟩:=h0.f
 obtain⟨gq,e3,h3⟩:=h0.r
 obtain⟨g4,e4,h4⟩:=h0.q
 refine⟨⟨gf,e1,h1a,h1b,h1.same (k9 gf (by omega) (by omega))⟩,⟨gb,hs,e2,(hx.setX k hk v).st fun x h1 h2=>o9 x (by omega)⟩,⟨gq,e3,h3.keep fun x h1 h2=>k9 x (by omega) (by omega)⟩,⟨g4,e4,?_⟩,⟨ho.1,ho.2.1,ho.2.2.1,by omega⟩⟩
 exact (h4.keep fun x h1 h2=>k9 x (by omega) h2).mono (by omega)
theorem okHo.n4 {H:Ho} (h:okHo H):H.qu.length≤1000:=by
 have h1:=of_decide_eq_true h.cf
 have h2:=h.nq
 omega
theorem copyS (W:World) (H:Ho) (s:Sl) (h:isHo W H s) (hn:H.le 1048576):Calls Tp 55 #[aG (hoL H s).toArray] W fun o w'=>∃ s' T0 T1 T2,o = rT (aG (hoL H s').toArray)∧spS (W.heap.size+3) T0 T1 T2 H s' w'∧s'.n2=H.bx.length∧s'.n4=H.qu.length∧Below W.heap.size W w':=by
 rw[← hoV_L]
 refine (l3copy_own W H s h hn).mono ?_
 rintro o w' ⟨gf,kf,gb,kb,gq,kq,g4,k4,T0,T1,T2,T3,rfl,⟨o1,o2,o3,o4,o5,o6⟩,hst,hb⟩;obtain⟨h1,h2,h3,h4⟩:=hst.now
 obtain⟨hs,h2'⟩:=h2.bxR
 exact⟨⟨some ⟨gf,0,none⟩,s.n1,kf,some ⟨gb,0,none⟩,s.n2,kb,some ⟨gq,0,none⟩,s.n3,kq,some ⟨g4,0,none⟩,s.n4,k4⟩,T0,T1,T2,by rw[hoV_L],⟨⟨gf,rfl,o1,o2,h1⟩,⟨gb,hs,rfl,h2'⟩,⟨gq,rfl,h3⟩,⟨g4,rfl,h4.mono o6⟩,⟨by omega,o3,o4,by omega⟩⟩,h.bx.len,h.qu.len,hb⟩
structure itS (w:World) (H:Ho) (s:Sl) (i:Int) (W:World):Prop where
 p:blk W w.heap.size (hoL H s) 41
 x:blk W (w.heap.size+1) [I J i] 3
 r:blk W (w.heap.size+1+1) Z10 41
 b:Below w.heap.size w W
theorem itS.below {w:World} {H:Ho} {s:Sl} {i:Int} {W W':World} (h:itS w H s i W) (hb:Below W.heap.size W W'):itS w H s i W':=⟨h.p.below hb,h.x.below hb,h.r.below hb,h.b.trans (hb.mono h.b.size)⟩
theorem itS.new (w:World) (H:Ho) (s:Sl) (i:Int):itS w H s i (((w.alloc (.cells (hoL H s).toArray 41)).alloc (.cells #[I J i] 3)).alloc (.cells zX.toArray 41)):=by
 refine⟨((blk.new w _ 41).alloc _).alloc _,?_,?_,(((Below.refl _ _).alloc (Nat.le_refl _) _).alloc (by simp) _).alloc (by simp;omega) _⟩
 ·have:=(blk.new (w.alloc (.cells (hoL H s).toArray 41)) [I J i] 3).alloc (.cells zX.toArray 41)
  simpa using this
 ·have:=blk.new ((w.alloc (.cells (hoL H s).toArray 41)).alloc (.cells #[I J i] 3)) Z10 41
  have e:((w.alloc (.cells (hoL H s).toArray 41)).alloc (.cells #[I J i] 3)).heap.size=w.heap.size+1+1:=by simp
  rw[e] at this
  exact this
end Go.Proofs.YtbllefckefhpoaaGreat
