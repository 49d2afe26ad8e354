import Derived.Test.YtkfcfigbgmbaiaaGreatK24
import Derived.Deep.RegionHeld3
namespace Go.Proofs.YtkfcfigbgmbaiaaGreat
set_option maxRecDepth 20000
open Go.RowKit
set_option linter.unusedVariables false
set_option maxHeartbeats 16000000
open Go.Value renaming int→I,slice→sL,bool→bO,pointer→pT,agg→aG
open Go.IntKind renaming i64→J
open Go.Ending renaming returned→rT
open Go.Proofs.Tryz renaming prog→Tp
def toldC (w:World) (C:Co) (o:Ending) (w':World):Prop:=∃ s4:Wh,o = rT (aG (coL C s4.sl).toArray)∧St w.heap.size w' (fun W=>isHo W C.ho s4.sl)∧whS w.heap.size w'.heap.size w' s4∧whD s4∧whE s4∧Below w.heap.size w w'
theorem mtold_any (w:World) (M P:Nat) (C:Co) (hm:blk w M (mcL P C) 125) (ht:∀ X,Below w.heap.size w X→Calls Tp 124 #[pT (some ⟨P,0,none⟩)] X (toldQ X C.ho)) :
  Calls Tp 86 #[pT (some ⟨M,0,none⟩)] w (toldC w C):=by
 have HT:Hid (∀ X,Below w.heap.size w X→Calls Tp 124 #[pT (some ⟨P,0,none⟩)] X (toldQ X C.ho)):=ht
 have HA:Hid (Below w.heap.size w (w.alloc (.cells Z21.toArray 41))):=(bW _ _).alloc (nR _) _
 have HM:Hid (blk (w.alloc (.cells Z21.toArray 41)) M (mcL P C) 125∧blk (w.alloc (.cells Z21.toArray 41)) w.heap.size Z21 41∧Below w.heap.size w (w.alloc (.cells Z21.toArray 41))):=⟨hm.below HA.out,blk.new w _ 41,HA.out⟩
 clear hm ht HA;go_enter Tryz.func86,Tryz.ntmps86
 go_wp2_with fail;refine wp_region_held (S:=fun X=>blk X M (mcL P C) 125∧(∃ l:List Value,l.length=21∧blk X w.heap.size l 41)∧Below w.heap.size w X) (by kernel_rfl) ?_
 have hS:(fun X=>blk X M (mcL P C) 125∧(∃ l:List Value,l.length=21∧blk X w.heap.size l 41)∧Below w.heap.size w X) (World.drew (w.alloc (.cells Z21.toArray 41))):=⟨HM.out.1.below (bW _ _).drew,⟨Z21,rfl,HM.out.2.1.below (bW _ _).drew⟩,HM.out.2.2.drew⟩
 clear HM;change wpAnyH Tp _ _ _ _ _ _ _ (World.drew (w.alloc (.cells Z21.toArray 41)))
 generalize World.drew (w.alloc (.cells Z21.toArray 41))=v0 at *;refine tk 0 ?_
 refine tk 1 ?_
 refine tk 2 ?_
 refine tk 3 ?_
 refine tk 4 ?_ (hy:=fun W hSw=>by (have y:=hSw.1.cell 3 (I J C.p) rfl;go_simp;try rfl))
 refine tk 5 ?_
 refine tk 6 ?_
 refine tk 7 ?_
 refine tk 8 ?_
 refine tk 9 ?_ (hy:=fun W hSw=>by (have y:=hSw.1.cell 4 (I J C.ct) rfl;go_simp;try rfl))
 refine tk 10 ?_
 refine tk 11 ?_
 refine tk 12 ?_
 refine tk 13 ?_
 refine tk 14 ?_ (hy:=fun W hSw=>by (have y:=hSw.1.cell 5 (I J C.lv) rfl;go_simp;try rfl))
 refine tk 15 ?_
 refine tk 16 ?_
 refine tk 17 ?_
 refine tk 18 ?_
 refine tk 19 ?_ (hy:=fun W hSw=>by (have y:=hSw.1.cell 6 (bO C.wk) rfl;go_simp;try rfl))
 refine tk 20 ?_
 refine tk 21 ?_
 refine tk 22 ?_
 refine tk 23 ?_
 refine tk 24 ?_ (hy:=fun W hSw=>by (have y:=hSw.1.cell 7 (bO C.ov) rfl;go_simp;try rfl))
 refine tk 25 ?_
 refine tk 26 ?_
 refine tk 27 ?_
 refine tk 28 ?_
 refine tk 29 ?_ (hy:=fun W hSw=>by (have y:=hSw.1.cell 8 (bO C.ow) rfl;go_simp;try rfl))
 refine tk 30 ?_
 refine tk 31 ?_
 refine tk 32 ?_
 refine tk 33 ?_
 refine tk 34 ?_ (hy:=fun W hSw=>by (have y:=hSw.1.cell 9 (bO C.tx) rfl;go_simp;try rfl))
 refine tk 35 ?_
 refine tk 36 ?_
 refine tk 37 ?_
 refine tk 38 ?_
 refine tk 39 ?_ (hy:=fun W hSw=>by (have y:=hSw.1.cell 10 (bO C.ak) rfl;go_simp;try rfl))
 refine tk 40 ?_
 refine tk 41 ?_
 refine tk 42 ?_
 refine tk 43 ?_
 refine tk 44 ?_ (hy:=fun W hSw=>by (have y:=hSw.1.cell 11 (I J C.rn) rfl;go_simp;try rfl))
 refine tk 45 ?_
 refine tk 46 ?_
 refine tk 47 ?_
 refine tk 48 ?_
 refine tk 49 ?_ (hy:=fun W hSw=>by (have y:=hSw.1.cell 1 (I J C.te) rfl;go_simp;try rfl))
 refine tk 50 ?_
 refine tk 51 ?_
 refine tk 52 ?_
 refine tk 53 ?_
 refine tk 54 ?_ (hy:=fun W hSw=>by (have y:=hSw.1.cell 2 (I J C.re) rfl;go_simp;try rfl))
 refine tk 55 ?_
 refine tk 56 ?_
 refine tk 57 ?_
 refine tk 58 ?_
 refine tk 59 ?_ (hy:=fun W hSw=>by (have y:=hSw.1.cell 0 (pT (some ⟨P,0,none⟩)) rfl;go_simp;try rfl))
 refine al 60 fun K2 hK2=>?_
 go_simp;refine (HT.out _ hS.2.2).mono ?_
 rintro o w2 ⟨s4,rfl,q1,q2,q3,q4,hb⟩;have hS2:(fun X=>blk X M (mcL P C) 125∧(∃ l:List Value,l.length=21∧blk X w.heap.size l 41)∧Below w.heap.size w X) w2:=⟨hS.1.below hb,(by obtain⟨l,h1,h2⟩:=hS.2.1;exact⟨l,h1,h2.below hb⟩),hS.2.2.trans (hb.mono hS.2.2.size)⟩
 have HQ:Hid (St v0.heap.size w2 (fun W=>isHo W C.ho s4.sl)∧whS v0.heap.size w2.heap.size w2 s4∧whD s4∧whE s4):=⟨q1,q2,q3,q4⟩
 have HZ:Hid (w.heap.size≤v0.heap.size∧w.heap.size<v0.heap.size):=⟨hS.2.2.size,(by obtain⟨l,h1,h2⟩:=hS.2.1;exact h2.lt)⟩
 clear q1 q2 q3 q4 hb;go_wp2_with fail;refine hK2.out _ _ hS2 (fun hS3=>?_)
 clear hK2 K2 hS2 hS;have hS:=hS3
 clear hS3;refine tk 61 (v:=aG (coL C s4.sl).toArray) ?_ (hy:=fun W hSw=>by (simp only[coL,hoL];go_simp;try rfl))
 refine al 62 fun K2 hK2=>?_
 rw[if_pos (by rfl)]
 obtain⟨l0,hl0,hbl⟩:=hS.2.1
 have HL0:Hid (l0.length=21∧blk w2 w.heap.size l0 41):=⟨hl0,hbl⟩
 refine wp_store_mid 41 (.tmp 2) (.tmp 64) rfl w.heap.size 0 (coL C s4.sl).toArray rfl rfl (hbl.there 0 _ (by rw[List.size_toArray,cL,hl0];decide)) (szC41A C s4.sl) (cO C s4.sl) ?_
 generalize hW8:World.setCells w2 w.heap.size 0 _=w8
 have HM8:Hid (M≠w.heap.size):=fun e=>by
  have h1:=hS.1
  have h2:=HL0.out.2
  rw[e] at h1
  have:=h1.symm.trans h2
  simp at this
 have hf8:blk w8 w.heap.size (coL C s4.sl) 41:=by
  rw[← hW8]
  have:=blk.put [] l0 [] (coL C s4.sl) (w:=w2) (b:=w.heap.size) (T:=41) (by simpa using HL0.out.2) (by rw[HL0.out.1,cL])
  simpa using this
 have HF:Hid (blk w8 w.heap.size (coL C s4.sl) 41):=hf8
 clear hf8;have oth:∀ x,x≠w.heap.size→w8.heap[x]?=w2.heap[x]?:=fun x hx=>by rw[← hW8];exact sO _ x hx _ _ _
 have hsz:w8.heap.size=w2.heap.size:=by rw[← hW8];exact sZ ..
 have HB8:Hid (Below w.heap.size w w8):=by rw[← hW8];exact sW (by omega) 0 _ hS.2.2
 have HQ8:Hid (St w.heap.size w8 (fun W=>isHo W C.ho s4.sl)∧whS w.heap.size w8.heap.size w8 s4):=toldQ.put (w:=w) HZ.out.1 HZ.out.2 HQ.out.1 HQ.out.2.1 oth hsz
 have hS8:(fun X=>blk X M (mcL P C) 125∧(∃ l:List Value,l.length=21∧blk X w.heap.size l 41)∧Below w.heap.size w X) w8:=⟨hS.1.kept (oth _ HM8.out),⟨_,cL _ _,HF.out⟩,HB8.out⟩
 clear oth hsz hW8 hbl hl0;refine hK2.out _ _ hS8 (fun hS3=>?_)
 clear hK2 K2 hS8 hS hS3 HL0 HM8 HZ;refine wpAnyH_done (by kernel_rfl) ?_ _
 go_wp2_with fail;have hL:=rq41 HF.out
 refine bC Tryz.results86 hL ?_
 exact⟨s4,rfl,HQ8.out.1,HQ8.out.2,HQ.out.2.2.1,HQ.out.2.2.2,HB8.out⟩
theorem validCore_gen (w:World) (C:Co) (s:Sl) (VP CP MP SP:Prop) (hv:∀ W,Below w.heap.size w W→Calls Tp 122 #[aG (hoL C.ho s).toArray] W fun o w'=>retB o VP∧Below W.heap.size W w')
  (hc:(0≤C.p∧C.p≤7)→∀ W,Below w.heap.size w W→Calls Tp 141 #[aG (coL C s).toArray] W fun o w'=>retB o CP∧Below W.heap.size W w')
  (hm:(0≤C.p∧C.p≤7)→∀ W,Below w.heap.size w W→Calls Tp 142 #[aG (coL C s).toArray] W fun o w'=>retB o MP∧Below W.heap.size W w')
  (hz:VP→∀ W,Below w.heap.size w W→Calls Tp 143 #[aG (coL C s).toArray] W fun o w'=>retB o SP∧Below W.heap.size W w') :
  Calls Tp 83 #[aG (coL C s).toArray] w fun o w'=>retB o ((0≤C.p∧C.p≤7)∧VP∧CP∧MP∧((C.p=1∧C.tx=true)↔SP))∧Below w.heap.size w w':=by
 have HV:Hid (∀ W,Below w.heap.size w W→Calls Tp 122 #[aG (hoL C.ho s).toArray] W fun o w'=>retB o VP∧Below W.heap.size W w'):=hv
 have HC0:Hid ((0≤C.p∧C.p≤7)→∀ W,Below w.heap.size w W→Calls Tp 141 #[aG (coL C s).toArray] W fun o w'=>retB o CP∧Below W.heap.size W w'):=hc
 have HM0:Hid ((0≤C.p∧C.p≤7)→∀ W,Below w.heap.size w W→Calls Tp 142 #[aG (coL C s).toArray] W fun o w'=>retB o MP∧Below W.heap.size W w'):=hm
 have HZ0:Hid (VP→∀ W,Below w.heap.size w W→Calls Tp 143 #[aG (coL C s).toArray] W fun o w'=>retB o SP∧Below W.heap.size W w'):=hz
 have HIR:Hid (∀ W v l m,Calls Tp 43 #[I J v,I J l,I J m] W fun o w'=>o = rT (bO (decide (l≤v∧v≤m)))∧W=w'):=inRange_any
 have H0:Hid (ctS w w.heap.size C s (w.alloc (.cells (coL C s).toArray 41))):=ctS.new w C s
 have y0:=H0.out.p.cell 0 (I J C.p) rfl
 clear hv hc hm hz;go_enter Tryz.func83,Tryz.ntmps83
 generalize hW0:w.alloc (.cells (coL C s).toArray 41)=W0 at *;by_cases hin:0≤C.p∧C.p≤7
 ·have din:decide (0≤C.p∧C.p≤7)=true:=by simpa using hin
  have HIN:Hid (0≤C.p∧C.p≤7):=hin
  have HC:Hid (∀ W,Below w.heap.size w W→Calls Tp 141 #[aG (coL C s).toArray] W fun o w'=>retB o CP∧Below W.heap.size W w'):=HC0.out hin
  have HM:Hid (∀ W,Below w.heap.size w W→Calls Tp 142 #[aG (coL C s).toArray] W fun o w'=>retB o MP∧Below W.heap.size W w'):=HM0.out hin
  clear hin HC0 HM0;go_wp2_with (first
   | (go_at_call 43;refine (HIR.out _ _ _ _).mono ?_;rintro o w2 ⟨rfl,rfl⟩)
   | (refine wpList_load_midG (by first | rfl | (simp[Region.wanted,yielded];done) | (simp[Region.wanted,yielded];omega)) 39 (.tmp 8) rfl w.heap.size 11 rfl (hoL C.ho s) _ H0.out.p.hostAt Tryz.underlying39 rfl (sz39h C.ho s) ?_))
  clear hW0;refine (HV.out _ H0.out.b).mono ?_
  rintro o w1 ⟨⟨b,rfl,hvp⟩,hb1⟩;have H1:Hid (ctS w w.heap.size C s w1):=H0.out.below hb1
  clear hb1 H0 HV y0;cases b
  ·go_wp2_with fail;go_ret;exact⟨⟨false,rfl,by simp only[Bool.false_eq_true,false_iff];rintro⟨_,h,_⟩;exact absurd (hvp.2 h) (by simp)⟩,H1.out.b⟩
  have HVP:Hid VP:=hvp.1 rfl
  have HS:Hid (∀ W,Below w.heap.size w W→Calls Tp 143 #[aG (coL C s).toArray] W fun o w'=>retB o SP∧Below W.heap.size W w'):=HZ0.out HVP.out
  clear hvp HZ0;go_wp2_with fail;refine wp_region_held (S:=fun X=>ctS w w.heap.size C s X) (by kernel_rfl) ?_
  have hS:ctS w w.heap.size C s (World.drew w1):=H1.out.below (bW _ _).drew
  clear H1;change wpAnyH Tp _ _ _ _ _ _ _ (World.drew w1)
  generalize World.drew w1=v0 at *;refine wU 0 (aG (coL C s).toArray) rfl (yieldsIf_load_mid (by rfl) 41 (.tmp 1) rfl w.heap.size 0 rfl (coL C s) _ (fun X h=>h.p.load) Tryz.underlying41 rfl (szC41L C s)) hS ?_
  simp only[Act.put,aA,aB,aC,aD,aE]
  refine al 1 fun K2 hK2=>?_
  go_simp;refine (HC.out _ hS.b).mono ?_
  rintro o v1 ⟨⟨b,rfl,hx⟩,hb⟩;have hS1:=hS.below hb
  have HXC:Hid (b=true↔CP):=hx
  clear hb hx;go_wp2_with fail;refine hK2.out _ _ hS1 (fun hS2=>?_)
  clear hK2 K2 hS1 hS;have hS:=hS2
  clear hS2;cases b
  ·refine tk 2 ?_
   refine tn 3 ?_
   refine tn 4 ?_
   refine tk 5 ?_
   refine tk 6 ?_
   refine tn 7 ?_
   refine tn 8 ?_
   refine tn 9 ?_
   refine tn 10 ?_
   refine tn 11 ?_
   refine tn 12 ?_
   refine tn 13 ?_
   refine tn 14 ?_
   refine tn 15 ?_
   refine tn 16 ?_
   refine tk 17 ?_
   refine tk 18 ?_
   refine wpAnyH_done (by kernel_rfl) ?_ _
   go_wp2_with fail;go_ret;exact⟨⟨_,rfl,by simp only[Bool.false_eq_true,false_iff];rintro⟨_,_,h,_⟩;exact absurd (HXC.out.2 h) (by simp)⟩,hS.b⟩
  refine tk 2 ?_
  refine wU 3 (aG (coL C s).toArray) rfl (yieldsIf_load_mid (by rfl) 41 (.tmp 1) rfl w.heap.size 0 rfl (coL C s) _ (fun X h=>h.p.load) Tryz.underlying41 rfl (szC41L C s)) hS ?_
  simp only[aZ];refine al 4 fun K2 hK2=>?_
  go_simp;refine (HM.out _ hS.b).mono ?_
  rintro o v2 ⟨⟨b,rfl,hx⟩,hb⟩;have hS1:=hS.below hb
  have HXM:Hid (b=true↔MP):=hx
  clear hb hx;go_wp2_with fail;refine hK2.out _ _ hS1 (fun hS2=>?_)
  clear hK2 K2 hS1 hS;have hS:=hS2
  clear hS2;cases b
  ·refine tk 5 ?_
   refine tk 6 ?_
   refine tn 7 ?_
   refine tn 8 ?_
   refine tn 9 ?_
   refine tn 10 ?_
   refine tn 11 ?_
   refine tn 12 ?_
   refine tn 13 ?_
   refine tn 14 ?_
   refine tn 15 ?_
   refine tn 16 ?_
   refine tk 17 ?_
   refine tk 18 ?_
   refine wpAnyH_done (by kernel_rfl) ?_ _
   go_wp2_with fail;go_ret;exact⟨⟨_,rfl,by simp only[Bool.false_eq_true,false_iff];rintro⟨_,_,_,h,_⟩;exact absurd (HXM.out.2 h) (by simp)⟩,hS.b⟩
  refine tk 5 ?_
  refine tk 6 ?_
  refine wU 7 (aG (coL C s).toArray) rfl (yieldsIf_load_mid (by rfl) 41 (.tmp 1) rfl w.heap.size 0 rfl (coL C s) _ (fun X h=>h.p.load) Tryz.underlying41 rfl (szC41L C s)) hS ?_
  simp only[aZ];refine tk 9 ?_
  refine tk 10 ?_ (hy:=fun W hSw=>by (have y:=hSw.p.cell 0 (I J C.p) rfl;go_simp;try rfl))
  by_cases hp1:C.p=1
  ·have dp1:(C.p == 1)=true:=by simpa using hp1
   refine tk 11 ?_
   refine al 8 fun K2 hK2=>?_
   go_simp;refine (HS.out _ hS.b).mono ?_
   rintro o v3 ⟨⟨b,rfl,hx⟩,hb⟩;have hS1:=hS.below hb
   have HXS:Hid (b=true↔SP):=hx
   clear hb hx;go_wp2_with fail;refine hK2.out _ _ hS1 (fun hS2=>?_)
   clear hK2 K2 hS1 hS;have hS:=hS2
   clear hS2;refine tk 12 ?_
   refine tk 13 ?_
   refine tk 14 ?_ (hy:=fun W hSw=>by (have y:=hSw.p.cell 6 (bO C.tx) rfl;go_simp;try rfl))
   refine tk 15 ?_
   refine tk 16 ?_
   refine tk 17 ?_
   refine tk 18 ?_
   have h1:=HXC.out.1 (by simp)
   have h2:=HXM.out.1 (by simp)
   have h3:=HXS.out
   have h4:=HVP.out
   have h5:=HIN.out
   refine wpAnyH_done (by kernel_rfl) ?_ _
   go_wp2_with fail;go_ret;refine⟨⟨_,rfl,?_⟩,hS.b⟩
   simp only[h1,h2,h4,h5,true_and,← h3]
   generalize C.tx=q
   cases b <;> cases q <;> simp[hp1]
  ·have dp1:(C.p == 1)=false:=by simpa using hp1
   refine tk 11 ?_
   refine al 8 fun K2 hK2=>?_
   go_simp;refine (HS.out _ hS.b).mono ?_
   rintro o v3 ⟨⟨b,rfl,hx⟩,hb⟩;have hS1:=hS.below hb
   have HXS:Hid (b=true↔SP):=hx
   clear hb hx;go_wp2_with fail;refine hK2.out _ _ hS1 (fun hS2=>?_)
   clear hK2 K2 hS1 hS;have hS:=hS2
   clear hS2;refine tk 12 ?_
   refine tn 13 ?_
   refine tn 14 ?_
   refine tk 15 ?_
   refine tk 16 ?_
   refine tk 17 ?_
   refine tk 18 ?_
   have h1:=HXC.out.1 (by simp)
   have h2:=HXM.out.1 (by simp)
   have h3:=HXS.out
   have h4:=HVP.out
   have h5:=HIN.out
   refine wpAnyH_done (by kernel_rfl) ?_ _
   go_wp2_with fail;go_ret;refine⟨⟨_,rfl,?_⟩,hS.b⟩
   simp only[h1,h2,h4,h5,true_and,← h3]
   cases b <;> simp[hp1]
 ·have din:decide (0≤C.p∧C.p≤7)=false:=by simpa using hin
  go_wp2_with (first
   | (go_at_call 43;refine (HIR.out _ _ _ _).mono ?_;rintro o w2 ⟨rfl,rfl⟩))
  go_ret;exact⟨⟨false,rfl,by simp only[Bool.false_eq_true,false_iff];rintro⟨h,_⟩;exact hin h⟩,H0.out.b⟩
structure okCo (C:Co):Prop where
 h:okHo C.ho
 m:okM C
 s:(C.p=1∧C.tx=true)↔wrP C.ho.bx
theorem phases {p:Int} (h0:¬ p<0) (h7:¬ 7<p):p=0∨p=1∨p=2∨p=3∨p=4∨p=5∨p=6∨p=7:=by omega
theorem isHo.two {w:World} {H:Ho} {s:Sl} (h:isHo w H s) (hok:okHo H):s.n2≤1000:=by
 have h1:=h.bx.len
 have h2:=hok.n2
 omega
theorem busyR (w:World) (H:Ho) (s:Sl) (h:isHo w H s) (hok:okHo H):Calls Tp 76 #[aG (hoL H s).toArray] w fun o w'=>∃ r:Int,o = rT (I J r)∧(0≤r↔wrP H.bx)∧Below w.heap.size w w':=by
 refine (l3busy_any w H s h.bx (h.two hok)).mono ?_
 rintro o w' ⟨r,rfl,hb,h2⟩;refine⟨r,rfl,?_,h2⟩
 have:=bsy_neg hb
 unfold wrP
 rw[← this]
 omega
theorem retB.to {o:Ending} {P Q:Prop} (h:retB o P) (e:P↔Q):retB o Q:=by
 obtain⟨b,h1,h2⟩:=h
 exact⟨b,h1,h2.trans e⟩
theorem l4ok_any (w:World) (C:Co) (s:Sl) (h:isHo w C.ho s) (hn:C.ho.le 1048576) :
  Calls Tp 33 #[aG (coL C s).toArray] w fun o w'=>retB o (okCo C)∧Below w.heap.size w w':=by
 refine (l4okG w C s (okHo C.ho) (wrP C.ho.bx) (fun W hW=>by rw[← hoV_L];exact l3ok_any W C.ho s (h.below hW) hn) (fun hok W hW=>busyR W C.ho s (h.below hW) hok)).mono ?_
 rintro o w' ⟨hr,hb⟩;exact⟨hr.to ⟨fun x=>⟨x.1,x.2.1,x.2.2⟩,fun x=>⟨x.h,x.m,x.s⟩⟩,hb⟩
theorem idxG {p:Int} (h:0≤p∧p≤7):∃ n,∀ W,(Instr.index 123 (aG prL.toArray) (I J p)).run Tp W = .ok (aG #[I J (rLo p),I J (rHi p),.func (.func n) #[] #[]]) W:=by
 rcases phases (p:=p) (by omega) (by omega) with rfl|rfl|rfl|rfl|rfl|rfl|rfl|rfl
 ·exact⟨_,idx_0⟩
 ·exact⟨_,idx_1⟩
 ·exact⟨_,idx_2⟩
 ·exact⟨_,idx_3⟩
 ·exact⟨_,idx_4⟩
 ·exact⟨_,idx_5⟩
 ·exact⟨_,idx_6⟩
 ·exact⟨_,idx_7⟩
theorem vmB_ok (C:Co):vmB C=true↔(((((((((0≤C.lv∧C.lv≤1)∧(C.lv=1→C.p=2∧C.wk=true∧0<C.ct))∧(C.wk=true→C.p=2∧C.ov=false))∧(C.ov=true→C.p=2∨C.p=3∨C.p=4))∧(C.ow=true→C.wk=true∧C.tx=true))∧(C.tx=true→C.p≠7∧C.p≠0))∧(C.p=6→C.tx=true))∧(C.ak=true→C.p=7))):=by
 unfold vmB
 simp only[Bool.and_eq_true,Bool.not_eq_true']
 rw[j1,k5,k6,k7,j5,j6,j7]
theorem validCore_any (w:World) (C:Co) (s:Sl) (h:isHo w C.ho s) (hn:C.ho.le 1048576) :
  Calls Tp 83 #[aG (coL C s).toArray] w fun o w'=>retB o (okCo C)∧Below w.heap.size w w':=by
 have hv:∀ W,Below w.heap.size w W→Calls Tp 122 #[aG (hoL C.ho s).toArray] W fun o w'=>retB o (okHo C.ho)∧Below W.heap.size W w':=fun W hW=>validHost_any W C.ho s (h.below hW) hn
 have hz:okHo C.ho→∀ W,Below w.heap.size w W→Calls Tp 143 #[aG (coL C s).toArray] W fun o w'=>retB o (wrP C.ho.bx)∧Below W.heap.size W w':=fun hok W hW=>isSending_any W C s (h.below hW).bx (h.two hok)
 by_cases hin:0≤C.p∧C.p≤7
 ·obtain⟨n,hix⟩:=idxG hin
  refine (validCore_gen w C s (okHo C.ho) _ _ (wrP C.ho.bx) hv (fun _ W _=>vcG W C s _ _ n hix) (fun _ W _=>vmG W C s) hz).mono ?_
  rintro o w' ⟨hr,hb⟩;refine⟨hr.to ?_,hb⟩
  rw[vmB_ok]
  constructor
  ·rintro⟨_,hh,⟨t1,t2,t3,t4,t5,t6⟩,⟨⟨⟨⟨⟨⟨⟨v1,v2⟩,v3⟩,v4⟩,v5⟩,v6⟩,v7⟩,v8⟩,hs⟩;refine⟨hh,⟨hin,t1,t2,t3,t4,v1,v2,v3,v4,v5,v6,v7,v8,by omega,fun ha=>?_⟩,hs⟩
   rcases t6 with⟨_,x⟩|⟨x,y⟩
   ·rw[ha] at x;cases x
   ·exact⟨x,fun e=>y.resolve_left (fun z=>z e)⟩
  ·intro x;refine⟨hin,x.h,⟨x.m.te,x.m.re,x.m.of,x.m.ct,by have:=x.m.rn;omega,?_⟩,⟨⟨⟨⟨⟨⟨⟨x.m.lv,x.m.l1⟩,x.m.wk⟩,x.m.ov⟩,x.m.ow⟩,x.m.tx⟩,x.m.t6⟩,x.m.ak⟩,x.s⟩
   cases ha:C.ak
   ·refine Or.inr ⟨(x.m.na ha).1,?_⟩
    by_cases e:C.p=7
    ·exact Or.inr ((x.m.na ha).2 e)
    ·exact Or.inl e
   ·exact Or.inl ⟨x.m.ak ha,rfl⟩
 ·refine (validCore_gen w C s (okHo C.ho) True True (wrP C.ho.bx) hv (fun x=>absurd x hin) (fun x=>absurd x hin) hz).mono ?_
  rintro o w' ⟨hr,hb⟩;exact⟨hr.to ⟨fun x=>absurd x.1 hin,fun x=>absurd x.m.p hin⟩,hb⟩
theorem okLC (W:World) (C:Co) (s:Sl) (h:isHo W C.ho s) (hn:C.ho.le 1048576) (hok:okCo C):Calls Tp 33 #[aG (coL C s).toArray] W fun o w'=>o = rT (bO true)∧Below W.heap.size W w':=(l4ok_any W C s h hn).mono (by rintro o w' ⟨⟨b,rfl,hb⟩,h2⟩;rw[hb.2 hok];exact⟨rfl,h2⟩)
theorem badLC (W:World) (C:Co) (s:Sl) (h:isHo W C.ho s) (hn:C.ho.le 1048576) (hok:¬ okCo C):Calls Tp 33 #[aG (coL C s).toArray] W fun o w'=>o = rT (bO false)∧Below W.heap.size W w':=(l4ok_any W C s h hn).mono (by rintro o w' ⟨⟨b,rfl,hb⟩,h2⟩;cases b;exact⟨rfl,h2⟩;exact absurd (hb.1 rfl) hok)
theorem vOkC (W:World) (C:Co) (s:Sl) (h:isHo W C.ho s) (hn:C.ho.le 1048576) (hok:okCo C):Calls Tp 83 #[aG (coL C s).toArray] W fun o w'=>o = rT (bO true)∧Below W.heap.size W w':=(validCore_any W C s h hn).mono (by rintro o w' ⟨⟨b,rfl,hb⟩,h2⟩;rw[hb.2 hok];exact⟨rfl,h2⟩)
theorem vBadC (W:World) (C:Co) (s:Sl) (h:isHo W C.ho s) (hn:C.ho.le 1048576) (hok:¬ okCo C):Calls Tp 83 #[aG (coL C s).toArray] W fun o w'=>o = rT (bO false)∧Below W.heap.size W w':=(validCore_any W C s h hn).mono (by rintro o w' ⟨⟨b,rfl,hb⟩,h2⟩;cases b;exact⟨rfl,h2⟩;exact absurd (hb.1 rfl) hok)
end Go.Proofs.YtkfcfigbgmbaiaaGreat
