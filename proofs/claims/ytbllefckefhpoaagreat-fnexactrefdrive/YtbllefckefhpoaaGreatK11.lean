import Derived.Test.YtbllefckefhpoaaGreatK09
import Derived.Deep.RegionWith
import Derived.Deep.DeepCutAuto
import Derived.Test.YtbllefckefhpoaaGreatK10
import Derived.Test.YtbllefckefhpoaaGreatK05
import Derived.Deep.RegionHeld3
namespace Go.Proofs.YtbllefckefhpoaaGreat
open Go.RowKit
set_option linter.unusedVariables false
set_option maxHeartbeats 16000000
open Go.Value renaming int→I,slice→sL,bool→bO,pointer→pT,agg→aG
open Go.IntKind renaming i64→J
open Go.Ending renaming returned→rT
open Go.Proofs.Tryz renaming prog→Tp
set_option maxRecDepth 20000 in
theorem sends_any (W:World) (M:Nat) (p1 tx:Bool) (p:Int) (e1:(p == 1)=p1) (y3:W.cell? ⟨M,3,none⟩=some (I J p)) (y9:W.cell? ⟨M,9,none⟩=some (bO tx)) :
  Calls Tp 73 #[pT (some ⟨M,0,none⟩)] W fun o w'=>o = rT (bO (p1 && tx))∧w'=W:=by
 cases p1
 ·go_enter Tryz.func73,Tryz.ntmps73
  go_wp2_with fail;go_ret;exact⟨rfl,rfl⟩
 ·go_enter Tryz.func73,Tryz.ntmps73
  go_wp2_with fail;go_ret;exact⟨rfl,rfl⟩
theorem isLevel_any (w:World) (v:Int):Calls Tp 119 #[I J v] w fun o w'=>o = rT (bO (decide (v=0∨v=1)))∧w=w':=by
 by_cases h0:v=0
 ·subst h0;go_enter Tryz.func119,Tryz.ntmps119
  go_wp2
  go_ret;exact⟨by simp,rfl⟩
 ·have d0:(v == 0)=false:=by simpa using h0
  by_cases h1:v=1
  ·subst h1;go_enter Tryz.func119,Tryz.ntmps119
   go_wp2
   go_ret;exact⟨by simp,rfl⟩
  ·have d1:(v == 1)=false:=by simpa using h1
   go_enter Tryz.func119,Tryz.ntmps119
   go_wp2
   go_ret;exact⟨by simp[h0,h1],rfl⟩
def vmB (C:Co):Bool:=!(!decide (C.lv=0∨C.lv=1) || ((C.lv == 1) && !((C.p == 2) && C.wk && decide (0<C.ct)))) && !(C.wk && (!(C.p == 2) || C.ov)) && !(C.ov && !(C.p == 2) && !(C.p == 3) && !(C.p == 4)) && !(C.ow && !(C.wk && C.tx)) && !(C.tx && ((C.p == 0) || (C.p == 7))) && !(!C.tx && (C.p == 6)) && (!C.ak || (C.p == 7))
theorem j1 (l p c:Int) (wk:Bool):(!decide (l=0∨l=1) || (l == 1 && !(p == 2 && wk && decide (0<c))))=false↔((0≤l∧l≤1)∧(l=1→p=2∧wk=true∧0<c)):=by
 rw[Bool.or_eq_false_iff,k4]
 refine and_congr ?_ Iff.rfl
 simp
 omega
theorem j5 (p:Int) (tx:Bool):(tx && (p == 0 || p == 7))=false↔(tx=true→p≠7∧p≠0):=by rw[Bool.or_comm];exact k8 p tx
theorem j6 (p:Int) (tx:Bool):(!tx && p == 6)=false↔(p=6→tx=true):=by rw[Bool.and_comm];exact k9 p tx
theorem j7 (p:Int) (ak:Bool):(!ak || p == 7)=true↔(ak=true→p=7):=by cases ak <;> simp
set_option maxRecDepth 20000 in
theorem vmG (w:World) (C:Co) (s:Sl):Calls Tp 69 #[aG (coL C s).toArray] w fun o w'=>retB o (vmB C=true)∧Below w.heap.size w w':=by
 obtain⟨X,HX⟩ : ∃ X:Prop,Hid (X↔(vmB C=true)):=⟨_,Iff.rfl⟩
 rw[← HX.out]
 have H1:Hid (ctS w w.heap.size C s (w.alloc (.cells (coL C s).toArray 43))):=ctS.new w C s
 have HIL:Hid (∀ W,Calls Tp 119 #[I J C.lv] W fun o w'=>o = rT (bO (decide (C.lv=0∨C.lv=1)))∧W=w'):=fun W=>isLevel_any W C.lv
 have HB:Hid (vmB C=(!(!decide (C.lv=0∨C.lv=1) || ((C.lv == 1) && !((C.p == 2) && C.wk && decide (0<C.ct)))) && !(C.wk && (!(C.p == 2) || C.ov)) && !(C.ov && !(C.p == 2) && !(C.p == 3) && !(C.p == 4)) && !(C.ow && !(C.wk && C.tx)) && !(C.tx && ((C.p == 0) || (C.p == 7))) && !(!C.tx && (C.p == 6)) && (!C.ak || (C.p == 7)))):=rfl
 obtain⟨lk,elk⟩ : ∃ b:Bool,decide (C.lv=0∨C.lv=1)=b:=⟨_,rfl⟩
 obtain⟨l1,el1,nl1⟩ : ∃ b:Bool,(C.lv == 1)=b∧(C.lv != 1) = !b:=⟨_,rfl,rfl⟩
 obtain⟨p2,ep2,np2⟩ : ∃ b:Bool,(C.p == 2)=b∧(C.p != 2) = !b:=⟨_,rfl,rfl⟩
 obtain⟨cp,ecp⟩ : ∃ b:Bool,decide (0<C.ct)=b:=⟨_,rfl⟩
 obtain⟨p3,ep3,np3⟩ : ∃ b:Bool,(C.p == 3)=b∧(C.p != 3) = !b:=⟨_,rfl,rfl⟩
 obtain⟨p4,ep4,np4⟩ : ∃ b:Bool,(C.p == 4)=b∧(C.p != 4) = !b:=⟨_,rfl,rfl⟩
 obtain⟨pz,epz,npz⟩ : ∃ b:Bool,(C.p == 0)=b∧(C.p != 0) = !b:=⟨_,rfl,rfl⟩
 obtain⟨p7,ep7,np7⟩ : ∃ b:Bool,(C.p == 7)=b∧(C.p != 7) = !b:=⟨_,rfl,rfl⟩
 obtain⟨p6,ep6,np6⟩ : ∃ b:Bool,(C.p == 6)=b∧(C.p != 6) = !b:=⟨_,rfl,rfl⟩
 obtain⟨wk,ewk⟩ : ∃ b:Bool,C.wk=b:=⟨_,rfl⟩
 obtain⟨ov,eov⟩ : ∃ b:Bool,C.ov=b:=⟨_,rfl⟩
 obtain⟨ow,eow⟩ : ∃ b:Bool,C.ow=b:=⟨_,rfl⟩
 obtain⟨tx,etx⟩ : ∃ b:Bool,C.tx=b:=⟨_,rfl⟩
 obtain⟨ak,eak⟩ : ∃ b:Bool,C.ak=b:=⟨_,rfl⟩
 rw[elk,el1,ep2,ecp,ep3,ep4,epz,ep7,ep6,ewk,eov,eow,etx,eak] at HB
 rw[elk] at HIL
 have y0:=H1.out.p.cell 0 (I J C.p) rfl
 have y1:=H1.out.p.cell 1 (I J C.ct) rfl
 have y2:=H1.out.p.cell 2 (I J C.lv) rfl
 have y3:=H1.out.p.cell 3 (bO C.wk) rfl
 have y4:=H1.out.p.cell 4 (bO C.ov) rfl
 have y5:=H1.out.p.cell 5 (bO C.ow) rfl
 have y6:=H1.out.p.cell 6 (bO C.tx) rfl
 have y7:=H1.out.p.cell 7 (bO C.ak) rfl
 rw[ewk] at y3
 rw[eov] at y4
 rw[eow] at y5
 rw[etx] at y6
 rw[eak] at y7
 clear ewk eov eow etx eak elk;generalize hwc:w.alloc (.cells (coL C s).toArray 43)=wc at *;go_enter Tryz.func69,Tryz.ntmps69
 go_upto_region 2 with fail
 try rw[hwc]
 go_cut [7] (fun x wx=>x = bO (!lk || (l1 && !(p2 && wk && cp)))∧wx=wc)
 case first=>
  as_aux_lemma=>
  clear HX HB;have hh:(lk=true∧l1=true∧p2=true∧wk=true∧cp=true)∨(lk=true∧l1=true∧p2=true∧wk=true∧cp=false)∨(lk=true∧l1=true∧p2=true∧wk=false)∨(lk=true∧l1=true∧p2=false)∨(lk=true∧l1=false)∨(lk=false):=by cases lk <;> cases l1 <;> cases p2 <;> cases wk <;> cases cp <;> simp
  rcases hh with⟨rfl,rfl,rfl,rfl,rfl⟩ | ⟨rfl,rfl,rfl,rfl,rfl⟩ | ⟨rfl,rfl,rfl,rfl⟩ | ⟨rfl,rfl,rfl⟩ | ⟨rfl,rfl⟩ | rfl <;> (
   go_wp2_with (first | (go_at_call 119;refine (HIL.out _).mono ?_;rintro o w2 ⟨rfl,rfl⟩))
   go_meet
   case rel=>exact⟨rfl,rfl⟩)
 case rest=>
 obtain⟨rfl,hw⟩:=hcut
 subst hw;obtain⟨c1,g⟩ : ∃ b,(!lk || (l1 && !(p2 && wk && cp)))=b:=⟨_,rfl⟩
 rw[g]
 have G1:Hid ((!lk || (l1 && !(p2 && wk && cp)))=c1):=g
 clear g;cases c1
 case true=>
  as_aux_lemma=>
  go_wp2_with fail;go_ret;refine⟨⟨_,rfl,?_⟩,H1.out.b⟩
  rw[HX.out,HB.out,G1.out]
  simp
 case false=>
 go_upto_region 4 with fail
 go_cut [30] (fun x wx=>x = bO (wk && (!p2 || ov))∧wx=wc)
 case first=>
  as_aux_lemma=>
  clear HX HB;have hh:(wk=true∧p2=true∧ov=true)∨(wk=true∧p2=true∧ov=false)∨(wk=true∧p2=false)∨(wk=false):=by cases wk <;> cases p2 <;> cases ov <;> simp
  rcases hh with⟨rfl,rfl,rfl⟩ | ⟨rfl,rfl,rfl⟩ | ⟨rfl,rfl⟩ | rfl <;> (
   go_wp2_with fail;go_meet
   case rel=>exact⟨rfl,rfl⟩)
 case rest=>
 obtain⟨rfl,hw⟩:=hcut
 subst hw;obtain⟨c2,g⟩ : ∃ b,(wk && (!p2 || ov))=b:=⟨_,rfl⟩
 rw[g]
 have G2:Hid ((wk && (!p2 || ov))=c2):=g
 clear g;cases c2
 case true=>
  as_aux_lemma=>
  go_wp2_with fail;go_ret;refine⟨⟨_,rfl,?_⟩,H1.out.b⟩
  rw[HX.out,HB.out,G2.out]
  simp
 case false=>
 go_upto_region 6 with fail
 go_cut [41] (fun x wx=>x = bO (ov && !p2 && !p3 && !p4)∧wx=wc)
 case first=>
  as_aux_lemma=>
  clear HX HB;have hh:(ov=true∧p2=true)∨(ov=true∧p2=false∧p3=true)∨(ov=true∧p2=false∧p3=false∧p4=true)∨(ov=true∧p2=false∧p3=false∧p4=false)∨(ov=false):=by cases ov <;> cases p2 <;> cases p3 <;> cases p4 <;> simp
  rcases hh with⟨rfl,rfl⟩ | ⟨rfl,rfl,rfl⟩ | ⟨rfl,rfl,rfl,rfl⟩ | ⟨rfl,rfl,rfl,rfl⟩ | rfl <;> (
   go_wp2_with fail;go_meet
   case rel=>exact⟨rfl,rfl⟩)
 case rest=>
 obtain⟨rfl,hw⟩:=hcut
 subst hw;obtain⟨c3,g⟩ : ∃ b,(ov && !p2 && !p3 && !p4)=b:=⟨_,rfl⟩
 rw[g]
 have G3:Hid ((ov && !p2 && !p3 && !p4)=c3):=g
 clear g;cases c3
 case true=>
  as_aux_lemma=>
  go_wp2_with fail;go_ret;refine⟨⟨_,rfl,?_⟩,H1.out.b⟩
  rw[HX.out,HB.out,G3.out]
  simp
 case false=>
 go_upto_region 8 with fail
 go_cut [58] (fun x wx=>x = bO (ow && !(wk && tx))∧wx=wc)
 case first=>
  as_aux_lemma=>
  clear HX HB;have hh:(ow=true∧wk=true∧tx=true)∨(ow=true∧wk=true∧tx=false)∨(ow=true∧wk=false)∨(ow=false):=by cases ow <;> cases wk <;> cases tx <;> simp
  rcases hh with⟨rfl,rfl,rfl⟩ | ⟨rfl,rfl,rfl⟩ | ⟨rfl,rfl⟩ | rfl <;> (
   go_wp2_with fail;go_meet
   case rel=>exact⟨rfl,rfl⟩)
 case rest=>
 obtain⟨rfl,hw⟩:=hcut
 subst hw;obtain⟨c4,g⟩ : ∃ b,(ow && !(wk && tx))=b:=⟨_,rfl⟩
 rw[g]
 have G4:Hid ((ow && !(wk && tx))=c4):=g
 clear g;cases c4
 case true=>
  as_aux_lemma=>
  go_wp2_with fail;go_ret;refine⟨⟨_,rfl,?_⟩,H1.out.b⟩
  rw[HX.out,HB.out,G4.out]
  simp
 case false=>
 go_upto_region 10 with fail
 go_cut [70] (fun x wx=>x = bO (tx && (pz || p7))∧wx=wc)
 case first=>
  as_aux_lemma=>
  clear HX HB;have hh:(tx=true∧pz=true)∨(tx=true∧pz=false∧p7=true)∨(tx=true∧pz=false∧p7=false)∨(tx=false):=by cases tx <;> cases pz <;> cases p7 <;> simp
  rcases hh with⟨rfl,rfl⟩ | ⟨rfl,rfl,rfl⟩ | ⟨rfl,rfl,rfl⟩ | rfl <;> (
   go_wp2_with fail;go_meet
   case rel=>exact⟨rfl,rfl⟩)
 case rest=>
 obtain⟨rfl,hw⟩:=hcut
 subst hw;obtain⟨c5,g⟩ : ∃ b,(tx && (pz || p7))=b:=⟨_,rfl⟩
 rw[g]
 have G5:Hid ((tx && (pz || p7))=c5):=g
 clear g;cases c5
 case true=>
  as_aux_lemma=>
  go_wp2_with fail;go_ret;refine⟨⟨_,rfl,?_⟩,H1.out.b⟩
  rw[HX.out,HB.out,G5.out]
  simp
 case false=>
 go_upto_region 12 with fail
 go_cut [83] (fun x wx=>x = bO (!tx && p6)∧wx=wc)
 case first=>
  as_aux_lemma=>
  clear HX HB;have hh:(tx=true)∨(tx=false∧p6=true)∨(tx=false∧p6=false):=by cases tx <;> cases p6 <;> simp
  rcases hh with rfl | ⟨rfl,rfl⟩ | ⟨rfl,rfl⟩ <;> (
   go_wp2_with fail;go_meet
   case rel=>exact⟨rfl,rfl⟩)
 case rest=>
 obtain⟨rfl,hw⟩:=hcut
 subst hw;obtain⟨c6,g⟩ : ∃ b,(!tx && p6)=b:=⟨_,rfl⟩
 rw[g]
 have G6:Hid ((!tx && p6)=c6):=g
 clear g;cases c6
 case true=>
  as_aux_lemma=>
  go_wp2_with fail;go_ret;refine⟨⟨_,rfl,?_⟩,H1.out.b⟩
  rw[HX.out,HB.out,G6.out]
  simp
 case false=>
 rw[HB.out,G1.out,G2.out,G3.out,G4.out,G5.out,G6.out] at HX
 go_upto_region 14 with fail
 go_cut [2] (fun x wx=>x = bO (!ak || p7)∧wx=wc)
 case first=>
  clear HX HB;have hh:(ak=true∧p7=true)∨(ak=true∧p7=false)∨(ak=false):=by cases ak <;> cases p7 <;> simp
  rcases hh with⟨rfl,rfl⟩ | ⟨rfl,rfl⟩ | rfl <;> (
   go_wp2_with fail;go_meet
   case rel=>exact⟨rfl,rfl⟩)
 case rest=>
 obtain⟨rfl,hw⟩:=hcut
 subst hw;go_wp2_with fail;go_ret;refine⟨⟨_,rfl,?_⟩,H1.out.b⟩
 rw[HX.out]
 simp
theorem sz121:(Tp.info? 137).map (·.size)=some 3:=by kernel_rfl
theorem idx_0 (w:World):(Instr.index 139 (aG prL.toArray) (I J 0)).run Tp w = .ok (aG #[I J 0,I J 0,.func (.func 122) #[] #[]]) w:=by
 simp[Instr.index,asIntOf,run_underlying Tryz.underlying139,prL,part,Tryz.sizeOf137,Tryz.isAgg137]
theorem idx_1 (w:World):(Instr.index 139 (aG prL.toArray) (I J 1)).run Tp w = .ok (aG #[I J 0,I J 0,.func (.func 123) #[] #[]]) w:=by
 simp[Instr.index,asIntOf,run_underlying Tryz.underlying139,prL,part,Tryz.sizeOf137,Tryz.isAgg137]
theorem idx_2 (w:World):(Instr.index 139 (aG prL.toArray) (I J 2)).run Tp w = .ok (aG #[I J 0,I J 5,.func (.func 124) #[] #[]]) w:=by
 simp[Instr.index,asIntOf,run_underlying Tryz.underlying139,prL,part,Tryz.sizeOf137,Tryz.isAgg137]
theorem idx_3 (w:World):(Instr.index 139 (aG prL.toArray) (I J 3)).run Tp w = .ok (aG #[I J 0,I J 15,.func (.func 125) #[] #[]]) w:=by
 simp[Instr.index,asIntOf,run_underlying Tryz.underlying139,prL,part,Tryz.sizeOf137,Tryz.isAgg137]
theorem idx_4 (w:World):(Instr.index 139 (aG prL.toArray) (I J 4)).run Tp w = .ok (aG #[I J 1,I J 7,.func (.func 126) #[] #[]]) w:=by
 simp[Instr.index,asIntOf,run_underlying Tryz.underlying139,prL,part,Tryz.sizeOf137,Tryz.isAgg137]
theorem idx_5 (w:World):(Instr.index 139 (aG prL.toArray) (I J 5)).run Tp w = .ok (aG #[I J 0,I J 2,.func (.func 127) #[] #[]]) w:=by
 simp[Instr.index,asIntOf,run_underlying Tryz.underlying139,prL,part,Tryz.sizeOf137,Tryz.isAgg137]
theorem idx_6 (w:World):(Instr.index 139 (aG prL.toArray) (I J 6)).run Tp w = .ok (aG #[I J 0,I J 7,.func (.func 128) #[] #[]]) w:=by
 simp[Instr.index,asIntOf,run_underlying Tryz.underlying139,prL,part,Tryz.sizeOf137,Tryz.isAgg137]
theorem idx_7 (w:World):(Instr.index 139 (aG prL.toArray) (I J 7)).run Tp w = .ok (aG #[I J 0,I J 10,.func (.func 129) #[] #[]]) w:=by
 simp[Instr.index,asIntOf,run_underlying Tryz.underlying139,prL,part,Tryz.sizeOf137,Tryz.isAgg137]
set_option maxRecDepth 20000 in
theorem vcG (w:World) (C:Co) (s:Sl) (lo hi:Int) (n:Nat) (hix:∀ W,(Instr.index 139 (aG prL.toArray) (I J C.p)).run Tp W = .ok (aG #[I J lo,I J hi,.func (.func n) #[] #[]]) W) :
  Calls Tp 68 #[aG (coL C s).toArray] w fun o w'=>retB o ((0≤C.te∧C.te≤256)∧(0≤C.re∧C.re≤255)∧(C.p=7↔C.te=256)∧(lo≤C.ct∧C.ct≤hi)∧(0≤C.rn∧C.rn≤127)∧((C.p=7∧C.ak=true)∨(C.rn=0∧(¬ C.p=7∨C.ct=0))))∧Below w.heap.size w w':=by
 obtain⟨X,HX⟩ : ∃ X:Prop,Hid (X↔((0≤C.te∧C.te≤256)∧(0≤C.re∧C.re≤255)∧(C.p=7↔C.te=256)∧(lo≤C.ct∧C.ct≤hi)∧(0≤C.rn∧C.rn≤127)∧((C.p=7∧C.ak=true)∨(C.rn=0∧(¬ C.p=7∨C.ct=0))))):=⟨_,Iff.rfl⟩
 rw[← HX.out]
 have H0:Hid (ctS w w.heap.size C s (w.alloc (.cells (coL C s).toArray 43))):=ctS.new w _ s
 have HPR:Hid (∀ W,Calls Tp 72 #[] W fun o w'=>o = rT (aG prL.toArray)∧Below W.heap.size W w'):=phaseRows_any
 have HIR:Hid (∀ W v l m,Calls Tp 66 #[I J v,I J l,I J m] W fun o w'=>o = rT (bO (decide (l≤v∧v≤m)))∧W=w'):=inRange_any
 have HIX:Hid (∀ W,(Instr.index 139 (aG prL.toArray) (I J C.p)).run Tp W = .ok (aG #[I J lo,I J hi,.func (.func n) #[] #[]]) W):=hix
 clear hix;go_enter Tryz.func68,Tryz.ntmps68
 go_upto_region 1 with fail
 go_cut [3] (fun s3 wx=>∃ b,s3 = pT (some ⟨b,0,none⟩)∧Hid (blk wx b [I J lo,I J hi,.func (.func n) #[] #[]] 137)∧Hid (ctS w w.heap.size C s wx))
 case first=>
  refine wp_region_held (S:=fun X=>ctS w w.heap.size C s X) (by kernel_rfl) ?_
  have hS:ctS w w.heap.size C s (World.drew (w.alloc (.cells (coL C s).toArray 43))):=H0.out.below (Below.refl _ _).drew
  clear H0;change wpAnyH Tp _ _ _ _ _ _ _ (World.drew (w.alloc (.cells (coL C s).toArray 43)))
  generalize World.drew (w.alloc (.cells (coL C s).toArray 43))=v0 at *;refine wV 1 (pT (some ⟨w.heap.size,0,none⟩)) ?_ hS ?_
  ·intro W hSw;clear hS;go_simp
  simp only[aZ];refine wV 2 (I J C.p) ?_ hS ?_
  ·intro W hSw;clear hS;have y:=hSw.p.cell 0 (I J C.p) rfl
   go_simp
  simp only[aZ];refine wpAnyH_all (rs:=[0,4]) (by kernel_rfl) (by simp) ?_
  refine AllReadyH.cons rfl (fun K2 hK2=>?_) (AllReadyH.cons rfl (fun K2 hK2=>?_) AllReadyH.nil)
  ·go_simp;refine (HPR.out _).mono ?_
   rintro o v1 ⟨rfl,hb⟩;have hS1:=hS.below hb
   clear hb;go_wp2_with fail;refine hK2.out _ _ hS1 (fun hS2=>?_)
   clear hK2 K2 hS1 hS;have hS:=hS2
   clear hS2;refine wV 3 (aG #[I J lo,I J hi,.func (.func n) #[] #[]]) ?_ hS ?_
   ·intro W hSw;clear hS;go_simp;simp only[HIX.out,Result.andThen_ok]
   simp only[aZ];refine wpAnyH_all (rs:=[4]) (by kernel_rfl) (by simp) ?_
   refine AllReadyH.cons rfl (fun K2 hK2=>?_) AllReadyH.nil
   go_simp;have hS1:ctS w w.heap.size C s (v1.alloc (.cells #[I J 0,I J 0,.nilFunc] 137)):=hS.below ((Below.refl _ _).alloc (Nat.le_refl _) _)
   have HRZ:Hid (blk (v1.alloc (.cells #[I J 0,I J 0,.nilFunc] 137)) v1.heap.size [I J 0,I J 0,.nilFunc] 137):=blk.new v1 _ 137
   have HBL:Hid (w.heap.size<v1.heap.size):=hS.p.lt
   refine hK2.out _ _ hS1 (fun hS2=>?_)
   clear hK2 K2 hS1 hS;have hS:=hS2
   clear hS2;refine wpAnyH_all (rs:=[5]) (by kernel_rfl) (by simp) ?_
   refine AllReadyH.cons rfl (fun K2 hK2=>?_) AllReadyH.nil
   rw[if_pos (by rfl)]
   refine wp_store_mid 137 (.tmp 3) (.tmp 8) rfl v1.heap.size 0 #[I J lo,I J hi,.func (.func n) #[] #[]] rfl rfl (HRZ.out.there 0 _ (by simp)) sz121 (all_oneCell_toArray (by simp[Value.oneCell'])) ?_
   generalize hW8:World.setCells (v1.alloc (.cells #[I J 0,I J 0,.nilFunc] 137)) v1.heap.size 0 _=w8
   have HR:Hid (blk w8 v1.heap.size [I J lo,I J hi,.func (.func n) #[] #[]] 137):=by
    have:=blk.put [] [I J 0,I J 0,.nilFunc] [] [I J lo,I J hi,.func (.func n) #[] #[]] (w:=(v1.alloc (.cells #[I J 0,I J 0,.nilFunc] 137))) (b:=v1.heap.size) (T:=137) (by simpa using HRZ.out) rfl
    show blk _ _ _ _
    rw[← hW8]
    simpa using this
   have hS8:ctS w w.heap.size C s w8:=by
    rw[← hW8]
    exact⟨hS.p.kept (setCells_other _ _ (Nat.ne_of_lt HBL.out) _ _ _),setCells_below (Nat.le_of_lt HBL.out) 0 _ hS.b⟩
   have H1:Hid (ctS w w.heap.size C s w8):=hS8
   clear hW8;refine hK2.out _ _ hS8 (fun hS3=>?_)
   refine wpAnyH_done (by kernel_rfl) ?_ _
   clear hS hK2 K2 hS8 hS3;go_wp2_with fail;go_meet
   case rel=>exact⟨_,rfl,HR,H1⟩
  ·go_simp;have hS1:ctS w w.heap.size C s (v0.alloc (.cells #[I J 0,I J 0,.nilFunc] 137)):=hS.below ((Below.refl _ _).alloc (Nat.le_refl _) _)
   have HRY:Hid (blk (v0.alloc (.cells #[I J 0,I J 0,.nilFunc] 137)) v0.heap.size [I J 0,I J 0,.nilFunc] 137):=blk.new v0 _ 137
   have HBL:Hid (w.heap.size<v0.heap.size):=hS.p.lt
   refine hK2.out _ _ hS1 (fun hS2=>?_)
   clear hK2 K2 hS1 hS;have hS:=hS2
   clear hS2;refine wpAnyH_all (rs:=[0]) (by kernel_rfl) (by simp) ?_
   refine AllReadyH.cons rfl (fun K2 hK2=>?_) AllReadyH.nil
   go_simp;refine (HPR.out _).mono ?_
   rintro o v1 ⟨rfl,hb⟩;have hS1:=hS.below hb
   have HRZ:Hid (blk v1 v0.heap.size [I J 0,I J 0,.nilFunc] 137):=HRY.out.below hb
   clear hb HRY;go_wp2_with fail;refine hK2.out _ _ hS1 (fun hS2=>?_)
   clear hK2 K2 hS1 hS;have hS:=hS2
   clear hS2;refine wV 3 (aG #[I J lo,I J hi,.func (.func n) #[] #[]]) ?_ hS ?_
   ·intro W hSw;clear hS;go_simp;simp only[HIX.out,Result.andThen_ok]
   simp only[aZ];refine wpAnyH_all (rs:=[5]) (by kernel_rfl) (by simp) ?_
   refine AllReadyH.cons rfl (fun K2 hK2=>?_) AllReadyH.nil
   rw[if_pos (by rfl)]
   refine wp_store_mid 137 (.tmp 3) (.tmp 8) rfl v0.heap.size 0 #[I J lo,I J hi,.func (.func n) #[] #[]] rfl rfl (HRZ.out.there 0 _ (by simp)) sz121 (all_oneCell_toArray (by simp[Value.oneCell'])) ?_
   generalize hW8:World.setCells v1 v0.heap.size 0 _=w8
   have HR:Hid (blk w8 v0.heap.size [I J lo,I J hi,.func (.func n) #[] #[]] 137):=by
    have:=blk.put [] [I J 0,I J 0,.nilFunc] [] [I J lo,I J hi,.func (.func n) #[] #[]] (w:=v1) (b:=v0.heap.size) (T:=137) (by simpa using HRZ.out) rfl
    show blk _ _ _ _
    rw[← hW8]
    simpa using this
   have hS8:ctS w w.heap.size C s w8:=by
    rw[← hW8]
    exact⟨hS.p.kept (setCells_other _ _ (Nat.ne_of_lt HBL.out) _ _ _),setCells_below (Nat.le_of_lt HBL.out) 0 _ hS.b⟩
   have H1:Hid (ctS w w.heap.size C s w8):=hS8
   clear hW8;refine hK2.out _ _ hS8 (fun hS3=>?_)
   refine wpAnyH_done (by kernel_rfl) ?_ _
   clear hS hK2 K2 hS8 hS3;go_wp2_with fail;go_meet
   case rel=>exact⟨_,rfl,HR,H1⟩
 case rest=>
 obtain⟨b,rfl,HR,H1⟩:=hcut
 have y0:=H1.out.p.cell 0 (I J C.p) rfl
 have y1:=H1.out.p.cell 1 (I J C.ct) rfl
 have y7:=H1.out.p.cell 7 (bO C.ak) rfl
 have y8:=H1.out.p.cell 8 (I J C.rn) rfl
 have y9:=H1.out.p.cell 9 (I J C.te) rfl
 have y10:=H1.out.p.cell 10 (I J C.re) rfl
 have z0:=HR.out.cell 0 (I J lo) rfl
 have z1:=HR.out.cell 1 (I J hi) rfl
 have bb:∀ (x y:Int),∃ b:Bool,(x == y)=b∧Hid (b=true↔x=y):=fun x y=>⟨_,rfl,by show _↔_;simp⟩
 have bd:∀ (l x m:Int),∃ b:Bool,decide (l≤x∧x≤m)=b∧Hid (b=true↔l≤x∧x≤m):=fun l x m=>⟨_,rfl,by show _↔_;simp⟩
 obtain⟨b7,e7,f7⟩:=bb C.p 7
 obtain⟨b2,e2,f2⟩:=bb C.te 256
 obtain⟨bn,en,fn⟩:=bb C.rn 0
 obtain⟨bc,ec,fc⟩:=bb C.ct 0
 obtain⟨bt,et,ft⟩:=bd 0 C.te 256
 obtain⟨br,er,fr⟩:=bd 0 C.re 255
 obtain⟨bq,eq,fq⟩:=bd lo C.ct hi
 obtain⟨bm,em,fm⟩:=bd 0 C.rn 127
 obtain⟨ak,ea⟩ : ∃ b,C.ak=b:=⟨_,rfl⟩
 rw[ea] at y7 HX
 have n7:(C.p != 7) = !b7:=by rw[← e7];rfl
 rw[← ft.out,← fr.out,← f7.out,← f2.out,← fq.out,← fm.out,← fn.out,← fc.out] at HX
 clear bb bd HIX HPR H0 ft fr f7 f2 fq fm fn fc ea;go_upto_region 2 with fail
 go_cut [27] (fun s27 wx=>s27 = bO (!bt || !br || (b7 != b2))∧wx=wc)
 case first=>
  clear HX;cases bt <;> cases br <;> cases b7 <;> cases b2 <;> (
   go_wp2_with (first
    | (go_at_call 66;refine (HIR.out _ _ _ _).mono ?_;rintro o w2 ⟨rfl,rfl⟩;first | rw[et] | rw[er]))
   go_meet
   case rel=>exact⟨rfl,rfl⟩)
 case rest=>
 obtain⟨rfl,hw⟩:=hcut
 subst hw;obtain⟨c1,g1⟩ : ∃ b,(!bt || !br || (b7 != b2))=b:=⟨_,rfl⟩
 rw[g1]
 have G1:Hid ((!bt || !br || (b7 != b2))=c1):=g1
 clear g1 et er e2 y9 y10;cases c1
 case true=>
  go_wp2_with fail;go_ret;refine⟨⟨_,rfl,?_⟩,H1.out.b⟩
  rw[HX.out]
  have g:=G1.out
  clear HX HIR H1 HR y0 y1 y7 y8 z0 z1 e7 en ec eq em n7 G1;cases bt <;> cases br <;> cases b7 <;> cases b2 <;> simp_all
 case false=>
 go_upto_region 4 with fail
 go_cut [41] (fun s41 wx=>s41 = bO (!bq || !bm)∧wx=wc)
 case first=>
  clear HX G1;cases bq <;> cases bm <;> (
   go_wp2_with (first
    | (go_at_call 66;refine (HIR.out _ _ _ _).mono ?_;rintro o w2 ⟨rfl,rfl⟩;first | rw[eq] | rw[em]))
   go_meet
   case rel=>exact⟨rfl,rfl⟩)
 case rest=>
 obtain⟨rfl,hw⟩:=hcut
 subst hw;obtain⟨c2,g2⟩ : ∃ b,(!bq || !bm)=b:=⟨_,rfl⟩
 rw[g2]
 have G2:Hid ((!bq || !bm)=c2):=g2
 clear g2 eq em z0 z1 HR HIR;cases c2
 case true=>
  go_wp2_with fail;go_ret;refine⟨⟨_,rfl,?_⟩,H1.out.b⟩
  rw[HX.out]
  have g:=G2.out
  clear HX H1 y0 y1 y7 y8 e7 en ec n7 G1 G2;cases bq <;> cases bm <;> simp_all
 case false=>
 go_upto_region 6 with fail
 go_cut [4] (fun s4 wx=>s4 = bO (b7 && ak)∧wx=wc)
 case first=>
  clear HX G1 G2;cases b7 <;> cases ak <;> (
   go_wp2_with fail;go_meet
   case rel=>exact⟨rfl,rfl⟩)
 case rest=>
 obtain⟨rfl,hw⟩:=hcut
 subst hw;obtain⟨c3,g3⟩ : ∃ b,(b7 && ak)=b:=⟨_,rfl⟩
 rw[g3]
 have G3:Hid ((b7 && ak)=c3):=g3
 clear g3 y7;go_upto_region 7 with fail
 go_cut [2] (fun s2 wx=>s2 = bO (c3 || (bn && (!b7 || bc)))∧wx=wc)
 case first=>
  clear HX G1 G2 G3;cases c3 <;> cases bn <;> cases b7 <;> cases bc <;> (
   go_wp2_with fail;go_meet
   case rel=>exact⟨rfl,rfl⟩)
 case rest=>
 obtain⟨rfl,hw⟩:=hcut
 subst hw;go_wp2_with fail;go_ret;refine⟨⟨_,rfl,?_⟩,H1.out.b⟩
 rw[HX.out,← G3.out]
 have g:=G1.out
 have g':=G2.out
 clear HX H1 y0 y1 y8 e7 en ec n7 G1 G2 G3 c3;cases bt <;> cases br <;> cases b7 <;> cases b2 <;> cases bq <;> cases bm <;> simp_all
end Go.Proofs.YtbllefckefhpoaaGreat
