import Derived.Test.YtgkkcpgocbcbaaaGreatK04
import Derived.Deep.DeepCutAuto
import Derived.Test.YtgkkcpgocbcbaaaGreatK02
import Derived.Deep.RegionHeld3
import Derived.Deep.RegionWith
namespace Go.Proofs.YtgkkcpgocbcbaaaGreat
open Go.RowKit
set_option linter.unusedVariables false
theorem k0 (p:Int):(decide (p<0) || decide (7<p))=false↔(0≤p∧p≤7):=by simp
theorem k1 (t r:Int):(decide (t<0) || decide (256<t) || decide (r<0) || decide (255<r))=false↔((0≤t∧t≤256)∧(0≤r∧r≤255)):=by simp;omega
theorem k2 (p t:Int):((p == 7) != (t == 256))=false↔(p=7↔t=256):=by
 generalize e1:(p == 7)=a
 generalize e2:(t == 256)=b
 have f1:a=true↔p=7:=by rw[← e1];simp
 have f2:b=true↔t=256:=by rw[← e2];simp
 rw[← f1,← f2]
 cases a <;> cases b <;> simp
theorem k3 (a b c l:Int):(decide (c<a) || decide (b<c) || decide (l<0) || decide (1<l))=false↔((a≤c∧c≤b)∧(0≤l∧l≤1)):=by simp;omega
theorem k4 (l p c:Int) (wk:Bool):(l == 1 && !(p == 2 && wk && decide (0<c)))=false↔(l=1→p=2∧wk=true∧0<c):=by cases wk <;> simp
theorem k5 (p:Int) (wk ov:Bool):(wk && (!(p == 2) || ov))=false↔(wk=true→p=2∧ov=false):=by cases wk <;> simp
theorem k6 (p:Int) (ov:Bool):(ov && !(p == 2) && !(p == 3) && !(p == 4))=false↔(ov=true→p=2∨p=3∨p=4):=by cases ov <;> simp;omega
theorem k7 (ow wk tx:Bool):(ow && !(wk && tx))=false↔(ow=true→wk=true∧tx=true):=by cases ow <;> simp
theorem k8 (p:Int) (tx:Bool):(tx && (p == 7 || p == 0))=false↔(tx=true→p≠7∧p≠0):=by cases tx <;> simp
theorem k9 (p:Int) (tx:Bool):(p == 6 && !tx)=false↔(p=6→tx=true):=by cases tx <;> simp
theorem isLevel_any (w:World) (v:Int):Calls Tryz.prog 17 #[.int .i64 v] w fun o w'=>o = .returned (.bool (decide (v=0∨v=1)))∧w=w':=by
 by_cases h0:v=0
 ·subst h0
  go_enter Tryz.func17,Tryz.ntmps17
  go_wp2
  go_ret
  exact⟨by simp,rfl⟩
 ·have d0:(v == 0)=false:=by simpa using h0
  by_cases h1:v=1
  ·subst h1
   go_enter Tryz.func17,Tryz.ntmps17
   go_wp2
   go_ret
   exact⟨by simp,rfl⟩
  ·have d1:(v == 1)=false:=by simpa using h1
   go_enter Tryz.func17,Tryz.ntmps17
   go_wp2
   go_ret
   exact⟨by simp[h0,h1],rfl⟩
def vmB (C:Co):Bool:=!(!decide (C.lv=0∨C.lv=1) || ((C.lv == 1) && !((C.p == 2) && C.wk && decide (0<C.ct)))) && !(C.wk && (!(C.p == 2) || C.ov)) && !(C.ov && !(C.p == 2) && !(C.p == 3) && !(C.p == 4)) && !(C.ow && !(C.wk && C.tx)) && !(C.tx && ((C.p == 0) || (C.p == 7))) && !(!C.tx && (C.p == 6)) && (!C.ak || (C.p == 7))
theorem j1 (l p c:Int) (wk:Bool):(!decide (l=0∨l=1) || (l == 1 && !(p == 2 && wk && decide (0<c))))=false↔((0≤l∧l≤1)∧(l=1→p=2∧wk=true∧0<c)):=by
 rw[Bool.or_eq_false_iff,k4]
 refine and_congr ?_ Iff.rfl
 simp
 omega
theorem j5 (p:Int) (tx:Bool):(tx && (p == 0 || p == 7))=false↔(tx=true→p≠7∧p≠0):=by rw[Bool.or_comm];exact k8 p tx
theorem j6 (p:Int) (tx:Bool):(!tx && p == 6)=false↔(p=6→tx=true):=by rw[Bool.and_comm];exact k9 p tx
theorem j7 (p:Int) (ak:Bool):(!ak || p == 7)=true↔(ak=true→p=7):=by cases ak <;> simp
set_option maxHeartbeats 16000000 in
set_option maxRecDepth 20000 in
theorem vmG (w:World) (C:Co) (s:Sl):Calls Tryz.prog 53 #[.agg (coL C s).toArray] w fun o w'=>retB o (vmB C=true)∧Below w.heap.size w w':=by
 obtain⟨X,HX⟩ : ∃ X:Prop,Hid (X↔(vmB C=true)):=⟨_,Iff.rfl⟩
 rw[← HX.out]
 have H1:Hid (ctS w w.heap.size C s (w.alloc (.cells (coL C s).toArray 39))):=ctS.new w C s
 have HIL:Hid (∀ W,Calls Tryz.prog 17 #[.int .i64 C.lv] W fun o w'=>o = .returned (.bool (decide (C.lv=0∨C.lv=1)))∧W=w'):=fun W=>isLevel_any W C.lv
 have HB:Hid (vmB C=(!(!decide (C.lv=0∨C.lv=1) || ((C.lv == 1) && !((C.p == 2) && C.wk && decide (0<C.ct)))) && !(C.wk && (!(C.p == 2) || C.ov)) && !(C.ov && !(C.p == 2) && !(C.p == 3) && !(C.p == 4)) && !(C.ow && !(C.wk && C.tx)) && !(C.tx && ((C.p == 0) || (C.p == 7))) && !(!C.tx && (C.p == 6)) && (!C.ak || (C.p == 7)))):=rfl
 obtain⟨lk,elk⟩ : ∃ b:Bool,decide (C.lv=0∨C.lv=1)=b:=⟨_,rfl⟩
 obtain⟨l1,el1,nl1⟩ : ∃ b:Bool,(C.lv == 1)=b∧(C.lv != 1) = !b:=⟨_,rfl,rfl⟩
 obtain⟨p2,ep2,np2⟩ : ∃ b:Bool,(C.p == 2)=b∧(C.p != 2) = !b:=⟨_,rfl,rfl⟩
 obtain⟨cp,ecp⟩ : ∃ b:Bool,decide (0<C.ct)=b:=⟨_,rfl⟩
 obtain⟨p3,ep3,np3⟩ : ∃ b:Bool,(C.p == 3)=b∧(C.p != 3) = !b:=⟨_,rfl,rfl⟩
 obtain⟨p4,ep4,np4⟩ : ∃ b:Bool,(C.p == 4)=b∧(C.p != 4) = !b:=⟨_,rfl,rfl⟩
 obtain⟨pz,epz,npz⟩ : ∃ b:Bool,(C.p == 0)=b∧(C.p != 0) = !b:=⟨_,rfl,rfl⟩
 obtain⟨p7,ep7,np7⟩ : ∃ b:Bool,(C.p == 7)=b∧(C.p != 7) = !b:=⟨_,rfl,rfl⟩
 obtain⟨p6,ep6,np6⟩ : ∃ b:Bool,(C.p == 6)=b∧(C.p != 6) = !b:=⟨_,rfl,rfl⟩
 obtain⟨wk,ewk⟩ : ∃ b:Bool,C.wk=b:=⟨_,rfl⟩
 obtain⟨ov,eov⟩ : ∃ b:Bool,C.ov=b:=⟨_,rfl⟩
 obtain⟨ow,eow⟩ : ∃ b:Bool,C.ow=b:=⟨_,rfl⟩
 obtain⟨tx,etx⟩ : ∃ b:Bool,C.tx=b:=⟨_,rfl⟩
 obtain⟨ak,eak⟩ : ∃ b:Bool,C.ak=b:=⟨_,rfl⟩
 rw[elk,el1,ep2,ecp,ep3,ep4,epz,ep7,ep6,ewk,eov,eow,etx,eak] at HB
 rw[elk] at HIL
 have y0:=H1.out.p.cell 0 (.int .i64 C.p) rfl
 have y1:=H1.out.p.cell 1 (.int .i64 C.ct) rfl
 have y2:=H1.out.p.cell 2 (.int .i64 C.lv) rfl
 have y3:=H1.out.p.cell 3 (.bool C.wk) rfl
 have y4:=H1.out.p.cell 4 (.bool C.ov) rfl
 have y5:=H1.out.p.cell 5 (.bool C.ow) rfl
 have y6:=H1.out.p.cell 6 (.bool C.tx) rfl
 have y7:=H1.out.p.cell 7 (.bool C.ak) rfl
 rw[ewk] at y3
 rw[eov] at y4
 rw[eow] at y5
 rw[etx] at y6
 rw[eak] at y7
 clear ewk eov eow etx eak elk
 generalize hwc:w.alloc (.cells (coL C s).toArray 39)=wc at *
 go_enter Tryz.func53,Tryz.ntmps53
 go_upto_region 2 with fail
 try rw[hwc]
 go_cut [7] (fun x wx=>x = .bool (!lk || (l1 && !(p2 && wk && cp)))∧wx=wc)
 case first=>
  as_aux_lemma=>
  clear HX HB
  have hh:(lk=true∧l1=true∧p2=true∧wk=true∧cp=true)∨(lk=true∧l1=true∧p2=true∧wk=true∧cp=false)∨(lk=true∧l1=true∧p2=true∧wk=false)∨(lk=true∧l1=true∧p2=false)∨(lk=true∧l1=false)∨(lk=false):=by cases lk <;> cases l1 <;> cases p2 <;> cases wk <;> cases cp <;> simp
  rcases hh with⟨rfl,rfl,rfl,rfl,rfl⟩ | ⟨rfl,rfl,rfl,rfl,rfl⟩ | ⟨rfl,rfl,rfl,rfl⟩ | ⟨rfl,rfl,rfl⟩ | ⟨rfl,rfl⟩ | rfl <;> (
   go_wp2_with (first | (go_at_call 17;refine (HIL.out _).mono ?_;rintro o w2 ⟨rfl,rfl⟩))
   go_meet
   case rel=>exact⟨rfl,rfl⟩)
 case rest=>
 obtain⟨rfl,hw⟩:=hcut
 subst hw
 obtain⟨c1,g⟩ : ∃ b,(!lk || (l1 && !(p2 && wk && cp)))=b:=⟨_,rfl⟩
 rw[g]
 have G1:Hid ((!lk || (l1 && !(p2 && wk && cp)))=c1):=g
 clear g
 cases c1
 case true=>
  as_aux_lemma=>
  go_wp2_with fail
  go_ret
  refine⟨⟨_,rfl,?_⟩,H1.out.b⟩
  rw[HX.out,HB.out,G1.out]
  simp
 case false=>
 go_upto_region 4 with fail
 go_cut [30] (fun x wx=>x = .bool (wk && (!p2 || ov))∧wx=wc)
 case first=>
  as_aux_lemma=>
  clear HX HB
  have hh:(wk=true∧p2=true∧ov=true)∨(wk=true∧p2=true∧ov=false)∨(wk=true∧p2=false)∨(wk=false):=by cases wk <;> cases p2 <;> cases ov <;> simp
  rcases hh with⟨rfl,rfl,rfl⟩ | ⟨rfl,rfl,rfl⟩ | ⟨rfl,rfl⟩ | rfl <;> (
   go_wp2_with fail
   go_meet
   case rel=>exact⟨rfl,rfl⟩)
 case rest=>
 obtain⟨rfl,hw⟩:=hcut
 subst hw
 obtain⟨c2,g⟩ : ∃ b,(wk && (!p2 || ov))=b:=⟨_,rfl⟩
 rw[g]
 have G2:Hid ((wk && (!p2 || ov))=c2):=g
 clear g
 cases c2
 case true=>
  as_aux_lemma=>
  go_wp2_with fail
  go_ret
  refine⟨⟨_,rfl,?_⟩,H1.out.b⟩
  rw[HX.out,HB.out,G2.out]
  simp
 case false=>
 go_upto_region 6 with fail
 go_cut [41] (fun x wx=>x = .bool (ov && !p2 && !p3 && !p4)∧wx=wc)
 case first=>
  as_aux_lemma=>
  clear HX HB
  have hh:(ov=true∧p2=true)∨(ov=true∧p2=false∧p3=true)∨(ov=true∧p2=false∧p3=false∧p4=true)∨(ov=true∧p2=false∧p3=false∧p4=false)∨(ov=false):=by cases ov <;> cases p2 <;> cases p3 <;> cases p4 <;> simp
  rcases hh with⟨rfl,rfl⟩ | ⟨rfl,rfl,rfl⟩ | ⟨rfl,rfl,rfl,rfl⟩ | ⟨rfl,rfl,rfl,rfl⟩ | rfl <;> (
   go_wp2_with fail
   go_meet
   case rel=>exact⟨rfl,rfl⟩)
 case rest=>
 obtain⟨rfl,hw⟩:=hcut
 subst hw
 obtain⟨c3,g⟩ : ∃ b,(ov && !p2 && !p3 && !p4)=b:=⟨_,rfl⟩
 rw[g]
 have G3:Hid ((ov && !p2 && !p3 && !p4)=c3):=g
 clear g
 cases c3
 case true=>
  as_aux_lemma=>
  go_wp2_with fail
  go_ret
  refine⟨⟨_,rfl,?_⟩,H1.out.b⟩
  rw[HX.out,HB.out,G3.out]
  simp
 case false=>
 go_upto_region 8 with fail
 go_cut [58] (fun x wx=>x = .bool (ow && !(wk && tx))∧wx=wc)
 case first=>
  as_aux_lemma=>
  clear HX HB
  have hh:(ow=true∧wk=true∧tx=true)∨(ow=true∧wk=true∧tx=false)∨(ow=true∧wk=false)∨(ow=false):=by cases ow <;> cases wk <;> cases tx <;> simp
  rcases hh with⟨rfl,rfl,rfl⟩ | ⟨rfl,rfl,rfl⟩ | ⟨rfl,rfl⟩ | rfl <;> (
   go_wp2_with fail
   go_meet
   case rel=>exact⟨rfl,rfl⟩)
 case rest=>
 obtain⟨rfl,hw⟩:=hcut
 subst hw
 obtain⟨c4,g⟩ : ∃ b,(ow && !(wk && tx))=b:=⟨_,rfl⟩
 rw[g]
 have G4:Hid ((ow && !(wk && tx))=c4):=g
 clear g
 cases c4
 case true=>
  as_aux_lemma=>
  go_wp2_with fail
  go_ret
  refine⟨⟨_,rfl,?_⟩,H1.out.b⟩
  rw[HX.out,HB.out,G4.out]
  simp
 case false=>
 go_upto_region 10 with fail
 go_cut [70] (fun x wx=>x = .bool (tx && (pz || p7))∧wx=wc)
 case first=>
  as_aux_lemma=>
  clear HX HB
  have hh:(tx=true∧pz=true)∨(tx=true∧pz=false∧p7=true)∨(tx=true∧pz=false∧p7=false)∨(tx=false):=by cases tx <;> cases pz <;> cases p7 <;> simp
  rcases hh with⟨rfl,rfl⟩ | ⟨rfl,rfl,rfl⟩ | ⟨rfl,rfl,rfl⟩ | rfl <;> (
   go_wp2_with fail
   go_meet
   case rel=>exact⟨rfl,rfl⟩)
 case rest=>
 obtain⟨rfl,hw⟩:=hcut
 subst hw
 obtain⟨c5,g⟩ : ∃ b,(tx && (pz || p7))=b:=⟨_,rfl⟩
 rw[g]
 have G5:Hid ((tx && (pz || p7))=c5):=g
 clear g
 cases c5
 case true=>
  as_aux_lemma=>
  go_wp2_with fail
  go_ret
  refine⟨⟨_,rfl,?_⟩,H1.out.b⟩
  rw[HX.out,HB.out,G5.out]
  simp
 case false=>
 go_upto_region 12 with fail
 go_cut [83] (fun x wx=>x = .bool (!tx && p6)∧wx=wc)
 case first=>
  as_aux_lemma=>
  clear HX HB
  have hh:(tx=true)∨(tx=false∧p6=true)∨(tx=false∧p6=false):=by cases tx <;> cases p6 <;> simp
  rcases hh with rfl | ⟨rfl,rfl⟩ | ⟨rfl,rfl⟩ <;> (
   go_wp2_with fail
   go_meet
   case rel=>exact⟨rfl,rfl⟩)
 case rest=>
 obtain⟨rfl,hw⟩:=hcut
 subst hw
 obtain⟨c6,g⟩ : ∃ b,(!tx && p6)=b:=⟨_,rfl⟩
 rw[g]
 have G6:Hid ((!tx && p6)=c6):=g
 clear g
 cases c6
 case true=>
  as_aux_lemma=>
  go_wp2_with fail
  go_ret
  refine⟨⟨_,rfl,?_⟩,H1.out.b⟩
  rw[HX.out,HB.out,G6.out]
  simp
 case false=>
 rw[HB.out,G1.out,G2.out,G3.out,G4.out,G5.out,G6.out] at HX
 go_upto_region 14 with fail
 go_cut [2] (fun x wx=>x = .bool (!ak || p7)∧wx=wc)
 case first=>
  clear HX HB
  have hh:(ak=true∧p7=true)∨(ak=true∧p7=false)∨(ak=false):=by cases ak <;> cases p7 <;> simp
  rcases hh with⟨rfl,rfl⟩ | ⟨rfl,rfl⟩ | rfl <;> (
   go_wp2_with fail
   go_meet
   case rel=>exact⟨rfl,rfl⟩)
 case rest=>
 obtain⟨rfl,hw⟩:=hcut
 subst hw
 go_wp2_with fail
 go_ret
 refine⟨⟨_,rfl,?_⟩,H1.out.b⟩
 rw[HX.out]
 simp
theorem sz121:(Tryz.prog.info? 96).map (·.size)=some 3:=by kernel_rfl
theorem idx_0 (w:World):(Instr.index 104 (.agg prL.toArray) (.int .i64 0)).run Tryz.prog w = .ok (.agg #[.int .i64 0,.int .i64 0,.func (.func 80) #[] #[]]) w:=by
 simp[Instr.index,asIntOf,run_underlying Tryz.underlying104,prL,part,Tryz.sizeOf96,Tryz.isAgg96]
theorem idx_1 (w:World):(Instr.index 104 (.agg prL.toArray) (.int .i64 1)).run Tryz.prog w = .ok (.agg #[.int .i64 0,.int .i64 0,.func (.func 81) #[] #[]]) w:=by
 simp[Instr.index,asIntOf,run_underlying Tryz.underlying104,prL,part,Tryz.sizeOf96,Tryz.isAgg96]
theorem idx_2 (w:World):(Instr.index 104 (.agg prL.toArray) (.int .i64 2)).run Tryz.prog w = .ok (.agg #[.int .i64 0,.int .i64 5,.func (.func 82) #[] #[]]) w:=by
 simp[Instr.index,asIntOf,run_underlying Tryz.underlying104,prL,part,Tryz.sizeOf96,Tryz.isAgg96]
theorem idx_3 (w:World):(Instr.index 104 (.agg prL.toArray) (.int .i64 3)).run Tryz.prog w = .ok (.agg #[.int .i64 0,.int .i64 15,.func (.func 83) #[] #[]]) w:=by
 simp[Instr.index,asIntOf,run_underlying Tryz.underlying104,prL,part,Tryz.sizeOf96,Tryz.isAgg96]
theorem idx_4 (w:World):(Instr.index 104 (.agg prL.toArray) (.int .i64 4)).run Tryz.prog w = .ok (.agg #[.int .i64 1,.int .i64 7,.func (.func 84) #[] #[]]) w:=by
 simp[Instr.index,asIntOf,run_underlying Tryz.underlying104,prL,part,Tryz.sizeOf96,Tryz.isAgg96]
theorem idx_5 (w:World):(Instr.index 104 (.agg prL.toArray) (.int .i64 5)).run Tryz.prog w = .ok (.agg #[.int .i64 0,.int .i64 2,.func (.func 85) #[] #[]]) w:=by
 simp[Instr.index,asIntOf,run_underlying Tryz.underlying104,prL,part,Tryz.sizeOf96,Tryz.isAgg96]
theorem idx_6 (w:World):(Instr.index 104 (.agg prL.toArray) (.int .i64 6)).run Tryz.prog w = .ok (.agg #[.int .i64 0,.int .i64 7,.func (.func 86) #[] #[]]) w:=by
 simp[Instr.index,asIntOf,run_underlying Tryz.underlying104,prL,part,Tryz.sizeOf96,Tryz.isAgg96]
theorem idx_7 (w:World):(Instr.index 104 (.agg prL.toArray) (.int .i64 7)).run Tryz.prog w = .ok (.agg #[.int .i64 0,.int .i64 10,.func (.func 87) #[] #[]]) w:=by
 simp[Instr.index,asIntOf,run_underlying Tryz.underlying104,prL,part,Tryz.sizeOf96,Tryz.isAgg96]
set_option maxHeartbeats 16000000 in
set_option maxRecDepth 20000 in
theorem vcG (w:World) (C:Co) (s:Sl) (lo hi:Int) (n:Nat) (hix:∀ W,(Instr.index 104 (.agg prL.toArray) (.int .i64 C.p)).run Tryz.prog W = .ok (.agg #[.int .i64 lo,.int .i64 hi,.func (.func n) #[] #[]]) W) :
  Calls Tryz.prog 52 #[.agg (coL C s).toArray] w fun o w'=>retB o ((0≤C.te∧C.te≤256)∧(0≤C.re∧C.re≤255)∧(C.p=7↔C.te=256)∧(lo≤C.ct∧C.ct≤hi)∧(0≤C.rn∧C.rn≤127)∧((C.p=7∧C.ak=true)∨(C.rn=0∧(¬ C.p=7∨C.ct=0))))∧Below w.heap.size w w':=by
 obtain⟨X,HX⟩ : ∃ X:Prop,Hid (X↔((0≤C.te∧C.te≤256)∧(0≤C.re∧C.re≤255)∧(C.p=7↔C.te=256)∧(lo≤C.ct∧C.ct≤hi)∧(0≤C.rn∧C.rn≤127)∧((C.p=7∧C.ak=true)∨(C.rn=0∧(¬ C.p=7∨C.ct=0))))):=⟨_,Iff.rfl⟩
 rw[← HX.out]
 have H0:Hid (ctS w w.heap.size C s (w.alloc (.cells (coL C s).toArray 39))):=ctS.new w _ s
 have HPR:Hid (∀ W,Calls Tryz.prog 55 #[] W fun o w'=>o = .returned (.agg prL.toArray)∧Below W.heap.size W w'):=phaseRows_any
 have HIR:Hid (∀ W v l m,Calls Tryz.prog 51 #[.int .i64 v,.int .i64 l,.int .i64 m] W fun o w'=>o = .returned (.bool (decide (l≤v∧v≤m)))∧W=w'):=inRange_any
 have HIX:Hid (∀ W,(Instr.index 104 (.agg prL.toArray) (.int .i64 C.p)).run Tryz.prog W = .ok (.agg #[.int .i64 lo,.int .i64 hi,.func (.func n) #[] #[]]) W):=hix
 clear hix
 go_enter Tryz.func52,Tryz.ntmps52
 go_upto_region 1 with fail
 go_cut [3] (fun s3 wx=>∃ b,s3 = .pointer (some ⟨b,0,none⟩)∧Hid (blk wx b [.int .i64 lo,.int .i64 hi,.func (.func n) #[] #[]] 96)∧Hid (ctS w w.heap.size C s wx))
 case first=>
  refine wp_region_held (S:=fun X=>ctS w w.heap.size C s X) (by kernel_rfl) ?_
  have hS:ctS w w.heap.size C s (World.drew (w.alloc (.cells (coL C s).toArray 39))):=H0.out.below (Below.refl _ _).drew
  clear H0
  change wpAnyH Tryz.prog _ _ _ _ _ _ _ (World.drew (w.alloc (.cells (coL C s).toArray 39)))
  generalize World.drew (w.alloc (.cells (coL C s).toArray 39))=v0 at *
  refine wT (i:=1) (v:=.pointer (some ⟨w.heap.size,0,none⟩)) rfl (by kernel_rfl) (by kernel_rfl) (by kernel_rfl) (fun _ _ _ h=>h) (Or.inl ⟨by rfl,?_⟩) hS ?_
  ·intro W hSw
   clear hS
   go_simp
  simp only[Act.put,aA,aB,aC,aD,aE,aF]
  refine wT (i:=2) (v:=.int .i64 C.p) rfl (by kernel_rfl) (by kernel_rfl) (by kernel_rfl) (fun _ _ _ h=>h) (Or.inl ⟨by rfl,?_⟩) hS ?_
  ·intro W hSw
   clear hS
   have y:=hSw.p.cell 0 (.int .i64 C.p) rfl
   go_simp
  simp only[Act.put,aA,aB,aC,aD,aE,aF]
  refine wpAnyH_all (rs:=[0,4]) (by kernel_rfl) (by simp) ?_
  refine AllReadyH.cons rfl (fun K2 hK2=>?_) (AllReadyH.cons rfl (fun K2 hK2=>?_) AllReadyH.nil)
  ·go_simp
   refine (HPR.out _).mono ?_
   rintro o v1 ⟨rfl,hb⟩
   have hS1:=hS.below hb
   clear hb
   go_wp2_with fail
   refine hK2.out _ _ hS1 (fun hS2=>?_)
   clear hK2 K2 hS1 hS
   have hS:=hS2
   clear hS2
   refine wT (i:=3) (v:=.agg #[.int .i64 lo,.int .i64 hi,.func (.func n) #[] #[]]) rfl (by kernel_rfl) (by kernel_rfl) (by kernel_rfl) (fun _ _ _ h=>h) (Or.inl ⟨by rfl,?_⟩) hS ?_
   ·intro W hSw
    clear hS
    go_simp
    simp only[HIX.out,Result.andThen_ok]
   simp only[Act.put,aA,aB,aC,aD,aE,aF]
   refine wpAnyH_all (rs:=[4]) (by kernel_rfl) (by simp) ?_
   refine AllReadyH.cons rfl (fun K2 hK2=>?_) AllReadyH.nil
   go_simp
   have hS1:ctS w w.heap.size C s (v1.alloc (.cells #[.int .i64 0,.int .i64 0,.nilFunc] 96)):=hS.below ((Below.refl _ _).alloc (Nat.le_refl _) _)
   have HRZ:Hid (blk (v1.alloc (.cells #[.int .i64 0,.int .i64 0,.nilFunc] 96)) v1.heap.size [.int .i64 0,.int .i64 0,.nilFunc] 96):=blk.new v1 _ 96
   have HBL:Hid (w.heap.size<v1.heap.size):=hS.p.lt
   refine hK2.out _ _ hS1 (fun hS2=>?_)
   clear hK2 K2 hS1 hS
   have hS:=hS2
   clear hS2
   refine wpAnyH_all (rs:=[5]) (by kernel_rfl) (by simp) ?_
   refine AllReadyH.cons rfl (fun K2 hK2=>?_) AllReadyH.nil
   rw[if_pos (by rfl)]
   refine wp_store_mid 96 (.tmp 3) (.tmp 8) rfl v1.heap.size 0 #[.int .i64 lo,.int .i64 hi,.func (.func n) #[] #[]] rfl rfl (HRZ.out.there 0 _ (by simp)) sz121 (all_oneCell_toArray (by simp[Value.oneCell'])) ?_
   generalize hW8:World.setCells (v1.alloc (.cells #[.int .i64 0,.int .i64 0,.nilFunc] 96)) v1.heap.size 0 _=w8
   have HR:Hid (blk w8 v1.heap.size [.int .i64 lo,.int .i64 hi,.func (.func n) #[] #[]] 96):=by
    have:=blk.put [] [.int .i64 0,.int .i64 0,.nilFunc] [] [.int .i64 lo,.int .i64 hi,.func (.func n) #[] #[]] (w:=(v1.alloc (.cells #[.int .i64 0,.int .i64 0,.nilFunc] 96))) (b:=v1.heap.size) (T:=96) (by simpa using HRZ.out) rfl
    show blk _ _ _ _
    rw[← hW8]
    simpa using this
   have hS8:ctS w w.heap.size C s w8:=by
    rw[← hW8]
    exact⟨hS.p.kept (setCells_other _ _ (Nat.ne_of_lt HBL.out) _ _ _),setCells_below (Nat.le_of_lt HBL.out) 0 _ hS.b⟩
   have H1:Hid (ctS w w.heap.size C s w8):=hS8
   clear hW8
   refine hK2.out _ _ hS8 (fun hS3=>?_)
   refine wpAnyH_done (by kernel_rfl) ?_ _
   clear hS hK2 K2 hS8 hS3
   go_wp2_with fail
   go_meet
   case rel=>exact⟨_,rfl,HR,H1⟩
  ·go_simp
   have hS1:ctS w w.heap.size C s (v0.alloc (.cells #[.int .i64 0,.int .i64 0,.nilFunc] 96)):=hS.below ((Below.refl _ _).alloc (Nat.le_refl _) _)
   have HRY:Hid (blk (v0.alloc (.cells #[.int .i64 0,.int .i64 0,.nilFunc] 96)) v0.heap.size [.int .i64 0,.int .i64 0,.nilFunc] 96):=blk.new v0 _ 96
   have HBL:Hid (w.heap.size<v0.heap.size):=hS.p.lt
   refine hK2.out _ _ hS1 (fun hS2=>?_)
   clear hK2 K2 hS1 hS
   have hS:=hS2
   clear hS2
   refine wpAnyH_all (rs:=[0]) (by kernel_rfl) (by simp) ?_
   refine AllReadyH.cons rfl (fun K2 hK2=>?_) AllReadyH.nil
   go_simp
   refine (HPR.out _).mono ?_
   rintro o v1 ⟨rfl,hb⟩
   have hS1:=hS.below hb
   have HRZ:Hid (blk v1 v0.heap.size [.int .i64 0,.int .i64 0,.nilFunc] 96):=HRY.out.below hb
   clear hb HRY
   go_wp2_with fail
   refine hK2.out _ _ hS1 (fun hS2=>?_)
   clear hK2 K2 hS1 hS
   have hS:=hS2
   clear hS2
   refine wT (i:=3) (v:=.agg #[.int .i64 lo,.int .i64 hi,.func (.func n) #[] #[]]) rfl (by kernel_rfl) (by kernel_rfl) (by kernel_rfl) (fun _ _ _ h=>h) (Or.inl ⟨by rfl,?_⟩) hS ?_
   ·intro W hSw
    clear hS
    go_simp
    simp only[HIX.out,Result.andThen_ok]
   simp only[Act.put,aA,aB,aC,aD,aE,aF]
   refine wpAnyH_all (rs:=[5]) (by kernel_rfl) (by simp) ?_
   refine AllReadyH.cons rfl (fun K2 hK2=>?_) AllReadyH.nil
   rw[if_pos (by rfl)]
   refine wp_store_mid 96 (.tmp 3) (.tmp 8) rfl v0.heap.size 0 #[.int .i64 lo,.int .i64 hi,.func (.func n) #[] #[]] rfl rfl (HRZ.out.there 0 _ (by simp)) sz121 (all_oneCell_toArray (by simp[Value.oneCell'])) ?_
   generalize hW8:World.setCells v1 v0.heap.size 0 _=w8
   have HR:Hid (blk w8 v0.heap.size [.int .i64 lo,.int .i64 hi,.func (.func n) #[] #[]] 96):=by
    have:=blk.put [] [.int .i64 0,.int .i64 0,.nilFunc] [] [.int .i64 lo,.int .i64 hi,.func (.func n) #[] #[]] (w:=v1) (b:=v0.heap.size) (T:=96) (by simpa using HRZ.out) rfl
    show blk _ _ _ _
    rw[← hW8]
    simpa using this
   have hS8:ctS w w.heap.size C s w8:=by
    rw[← hW8]
    exact⟨hS.p.kept (setCells_other _ _ (Nat.ne_of_lt HBL.out) _ _ _),setCells_below (Nat.le_of_lt HBL.out) 0 _ hS.b⟩
   have H1:Hid (ctS w w.heap.size C s w8):=hS8
   clear hW8
   refine hK2.out _ _ hS8 (fun hS3=>?_)
   refine wpAnyH_done (by kernel_rfl) ?_ _
   clear hS hK2 K2 hS8 hS3
   go_wp2_with fail
   go_meet
   case rel=>exact⟨_,rfl,HR,H1⟩
 case rest=>
 obtain⟨b,rfl,HR,H1⟩:=hcut
 have y0:=H1.out.p.cell 0 (.int .i64 C.p) rfl
 have y1:=H1.out.p.cell 1 (.int .i64 C.ct) rfl
 have y7:=H1.out.p.cell 7 (.bool C.ak) rfl
 have y8:=H1.out.p.cell 8 (.int .i64 C.rn) rfl
 have y9:=H1.out.p.cell 9 (.int .i64 C.te) rfl
 have y10:=H1.out.p.cell 10 (.int .i64 C.re) rfl
 have z0:=HR.out.cell 0 (.int .i64 lo) rfl
 have z1:=HR.out.cell 1 (.int .i64 hi) rfl
 have bb:∀ (x y:Int),∃ b:Bool,(x == y)=b∧Hid (b=true↔x=y):=fun x y=>⟨_,rfl,by show _↔_;simp⟩
 have bd:∀ (l x m:Int),∃ b:Bool,decide (l≤x∧x≤m)=b∧Hid (b=true↔l≤x∧x≤m):=fun l x m=>⟨_,rfl,by show _↔_;simp⟩
 obtain⟨b7,e7,f7⟩:=bb C.p 7
 obtain⟨b2,e2,f2⟩:=bb C.te 256
 obtain⟨bn,en,fn⟩:=bb C.rn 0
 obtain⟨bc,ec,fc⟩:=bb C.ct 0
 obtain⟨bt,et,ft⟩:=bd 0 C.te 256
 obtain⟨br,er,fr⟩:=bd 0 C.re 255
 obtain⟨bq,eq,fq⟩:=bd lo C.ct hi
 obtain⟨bm,em,fm⟩:=bd 0 C.rn 127
 obtain⟨ak,ea⟩ : ∃ b,C.ak=b:=⟨_,rfl⟩
 rw[ea] at y7 HX
 have n7:(C.p != 7) = !b7:=by rw[← e7];rfl
 rw[← ft.out,← fr.out,← f7.out,← f2.out,← fq.out,← fm.out,← fn.out,← fc.out] at HX
 clear bb bd HIX HPR H0 ft fr f7 f2 fq fm fn fc ea
 go_upto_region 2 with fail
 go_cut [27] (fun s27 wx=>s27 = .bool (!bt || !br || (b7 != b2))∧wx=wc)
 case first=>
  clear HX
  cases bt <;> cases br <;> cases b7 <;> cases b2 <;> (
   go_wp2_with (first
    | (go_at_call 51;refine (HIR.out _ _ _ _).mono ?_;rintro o w2 ⟨rfl,rfl⟩;first | rw[et] | rw[er]))
   go_meet
   case rel=>exact⟨rfl,rfl⟩)
 case rest=>
 obtain⟨rfl,hw⟩:=hcut
 subst hw
 obtain⟨c1,g1⟩ : ∃ b,(!bt || !br || (b7 != b2))=b:=⟨_,rfl⟩
 rw[g1]
 have G1:Hid ((!bt || !br || (b7 != b2))=c1):=g1
 clear g1 et er e2 y9 y10
 cases c1
 case true=>
  go_wp2_with fail
  go_ret
  refine⟨⟨_,rfl,?_⟩,H1.out.b⟩
  rw[HX.out]
  have g:=G1.out
  clear HX HIR H1 HR y0 y1 y7 y8 z0 z1 e7 en ec eq em n7 G1
  cases bt <;> cases br <;> cases b7 <;> cases b2 <;> simp_all
 case false=>
 go_upto_region 4 with fail
 go_cut [41] (fun s41 wx=>s41 = .bool (!bq || !bm)∧wx=wc)
 case first=>
  clear HX G1
  cases bq <;> cases bm <;> (
   go_wp2_with (first
    | (go_at_call 51;refine (HIR.out _ _ _ _).mono ?_;rintro o w2 ⟨rfl,rfl⟩;first | rw[eq] | rw[em]))
   go_meet
   case rel=>exact⟨rfl,rfl⟩)
 case rest=>
 obtain⟨rfl,hw⟩:=hcut
 subst hw
 obtain⟨c2,g2⟩ : ∃ b,(!bq || !bm)=b:=⟨_,rfl⟩
 rw[g2]
 have G2:Hid ((!bq || !bm)=c2):=g2
 clear g2 eq em z0 z1 HR HIR
 cases c2
 case true=>
  go_wp2_with fail
  go_ret
  refine⟨⟨_,rfl,?_⟩,H1.out.b⟩
  rw[HX.out]
  have g:=G2.out
  clear HX H1 y0 y1 y7 y8 e7 en ec n7 G1 G2
  cases bq <;> cases bm <;> simp_all
 case false=>
 go_upto_region 6 with fail
 go_cut [4] (fun s4 wx=>s4 = .bool (b7 && ak)∧wx=wc)
 case first=>
  clear HX G1 G2
  cases b7 <;> cases ak <;> (
   go_wp2_with fail
   go_meet
   case rel=>exact⟨rfl,rfl⟩)
 case rest=>
 obtain⟨rfl,hw⟩:=hcut
 subst hw
 obtain⟨c3,g3⟩ : ∃ b,(b7 && ak)=b:=⟨_,rfl⟩
 rw[g3]
 have G3:Hid ((b7 && ak)=c3):=g3
 clear g3 y7
 go_upto_region 7 with fail
 go_cut [2] (fun s2 wx=>s2 = .bool (c3 || (bn && (!b7 || bc)))∧wx=wc)
 case first=>
  clear HX G1 G2 G3
  cases c3 <;> cases bn <;> cases b7 <;> cases bc <;> (
   go_wp2_with fail
   go_meet
   case rel=>exact⟨rfl,rfl⟩)
 case rest=>
 obtain⟨rfl,hw⟩:=hcut
 subst hw
 go_wp2_with fail
 go_ret
 refine⟨⟨_,rfl,?_⟩,H1.out.b⟩
 rw[HX.out,← G3.out]
 have g:=G1.out
 have g':=G2.out
 clear HX H1 y0 y1 y8 e7 en ec n7 G1 G2 G3 c3
 cases bt <;> cases br <;> cases b7 <;> cases b2 <;> cases bq <;> cases bm <;> simp_all
set_option maxHeartbeats 8000000 in
set_option maxRecDepth 20000 in
theorem sends_any (W:World) (M:Nat) (p1 tx:Bool) (p:Int) (e1:(p == 1)=p1) (y3:W.cell? ⟨M,3,none⟩=some (.int .i64 p)) (y9:W.cell? ⟨M,9,none⟩=some (.bool tx)) :
  Calls Tryz.prog 59 #[.pointer (some ⟨M,0,none⟩)] W fun o w'=>o = .returned (.bool (p1 && tx))∧w'=W:=by
 cases p1
 ·go_enter Tryz.func59,Tryz.ntmps59
  go_wp2_with fail
  go_ret
  exact⟨rfl,rfl⟩
 ·go_enter Tryz.func59,Tryz.ntmps59
  go_wp2_with fail
  go_ret
  exact⟨rfl,rfl⟩
set_option maxHeartbeats 8000000 in
set_option maxRecDepth 20000 in
theorem rest_7 (W:World) (M:Nat) (y3:W.cell? ⟨M,3,none⟩=some (.int .i64 7)) :
  Calls Tryz.prog 202 #[.pointer (some ⟨M,0,none⟩)] W fun o w'=>o = .returned (.int .i64 1)∧w'=W:=by
 go_enter Tryz.func202,Tryz.ntmps202
 go_wp2_with fail
 go_ret
 exact⟨rfl,rfl⟩
set_option maxHeartbeats 8000000 in
set_option maxRecDepth 20000 in
theorem holds_out (W:World) (M R:Nat) (p:Int) (tx:Bool) (e1:(p == 1)=false) (y0:W.cell? ⟨R,0,none⟩=some (.pointer (some ⟨M,0,none⟩))) (y1:W.cell? ⟨R,1,none⟩=some (.string ⟨#[]⟩)) (y3:W.cell? ⟨M,3,none⟩=some (.int .i64 p)) (y9:W.cell? ⟨M,9,none⟩=some (.bool tx)) :
  Calls Tryz.prog 42 #[.pointer (some ⟨R,0,none⟩)] W fun o w'=>o = .returned (.bool true)∧w'=W:=by
 have HS:Hid (Calls Tryz.prog 59 #[.pointer (some ⟨M,0,none⟩)] W fun o w'=>o = .returned (.bool false)∧w'=W):=sends_any W M false tx p e1 y3 y9
 go_enter Tryz.func42,Tryz.ntmps42
 go_wp2_with fail
 refine HS.out.mono ?_
 rintro o w1 ⟨rfl,rfl⟩
 go_wp2_with fail
 go_ret
 exact⟨rfl,rfl⟩
set_option maxHeartbeats 8000000 in
set_option maxRecDepth 20000 in
theorem level_7 (W:World) (M R:Nat) (tx:Bool) (y0:W.cell? ⟨R,0,none⟩=some (.pointer (some ⟨M,0,none⟩))) (y3:W.cell? ⟨M,3,none⟩=some (.int .i64 7)) (y9:W.cell? ⟨M,9,none⟩=some (.bool tx)) :
  Calls Tryz.prog 200 #[.pointer (some ⟨R,0,none⟩)] W fun o w'=>o = .returned (.int .i64 1)∧w'=W:=by
 have HS:Hid (Calls Tryz.prog 59 #[.pointer (some ⟨M,0,none⟩)] W fun o w'=>o = .returned (.bool false)∧w'=W):=sends_any W M false tx 7 rfl y3 y9
 have HL:Hid (Calls Tryz.prog 202 #[.pointer (some ⟨M,0,none⟩)] W fun o w'=>o = .returned (.int .i64 1)∧w'=W):=rest_7 W M y3
 go_enter Tryz.func200,Tryz.ntmps200
 go_wp2_with fail
 refine HS.out.mono ?_
 rintro o w1 ⟨rfl,rfl⟩
 go_wp2_with fail
 refine HL.out.mono ?_
 rintro o w2 ⟨rfl,rfl⟩
 go_wp2_with fail
 go_ret
 exact⟨rfl,rfl⟩
end Go.Proofs.YtgkkcpgocbcbaaaGreat
