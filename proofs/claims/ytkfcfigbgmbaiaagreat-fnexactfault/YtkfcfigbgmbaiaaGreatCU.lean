import Derived.Test.YtkfcfigbgmbaiaaGreatCC
import Derived.Test.YtkfcfigbgmbaiaaGreatG11
import Derived.Test.YtkfcfigbgmbaiaaGreatG04
import Derived.Deep.RegionHeld3
import Derived.Deep.DeepCutAuto
namespace Go.Proofs.YtkfcfigbgmbaiaaGreat
open Go.RowKit
set_option linter.unusedVariables false
theorem sz121:(Tryz.prog.info? 121).map (·.size)=some 3:=by kernel_rfl
theorem idx_0 (w:World):(Instr.index 123 (.agg prL.toArray) (.int .i64 0)).run Tryz.prog w = .ok (.agg #[.int .i64 0,.int .i64 0,.func (.func 183) #[] #[]]) w:=by
 simp[Instr.index,asIntOf,run_underlying Tryz.underlying123,prL,part,Tryz.sizeOf121,Tryz.isAgg121]
theorem idx_1 (w:World):(Instr.index 123 (.agg prL.toArray) (.int .i64 1)).run Tryz.prog w = .ok (.agg #[.int .i64 0,.int .i64 0,.func (.func 184) #[] #[]]) w:=by
 simp[Instr.index,asIntOf,run_underlying Tryz.underlying123,prL,part,Tryz.sizeOf121,Tryz.isAgg121]
theorem idx_2 (w:World):(Instr.index 123 (.agg prL.toArray) (.int .i64 2)).run Tryz.prog w = .ok (.agg #[.int .i64 0,.int .i64 5,.func (.func 185) #[] #[]]) w:=by
 simp[Instr.index,asIntOf,run_underlying Tryz.underlying123,prL,part,Tryz.sizeOf121,Tryz.isAgg121]
theorem idx_3 (w:World):(Instr.index 123 (.agg prL.toArray) (.int .i64 3)).run Tryz.prog w = .ok (.agg #[.int .i64 0,.int .i64 15,.func (.func 186) #[] #[]]) w:=by
 simp[Instr.index,asIntOf,run_underlying Tryz.underlying123,prL,part,Tryz.sizeOf121,Tryz.isAgg121]
theorem idx_4 (w:World):(Instr.index 123 (.agg prL.toArray) (.int .i64 4)).run Tryz.prog w = .ok (.agg #[.int .i64 1,.int .i64 7,.func (.func 187) #[] #[]]) w:=by
 simp[Instr.index,asIntOf,run_underlying Tryz.underlying123,prL,part,Tryz.sizeOf121,Tryz.isAgg121]
theorem idx_5 (w:World):(Instr.index 123 (.agg prL.toArray) (.int .i64 5)).run Tryz.prog w = .ok (.agg #[.int .i64 0,.int .i64 2,.func (.func 188) #[] #[]]) w:=by
 simp[Instr.index,asIntOf,run_underlying Tryz.underlying123,prL,part,Tryz.sizeOf121,Tryz.isAgg121]
theorem idx_6 (w:World):(Instr.index 123 (.agg prL.toArray) (.int .i64 6)).run Tryz.prog w = .ok (.agg #[.int .i64 0,.int .i64 7,.func (.func 189) #[] #[]]) w:=by
 simp[Instr.index,asIntOf,run_underlying Tryz.underlying123,prL,part,Tryz.sizeOf121,Tryz.isAgg121]
theorem idx_7 (w:World):(Instr.index 123 (.agg prL.toArray) (.int .i64 7)).run Tryz.prog w = .ok (.agg #[.int .i64 0,.int .i64 10,.func (.func 190) #[] #[]]) w:=by
 simp[Instr.index,asIntOf,run_underlying Tryz.underlying123,prL,part,Tryz.sizeOf121,Tryz.isAgg121]
set_option maxHeartbeats 16000000 in
set_option maxRecDepth 20000 in
theorem vcG (w:World) (C:Co) (s:Sl) (lo hi:Int) (n:Nat) (hix:∀ W,(Instr.index 123 (.agg prL.toArray) (.int .i64 C.p)).run Tryz.prog W = .ok (.agg #[.int .i64 lo,.int .i64 hi,.func (.func n) #[] #[]]) W) :
  Calls Tryz.prog 141 #[.agg (coL C s).toArray] w fun o w'=>retB o ((0≤C.te∧C.te≤256)∧(0≤C.re∧C.re≤255)∧(C.p=7↔C.te=256)∧(lo≤C.ct∧C.ct≤hi)∧(0≤C.rn∧C.rn≤127)∧((C.p=7∧C.ak=true)∨(C.rn=0∧(¬ C.p=7∨C.ct=0))))∧Below w.heap.size w w':=by
 obtain⟨X,HX⟩ : ∃ X:Prop,Hid (X↔((0≤C.te∧C.te≤256)∧(0≤C.re∧C.re≤255)∧(C.p=7↔C.te=256)∧(lo≤C.ct∧C.ct≤hi)∧(0≤C.rn∧C.rn≤127)∧((C.p=7∧C.ak=true)∨(C.rn=0∧(¬ C.p=7∨C.ct=0))))):=⟨_,Iff.rfl⟩
 rw[← HX.out]
 have H0:Hid (ctS w w.heap.size C s (w.alloc (.cells (coL C s).toArray 41))):=ctS.new w _ s
 have HPR:Hid (∀ W,Calls Tryz.prog 144 #[] W fun o w'=>o = .returned (.agg prL.toArray)∧Below W.heap.size W w'):=phaseRows_any
 have HIR:Hid (∀ W v l m,Calls Tryz.prog 43 #[.int .i64 v,.int .i64 l,.int .i64 m] W fun o w'=>o = .returned (.bool (decide (l≤v∧v≤m)))∧W=w'):=inRange_any
 have HIX:Hid (∀ W,(Instr.index 123 (.agg prL.toArray) (.int .i64 C.p)).run Tryz.prog W = .ok (.agg #[.int .i64 lo,.int .i64 hi,.func (.func n) #[] #[]]) W):=hix
 clear hix;go_enter Tryz.func141,Tryz.ntmps141
 go_upto_region 1 with fail
 go_cut [3] (fun s3 wx=>∃ b,s3 = .pointer (some ⟨b,0,none⟩)∧Hid (blk wx b [.int .i64 lo,.int .i64 hi,.func (.func n) #[] #[]] 121)∧Hid (ctS w w.heap.size C s wx))
 case first=>
  refine wp_region_held (S:=fun X=>ctS w w.heap.size C s X) (by kernel_rfl) ?_
  have hS:ctS w w.heap.size C s (World.drew (w.alloc (.cells (coL C s).toArray 41))):=H0.out.below (Below.refl _ _).drew
  clear H0;change wpAnyH Tryz.prog _ _ _ _ _ _ _ (World.drew (w.alloc (.cells (coL C s).toArray 41)))
  generalize World.drew (w.alloc (.cells (coL C s).toArray 41))=v0 at *;refine wT (i:=1) (v:=.pointer (some ⟨w.heap.size,0,none⟩)) rfl (by kernel_rfl) (by kernel_rfl) (by kernel_rfl) (fun _ _ _ h=>h) (Or.inl ⟨by rfl,?_⟩) hS ?_
  ·intro W hSw;clear hS;go_simp
  simp only[Act.put,aA,aB,aC,aD,aE,aF];refine wT (i:=2) (v:=.int .i64 C.p) rfl (by kernel_rfl) (by kernel_rfl) (by kernel_rfl) (fun _ _ _ h=>h) (Or.inl ⟨by rfl,?_⟩) hS ?_
  ·intro W hSw;clear hS;have y:=hSw.p.cell 0 (.int .i64 C.p) rfl
   go_simp
  simp only[Act.put,aA,aB,aC,aD,aE,aF];refine wpAnyH_all (rs:=[0,4]) (by kernel_rfl) (by simp) ?_
  refine AllReadyH.cons rfl (fun K2 hK2=>?_) (AllReadyH.cons rfl (fun K2 hK2=>?_) AllReadyH.nil)
  ·go_simp;refine (HPR.out _).mono ?_
   rintro o v1 ⟨rfl,hb⟩;have hS1:=hS.below hb
   clear hb;go_wp2_with fail;refine hK2.out _ _ hS1 (fun hS2=>?_)
   clear hK2 K2 hS1 hS;have hS:=hS2
   clear hS2;refine wT (i:=3) (v:=.agg #[.int .i64 lo,.int .i64 hi,.func (.func n) #[] #[]]) rfl (by kernel_rfl) (by kernel_rfl) (by kernel_rfl) (fun _ _ _ h=>h) (Or.inl ⟨by rfl,?_⟩) hS ?_
   ·intro W hSw;clear hS;go_simp;simp only[HIX.out,Result.andThen_ok]
   simp only[Act.put,aA,aB,aC,aD,aE,aF];refine wpAnyH_all (rs:=[4]) (by kernel_rfl) (by simp) ?_
   refine AllReadyH.cons rfl (fun K2 hK2=>?_) AllReadyH.nil
   go_simp;have hS1:ctS w w.heap.size C s (v1.alloc (.cells #[.int .i64 0,.int .i64 0,.nilFunc] 121)):=hS.below ((Below.refl _ _).alloc (Nat.le_refl _) _)
   have HRZ:Hid (blk (v1.alloc (.cells #[.int .i64 0,.int .i64 0,.nilFunc] 121)) v1.heap.size [.int .i64 0,.int .i64 0,.nilFunc] 121):=blk.new v1 _ 121
   have HBL:Hid (w.heap.size<v1.heap.size):=hS.p.lt
   refine hK2.out _ _ hS1 (fun hS2=>?_)
   clear hK2 K2 hS1 hS;have hS:=hS2
   clear hS2;refine wpAnyH_all (rs:=[5]) (by kernel_rfl) (by simp) ?_
   refine AllReadyH.cons rfl (fun K2 hK2=>?_) AllReadyH.nil
   rw[if_pos (by rfl)]
   refine wp_store_mid 121 (.tmp 3) (.tmp 8) rfl v1.heap.size 0 #[.int .i64 lo,.int .i64 hi,.func (.func n) #[] #[]] rfl rfl (HRZ.out.there 0 _ (by simp)) sz121 (all_oneCell_toArray (by simp[Value.oneCell'])) ?_
   generalize hW8:World.setCells (v1.alloc (.cells #[.int .i64 0,.int .i64 0,.nilFunc] 121)) v1.heap.size 0 _=w8
   have HR:Hid (blk w8 v1.heap.size [.int .i64 lo,.int .i64 hi,.func (.func n) #[] #[]] 121):=by
    have:=blk.put [] [.int .i64 0,.int .i64 0,.nilFunc] [] [.int .i64 lo,.int .i64 hi,.func (.func n) #[] #[]] (w:=(v1.alloc (.cells #[.int .i64 0,.int .i64 0,.nilFunc] 121))) (b:=v1.heap.size) (T:=121) (by simpa using HRZ.out) rfl
    show blk _ _ _ _
    rw[← hW8]
    simpa using this
   have hS8:ctS w w.heap.size C s w8:=by
    rw[← hW8]
    exact⟨hS.p.kept (setCells_other _ _ (Nat.ne_of_lt HBL.out) _ _ _),setCells_below (Nat.le_of_lt HBL.out) 0 _ hS.b⟩
   have H1:Hid (ctS w w.heap.size C s w8):=hS8
   clear hW8;refine hK2.out _ _ hS8 (fun hS3=>?_)
   refine wpAnyH_done (by kernel_rfl) ?_ _
   clear hS hK2 K2 hS8 hS3;go_wp2_with fail;go_meet
   case rel=>exact⟨_,rfl,HR,H1⟩
  ·go_simp;have hS1:ctS w w.heap.size C s (v0.alloc (.cells #[.int .i64 0,.int .i64 0,.nilFunc] 121)):=hS.below ((Below.refl _ _).alloc (Nat.le_refl _) _)
   have HRY:Hid (blk (v0.alloc (.cells #[.int .i64 0,.int .i64 0,.nilFunc] 121)) v0.heap.size [.int .i64 0,.int .i64 0,.nilFunc] 121):=blk.new v0 _ 121
   have HBL:Hid (w.heap.size<v0.heap.size):=hS.p.lt
   refine hK2.out _ _ hS1 (fun hS2=>?_)
   clear hK2 K2 hS1 hS;have hS:=hS2
   clear hS2;refine wpAnyH_all (rs:=[0]) (by kernel_rfl) (by simp) ?_
   refine AllReadyH.cons rfl (fun K2 hK2=>?_) AllReadyH.nil
   go_simp;refine (HPR.out _).mono ?_
   rintro o v1 ⟨rfl,hb⟩;have hS1:=hS.below hb
   have HRZ:Hid (blk v1 v0.heap.size [.int .i64 0,.int .i64 0,.nilFunc] 121):=HRY.out.below hb
   clear hb HRY;go_wp2_with fail;refine hK2.out _ _ hS1 (fun hS2=>?_)
   clear hK2 K2 hS1 hS;have hS:=hS2
   clear hS2;refine wT (i:=3) (v:=.agg #[.int .i64 lo,.int .i64 hi,.func (.func n) #[] #[]]) rfl (by kernel_rfl) (by kernel_rfl) (by kernel_rfl) (fun _ _ _ h=>h) (Or.inl ⟨by rfl,?_⟩) hS ?_
   ·intro W hSw;clear hS;go_simp;simp only[HIX.out,Result.andThen_ok]
   simp only[Act.put,aA,aB,aC,aD,aE,aF];refine wpAnyH_all (rs:=[5]) (by kernel_rfl) (by simp) ?_
   refine AllReadyH.cons rfl (fun K2 hK2=>?_) AllReadyH.nil
   rw[if_pos (by rfl)]
   refine wp_store_mid 121 (.tmp 3) (.tmp 8) rfl v0.heap.size 0 #[.int .i64 lo,.int .i64 hi,.func (.func n) #[] #[]] rfl rfl (HRZ.out.there 0 _ (by simp)) sz121 (all_oneCell_toArray (by simp[Value.oneCell'])) ?_
   generalize hW8:World.setCells v1 v0.heap.size 0 _=w8
   have HR:Hid (blk w8 v0.heap.size [.int .i64 lo,.int .i64 hi,.func (.func n) #[] #[]] 121):=by
    have:=blk.put [] [.int .i64 0,.int .i64 0,.nilFunc] [] [.int .i64 lo,.int .i64 hi,.func (.func n) #[] #[]] (w:=v1) (b:=v0.heap.size) (T:=121) (by simpa using HRZ.out) rfl
    show blk _ _ _ _
    rw[← hW8]
    simpa using this
   have hS8:ctS w w.heap.size C s w8:=by
    rw[← hW8]
    exact⟨hS.p.kept (setCells_other _ _ (Nat.ne_of_lt HBL.out) _ _ _),setCells_below (Nat.le_of_lt HBL.out) 0 _ hS.b⟩
   have H1:Hid (ctS w w.heap.size C s w8):=hS8
   clear hW8;refine hK2.out _ _ hS8 (fun hS3=>?_)
   refine wpAnyH_done (by kernel_rfl) ?_ _
   clear hS hK2 K2 hS8 hS3;go_wp2_with fail;go_meet
   case rel=>exact⟨_,rfl,HR,H1⟩
 case rest=>
 obtain⟨b,rfl,HR,H1⟩:=hcut
 have y0:=H1.out.p.cell 0 (.int .i64 C.p) rfl
 have y1:=H1.out.p.cell 1 (.int .i64 C.ct) rfl
 have y7:=H1.out.p.cell 7 (.bool C.ak) rfl
 have y8:=H1.out.p.cell 8 (.int .i64 C.rn) rfl
 have y9:=H1.out.p.cell 9 (.int .i64 C.te) rfl
 have y10:=H1.out.p.cell 10 (.int .i64 C.re) rfl
 have z0:=HR.out.cell 0 (.int .i64 lo) rfl
 have z1:=HR.out.cell 1 (.int .i64 hi) rfl
 have bb:∀ (x y:Int),∃ b:Bool,(x == y)=b∧Hid (b=true↔x=y):=fun x y=>⟨_,rfl,by show _↔_;simp⟩
 have bd:∀ (l x m:Int),∃ b:Bool,decide (l≤x∧x≤m)=b∧Hid (b=true↔l≤x∧x≤m):=fun l x m=>⟨_,rfl,by show _↔_;simp⟩
 obtain⟨b7,e7,f7⟩:=bb C.p 7
 obtain⟨b2,e2,f2⟩:=bb C.te 256
 obtain⟨bn,en,fn⟩:=bb C.rn 0
 obtain⟨bc,ec,fc⟩:=bb C.ct 0
 obtain⟨bt,et,ft⟩:=bd 0 C.te 256
 obtain⟨br,er,fr⟩:=bd 0 C.re 255
 obtain⟨bq,eq,fq⟩:=bd lo C.ct hi
 obtain⟨bm,em,fm⟩:=bd 0 C.rn 127
 obtain⟨ak,ea⟩ : ∃ b,C.ak=b:=⟨_,rfl⟩
 rw[ea] at y7 HX
 have n7:(C.p != 7) = !b7:=by rw[← e7];rfl
 rw[← ft.out,← fr.out,← f7.out,← f2.out,← fq.out,← fm.out,← fn.out,← fc.out] at HX
 clear bb bd HIX HPR H0 ft fr f7 f2 fq fm fn fc ea;go_upto_region 2 with fail
 go_cut [27] (fun s27 wx=>s27 = .bool (!bt || !br || (b7 != b2))∧wx=wc)
 case first=>
  clear HX;cases bt <;> cases br <;> cases b7 <;> cases b2 <;> (
   go_wp2_with (first
    | (go_at_call 43;refine (HIR.out _ _ _ _).mono ?_;rintro o w2 ⟨rfl,rfl⟩;first | rw[et] | rw[er]))
   go_meet
   case rel=>exact⟨rfl,rfl⟩)
 case rest=>
 obtain⟨rfl,hw⟩:=hcut
 subst hw;obtain⟨c1,g1⟩ : ∃ b,(!bt || !br || (b7 != b2))=b:=⟨_,rfl⟩
 rw[g1]
 have G1:Hid ((!bt || !br || (b7 != b2))=c1):=g1
 clear g1 et er e2 y9 y10;cases c1
 case true=>
  go_wp2_with fail;go_ret;refine⟨⟨_,rfl,?_⟩,H1.out.b⟩
  rw[HX.out]
  have g:=G1.out
  clear HX HIR H1 HR y0 y1 y7 y8 z0 z1 e7 en ec eq em n7 G1;cases bt <;> cases br <;> cases b7 <;> cases b2 <;> simp_all
 case false=>
 go_upto_region 4 with fail
 go_cut [41] (fun s41 wx=>s41 = .bool (!bq || !bm)∧wx=wc)
 case first=>
  clear HX G1;cases bq <;> cases bm <;> (
   go_wp2_with (first
    | (go_at_call 43;refine (HIR.out _ _ _ _).mono ?_;rintro o w2 ⟨rfl,rfl⟩;first | rw[eq] | rw[em]))
   go_meet
   case rel=>exact⟨rfl,rfl⟩)
 case rest=>
 obtain⟨rfl,hw⟩:=hcut
 subst hw;obtain⟨c2,g2⟩ : ∃ b,(!bq || !bm)=b:=⟨_,rfl⟩
 rw[g2]
 have G2:Hid ((!bq || !bm)=c2):=g2
 clear g2 eq em z0 z1 HR HIR;cases c2
 case true=>
  go_wp2_with fail;go_ret;refine⟨⟨_,rfl,?_⟩,H1.out.b⟩
  rw[HX.out]
  have g:=G2.out
  clear HX H1 y0 y1 y7 y8 e7 en ec n7 G1 G2;cases bq <;> cases bm <;> simp_all
 case false=>
 go_upto_region 6 with fail
 go_cut [4] (fun s4 wx=>s4 = .bool (b7 && ak)∧wx=wc)
 case first=>
  clear HX G1 G2;cases b7 <;> cases ak <;> (
   go_wp2_with fail;go_meet
   case rel=>exact⟨rfl,rfl⟩)
 case rest=>
 obtain⟨rfl,hw⟩:=hcut
 subst hw;obtain⟨c3,g3⟩ : ∃ b,(b7 && ak)=b:=⟨_,rfl⟩
 rw[g3]
 have G3:Hid ((b7 && ak)=c3):=g3
 clear g3 y7;go_upto_region 7 with fail
 go_cut [2] (fun s2 wx=>s2 = .bool (c3 || (bn && (!b7 || bc)))∧wx=wc)
 case first=>
  clear HX G1 G2 G3;cases c3 <;> cases bn <;> cases b7 <;> cases bc <;> (
   go_wp2_with fail;go_meet
   case rel=>exact⟨rfl,rfl⟩)
 case rest=>
 obtain⟨rfl,hw⟩:=hcut
 subst hw;go_wp2_with fail;go_ret;refine⟨⟨_,rfl,?_⟩,H1.out.b⟩
 rw[HX.out,← G3.out]
 have g:=G1.out
 have g':=G2.out
 clear HX H1 y0 y1 y8 e7 en ec n7 G1 G2 G3 c3;cases bt <;> cases br <;> cases b7 <;> cases b2 <;> cases bq <;> cases bm <;> simp_all
end Go.Proofs.YtkfcfigbgmbaiaaGreat
