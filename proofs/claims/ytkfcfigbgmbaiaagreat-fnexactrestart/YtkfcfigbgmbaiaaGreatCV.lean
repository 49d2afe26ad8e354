import Derived.Test.YtkfcfigbgmbaiaaGreatCC
import Derived.Test.YtkfcfigbgmbaiaaGreatG11
import Derived.Test.YtkfcfigbgmbaiaaGreatG04
import Derived.Deep.RegionHeld3
namespace Go.Proofs.YtkfcfigbgmbaiaaGreat
open Go.RowKit
set_option linter.unusedVariables false
theorem sz121:(Tryz.prog.info? 121).map (·.size)=some 3:=by kernel_rfl
theorem idx_0 (w:World):(Instr.index 123 (.agg prL.toArray) (.int .i64 0)).run Tryz.prog w = .ok (.agg #[.int .i64 0,.int .i64 0,.func (.func 183) #[] #[]]) w:=by
 simp[Instr.index,asIntOf,run_underlying Tryz.underlying123,prL,part,Tryz.sizeOf121,Tryz.isAgg121]
set_option maxHeartbeats 16000000 in
set_option maxRecDepth 20000 in
theorem vc_0 (w:World) (ct lv kw ko kq kt ka rn te re:Int) (H:Ho) (s:Sl) :
  Calls Tryz.prog 141 #[.agg (coL (coI 0 ct lv kw ko kq kt ka rn te re H) s).toArray] w fun o w'=>retB o ((0≤te∧te≤256)∧(0≤re∧re≤255)∧(¬ te=256)∧(0≤ct∧ct≤0)∧(0≤rn∧rn≤127)∧(rn=0))∧Below w.heap.size w w':=by
 obtain⟨X,HX⟩ : ∃ X:Prop,Hid (X↔((0≤te∧te≤256)∧(0≤re∧re≤255)∧(¬ te=256)∧(0≤ct∧ct≤0)∧(0≤rn∧rn≤127)∧(rn=0))):=⟨_,Iff.rfl⟩
 rw[← HX.out]
 have H0:Hid (ctS w w.heap.size (coI 0 ct lv kw ko kq kt ka rn te re H) s (w.alloc (.cells (coL (coI 0 ct lv kw ko kq kt ka rn te re H) s).toArray 41))):=ctS.new w _ s
 have HPR:Hid (∀ W,Calls Tryz.prog 144 #[] W fun o w'=>o = .returned (.agg prL.toArray)∧Below W.heap.size W w'):=phaseRows_any
 have HIR:Hid (∀ W v l m,Calls Tryz.prog 43 #[.int .i64 v,.int .i64 l,.int .i64 m] W fun o w'=>o = .returned (.bool (decide (l≤v∧v≤m)))∧W=w'):=inRange_any
 go_enter Tryz.func141,Tryz.ntmps141
 go_wp2_with fail
 refine wp_region_held (S:=fun X=>ctS w w.heap.size (coI 0 ct lv kw ko kq kt ka rn te re H) s X) (by kernel_rfl) ?_
 have hS:ctS w w.heap.size (coI 0 ct lv kw ko kq kt ka rn te re H) s (World.drew (w.alloc (.cells (coL (coI 0 ct lv kw ko kq kt ka rn te re H) s).toArray 41))):=H0.out.below (Below.refl _ _).drew
 clear H0
 change wpAnyH Tryz.prog _ _ _ _ _ _ _ (World.drew (w.alloc (.cells (coL (coI 0 ct lv kw ko kq kt ka rn te re H) s).toArray 41)))
 generalize World.drew (w.alloc (.cells (coL (coI 0 ct lv kw ko kq kt ka rn te re H) s).toArray 41))=v0 at *
 refine wT (i:=1) (v:=.pointer (some ⟨w.heap.size,0,none⟩)) rfl (by kernel_rfl) (by kernel_rfl) (by kernel_rfl) (fun _ _ _ h=>h) (Or.inl ⟨by rfl,?_⟩) hS ?_
 ·intro W hSw
  clear hS
  go_simp
 simp only[Act.put,aA,aB,aC,aD,aE,aF]
 refine wT (i:=2) (v:=.int .i64 0) rfl (by kernel_rfl) (by kernel_rfl) (by kernel_rfl) (fun _ _ _ h=>h) (Or.inl ⟨by rfl,?_⟩) hS ?_
 ·intro W hSw
  clear hS
  have y:=hSw.p.cell 0 (.int .i64 0) rfl
  go_simp
 simp only[Act.put,aA,aB,aC,aD,aE,aF]
 refine wpAnyH_all (rs:=[0,4]) (by kernel_rfl) (by simp) ?_
 refine AllReadyH.cons rfl (fun K2 hK2=>?_) (AllReadyH.cons rfl (fun K2 hK2=>?_) AllReadyH.nil)
 ·go_simp
  refine (HPR.out _).mono ?_
  rintro o v1 ⟨rfl,hb⟩
  have hS1:=hS.below hb
  clear hb
  go_wp2_with fail
  refine hK2.out _ _ hS1 (fun hS2=>?_)
  clear hK2 K2 hS1 hS
  have hS:=hS2
  clear hS2
  refine wT (i:=3) (v:=.agg #[.int .i64 0,.int .i64 0,.func (.func 183) #[] #[]]) rfl (by kernel_rfl) (by kernel_rfl) (by kernel_rfl) (fun _ _ _ h=>h) (Or.inl ⟨by rfl,?_⟩) hS ?_
  ·intro W hSw
   clear hS
   go_simp
   simp only[idx_0,Result.andThen_ok]
  simp only[Act.put,aA,aB,aC,aD,aE,aF]
  refine wpAnyH_all (rs:=[4]) (by kernel_rfl) (by simp) ?_
  refine AllReadyH.cons rfl (fun K2 hK2=>?_) AllReadyH.nil
  go_simp
  have hS1:ctS w w.heap.size (coI 0 ct lv kw ko kq kt ka rn te re H) s (v1.alloc (.cells #[.int .i64 0,.int .i64 0,.nilFunc] 121)):=hS.below ((Below.refl _ _).alloc (Nat.le_refl _) _)
  have HRZ:Hid (blk (v1.alloc (.cells #[.int .i64 0,.int .i64 0,.nilFunc] 121)) v1.heap.size [.int .i64 0,.int .i64 0,.nilFunc] 121):=blk.new v1 _ 121
  have HBL:Hid (w.heap.size<v1.heap.size):=hS.p.lt
  refine hK2.out _ _ hS1 (fun hS2=>?_)
  clear hK2 K2 hS1 hS
  have hS:=hS2
  clear hS2
  refine wpAnyH_all (rs:=[5]) (by kernel_rfl) (by simp) ?_
  refine AllReadyH.cons rfl (fun K2 hK2=>?_) AllReadyH.nil
  rw[if_pos (by rfl)]
  refine wp_store_mid 121 (.tmp 3) (.tmp 8) rfl v1.heap.size 0 #[.int .i64 0,.int .i64 0,.func (.func 183) #[] #[]] rfl rfl (HRZ.out.there 0 _ (by decide)) sz121 (all_oneCell_toArray (by simp[Value.oneCell'])) ?_
  generalize hW8:World.setCells (v1.alloc (.cells #[.int .i64 0,.int .i64 0,.nilFunc] 121)) v1.heap.size 0 _=w8
  have hr8:blk w8 v1.heap.size [.int .i64 0,.int .i64 0,.func (.func 183) #[] #[]] 121:=by
   rw[← hW8]
   have:=blk.put [] [.int .i64 0,.int .i64 0,.nilFunc] [] [.int .i64 0,.int .i64 0,.func (.func 183) #[] #[]] (w:=(v1.alloc (.cells #[.int .i64 0,.int .i64 0,.nilFunc] 121))) (b:=v1.heap.size) (T:=121) (by simpa using HRZ.out) rfl
   simpa using this
  have hS8:ctS w w.heap.size (coI 0 ct lv kw ko kq kt ka rn te re H) s w8:=by
   rw[← hW8]
   exact⟨hS.p.kept (setCells_other _ _ (Nat.ne_of_lt HBL.out) _ _ _),setCells_below (Nat.le_of_lt HBL.out) 0 _ hS.b⟩
  have HR:Hid (blk w8 v1.heap.size [.int .i64 0,.int .i64 0,.func (.func 183) #[] #[]] 121):=hr8
  have H1:Hid (ctS w w.heap.size (coI 0 ct lv kw ko kq kt ka rn te re H) s w8):=hS8
  clear hr8 hW8
  refine hK2.out _ _ hS8 (fun hS3=>?_)
  clear hK2 K2 hS8 hS HRZ
  have hS:=hS3
  clear hS3
  refine wpAnyH_done (by kernel_rfl) ?_ _
  clear hS
  have y0:=H1.out.p.cell 0 (.int .i64 0) rfl
  have y1:=H1.out.p.cell 1 (.int .i64 ct) rfl
  have y2:=H1.out.p.cell 2 (.int .i64 lv) rfl
  have y3:=H1.out.p.cell 3 (.bool (decide (kw=1))) rfl
  have y4:=H1.out.p.cell 4 (.bool (decide (ko=1))) rfl
  have y5:=H1.out.p.cell 5 (.bool (decide (kq=1))) rfl
  have y6:=H1.out.p.cell 6 (.bool (decide (kt=1))) rfl
  have y7:=H1.out.p.cell 7 (.bool (decide (ka=1))) rfl
  have y8:=H1.out.p.cell 8 (.int .i64 rn) rfl
  have y9:=H1.out.p.cell 9 (.int .i64 te) rfl
  have y10:=H1.out.p.cell 10 (.int .i64 re) rfl
  have z0:=HR.out.cell 0 (.int .i64 0) rfl
  have z1:=HR.out.cell 1 (.int .i64 0) rfl
  by_cases h256:te=256
  ·have dh256:(te == 256)=true:=by simpa using h256
   by_cases hrn:0≤rn∧rn≤127
   ·have dhrn:decide (0≤rn∧rn≤127)=true:=by simpa using hrn
    go_wp2_with (first
     | (go_at_call 43;refine (HIR.out _ _ _ _).mono ?_;rintro o w2 ⟨rfl,rfl⟩))
    all_goals first
     | (go_ret;refine⟨⟨_,rfl,?_⟩,H1.out.b⟩;clear y0 y1 y2 y3 y4 y5 y6 y7 y8 y9 y10 z0 z1;first | (simp only[Bool.false_eq_true,false_iff];intro hx;have hm:=HX.out.1 hx;omega) | (refine⟨fun _=>HX.out.2 (by omega),fun _=>rfl⟩) | (refine⟨fun h=>HX.out.2 (by simp at h <;> omega),fun hx=>?_⟩;have hm:=HX.out.1 hx;simp;omega))
   ·have dhrn:decide (0≤rn∧rn≤127)=false:=by simpa using hrn
    go_wp2_with (first
     | (go_at_call 43;refine (HIR.out _ _ _ _).mono ?_;rintro o w2 ⟨rfl,rfl⟩))
    all_goals first
     | (go_ret;refine⟨⟨_,rfl,?_⟩,H1.out.b⟩;clear y0 y1 y2 y3 y4 y5 y6 y7 y8 y9 y10 z0 z1;first | (simp only[Bool.false_eq_true,false_iff];intro hx;have hm:=HX.out.1 hx;omega) | (refine⟨fun _=>HX.out.2 (by omega),fun _=>rfl⟩) | (refine⟨fun h=>HX.out.2 (by simp at h <;> omega),fun hx=>?_⟩;have hm:=HX.out.1 hx;simp;omega))
  ·have dh256:(te == 256)=false:=by simpa using h256
   by_cases hrn:0≤rn∧rn≤127
   ·have dhrn:decide (0≤rn∧rn≤127)=true:=by simpa using hrn
    go_wp2_with (first
     | (go_at_call 43;refine (HIR.out _ _ _ _).mono ?_;rintro o w2 ⟨rfl,rfl⟩))
    all_goals first
     | (go_ret;refine⟨⟨_,rfl,?_⟩,H1.out.b⟩;clear y0 y1 y2 y3 y4 y5 y6 y7 y8 y9 y10 z0 z1;first | (simp only[Bool.false_eq_true,false_iff];intro hx;have hm:=HX.out.1 hx;omega) | (refine⟨fun _=>HX.out.2 (by omega),fun _=>rfl⟩) | (refine⟨fun h=>HX.out.2 (by simp at h <;> omega),fun hx=>?_⟩;have hm:=HX.out.1 hx;simp;omega))
   ·have dhrn:decide (0≤rn∧rn≤127)=false:=by simpa using hrn
    go_wp2_with (first
     | (go_at_call 43;refine (HIR.out _ _ _ _).mono ?_;rintro o w2 ⟨rfl,rfl⟩))
    all_goals first
     | (go_ret;refine⟨⟨_,rfl,?_⟩,H1.out.b⟩;clear y0 y1 y2 y3 y4 y5 y6 y7 y8 y9 y10 z0 z1;first | (simp only[Bool.false_eq_true,false_iff];intro hx;have hm:=HX.out.1 hx;omega) | (refine⟨fun _=>HX.out.2 (by omega),fun _=>rfl⟩) | (refine⟨fun h=>HX.out.2 (by simp at h <;> omega),fun hx=>?_⟩;have hm:=HX.out.1 hx;simp;omega))
 ·go_simp
  have hS1:ctS w w.heap.size (coI 0 ct lv kw ko kq kt ka rn te re H) s (v0.alloc (.cells #[.int .i64 0,.int .i64 0,.nilFunc] 121)):=hS.below ((Below.refl _ _).alloc (Nat.le_refl _) _)
  have HRY:Hid (blk (v0.alloc (.cells #[.int .i64 0,.int .i64 0,.nilFunc] 121)) v0.heap.size [.int .i64 0,.int .i64 0,.nilFunc] 121):=blk.new v0 _ 121
  have HBL:Hid (w.heap.size<v0.heap.size):=hS.p.lt
  refine hK2.out _ _ hS1 (fun hS2=>?_)
  clear hK2 K2 hS1 hS
  have hS:=hS2
  clear hS2
  refine wpAnyH_all (rs:=[0]) (by kernel_rfl) (by simp) ?_
  refine AllReadyH.cons rfl (fun K2 hK2=>?_) AllReadyH.nil
  go_simp
  refine (HPR.out _).mono ?_
  rintro o v1 ⟨rfl,hb⟩
  have hS1:=hS.below hb
  have HRZ:Hid (blk v1 v0.heap.size [.int .i64 0,.int .i64 0,.nilFunc] 121):=HRY.out.below hb
  clear hb HRY
  go_wp2_with fail
  refine hK2.out _ _ hS1 (fun hS2=>?_)
  clear hK2 K2 hS1 hS
  have hS:=hS2
  clear hS2
  refine wT (i:=3) (v:=.agg #[.int .i64 0,.int .i64 0,.func (.func 183) #[] #[]]) rfl (by kernel_rfl) (by kernel_rfl) (by kernel_rfl) (fun _ _ _ h=>h) (Or.inl ⟨by rfl,?_⟩) hS ?_
  ·intro W hSw
   clear hS
   go_simp
   simp only[idx_0,Result.andThen_ok]
  simp only[Act.put,aA,aB,aC,aD,aE,aF]
  refine wpAnyH_all (rs:=[5]) (by kernel_rfl) (by simp) ?_
  refine AllReadyH.cons rfl (fun K2 hK2=>?_) AllReadyH.nil
  rw[if_pos (by rfl)]
  refine wp_store_mid 121 (.tmp 3) (.tmp 8) rfl v0.heap.size 0 #[.int .i64 0,.int .i64 0,.func (.func 183) #[] #[]] rfl rfl (HRZ.out.there 0 _ (by decide)) sz121 (all_oneCell_toArray (by simp[Value.oneCell'])) ?_
  generalize hW8:World.setCells v1 v0.heap.size 0 _=w8
  have hr8:blk w8 v0.heap.size [.int .i64 0,.int .i64 0,.func (.func 183) #[] #[]] 121:=by
   rw[← hW8]
   have:=blk.put [] [.int .i64 0,.int .i64 0,.nilFunc] [] [.int .i64 0,.int .i64 0,.func (.func 183) #[] #[]] (w:=v1) (b:=v0.heap.size) (T:=121) (by simpa using HRZ.out) rfl
   simpa using this
  have hS8:ctS w w.heap.size (coI 0 ct lv kw ko kq kt ka rn te re H) s w8:=by
   rw[← hW8]
   exact⟨hS.p.kept (setCells_other _ _ (Nat.ne_of_lt HBL.out) _ _ _),setCells_below (Nat.le_of_lt HBL.out) 0 _ hS.b⟩
  have HR:Hid (blk w8 v0.heap.size [.int .i64 0,.int .i64 0,.func (.func 183) #[] #[]] 121):=hr8
  have H1:Hid (ctS w w.heap.size (coI 0 ct lv kw ko kq kt ka rn te re H) s w8):=hS8
  clear hr8 hW8
  refine hK2.out _ _ hS8 (fun hS3=>?_)
  clear hK2 K2 hS8 hS HRZ
  have hS:=hS3
  clear hS3
  refine wpAnyH_done (by kernel_rfl) ?_ _
  clear hS
  have y0:=H1.out.p.cell 0 (.int .i64 0) rfl
  have y1:=H1.out.p.cell 1 (.int .i64 ct) rfl
  have y2:=H1.out.p.cell 2 (.int .i64 lv) rfl
  have y3:=H1.out.p.cell 3 (.bool (decide (kw=1))) rfl
  have y4:=H1.out.p.cell 4 (.bool (decide (ko=1))) rfl
  have y5:=H1.out.p.cell 5 (.bool (decide (kq=1))) rfl
  have y6:=H1.out.p.cell 6 (.bool (decide (kt=1))) rfl
  have y7:=H1.out.p.cell 7 (.bool (decide (ka=1))) rfl
  have y8:=H1.out.p.cell 8 (.int .i64 rn) rfl
  have y9:=H1.out.p.cell 9 (.int .i64 te) rfl
  have y10:=H1.out.p.cell 10 (.int .i64 re) rfl
  have z0:=HR.out.cell 0 (.int .i64 0) rfl
  have z1:=HR.out.cell 1 (.int .i64 0) rfl
  by_cases h256:te=256
  ·have dh256:(te == 256)=true:=by simpa using h256
   by_cases hrn:0≤rn∧rn≤127
   ·have dhrn:decide (0≤rn∧rn≤127)=true:=by simpa using hrn
    go_wp2_with (first
     | (go_at_call 43;refine (HIR.out _ _ _ _).mono ?_;rintro o w2 ⟨rfl,rfl⟩))
    all_goals first
     | (go_ret;refine⟨⟨_,rfl,?_⟩,H1.out.b⟩;clear y0 y1 y2 y3 y4 y5 y6 y7 y8 y9 y10 z0 z1;first | (simp only[Bool.false_eq_true,false_iff];intro hx;have hm:=HX.out.1 hx;omega) | (refine⟨fun _=>HX.out.2 (by omega),fun _=>rfl⟩) | (refine⟨fun h=>HX.out.2 (by simp at h <;> omega),fun hx=>?_⟩;have hm:=HX.out.1 hx;simp;omega))
   ·have dhrn:decide (0≤rn∧rn≤127)=false:=by simpa using hrn
    go_wp2_with (first
     | (go_at_call 43;refine (HIR.out _ _ _ _).mono ?_;rintro o w2 ⟨rfl,rfl⟩))
    all_goals first
     | (go_ret;refine⟨⟨_,rfl,?_⟩,H1.out.b⟩;clear y0 y1 y2 y3 y4 y5 y6 y7 y8 y9 y10 z0 z1;first | (simp only[Bool.false_eq_true,false_iff];intro hx;have hm:=HX.out.1 hx;omega) | (refine⟨fun _=>HX.out.2 (by omega),fun _=>rfl⟩) | (refine⟨fun h=>HX.out.2 (by simp at h <;> omega),fun hx=>?_⟩;have hm:=HX.out.1 hx;simp;omega))
  ·have dh256:(te == 256)=false:=by simpa using h256
   by_cases hrn:0≤rn∧rn≤127
   ·have dhrn:decide (0≤rn∧rn≤127)=true:=by simpa using hrn
    go_wp2_with (first
     | (go_at_call 43;refine (HIR.out _ _ _ _).mono ?_;rintro o w2 ⟨rfl,rfl⟩))
    all_goals first
     | (go_ret;refine⟨⟨_,rfl,?_⟩,H1.out.b⟩;clear y0 y1 y2 y3 y4 y5 y6 y7 y8 y9 y10 z0 z1;first | (simp only[Bool.false_eq_true,false_iff];intro hx;have hm:=HX.out.1 hx;omega) | (refine⟨fun _=>HX.out.2 (by omega),fun _=>rfl⟩) | (refine⟨fun h=>HX.out.2 (by simp at h <;> omega),fun hx=>?_⟩;have hm:=HX.out.1 hx;simp;omega))
   ·have dhrn:decide (0≤rn∧rn≤127)=false:=by simpa using hrn
    go_wp2_with (first
     | (go_at_call 43;refine (HIR.out _ _ _ _).mono ?_;rintro o w2 ⟨rfl,rfl⟩))
    all_goals first
     | (go_ret;refine⟨⟨_,rfl,?_⟩,H1.out.b⟩;clear y0 y1 y2 y3 y4 y5 y6 y7 y8 y9 y10 z0 z1;first | (simp only[Bool.false_eq_true,false_iff];intro hx;have hm:=HX.out.1 hx;omega) | (refine⟨fun _=>HX.out.2 (by omega),fun _=>rfl⟩) | (refine⟨fun h=>HX.out.2 (by simp at h <;> omega),fun hx=>?_⟩;have hm:=HX.out.1 hx;simp;omega))
theorem idx_1 (w:World):(Instr.index 123 (.agg prL.toArray) (.int .i64 1)).run Tryz.prog w = .ok (.agg #[.int .i64 0,.int .i64 0,.func (.func 184) #[] #[]]) w:=by
 simp[Instr.index,asIntOf,run_underlying Tryz.underlying123,prL,part,Tryz.sizeOf121,Tryz.isAgg121]
set_option maxHeartbeats 16000000 in
set_option maxRecDepth 20000 in
theorem vc_1 (w:World) (ct lv kw ko kq kt ka rn te re:Int) (H:Ho) (s:Sl) :
  Calls Tryz.prog 141 #[.agg (coL (coI 1 ct lv kw ko kq kt ka rn te re H) s).toArray] w fun o w'=>retB o ((0≤te∧te≤256)∧(0≤re∧re≤255)∧(¬ te=256)∧(0≤ct∧ct≤0)∧(0≤rn∧rn≤127)∧(rn=0))∧Below w.heap.size w w':=by
 obtain⟨X,HX⟩ : ∃ X:Prop,Hid (X↔((0≤te∧te≤256)∧(0≤re∧re≤255)∧(¬ te=256)∧(0≤ct∧ct≤0)∧(0≤rn∧rn≤127)∧(rn=0))):=⟨_,Iff.rfl⟩
 rw[← HX.out]
 have H0:Hid (ctS w w.heap.size (coI 1 ct lv kw ko kq kt ka rn te re H) s (w.alloc (.cells (coL (coI 1 ct lv kw ko kq kt ka rn te re H) s).toArray 41))):=ctS.new w _ s
 have HPR:Hid (∀ W,Calls Tryz.prog 144 #[] W fun o w'=>o = .returned (.agg prL.toArray)∧Below W.heap.size W w'):=phaseRows_any
 have HIR:Hid (∀ W v l m,Calls Tryz.prog 43 #[.int .i64 v,.int .i64 l,.int .i64 m] W fun o w'=>o = .returned (.bool (decide (l≤v∧v≤m)))∧W=w'):=inRange_any
 go_enter Tryz.func141,Tryz.ntmps141
 go_wp2_with fail
 refine wp_region_held (S:=fun X=>ctS w w.heap.size (coI 1 ct lv kw ko kq kt ka rn te re H) s X) (by kernel_rfl) ?_
 have hS:ctS w w.heap.size (coI 1 ct lv kw ko kq kt ka rn te re H) s (World.drew (w.alloc (.cells (coL (coI 1 ct lv kw ko kq kt ka rn te re H) s).toArray 41))):=H0.out.below (Below.refl _ _).drew
 clear H0
 change wpAnyH Tryz.prog _ _ _ _ _ _ _ (World.drew (w.alloc (.cells (coL (coI 1 ct lv kw ko kq kt ka rn te re H) s).toArray 41)))
 generalize World.drew (w.alloc (.cells (coL (coI 1 ct lv kw ko kq kt ka rn te re H) s).toArray 41))=v0 at *
 refine wT (i:=1) (v:=.pointer (some ⟨w.heap.size,0,none⟩)) rfl (by kernel_rfl) (by kernel_rfl) (by kernel_rfl) (fun _ _ _ h=>h) (Or.inl ⟨by rfl,?_⟩) hS ?_
 ·intro W hSw
  clear hS
  go_simp
 simp only[Act.put,aA,aB,aC,aD,aE,aF]
 refine wT (i:=2) (v:=.int .i64 1) rfl (by kernel_rfl) (by kernel_rfl) (by kernel_rfl) (fun _ _ _ h=>h) (Or.inl ⟨by rfl,?_⟩) hS ?_
 ·intro W hSw
  clear hS
  have y:=hSw.p.cell 0 (.int .i64 1) rfl
  go_simp
 simp only[Act.put,aA,aB,aC,aD,aE,aF]
 refine wpAnyH_all (rs:=[0,4]) (by kernel_rfl) (by simp) ?_
 refine AllReadyH.cons rfl (fun K2 hK2=>?_) (AllReadyH.cons rfl (fun K2 hK2=>?_) AllReadyH.nil)
 ·go_simp
  refine (HPR.out _).mono ?_
  rintro o v1 ⟨rfl,hb⟩
  have hS1:=hS.below hb
  clear hb
  go_wp2_with fail
  refine hK2.out _ _ hS1 (fun hS2=>?_)
  clear hK2 K2 hS1 hS
  have hS:=hS2
  clear hS2
  refine wT (i:=3) (v:=.agg #[.int .i64 0,.int .i64 0,.func (.func 184) #[] #[]]) rfl (by kernel_rfl) (by kernel_rfl) (by kernel_rfl) (fun _ _ _ h=>h) (Or.inl ⟨by rfl,?_⟩) hS ?_
  ·intro W hSw
   clear hS
   go_simp
   simp only[idx_1,Result.andThen_ok]
  simp only[Act.put,aA,aB,aC,aD,aE,aF]
  refine wpAnyH_all (rs:=[4]) (by kernel_rfl) (by simp) ?_
  refine AllReadyH.cons rfl (fun K2 hK2=>?_) AllReadyH.nil
  go_simp
  have hS1:ctS w w.heap.size (coI 1 ct lv kw ko kq kt ka rn te re H) s (v1.alloc (.cells #[.int .i64 0,.int .i64 0,.nilFunc] 121)):=hS.below ((Below.refl _ _).alloc (Nat.le_refl _) _)
  have HRZ:Hid (blk (v1.alloc (.cells #[.int .i64 0,.int .i64 0,.nilFunc] 121)) v1.heap.size [.int .i64 0,.int .i64 0,.nilFunc] 121):=blk.new v1 _ 121
  have HBL:Hid (w.heap.size<v1.heap.size):=hS.p.lt
  refine hK2.out _ _ hS1 (fun hS2=>?_)
  clear hK2 K2 hS1 hS
  have hS:=hS2
  clear hS2
  refine wpAnyH_all (rs:=[5]) (by kernel_rfl) (by simp) ?_
  refine AllReadyH.cons rfl (fun K2 hK2=>?_) AllReadyH.nil
  rw[if_pos (by rfl)]
  refine wp_store_mid 121 (.tmp 3) (.tmp 8) rfl v1.heap.size 0 #[.int .i64 0,.int .i64 0,.func (.func 184) #[] #[]] rfl rfl (HRZ.out.there 0 _ (by decide)) sz121 (all_oneCell_toArray (by simp[Value.oneCell'])) ?_
  generalize hW8:World.setCells (v1.alloc (.cells #[.int .i64 0,.int .i64 0,.nilFunc] 121)) v1.heap.size 0 _=w8
  have hr8:blk w8 v1.heap.size [.int .i64 0,.int .i64 0,.func (.func 184) #[] #[]] 121:=by
   rw[← hW8]
   have:=blk.put [] [.int .i64 0,.int .i64 0,.nilFunc] [] [.int .i64 0,.int .i64 0,.func (.func 184) #[] #[]] (w:=(v1.alloc (.cells #[.int .i64 0,.int .i64 0,.nilFunc] 121))) (b:=v1.heap.size) (T:=121) (by simpa using HRZ.out) rfl
   simpa using this
  have hS8:ctS w w.heap.size (coI 1 ct lv kw ko kq kt ka rn te re H) s w8:=by
   rw[← hW8]
   exact⟨hS.p.kept (setCells_other _ _ (Nat.ne_of_lt HBL.out) _ _ _),setCells_below (Nat.le_of_lt HBL.out) 0 _ hS.b⟩
  have HR:Hid (blk w8 v1.heap.size [.int .i64 0,.int .i64 0,.func (.func 184) #[] #[]] 121):=hr8
  have H1:Hid (ctS w w.heap.size (coI 1 ct lv kw ko kq kt ka rn te re H) s w8):=hS8
  clear hr8 hW8
  refine hK2.out _ _ hS8 (fun hS3=>?_)
  clear hK2 K2 hS8 hS HRZ
  have hS:=hS3
  clear hS3
  refine wpAnyH_done (by kernel_rfl) ?_ _
  clear hS
  have y0:=H1.out.p.cell 0 (.int .i64 1) rfl
  have y1:=H1.out.p.cell 1 (.int .i64 ct) rfl
  have y2:=H1.out.p.cell 2 (.int .i64 lv) rfl
  have y3:=H1.out.p.cell 3 (.bool (decide (kw=1))) rfl
  have y4:=H1.out.p.cell 4 (.bool (decide (ko=1))) rfl
  have y5:=H1.out.p.cell 5 (.bool (decide (kq=1))) rfl
  have y6:=H1.out.p.cell 6 (.bool (decide (kt=1))) rfl
  have y7:=H1.out.p.cell 7 (.bool (decide (ka=1))) rfl
  have y8:=H1.out.p.cell 8 (.int .i64 rn) rfl
  have y9:=H1.out.p.cell 9 (.int .i64 te) rfl
  have y10:=H1.out.p.cell 10 (.int .i64 re) rfl
  have z0:=HR.out.cell 0 (.int .i64 0) rfl
  have z1:=HR.out.cell 1 (.int .i64 0) rfl
  by_cases h256:te=256
  ·have dh256:(te == 256)=true:=by simpa using h256
   by_cases hrn:0≤rn∧rn≤127
   ·have dhrn:decide (0≤rn∧rn≤127)=true:=by simpa using hrn
    go_wp2_with (first
     | (go_at_call 43;refine (HIR.out _ _ _ _).mono ?_;rintro o w2 ⟨rfl,rfl⟩))
    all_goals first
     | (go_ret;refine⟨⟨_,rfl,?_⟩,H1.out.b⟩;clear y0 y1 y2 y3 y4 y5 y6 y7 y8 y9 y10 z0 z1;first | (simp only[Bool.false_eq_true,false_iff];intro hx;have hm:=HX.out.1 hx;omega) | (refine⟨fun _=>HX.out.2 (by omega),fun _=>rfl⟩) | (refine⟨fun h=>HX.out.2 (by simp at h <;> omega),fun hx=>?_⟩;have hm:=HX.out.1 hx;simp;omega))
   ·have dhrn:decide (0≤rn∧rn≤127)=false:=by simpa using hrn
    go_wp2_with (first
     | (go_at_call 43;refine (HIR.out _ _ _ _).mono ?_;rintro o w2 ⟨rfl,rfl⟩))
    all_goals first
     | (go_ret;refine⟨⟨_,rfl,?_⟩,H1.out.b⟩;clear y0 y1 y2 y3 y4 y5 y6 y7 y8 y9 y10 z0 z1;first | (simp only[Bool.false_eq_true,false_iff];intro hx;have hm:=HX.out.1 hx;omega) | (refine⟨fun _=>HX.out.2 (by omega),fun _=>rfl⟩) | (refine⟨fun h=>HX.out.2 (by simp at h <;> omega),fun hx=>?_⟩;have hm:=HX.out.1 hx;simp;omega))
  ·have dh256:(te == 256)=false:=by simpa using h256
   by_cases hrn:0≤rn∧rn≤127
   ·have dhrn:decide (0≤rn∧rn≤127)=true:=by simpa using hrn
    go_wp2_with (first
     | (go_at_call 43;refine (HIR.out _ _ _ _).mono ?_;rintro o w2 ⟨rfl,rfl⟩))
    all_goals first
     | (go_ret;refine⟨⟨_,rfl,?_⟩,H1.out.b⟩;clear y0 y1 y2 y3 y4 y5 y6 y7 y8 y9 y10 z0 z1;first | (simp only[Bool.false_eq_true,false_iff];intro hx;have hm:=HX.out.1 hx;omega) | (refine⟨fun _=>HX.out.2 (by omega),fun _=>rfl⟩) | (refine⟨fun h=>HX.out.2 (by simp at h <;> omega),fun hx=>?_⟩;have hm:=HX.out.1 hx;simp;omega))
   ·have dhrn:decide (0≤rn∧rn≤127)=false:=by simpa using hrn
    go_wp2_with (first
     | (go_at_call 43;refine (HIR.out _ _ _ _).mono ?_;rintro o w2 ⟨rfl,rfl⟩))
    all_goals first
     | (go_ret;refine⟨⟨_,rfl,?_⟩,H1.out.b⟩;clear y0 y1 y2 y3 y4 y5 y6 y7 y8 y9 y10 z0 z1;first | (simp only[Bool.false_eq_true,false_iff];intro hx;have hm:=HX.out.1 hx;omega) | (refine⟨fun _=>HX.out.2 (by omega),fun _=>rfl⟩) | (refine⟨fun h=>HX.out.2 (by simp at h <;> omega),fun hx=>?_⟩;have hm:=HX.out.1 hx;simp;omega))
 ·go_simp
  have hS1:ctS w w.heap.size (coI 1 ct lv kw ko kq kt ka rn te re H) s (v0.alloc (.cells #[.int .i64 0,.int .i64 0,.nilFunc] 121)):=hS.below ((Below.refl _ _).alloc (Nat.le_refl _) _)
  have HRY:Hid (blk (v0.alloc (.cells #[.int .i64 0,.int .i64 0,.nilFunc] 121)) v0.heap.size [.int .i64 0,.int .i64 0,.nilFunc] 121):=blk.new v0 _ 121
  have HBL:Hid (w.heap.size<v0.heap.size):=hS.p.lt
  refine hK2.out _ _ hS1 (fun hS2=>?_)
  clear hK2 K2 hS1 hS
  have hS:=hS2
  clear hS2
  refine wpAnyH_all (rs:=[0]) (by kernel_rfl) (by simp) ?_
  refine AllReadyH.cons rfl (fun K2 hK2=>?_) AllReadyH.nil
  go_simp
  refine (HPR.out _).mono ?_
  rintro o v1 ⟨rfl,hb⟩
  have hS1:=hS.below hb
  have HRZ:Hid (blk v1 v0.heap.size [.int .i64 0,.int .i64 0,.nilFunc] 121):=HRY.out.below hb
  clear hb HRY
  go_wp2_with fail
  refine hK2.out _ _ hS1 (fun hS2=>?_)
  clear hK2 K2 hS1 hS
  have hS:=hS2
  clear hS2
  refine wT (i:=3) (v:=.agg #[.int .i64 0,.int .i64 0,.func (.func 184) #[] #[]]) rfl (by kernel_rfl) (by kernel_rfl) (by kernel_rfl) (fun _ _ _ h=>h) (Or.inl ⟨by rfl,?_⟩) hS ?_
  ·intro W hSw
   clear hS
   go_simp
   simp only[idx_1,Result.andThen_ok]
  simp only[Act.put,aA,aB,aC,aD,aE,aF]
  refine wpAnyH_all (rs:=[5]) (by kernel_rfl) (by simp) ?_
  refine AllReadyH.cons rfl (fun K2 hK2=>?_) AllReadyH.nil
  rw[if_pos (by rfl)]
  refine wp_store_mid 121 (.tmp 3) (.tmp 8) rfl v0.heap.size 0 #[.int .i64 0,.int .i64 0,.func (.func 184) #[] #[]] rfl rfl (HRZ.out.there 0 _ (by decide)) sz121 (all_oneCell_toArray (by simp[Value.oneCell'])) ?_
  generalize hW8:World.setCells v1 v0.heap.size 0 _=w8
  have hr8:blk w8 v0.heap.size [.int .i64 0,.int .i64 0,.func (.func 184) #[] #[]] 121:=by
   rw[← hW8]
   have:=blk.put [] [.int .i64 0,.int .i64 0,.nilFunc] [] [.int .i64 0,.int .i64 0,.func (.func 184) #[] #[]] (w:=v1) (b:=v0.heap.size) (T:=121) (by simpa using HRZ.out) rfl
   simpa using this
  have hS8:ctS w w.heap.size (coI 1 ct lv kw ko kq kt ka rn te re H) s w8:=by
   rw[← hW8]
   exact⟨hS.p.kept (setCells_other _ _ (Nat.ne_of_lt HBL.out) _ _ _),setCells_below (Nat.le_of_lt HBL.out) 0 _ hS.b⟩
  have HR:Hid (blk w8 v0.heap.size [.int .i64 0,.int .i64 0,.func (.func 184) #[] #[]] 121):=hr8
  have H1:Hid (ctS w w.heap.size (coI 1 ct lv kw ko kq kt ka rn te re H) s w8):=hS8
  clear hr8 hW8
  refine hK2.out _ _ hS8 (fun hS3=>?_)
  clear hK2 K2 hS8 hS HRZ
  have hS:=hS3
  clear hS3
  refine wpAnyH_done (by kernel_rfl) ?_ _
  clear hS
  have y0:=H1.out.p.cell 0 (.int .i64 1) rfl
  have y1:=H1.out.p.cell 1 (.int .i64 ct) rfl
  have y2:=H1.out.p.cell 2 (.int .i64 lv) rfl
  have y3:=H1.out.p.cell 3 (.bool (decide (kw=1))) rfl
  have y4:=H1.out.p.cell 4 (.bool (decide (ko=1))) rfl
  have y5:=H1.out.p.cell 5 (.bool (decide (kq=1))) rfl
  have y6:=H1.out.p.cell 6 (.bool (decide (kt=1))) rfl
  have y7:=H1.out.p.cell 7 (.bool (decide (ka=1))) rfl
  have y8:=H1.out.p.cell 8 (.int .i64 rn) rfl
  have y9:=H1.out.p.cell 9 (.int .i64 te) rfl
  have y10:=H1.out.p.cell 10 (.int .i64 re) rfl
  have z0:=HR.out.cell 0 (.int .i64 0) rfl
  have z1:=HR.out.cell 1 (.int .i64 0) rfl
  by_cases h256:te=256
  ·have dh256:(te == 256)=true:=by simpa using h256
   by_cases hrn:0≤rn∧rn≤127
   ·have dhrn:decide (0≤rn∧rn≤127)=true:=by simpa using hrn
    go_wp2_with (first
     | (go_at_call 43;refine (HIR.out _ _ _ _).mono ?_;rintro o w2 ⟨rfl,rfl⟩))
    all_goals first
     | (go_ret;refine⟨⟨_,rfl,?_⟩,H1.out.b⟩;clear y0 y1 y2 y3 y4 y5 y6 y7 y8 y9 y10 z0 z1;first | (simp only[Bool.false_eq_true,false_iff];intro hx;have hm:=HX.out.1 hx;omega) | (refine⟨fun _=>HX.out.2 (by omega),fun _=>rfl⟩) | (refine⟨fun h=>HX.out.2 (by simp at h <;> omega),fun hx=>?_⟩;have hm:=HX.out.1 hx;simp;omega))
   ·have dhrn:decide (0≤rn∧rn≤127)=false:=by simpa using hrn
    go_wp2_with (first
     | (go_at_call 43;refine (HIR.out _ _ _ _).mono ?_;rintro o w2 ⟨rfl,rfl⟩))
    all_goals first
     | (go_ret;refine⟨⟨_,rfl,?_⟩,H1.out.b⟩;clear y0 y1 y2 y3 y4 y5 y6 y7 y8 y9 y10 z0 z1;first | (simp only[Bool.false_eq_true,false_iff];intro hx;have hm:=HX.out.1 hx;omega) | (refine⟨fun _=>HX.out.2 (by omega),fun _=>rfl⟩) | (refine⟨fun h=>HX.out.2 (by simp at h <;> omega),fun hx=>?_⟩;have hm:=HX.out.1 hx;simp;omega))
  ·have dh256:(te == 256)=false:=by simpa using h256
   by_cases hrn:0≤rn∧rn≤127
   ·have dhrn:decide (0≤rn∧rn≤127)=true:=by simpa using hrn
    go_wp2_with (first
     | (go_at_call 43;refine (HIR.out _ _ _ _).mono ?_;rintro o w2 ⟨rfl,rfl⟩))
    all_goals first
     | (go_ret;refine⟨⟨_,rfl,?_⟩,H1.out.b⟩;clear y0 y1 y2 y3 y4 y5 y6 y7 y8 y9 y10 z0 z1;first | (simp only[Bool.false_eq_true,false_iff];intro hx;have hm:=HX.out.1 hx;omega) | (refine⟨fun _=>HX.out.2 (by omega),fun _=>rfl⟩) | (refine⟨fun h=>HX.out.2 (by simp at h <;> omega),fun hx=>?_⟩;have hm:=HX.out.1 hx;simp;omega))
   ·have dhrn:decide (0≤rn∧rn≤127)=false:=by simpa using hrn
    go_wp2_with (first
     | (go_at_call 43;refine (HIR.out _ _ _ _).mono ?_;rintro o w2 ⟨rfl,rfl⟩))
    all_goals first
     | (go_ret;refine⟨⟨_,rfl,?_⟩,H1.out.b⟩;clear y0 y1 y2 y3 y4 y5 y6 y7 y8 y9 y10 z0 z1;first | (simp only[Bool.false_eq_true,false_iff];intro hx;have hm:=HX.out.1 hx;omega) | (refine⟨fun _=>HX.out.2 (by omega),fun _=>rfl⟩) | (refine⟨fun h=>HX.out.2 (by simp at h <;> omega),fun hx=>?_⟩;have hm:=HX.out.1 hx;simp;omega))
theorem idx_2 (w:World):(Instr.index 123 (.agg prL.toArray) (.int .i64 2)).run Tryz.prog w = .ok (.agg #[.int .i64 0,.int .i64 5,.func (.func 185) #[] #[]]) w:=by
 simp[Instr.index,asIntOf,run_underlying Tryz.underlying123,prL,part,Tryz.sizeOf121,Tryz.isAgg121]
set_option maxHeartbeats 16000000 in
set_option maxRecDepth 20000 in
theorem vc_2 (w:World) (ct lv kw ko kq kt ka rn te re:Int) (H:Ho) (s:Sl) :
  Calls Tryz.prog 141 #[.agg (coL (coI 2 ct lv kw ko kq kt ka rn te re H) s).toArray] w fun o w'=>retB o ((0≤te∧te≤256)∧(0≤re∧re≤255)∧(¬ te=256)∧(0≤ct∧ct≤5)∧(0≤rn∧rn≤127)∧(rn=0))∧Below w.heap.size w w':=by
 obtain⟨X,HX⟩ : ∃ X:Prop,Hid (X↔((0≤te∧te≤256)∧(0≤re∧re≤255)∧(¬ te=256)∧(0≤ct∧ct≤5)∧(0≤rn∧rn≤127)∧(rn=0))):=⟨_,Iff.rfl⟩
 rw[← HX.out]
 have H0:Hid (ctS w w.heap.size (coI 2 ct lv kw ko kq kt ka rn te re H) s (w.alloc (.cells (coL (coI 2 ct lv kw ko kq kt ka rn te re H) s).toArray 41))):=ctS.new w _ s
 have HPR:Hid (∀ W,Calls Tryz.prog 144 #[] W fun o w'=>o = .returned (.agg prL.toArray)∧Below W.heap.size W w'):=phaseRows_any
 have HIR:Hid (∀ W v l m,Calls Tryz.prog 43 #[.int .i64 v,.int .i64 l,.int .i64 m] W fun o w'=>o = .returned (.bool (decide (l≤v∧v≤m)))∧W=w'):=inRange_any
 go_enter Tryz.func141,Tryz.ntmps141
 go_wp2_with fail
 refine wp_region_held (S:=fun X=>ctS w w.heap.size (coI 2 ct lv kw ko kq kt ka rn te re H) s X) (by kernel_rfl) ?_
 have hS:ctS w w.heap.size (coI 2 ct lv kw ko kq kt ka rn te re H) s (World.drew (w.alloc (.cells (coL (coI 2 ct lv kw ko kq kt ka rn te re H) s).toArray 41))):=H0.out.below (Below.refl _ _).drew
 clear H0
 change wpAnyH Tryz.prog _ _ _ _ _ _ _ (World.drew (w.alloc (.cells (coL (coI 2 ct lv kw ko kq kt ka rn te re H) s).toArray 41)))
 generalize World.drew (w.alloc (.cells (coL (coI 2 ct lv kw ko kq kt ka rn te re H) s).toArray 41))=v0 at *
 refine wT (i:=1) (v:=.pointer (some ⟨w.heap.size,0,none⟩)) rfl (by kernel_rfl) (by kernel_rfl) (by kernel_rfl) (fun _ _ _ h=>h) (Or.inl ⟨by rfl,?_⟩) hS ?_
 ·intro W hSw
  clear hS
  go_simp
 simp only[Act.put,aA,aB,aC,aD,aE,aF]
 refine wT (i:=2) (v:=.int .i64 2) rfl (by kernel_rfl) (by kernel_rfl) (by kernel_rfl) (fun _ _ _ h=>h) (Or.inl ⟨by rfl,?_⟩) hS ?_
 ·intro W hSw
  clear hS
  have y:=hSw.p.cell 0 (.int .i64 2) rfl
  go_simp
 simp only[Act.put,aA,aB,aC,aD,aE,aF]
 refine wpAnyH_all (rs:=[0,4]) (by kernel_rfl) (by simp) ?_
 refine AllReadyH.cons rfl (fun K2 hK2=>?_) (AllReadyH.cons rfl (fun K2 hK2=>?_) AllReadyH.nil)
 ·go_simp
  refine (HPR.out _).mono ?_
  rintro o v1 ⟨rfl,hb⟩
  have hS1:=hS.below hb
  clear hb
  go_wp2_with fail
  refine hK2.out _ _ hS1 (fun hS2=>?_)
  clear hK2 K2 hS1 hS
  have hS:=hS2
  clear hS2
  refine wT (i:=3) (v:=.agg #[.int .i64 0,.int .i64 5,.func (.func 185) #[] #[]]) rfl (by kernel_rfl) (by kernel_rfl) (by kernel_rfl) (fun _ _ _ h=>h) (Or.inl ⟨by rfl,?_⟩) hS ?_
  ·intro W hSw
   clear hS
   go_simp
   simp only[idx_2,Result.andThen_ok]
  simp only[Act.put,aA,aB,aC,aD,aE,aF]
  refine wpAnyH_all (rs:=[4]) (by kernel_rfl) (by simp) ?_
  refine AllReadyH.cons rfl (fun K2 hK2=>?_) AllReadyH.nil
  go_simp
  have hS1:ctS w w.heap.size (coI 2 ct lv kw ko kq kt ka rn te re H) s (v1.alloc (.cells #[.int .i64 0,.int .i64 0,.nilFunc] 121)):=hS.below ((Below.refl _ _).alloc (Nat.le_refl _) _)
  have HRZ:Hid (blk (v1.alloc (.cells #[.int .i64 0,.int .i64 0,.nilFunc] 121)) v1.heap.size [.int .i64 0,.int .i64 0,.nilFunc] 121):=blk.new v1 _ 121
  have HBL:Hid (w.heap.size<v1.heap.size):=hS.p.lt
  refine hK2.out _ _ hS1 (fun hS2=>?_)
  clear hK2 K2 hS1 hS
  have hS:=hS2
  clear hS2
  refine wpAnyH_all (rs:=[5]) (by kernel_rfl) (by simp) ?_
  refine AllReadyH.cons rfl (fun K2 hK2=>?_) AllReadyH.nil
  rw[if_pos (by rfl)]
  refine wp_store_mid 121 (.tmp 3) (.tmp 8) rfl v1.heap.size 0 #[.int .i64 0,.int .i64 5,.func (.func 185) #[] #[]] rfl rfl (HRZ.out.there 0 _ (by decide)) sz121 (all_oneCell_toArray (by simp[Value.oneCell'])) ?_
  generalize hW8:World.setCells (v1.alloc (.cells #[.int .i64 0,.int .i64 0,.nilFunc] 121)) v1.heap.size 0 _=w8
  have hr8:blk w8 v1.heap.size [.int .i64 0,.int .i64 5,.func (.func 185) #[] #[]] 121:=by
   rw[← hW8]
   have:=blk.put [] [.int .i64 0,.int .i64 0,.nilFunc] [] [.int .i64 0,.int .i64 5,.func (.func 185) #[] #[]] (w:=(v1.alloc (.cells #[.int .i64 0,.int .i64 0,.nilFunc] 121))) (b:=v1.heap.size) (T:=121) (by simpa using HRZ.out) rfl
   simpa using this
  have hS8:ctS w w.heap.size (coI 2 ct lv kw ko kq kt ka rn te re H) s w8:=by
   rw[← hW8]
   exact⟨hS.p.kept (setCells_other _ _ (Nat.ne_of_lt HBL.out) _ _ _),setCells_below (Nat.le_of_lt HBL.out) 0 _ hS.b⟩
  have HR:Hid (blk w8 v1.heap.size [.int .i64 0,.int .i64 5,.func (.func 185) #[] #[]] 121):=hr8
  have H1:Hid (ctS w w.heap.size (coI 2 ct lv kw ko kq kt ka rn te re H) s w8):=hS8
  clear hr8 hW8
  refine hK2.out _ _ hS8 (fun hS3=>?_)
  clear hK2 K2 hS8 hS HRZ
  have hS:=hS3
  clear hS3
  refine wpAnyH_done (by kernel_rfl) ?_ _
  clear hS
  have y0:=H1.out.p.cell 0 (.int .i64 2) rfl
  have y1:=H1.out.p.cell 1 (.int .i64 ct) rfl
  have y2:=H1.out.p.cell 2 (.int .i64 lv) rfl
  have y3:=H1.out.p.cell 3 (.bool (decide (kw=1))) rfl
  have y4:=H1.out.p.cell 4 (.bool (decide (ko=1))) rfl
  have y5:=H1.out.p.cell 5 (.bool (decide (kq=1))) rfl
  have y6:=H1.out.p.cell 6 (.bool (decide (kt=1))) rfl
  have y7:=H1.out.p.cell 7 (.bool (decide (ka=1))) rfl
  have y8:=H1.out.p.cell 8 (.int .i64 rn) rfl
  have y9:=H1.out.p.cell 9 (.int .i64 te) rfl
  have y10:=H1.out.p.cell 10 (.int .i64 re) rfl
  have z0:=HR.out.cell 0 (.int .i64 0) rfl
  have z1:=HR.out.cell 1 (.int .i64 5) rfl
  by_cases h256:te=256
  ·have dh256:(te == 256)=true:=by simpa using h256
   by_cases hrn:0≤rn∧rn≤127
   ·have dhrn:decide (0≤rn∧rn≤127)=true:=by simpa using hrn
    go_wp2_with (first
     | (go_at_call 43;refine (HIR.out _ _ _ _).mono ?_;rintro o w2 ⟨rfl,rfl⟩))
    all_goals first
     | (go_ret;refine⟨⟨_,rfl,?_⟩,H1.out.b⟩;clear y0 y1 y2 y3 y4 y5 y6 y7 y8 y9 y10 z0 z1;first | (simp only[Bool.false_eq_true,false_iff];intro hx;have hm:=HX.out.1 hx;omega) | (refine⟨fun _=>HX.out.2 (by omega),fun _=>rfl⟩) | (refine⟨fun h=>HX.out.2 (by simp at h <;> omega),fun hx=>?_⟩;have hm:=HX.out.1 hx;simp;omega))
   ·have dhrn:decide (0≤rn∧rn≤127)=false:=by simpa using hrn
    go_wp2_with (first
     | (go_at_call 43;refine (HIR.out _ _ _ _).mono ?_;rintro o w2 ⟨rfl,rfl⟩))
    all_goals first
     | (go_ret;refine⟨⟨_,rfl,?_⟩,H1.out.b⟩;clear y0 y1 y2 y3 y4 y5 y6 y7 y8 y9 y10 z0 z1;first | (simp only[Bool.false_eq_true,false_iff];intro hx;have hm:=HX.out.1 hx;omega) | (refine⟨fun _=>HX.out.2 (by omega),fun _=>rfl⟩) | (refine⟨fun h=>HX.out.2 (by simp at h <;> omega),fun hx=>?_⟩;have hm:=HX.out.1 hx;simp;omega))
  ·have dh256:(te == 256)=false:=by simpa using h256
   by_cases hrn:0≤rn∧rn≤127
   ·have dhrn:decide (0≤rn∧rn≤127)=true:=by simpa using hrn
    go_wp2_with (first
     | (go_at_call 43;refine (HIR.out _ _ _ _).mono ?_;rintro o w2 ⟨rfl,rfl⟩))
    all_goals first
     | (go_ret;refine⟨⟨_,rfl,?_⟩,H1.out.b⟩;clear y0 y1 y2 y3 y4 y5 y6 y7 y8 y9 y10 z0 z1;first | (simp only[Bool.false_eq_true,false_iff];intro hx;have hm:=HX.out.1 hx;omega) | (refine⟨fun _=>HX.out.2 (by omega),fun _=>rfl⟩) | (refine⟨fun h=>HX.out.2 (by simp at h <;> omega),fun hx=>?_⟩;have hm:=HX.out.1 hx;simp;omega))
   ·have dhrn:decide (0≤rn∧rn≤127)=false:=by simpa using hrn
    go_wp2_with (first
     | (go_at_call 43;refine (HIR.out _ _ _ _).mono ?_;rintro o w2 ⟨rfl,rfl⟩))
    all_goals first
     | (go_ret;refine⟨⟨_,rfl,?_⟩,H1.out.b⟩;clear y0 y1 y2 y3 y4 y5 y6 y7 y8 y9 y10 z0 z1;first | (simp only[Bool.false_eq_true,false_iff];intro hx;have hm:=HX.out.1 hx;omega) | (refine⟨fun _=>HX.out.2 (by omega),fun _=>rfl⟩) | (refine⟨fun h=>HX.out.2 (by simp at h <;> omega),fun hx=>?_⟩;have hm:=HX.out.1 hx;simp;omega))
 ·go_simp
  have hS1:ctS w w.heap.size (coI 2 ct lv kw ko kq kt ka rn te re H) s (v0.alloc (.cells #[.int .i64 0,.int .i64 0,.nilFunc] 121)):=hS.below ((Below.refl _ _).alloc (Nat.le_refl _) _)
  have HRY:Hid (blk (v0.alloc (.cells #[.int .i64 0,.int .i64 0,.nilFunc] 121)) v0.heap.size [.int .i64 0,.int .i64 0,.nilFunc] 121):=blk.new v0 _ 121
  have HBL:Hid (w.heap.size<v0.heap.size):=hS.p.lt
  refine hK2.out _ _ hS1 (fun hS2=>?_)
  clear hK2 K2 hS1 hS
  have hS:=hS2
  clear hS2
  refine wpAnyH_all (rs:=[0]) (by kernel_rfl) (by simp) ?_
  refine AllReadyH.cons rfl (fun K2 hK2=>?_) AllReadyH.nil
  go_simp
  refine (HPR.out _).mono ?_
  rintro o v1 ⟨rfl,hb⟩
  have hS1:=hS.below hb
  have HRZ:Hid (blk v1 v0.heap.size [.int .i64 0,.int .i64 0,.nilFunc] 121):=HRY.out.below hb
  clear hb HRY
  go_wp2_with fail
  refine hK2.out _ _ hS1 (fun hS2=>?_)
  clear hK2 K2 hS1 hS
  have hS:=hS2
  clear hS2
  refine wT (i:=3) (v:=.agg #[.int .i64 0,.int .i64 5,.func (.func 185) #[] #[]]) rfl (by kernel_rfl) (by kernel_rfl) (by kernel_rfl) (fun _ _ _ h=>h) (Or.inl ⟨by rfl,?_⟩) hS ?_
  ·intro W hSw
   clear hS
   go_simp
   simp only[idx_2,Result.andThen_ok]
  simp only[Act.put,aA,aB,aC,aD,aE,aF]
  refine wpAnyH_all (rs:=[5]) (by kernel_rfl) (by simp) ?_
  refine AllReadyH.cons rfl (fun K2 hK2=>?_) AllReadyH.nil
  rw[if_pos (by rfl)]
  refine wp_store_mid 121 (.tmp 3) (.tmp 8) rfl v0.heap.size 0 #[.int .i64 0,.int .i64 5,.func (.func 185) #[] #[]] rfl rfl (HRZ.out.there 0 _ (by decide)) sz121 (all_oneCell_toArray (by simp[Value.oneCell'])) ?_
  generalize hW8:World.setCells v1 v0.heap.size 0 _=w8
  have hr8:blk w8 v0.heap.size [.int .i64 0,.int .i64 5,.func (.func 185) #[] #[]] 121:=by
   rw[← hW8]
   have:=blk.put [] [.int .i64 0,.int .i64 0,.nilFunc] [] [.int .i64 0,.int .i64 5,.func (.func 185) #[] #[]] (w:=v1) (b:=v0.heap.size) (T:=121) (by simpa using HRZ.out) rfl
   simpa using this
  have hS8:ctS w w.heap.size (coI 2 ct lv kw ko kq kt ka rn te re H) s w8:=by
   rw[← hW8]
   exact⟨hS.p.kept (setCells_other _ _ (Nat.ne_of_lt HBL.out) _ _ _),setCells_below (Nat.le_of_lt HBL.out) 0 _ hS.b⟩
  have HR:Hid (blk w8 v0.heap.size [.int .i64 0,.int .i64 5,.func (.func 185) #[] #[]] 121):=hr8
  have H1:Hid (ctS w w.heap.size (coI 2 ct lv kw ko kq kt ka rn te re H) s w8):=hS8
  clear hr8 hW8
  refine hK2.out _ _ hS8 (fun hS3=>?_)
  clear hK2 K2 hS8 hS HRZ
  have hS:=hS3
  clear hS3
  refine wpAnyH_done (by kernel_rfl) ?_ _
  clear hS
  have y0:=H1.out.p.cell 0 (.int .i64 2) rfl
  have y1:=H1.out.p.cell 1 (.int .i64 ct) rfl
  have y2:=H1.out.p.cell 2 (.int .i64 lv) rfl
  have y3:=H1.out.p.cell 3 (.bool (decide (kw=1))) rfl
  have y4:=H1.out.p.cell 4 (.bool (decide (ko=1))) rfl
  have y5:=H1.out.p.cell 5 (.bool (decide (kq=1))) rfl
  have y6:=H1.out.p.cell 6 (.bool (decide (kt=1))) rfl
  have y7:=H1.out.p.cell 7 (.bool (decide (ka=1))) rfl
  have y8:=H1.out.p.cell 8 (.int .i64 rn) rfl
  have y9:=H1.out.p.cell 9 (.int .i64 te) rfl
  have y10:=H1.out.p.cell 10 (.int .i64 re) rfl
  have z0:=HR.out.cell 0 (.int .i64 0) rfl
  have z1:=HR.out.cell 1 (.int .i64 5) rfl
  by_cases h256:te=256
  ·have dh256:(te == 256)=true:=by simpa using h256
   by_cases hrn:0≤rn∧rn≤127
   ·have dhrn:decide (0≤rn∧rn≤127)=true:=by simpa using hrn
    go_wp2_with (first
     | (go_at_call 43;refine (HIR.out _ _ _ _).mono ?_;rintro o w2 ⟨rfl,rfl⟩))
    all_goals first
     | (go_ret;refine⟨⟨_,rfl,?_⟩,H1.out.b⟩;clear y0 y1 y2 y3 y4 y5 y6 y7 y8 y9 y10 z0 z1;first | (simp only[Bool.false_eq_true,false_iff];intro hx;have hm:=HX.out.1 hx;omega) | (refine⟨fun _=>HX.out.2 (by omega),fun _=>rfl⟩) | (refine⟨fun h=>HX.out.2 (by simp at h <;> omega),fun hx=>?_⟩;have hm:=HX.out.1 hx;simp;omega))
   ·have dhrn:decide (0≤rn∧rn≤127)=false:=by simpa using hrn
    go_wp2_with (first
     | (go_at_call 43;refine (HIR.out _ _ _ _).mono ?_;rintro o w2 ⟨rfl,rfl⟩))
    all_goals first
     | (go_ret;refine⟨⟨_,rfl,?_⟩,H1.out.b⟩;clear y0 y1 y2 y3 y4 y5 y6 y7 y8 y9 y10 z0 z1;first | (simp only[Bool.false_eq_true,false_iff];intro hx;have hm:=HX.out.1 hx;omega) | (refine⟨fun _=>HX.out.2 (by omega),fun _=>rfl⟩) | (refine⟨fun h=>HX.out.2 (by simp at h <;> omega),fun hx=>?_⟩;have hm:=HX.out.1 hx;simp;omega))
  ·have dh256:(te == 256)=false:=by simpa using h256
   by_cases hrn:0≤rn∧rn≤127
   ·have dhrn:decide (0≤rn∧rn≤127)=true:=by simpa using hrn
    go_wp2_with (first
     | (go_at_call 43;refine (HIR.out _ _ _ _).mono ?_;rintro o w2 ⟨rfl,rfl⟩))
    all_goals first
     | (go_ret;refine⟨⟨_,rfl,?_⟩,H1.out.b⟩;clear y0 y1 y2 y3 y4 y5 y6 y7 y8 y9 y10 z0 z1;first | (simp only[Bool.false_eq_true,false_iff];intro hx;have hm:=HX.out.1 hx;omega) | (refine⟨fun _=>HX.out.2 (by omega),fun _=>rfl⟩) | (refine⟨fun h=>HX.out.2 (by simp at h <;> omega),fun hx=>?_⟩;have hm:=HX.out.1 hx;simp;omega))
   ·have dhrn:decide (0≤rn∧rn≤127)=false:=by simpa using hrn
    go_wp2_with (first
     | (go_at_call 43;refine (HIR.out _ _ _ _).mono ?_;rintro o w2 ⟨rfl,rfl⟩))
    all_goals first
     | (go_ret;refine⟨⟨_,rfl,?_⟩,H1.out.b⟩;clear y0 y1 y2 y3 y4 y5 y6 y7 y8 y9 y10 z0 z1;first | (simp only[Bool.false_eq_true,false_iff];intro hx;have hm:=HX.out.1 hx;omega) | (refine⟨fun _=>HX.out.2 (by omega),fun _=>rfl⟩) | (refine⟨fun h=>HX.out.2 (by simp at h <;> omega),fun hx=>?_⟩;have hm:=HX.out.1 hx;simp;omega))
theorem idx_3 (w:World):(Instr.index 123 (.agg prL.toArray) (.int .i64 3)).run Tryz.prog w = .ok (.agg #[.int .i64 0,.int .i64 15,.func (.func 186) #[] #[]]) w:=by
 simp[Instr.index,asIntOf,run_underlying Tryz.underlying123,prL,part,Tryz.sizeOf121,Tryz.isAgg121]
set_option maxHeartbeats 16000000 in
set_option maxRecDepth 20000 in
theorem vc_3 (w:World) (ct lv kw ko kq kt ka rn te re:Int) (H:Ho) (s:Sl) :
  Calls Tryz.prog 141 #[.agg (coL (coI 3 ct lv kw ko kq kt ka rn te re H) s).toArray] w fun o w'=>retB o ((0≤te∧te≤256)∧(0≤re∧re≤255)∧(¬ te=256)∧(0≤ct∧ct≤15)∧(0≤rn∧rn≤127)∧(rn=0))∧Below w.heap.size w w':=by
 obtain⟨X,HX⟩ : ∃ X:Prop,Hid (X↔((0≤te∧te≤256)∧(0≤re∧re≤255)∧(¬ te=256)∧(0≤ct∧ct≤15)∧(0≤rn∧rn≤127)∧(rn=0))):=⟨_,Iff.rfl⟩
 rw[← HX.out]
 have H0:Hid (ctS w w.heap.size (coI 3 ct lv kw ko kq kt ka rn te re H) s (w.alloc (.cells (coL (coI 3 ct lv kw ko kq kt ka rn te re H) s).toArray 41))):=ctS.new w _ s
 have HPR:Hid (∀ W,Calls Tryz.prog 144 #[] W fun o w'=>o = .returned (.agg prL.toArray)∧Below W.heap.size W w'):=phaseRows_any
 have HIR:Hid (∀ W v l m,Calls Tryz.prog 43 #[.int .i64 v,.int .i64 l,.int .i64 m] W fun o w'=>o = .returned (.bool (decide (l≤v∧v≤m)))∧W=w'):=inRange_any
 go_enter Tryz.func141,Tryz.ntmps141
 go_wp2_with fail
 refine wp_region_held (S:=fun X=>ctS w w.heap.size (coI 3 ct lv kw ko kq kt ka rn te re H) s X) (by kernel_rfl) ?_
 have hS:ctS w w.heap.size (coI 3 ct lv kw ko kq kt ka rn te re H) s (World.drew (w.alloc (.cells (coL (coI 3 ct lv kw ko kq kt ka rn te re H) s).toArray 41))):=H0.out.below (Below.refl _ _).drew
 clear H0
 change wpAnyH Tryz.prog _ _ _ _ _ _ _ (World.drew (w.alloc (.cells (coL (coI 3 ct lv kw ko kq kt ka rn te re H) s).toArray 41)))
 generalize World.drew (w.alloc (.cells (coL (coI 3 ct lv kw ko kq kt ka rn te re H) s).toArray 41))=v0 at *
 refine wT (i:=1) (v:=.pointer (some ⟨w.heap.size,0,none⟩)) rfl (by kernel_rfl) (by kernel_rfl) (by kernel_rfl) (fun _ _ _ h=>h) (Or.inl ⟨by rfl,?_⟩) hS ?_
 ·intro W hSw
  clear hS
  go_simp
 simp only[Act.put,aA,aB,aC,aD,aE,aF]
 refine wT (i:=2) (v:=.int .i64 3) rfl (by kernel_rfl) (by kernel_rfl) (by kernel_rfl) (fun _ _ _ h=>h) (Or.inl ⟨by rfl,?_⟩) hS ?_
 ·intro W hSw
  clear hS
  have y:=hSw.p.cell 0 (.int .i64 3) rfl
  go_simp
 simp only[Act.put,aA,aB,aC,aD,aE,aF]
 refine wpAnyH_all (rs:=[0,4]) (by kernel_rfl) (by simp) ?_
 refine AllReadyH.cons rfl (fun K2 hK2=>?_) (AllReadyH.cons rfl (fun K2 hK2=>?_) AllReadyH.nil)
 ·go_simp
  refine (HPR.out _).mono ?_
  rintro o v1 ⟨rfl,hb⟩
  have hS1:=hS.below hb
  clear hb
  go_wp2_with fail
  refine hK2.out _ _ hS1 (fun hS2=>?_)
  clear hK2 K2 hS1 hS
  have hS:=hS2
  clear hS2
  refine wT (i:=3) (v:=.agg #[.int .i64 0,.int .i64 15,.func (.func 186) #[] #[]]) rfl (by kernel_rfl) (by kernel_rfl) (by kernel_rfl) (fun _ _ _ h=>h) (Or.inl ⟨by rfl,?_⟩) hS ?_
  ·intro W hSw
   clear hS
   go_simp
   simp only[idx_3,Result.andThen_ok]
  simp only[Act.put,aA,aB,aC,aD,aE,aF]
  refine wpAnyH_all (rs:=[4]) (by kernel_rfl) (by simp) ?_
  refine AllReadyH.cons rfl (fun K2 hK2=>?_) AllReadyH.nil
  go_simp
  have hS1:ctS w w.heap.size (coI 3 ct lv kw ko kq kt ka rn te re H) s (v1.alloc (.cells #[.int .i64 0,.int .i64 0,.nilFunc] 121)):=hS.below ((Below.refl _ _).alloc (Nat.le_refl _) _)
  have HRZ:Hid (blk (v1.alloc (.cells #[.int .i64 0,.int .i64 0,.nilFunc] 121)) v1.heap.size [.int .i64 0,.int .i64 0,.nilFunc] 121):=blk.new v1 _ 121
  have HBL:Hid (w.heap.size<v1.heap.size):=hS.p.lt
  refine hK2.out _ _ hS1 (fun hS2=>?_)
  clear hK2 K2 hS1 hS
  have hS:=hS2
  clear hS2
  refine wpAnyH_all (rs:=[5]) (by kernel_rfl) (by simp) ?_
  refine AllReadyH.cons rfl (fun K2 hK2=>?_) AllReadyH.nil
  rw[if_pos (by rfl)]
  refine wp_store_mid 121 (.tmp 3) (.tmp 8) rfl v1.heap.size 0 #[.int .i64 0,.int .i64 15,.func (.func 186) #[] #[]] rfl rfl (HRZ.out.there 0 _ (by decide)) sz121 (all_oneCell_toArray (by simp[Value.oneCell'])) ?_
  generalize hW8:World.setCells (v1.alloc (.cells #[.int .i64 0,.int .i64 0,.nilFunc] 121)) v1.heap.size 0 _=w8
  have hr8:blk w8 v1.heap.size [.int .i64 0,.int .i64 15,.func (.func 186) #[] #[]] 121:=by
   rw[← hW8]
   have:=blk.put [] [.int .i64 0,.int .i64 0,.nilFunc] [] [.int .i64 0,.int .i64 15,.func (.func 186) #[] #[]] (w:=(v1.alloc (.cells #[.int .i64 0,.int .i64 0,.nilFunc] 121))) (b:=v1.heap.size) (T:=121) (by simpa using HRZ.out) rfl
   simpa using this
  have hS8:ctS w w.heap.size (coI 3 ct lv kw ko kq kt ka rn te re H) s w8:=by
   rw[← hW8]
   exact⟨hS.p.kept (setCells_other _ _ (Nat.ne_of_lt HBL.out) _ _ _),setCells_below (Nat.le_of_lt HBL.out) 0 _ hS.b⟩
  have HR:Hid (blk w8 v1.heap.size [.int .i64 0,.int .i64 15,.func (.func 186) #[] #[]] 121):=hr8
  have H1:Hid (ctS w w.heap.size (coI 3 ct lv kw ko kq kt ka rn te re H) s w8):=hS8
  clear hr8 hW8
  refine hK2.out _ _ hS8 (fun hS3=>?_)
  clear hK2 K2 hS8 hS HRZ
  have hS:=hS3
  clear hS3
  refine wpAnyH_done (by kernel_rfl) ?_ _
  clear hS
  have y0:=H1.out.p.cell 0 (.int .i64 3) rfl
  have y1:=H1.out.p.cell 1 (.int .i64 ct) rfl
  have y2:=H1.out.p.cell 2 (.int .i64 lv) rfl
  have y3:=H1.out.p.cell 3 (.bool (decide (kw=1))) rfl
  have y4:=H1.out.p.cell 4 (.bool (decide (ko=1))) rfl
  have y5:=H1.out.p.cell 5 (.bool (decide (kq=1))) rfl
  have y6:=H1.out.p.cell 6 (.bool (decide (kt=1))) rfl
  have y7:=H1.out.p.cell 7 (.bool (decide (ka=1))) rfl
  have y8:=H1.out.p.cell 8 (.int .i64 rn) rfl
  have y9:=H1.out.p.cell 9 (.int .i64 te) rfl
  have y10:=H1.out.p.cell 10 (.int .i64 re) rfl
  have z0:=HR.out.cell 0 (.int .i64 0) rfl
  have z1:=HR.out.cell 1 (.int .i64 15) rfl
  by_cases h256:te=256
  ·have dh256:(te == 256)=true:=by simpa using h256
   by_cases hrn:0≤rn∧rn≤127
   ·have dhrn:decide (0≤rn∧rn≤127)=true:=by simpa using hrn
    go_wp2_with (first
     | (go_at_call 43;refine (HIR.out _ _ _ _).mono ?_;rintro o w2 ⟨rfl,rfl⟩))
    all_goals first
     | (go_ret;refine⟨⟨_,rfl,?_⟩,H1.out.b⟩;clear y0 y1 y2 y3 y4 y5 y6 y7 y8 y9 y10 z0 z1;first | (simp only[Bool.false_eq_true,false_iff];intro hx;have hm:=HX.out.1 hx;omega) | (refine⟨fun _=>HX.out.2 (by omega),fun _=>rfl⟩) | (refine⟨fun h=>HX.out.2 (by simp at h <;> omega),fun hx=>?_⟩;have hm:=HX.out.1 hx;simp;omega))
   ·have dhrn:decide (0≤rn∧rn≤127)=false:=by simpa using hrn
    go_wp2_with (first
     | (go_at_call 43;refine (HIR.out _ _ _ _).mono ?_;rintro o w2 ⟨rfl,rfl⟩))
    all_goals first
     | (go_ret;refine⟨⟨_,rfl,?_⟩,H1.out.b⟩;clear y0 y1 y2 y3 y4 y5 y6 y7 y8 y9 y10 z0 z1;first | (simp only[Bool.false_eq_true,false_iff];intro hx;have hm:=HX.out.1 hx;omega) | (refine⟨fun _=>HX.out.2 (by omega),fun _=>rfl⟩) | (refine⟨fun h=>HX.out.2 (by simp at h <;> omega),fun hx=>?_⟩;have hm:=HX.out.1 hx;simp;omega))
  ·have dh256:(te == 256)=false:=by simpa using h256
   by_cases hrn:0≤rn∧rn≤127
   ·have dhrn:decide (0≤rn∧rn≤127)=true:=by simpa using hrn
    go_wp2_with (first
     | (go_at_call 43;refine (HIR.out _ _ _ _).mono ?_;rintro o w2 ⟨rfl,rfl⟩))
    all_goals first
     | (go_ret;refine⟨⟨_,rfl,?_⟩,H1.out.b⟩;clear y0 y1 y2 y3 y4 y5 y6 y7 y8 y9 y10 z0 z1;first | (simp only[Bool.false_eq_true,false_iff];intro hx;have hm:=HX.out.1 hx;omega) | (refine⟨fun _=>HX.out.2 (by omega),fun _=>rfl⟩) | (refine⟨fun h=>HX.out.2 (by simp at h <;> omega),fun hx=>?_⟩;have hm:=HX.out.1 hx;simp;omega))
   ·have dhrn:decide (0≤rn∧rn≤127)=false:=by simpa using hrn
    go_wp2_with (first
     | (go_at_call 43;refine (HIR.out _ _ _ _).mono ?_;rintro o w2 ⟨rfl,rfl⟩))
    all_goals first
     | (go_ret;refine⟨⟨_,rfl,?_⟩,H1.out.b⟩;clear y0 y1 y2 y3 y4 y5 y6 y7 y8 y9 y10 z0 z1;first | (simp only[Bool.false_eq_true,false_iff];intro hx;have hm:=HX.out.1 hx;omega) | (refine⟨fun _=>HX.out.2 (by omega),fun _=>rfl⟩) | (refine⟨fun h=>HX.out.2 (by simp at h <;> omega),fun hx=>?_⟩;have hm:=HX.out.1 hx;simp;omega))
 ·go_simp
  have hS1:ctS w w.heap.size (coI 3 ct lv kw ko kq kt ka rn te re H) s (v0.alloc (.cells #[.int .i64 0,.int .i64 0,.nilFunc] 121)):=hS.below ((Below.refl _ _).alloc (Nat.le_refl _) _)
  have HRY:Hid (blk (v0.alloc (.cells #[.int .i64 0,.int .i64 0,.nilFunc] 121)) v0.heap.size [.int .i64 0,.int .i64 0,.nilFunc] 121):=blk.new v0 _ 121
  have HBL:Hid (w.heap.size<v0.heap.size):=hS.p.lt
  refine hK2.out _ _ hS1 (fun hS2=>?_)
  clear hK2 K2 hS1 hS
  have hS:=hS2
  clear hS2
  refine wpAnyH_all (rs:=[0]) (by kernel_rfl) (by simp) ?_
  refine AllReadyH.cons rfl (fun K2 hK2=>?_) AllReadyH.nil
  go_simp
  refine (HPR.out _).mono ?_
  rintro o v1 ⟨rfl,hb⟩
  have hS1:=hS.below hb
  have HRZ:Hid (blk v1 v0.heap.size [.int .i64 0,.int .i64 0,.nilFunc] 121):=HRY.out.below hb
  clear hb HRY
  go_wp2_with fail
  refine hK2.out _ _ hS1 (fun hS2=>?_)
  clear hK2 K2 hS1 hS
  have hS:=hS2
  clear hS2
  refine wT (i:=3) (v:=.agg #[.int .i64 0,.int .i64 15,.func (.func 186) #[] #[]]) rfl (by kernel_rfl) (by kernel_rfl) (by kernel_rfl) (fun _ _ _ h=>h) (Or.inl ⟨by rfl,?_⟩) hS ?_
  ·intro W hSw
   clear hS
   go_simp
   simp only[idx_3,Result.andThen_ok]
  simp only[Act.put,aA,aB,aC,aD,aE,aF]
  refine wpAnyH_all (rs:=[5]) (by kernel_rfl) (by simp) ?_
  refine AllReadyH.cons rfl (fun K2 hK2=>?_) AllReadyH.nil
  rw[if_pos (by rfl)]
  refine wp_store_mid 121 (.tmp 3) (.tmp 8) rfl v0.heap.size 0 #[.int .i64 0,.int .i64 15,.func (.func 186) #[] #[]] rfl rfl (HRZ.out.there 0 _ (by decide)) sz121 (all_oneCell_toArray (by simp[Value.oneCell'])) ?_
  generalize hW8:World.setCells v1 v0.heap.size 0 _=w8
  have hr8:blk w8 v0.heap.size [.int .i64 0,.int .i64 15,.func (.func 186) #[] #[]] 121:=by
   rw[← hW8]
   have:=blk.put [] [.int .i64 0,.int .i64 0,.nilFunc] [] [.int .i64 0,.int .i64 15,.func (.func 186) #[] #[]] (w:=v1) (b:=v0.heap.size) (T:=121) (by simpa using HRZ.out) rfl
   simpa using this
  have hS8:ctS w w.heap.size (coI 3 ct lv kw ko kq kt ka rn te re H) s w8:=by
   rw[← hW8]
   exact⟨hS.p.kept (setCells_other _ _ (Nat.ne_of_lt HBL.out) _ _ _),setCells_below (Nat.le_of_lt HBL.out) 0 _ hS.b⟩
  have HR:Hid (blk w8 v0.heap.size [.int .i64 0,.int .i64 15,.func (.func 186) #[] #[]] 121):=hr8
  have H1:Hid (ctS w w.heap.size (coI 3 ct lv kw ko kq kt ka rn te re H) s w8):=hS8
  clear hr8 hW8
  refine hK2.out _ _ hS8 (fun hS3=>?_)
  clear hK2 K2 hS8 hS HRZ
  have hS:=hS3
  clear hS3
  refine wpAnyH_done (by kernel_rfl) ?_ _
  clear hS
  have y0:=H1.out.p.cell 0 (.int .i64 3) rfl
  have y1:=H1.out.p.cell 1 (.int .i64 ct) rfl
  have y2:=H1.out.p.cell 2 (.int .i64 lv) rfl
  have y3:=H1.out.p.cell 3 (.bool (decide (kw=1))) rfl
  have y4:=H1.out.p.cell 4 (.bool (decide (ko=1))) rfl
  have y5:=H1.out.p.cell 5 (.bool (decide (kq=1))) rfl
  have y6:=H1.out.p.cell 6 (.bool (decide (kt=1))) rfl
  have y7:=H1.out.p.cell 7 (.bool (decide (ka=1))) rfl
  have y8:=H1.out.p.cell 8 (.int .i64 rn) rfl
  have y9:=H1.out.p.cell 9 (.int .i64 te) rfl
  have y10:=H1.out.p.cell 10 (.int .i64 re) rfl
  have z0:=HR.out.cell 0 (.int .i64 0) rfl
  have z1:=HR.out.cell 1 (.int .i64 15) rfl
  by_cases h256:te=256
  ·have dh256:(te == 256)=true:=by simpa using h256
   by_cases hrn:0≤rn∧rn≤127
   ·have dhrn:decide (0≤rn∧rn≤127)=true:=by simpa using hrn
    go_wp2_with (first
     | (go_at_call 43;refine (HIR.out _ _ _ _).mono ?_;rintro o w2 ⟨rfl,rfl⟩))
    all_goals first
     | (go_ret;refine⟨⟨_,rfl,?_⟩,H1.out.b⟩;clear y0 y1 y2 y3 y4 y5 y6 y7 y8 y9 y10 z0 z1;first | (simp only[Bool.false_eq_true,false_iff];intro hx;have hm:=HX.out.1 hx;omega) | (refine⟨fun _=>HX.out.2 (by omega),fun _=>rfl⟩) | (refine⟨fun h=>HX.out.2 (by simp at h <;> omega),fun hx=>?_⟩;have hm:=HX.out.1 hx;simp;omega))
   ·have dhrn:decide (0≤rn∧rn≤127)=false:=by simpa using hrn
    go_wp2_with (first
     | (go_at_call 43;refine (HIR.out _ _ _ _).mono ?_;rintro o w2 ⟨rfl,rfl⟩))
    all_goals first
     | (go_ret;refine⟨⟨_,rfl,?_⟩,H1.out.b⟩;clear y0 y1 y2 y3 y4 y5 y6 y7 y8 y9 y10 z0 z1;first | (simp only[Bool.false_eq_true,false_iff];intro hx;have hm:=HX.out.1 hx;omega) | (refine⟨fun _=>HX.out.2 (by omega),fun _=>rfl⟩) | (refine⟨fun h=>HX.out.2 (by simp at h <;> omega),fun hx=>?_⟩;have hm:=HX.out.1 hx;simp;omega))
  ·have dh256:(te == 256)=false:=by simpa using h256
   by_cases hrn:0≤rn∧rn≤127
   ·have dhrn:decide (0≤rn∧rn≤127)=true:=by simpa using hrn
    go_wp2_with (first
     | (go_at_call 43;refine (HIR.out _ _ _ _).mono ?_;rintro o w2 ⟨rfl,rfl⟩))
    all_goals first
     | (go_ret;refine⟨⟨_,rfl,?_⟩,H1.out.b⟩;clear y0 y1 y2 y3 y4 y5 y6 y7 y8 y9 y10 z0 z1;first | (simp only[Bool.false_eq_true,false_iff];intro hx;have hm:=HX.out.1 hx;omega) | (refine⟨fun _=>HX.out.2 (by omega),fun _=>rfl⟩) | (refine⟨fun h=>HX.out.2 (by simp at h <;> omega),fun hx=>?_⟩;have hm:=HX.out.1 hx;simp;omega))
   ·have dhrn:decide (0≤rn∧rn≤127)=false:=by simpa using hrn
    go_wp2_with (first
     | (go_at_call 43;refine (HIR.out _ _ _ _).mono ?_;rintro o w2 ⟨rfl,rfl⟩))
    all_goals first
     | (go_ret;refine⟨⟨_,rfl,?_⟩,H1.out.b⟩;clear y0 y1 y2 y3 y4 y5 y6 y7 y8 y9 y10 z0 z1;first | (simp only[Bool.false_eq_true,false_iff];intro hx;have hm:=HX.out.1 hx;omega) | (refine⟨fun _=>HX.out.2 (by omega),fun _=>rfl⟩) | (refine⟨fun h=>HX.out.2 (by simp at h <;> omega),fun hx=>?_⟩;have hm:=HX.out.1 hx;simp;omega))
end Go.Proofs.YtkfcfigbgmbaiaaGreat
