import Derived.Test.YtkfcfigbgmbaiaaGreatG07
import Derived.Test.YtkfcfigbgmbaiaaGreatCB
import Derived.Test.YtkfcfigbgmbaiaaGreatG09
import Derived.Deep.RegionHeld3
namespace Go.Proofs.YtkfcfigbgmbaiaaGreat
open Go.RowKit
set_option linter.unusedVariables false
def prL:List Value:=[.int .i64 0,.int .i64 0,.func (.func 183) #[] #[],.int .i64 0,.int .i64 0,.func (.func 184) #[] #[],.int .i64 0,.int .i64 5,.func (.func 185) #[] #[],.int .i64 0,.int .i64 15,.func (.func 186) #[] #[],.int .i64 1,.int .i64 7,.func (.func 187) #[] #[],.int .i64 0,.int .i64 2,.func (.func 188) #[] #[],.int .i64 0,.int .i64 7,.func (.func 189) #[] #[],.int .i64 0,.int .i64 10,.func (.func 190) #[] #[]]
theorem prL_len:prL.length=24:=rfl
theorem prL_one:prL.toArray.all (·.oneCell')=true:=all_oneCell_toArray (by simp[prL,Value.oneCell'])
theorem sz123:(Tryz.prog.info? 123).map (·.size)=some 24:=by kernel_rfl
theorem sz123A:(Tryz.prog.info? 123).map (·.size)=some prL.toArray.size:=sz123
theorem sz123L:(Tryz.prog.info? 123).map (·.size)=some prL.length:=sz123
def prZ:List Value:=[.int .i64 0,.int .i64 0,.nilFunc,.int .i64 0,.int .i64 0,.nilFunc,.int .i64 0,.int .i64 0,.nilFunc,.int .i64 0,.int .i64 0,.nilFunc,.int .i64 0,.int .i64 0,.nilFunc,.int .i64 0,.int .i64 0,.nilFunc,.int .i64 0,.int .i64 0,.nilFunc,.int .i64 0,.int .i64 0,.nilFunc]
set_option maxHeartbeats 4000000 in
set_option maxRecDepth 20000 in
theorem phaseRows_any (w:World):Calls Tryz.prog 144 #[] w fun o w'=>o = .returned (.agg prL.toArray)∧Below w.heap.size w w':=by
 have HN:Hid (blk (w.alloc (.cells prZ.toArray 123)) w.heap.size prZ 123):=blk.new w _ 123
 go_enter Tryz.func144,Tryz.ntmps144
 go_wp2_with (first
  | (refine wpList_store_mid (P:=Tryz.prog) rfl 123 _ _ rfl w.heap.size 0 prL.toArray rfl rfl (HN.out.there 0 _ (by rw[List.size_toArray,prL_len];decide)) sz123A prL_one ?_;generalize hW8:World.setCells _ w.heap.size 0 _=w8;have HW8:Hid (_=w8):=hW8;clear hW8))
 have e8:=HW8.out
 have hF:blk w8 w.heap.size prL 123:=by
  rw[← e8]
  have:=blk.put [] prZ [] prL (w:=w.alloc (.cells prZ.toArray 123)) (b:=w.heap.size) (T:=123) (by simpa using HN.out) rfl
  have t2:blk ((w.alloc (.cells prZ.toArray 123)).setCells w.heap.size 0 prL) w.heap.size prL 123:=by simpa using this
  exact t2
 have hL:=run_loadVar_mid (P:=Tryz.prog) w8 w.heap.size 0 123 _ _ hF.load Tryz.underlying123 rfl sz123L
 refine bodyPost_ret (v:=.agg prL.toArray) (results_cell Tryz.results144 _ w8 w.heap.size _ rfl hL) rfl ?_
 refine⟨rfl,?_⟩
 rw[← e8]
 exact setCells_below (Nat.le_refl _) 0 _ ((Below.refl _ _).alloc (Nat.le_refl _) _)
def sgL:List Value:=[.int .i64 0,.int .i64 0,.bool false,.bool false,.int .i64 0,.bool false,.int .u32 0,.bool false,.int .i64 0,.slice none 0 0]
def mcH (P:Nat) (C:Co):List Value:=[.pointer (some ⟨P,0,none⟩),.int .i64 C.te,.int .i64 C.re,.int .i64 C.p,.int .i64 C.ct,.int .i64 C.lv,.bool C.wk,.bool C.ov,.bool C.ow,.bool C.tx,.bool C.ak,.int .i64 C.rn]
def mcL (P:Nat) (C:Co):List Value:=mcH P C++(sgL++prL)
theorem mcL_len (P:Nat) (C:Co):(mcL P C).length=46:=rfl
set_option maxHeartbeats 8000000 in
set_option maxRecDepth 20000 in
theorem openCore_gen {R:Nat→World→Prop} (hR:∀ P W W',R P W→Below W.heap.size W W'→R P W') (w:World) (C:Co) (s:Sl) (ho:∀ W,Below w.heap.size w W→Calls Tryz.prog 123 #[.agg (hoL C.ho s).toArray] W fun o w'=>∃ P,o = .returned (.pointer (some ⟨P,0,none⟩))∧R P w'∧Below W.heap.size W w') :
  Calls Tryz.prog 84 #[.agg (coL C s).toArray] w fun o w'=>∃ P w5,o = .returned (.pointer (some ⟨w5.heap.size,0,none⟩))∧w'=w5.alloc (.cells (mcL P C).toArray 125)∧R P w5∧Below w.heap.size w w5:=by
 have HO:Hid (∀ W,Below w.heap.size w W→Calls Tryz.prog 123 #[.agg (hoL C.ho s).toArray] W fun o w'=>∃ P,o = .returned (.pointer (some ⟨P,0,none⟩))∧R P w'∧Below W.heap.size W w'):=ho
 have HR:Hid (∀ P W W',R P W→Below W.heap.size W W'→R P W'):=hR
 have HP:Hid (∀ W,Calls Tryz.prog 144 #[] W fun o w'=>o = .returned (.agg prL.toArray)∧Below W.heap.size W w'):=fun W=>phaseRows_any W
 have H0:Hid (ctS w w.heap.size C s (w.alloc (.cells (coL C s).toArray 41))):=ctS.new w C s
 clear ho hR;go_enter Tryz.func84,Tryz.ntmps84
 go_wp2_with fail;refine wp_region_held (S:=fun X=>ctS w w.heap.size C s X) (by kernel_rfl) ?_
 have hS:ctS w w.heap.size C s (World.drew (w.alloc (.cells (coL C s).toArray 41))):=H0.out.below (Below.refl _ _).drew
 clear H0;change wpAnyH Tryz.prog _ _ _ _ _ _ _ (World.drew (w.alloc (.cells (coL C s).toArray 41)))
 generalize World.drew (w.alloc (.cells (coL C s).toArray 41))=v0 at *;refine wT (i:=0) (v:=.pointer (some ⟨w.heap.size,11,none⟩)) rfl (by kernel_rfl) (by kernel_rfl) (by kernel_rfl) (fun _ _ _ h=>h) (Or.inl ⟨by rfl,?_⟩) hS ?_
 ·intro W hSw;clear hS;go_simp
 simp only[Act.put,aA,aB,aC,aD,aE]
 refine wT (i:=1) (v:=.agg (hoL C.ho s).toArray) rfl (by kernel_rfl) (by kernel_rfl) (by kernel_rfl) (fun _ _ _ h=>h) (yieldsIf_load_mid (by rfl) 39 (.tmp 3) rfl w.heap.size 11 rfl (hoL C.ho s) _ (fun X h=>h.p.hostAt) Tryz.underlying39 rfl (sz39h C.ho s)) hS ?_
 simp only[Act.put,aA,aB,aC,aD,aE,aF];refine wT (i:=3) (v:=.pointer (some ⟨w.heap.size,9,none⟩)) rfl (by kernel_rfl) (by kernel_rfl) (by kernel_rfl) (fun _ _ _ h=>h) (Or.inl ⟨by rfl,?_⟩) hS ?_
 ·intro W hSw;clear hS;go_simp
 simp only[Act.put,aA,aB,aC,aD,aE,aF];refine wT (i:=4) (v:=.int .i64 C.te) rfl (by kernel_rfl) (by kernel_rfl) (by kernel_rfl) (fun _ _ _ h=>h) (Or.inl ⟨by rfl,?_⟩) hS ?_
 ·intro W hSw;clear hS;have y:=hSw.p.cell 9 (.int .i64 C.te) rfl
  go_simp
 simp only[Act.put,aA,aB,aC,aD,aE,aF];refine wT (i:=5) (v:=.pointer (some ⟨w.heap.size,10,none⟩)) rfl (by kernel_rfl) (by kernel_rfl) (by kernel_rfl) (fun _ _ _ h=>h) (Or.inl ⟨by rfl,?_⟩) hS ?_
 ·intro W hSw;clear hS;go_simp
 simp only[Act.put,aA,aB,aC,aD,aE,aF];refine wT (i:=6) (v:=.int .i64 C.re) rfl (by kernel_rfl) (by kernel_rfl) (by kernel_rfl) (fun _ _ _ h=>h) (Or.inl ⟨by rfl,?_⟩) hS ?_
 ·intro W hSw;clear hS;have y:=hSw.p.cell 10 (.int .i64 C.re) rfl
  go_simp
 simp only[Act.put,aA,aB,aC,aD,aE,aF];refine wT (i:=8) (v:=.pointer (some ⟨w.heap.size,0,none⟩)) rfl (by kernel_rfl) (by kernel_rfl) (by kernel_rfl) (fun _ _ _ h=>h) (Or.inl ⟨by rfl,?_⟩) hS ?_
 ·intro W hSw;clear hS;go_simp
 simp only[Act.put,aA,aB,aC,aD,aE,aF];refine wT (i:=9) (v:=.int .i64 C.p) rfl (by kernel_rfl) (by kernel_rfl) (by kernel_rfl) (fun _ _ _ h=>h) (Or.inl ⟨by rfl,?_⟩) hS ?_
 ·intro W hSw;clear hS;have y:=hSw.p.cell 0 (.int .i64 C.p) rfl
  go_simp
 simp only[Act.put,aA,aB,aC,aD,aE,aF];refine wT (i:=10) (v:=.pointer (some ⟨w.heap.size,1,none⟩)) rfl (by kernel_rfl) (by kernel_rfl) (by kernel_rfl) (fun _ _ _ h=>h) (Or.inl ⟨by rfl,?_⟩) hS ?_
 ·intro W hSw;clear hS;go_simp
 simp only[Act.put,aA,aB,aC,aD,aE,aF];refine wT (i:=11) (v:=.int .i64 C.ct) rfl (by kernel_rfl) (by kernel_rfl) (by kernel_rfl) (fun _ _ _ h=>h) (Or.inl ⟨by rfl,?_⟩) hS ?_
 ·intro W hSw;clear hS;have y:=hSw.p.cell 1 (.int .i64 C.ct) rfl
  go_simp
 simp only[Act.put,aA,aB,aC,aD,aE,aF];refine wT (i:=12) (v:=.pointer (some ⟨w.heap.size,2,none⟩)) rfl (by kernel_rfl) (by kernel_rfl) (by kernel_rfl) (fun _ _ _ h=>h) (Or.inl ⟨by rfl,?_⟩) hS ?_
 ·intro W hSw;clear hS;go_simp
 simp only[Act.put,aA,aB,aC,aD,aE,aF];refine wT (i:=13) (v:=.int .i64 C.lv) rfl (by kernel_rfl) (by kernel_rfl) (by kernel_rfl) (fun _ _ _ h=>h) (Or.inl ⟨by rfl,?_⟩) hS ?_
 ·intro W hSw;clear hS;have y:=hSw.p.cell 2 (.int .i64 C.lv) rfl
  go_simp
 simp only[Act.put,aA,aB,aC,aD,aE,aF];refine wT (i:=14) (v:=.pointer (some ⟨w.heap.size,3,none⟩)) rfl (by kernel_rfl) (by kernel_rfl) (by kernel_rfl) (fun _ _ _ h=>h) (Or.inl ⟨by rfl,?_⟩) hS ?_
 ·intro W hSw;clear hS;go_simp
 simp only[Act.put,aA,aB,aC,aD,aE,aF];refine wT (i:=15) (v:=.bool C.wk) rfl (by kernel_rfl) (by kernel_rfl) (by kernel_rfl) (fun _ _ _ h=>h) (Or.inl ⟨by rfl,?_⟩) hS ?_
 ·intro W hSw;clear hS;have y:=hSw.p.cell 3 (.bool C.wk) rfl
  go_simp
 simp only[Act.put,aA,aB,aC,aD,aE,aF];refine wT (i:=16) (v:=.pointer (some ⟨w.heap.size,4,none⟩)) rfl (by kernel_rfl) (by kernel_rfl) (by kernel_rfl) (fun _ _ _ h=>h) (Or.inl ⟨by rfl,?_⟩) hS ?_
 ·intro W hSw;clear hS;go_simp
 simp only[Act.put,aA,aB,aC,aD,aE,aF];refine wT (i:=17) (v:=.bool C.ov) rfl (by kernel_rfl) (by kernel_rfl) (by kernel_rfl) (fun _ _ _ h=>h) (Or.inl ⟨by rfl,?_⟩) hS ?_
 ·intro W hSw;clear hS;have y:=hSw.p.cell 4 (.bool C.ov) rfl
  go_simp
 simp only[Act.put,aA,aB,aC,aD,aE,aF];refine wT (i:=18) (v:=.pointer (some ⟨w.heap.size,5,none⟩)) rfl (by kernel_rfl) (by kernel_rfl) (by kernel_rfl) (fun _ _ _ h=>h) (Or.inl ⟨by rfl,?_⟩) hS ?_
 ·intro W hSw;clear hS;go_simp
 simp only[Act.put,aA,aB,aC,aD,aE,aF];refine wT (i:=19) (v:=.bool C.ow) rfl (by kernel_rfl) (by kernel_rfl) (by kernel_rfl) (fun _ _ _ h=>h) (Or.inl ⟨by rfl,?_⟩) hS ?_
 ·intro W hSw;clear hS;have y:=hSw.p.cell 5 (.bool C.ow) rfl
  go_simp
 simp only[Act.put,aA,aB,aC,aD,aE,aF];refine wT (i:=20) (v:=.pointer (some ⟨w.heap.size,6,none⟩)) rfl (by kernel_rfl) (by kernel_rfl) (by kernel_rfl) (fun _ _ _ h=>h) (Or.inl ⟨by rfl,?_⟩) hS ?_
 ·intro W hSw;clear hS;go_simp
 simp only[Act.put,aA,aB,aC,aD,aE,aF];refine wT (i:=21) (v:=.bool C.tx) rfl (by kernel_rfl) (by kernel_rfl) (by kernel_rfl) (fun _ _ _ h=>h) (Or.inl ⟨by rfl,?_⟩) hS ?_
 ·intro W hSw;clear hS;have y:=hSw.p.cell 6 (.bool C.tx) rfl
  go_simp
 simp only[Act.put,aA,aB,aC,aD,aE,aF];refine wT (i:=22) (v:=.pointer (some ⟨w.heap.size,7,none⟩)) rfl (by kernel_rfl) (by kernel_rfl) (by kernel_rfl) (fun _ _ _ h=>h) (Or.inl ⟨by rfl,?_⟩) hS ?_
 ·intro W hSw;clear hS;go_simp
 simp only[Act.put,aA,aB,aC,aD,aE,aF];refine wT (i:=23) (v:=.bool C.ak) rfl (by kernel_rfl) (by kernel_rfl) (by kernel_rfl) (fun _ _ _ h=>h) (Or.inl ⟨by rfl,?_⟩) hS ?_
 ·intro W hSw;clear hS;have y:=hSw.p.cell 7 (.bool C.ak) rfl
  go_simp
 simp only[Act.put,aA,aB,aC,aD,aE,aF];refine wT (i:=24) (v:=.pointer (some ⟨w.heap.size,8,none⟩)) rfl (by kernel_rfl) (by kernel_rfl) (by kernel_rfl) (fun _ _ _ h=>h) (Or.inl ⟨by rfl,?_⟩) hS ?_
 ·intro W hSw;clear hS;go_simp
 simp only[Act.put,aA,aB,aC,aD,aE,aF];refine wT (i:=25) (v:=.int .i64 C.rn) rfl (by kernel_rfl) (by kernel_rfl) (by kernel_rfl) (fun _ _ _ h=>h) (Or.inl ⟨by rfl,?_⟩) hS ?_
 ·intro W hSw;clear hS;have y:=hSw.p.cell 8 (.int .i64 C.rn) rfl
  go_simp
 simp only[Act.put,aA,aB,aC,aD,aE,aF];refine wT (i:=26) (v:=.agg #[.int .i64 C.p,.int .i64 C.ct,.int .i64 C.lv,.bool C.wk,.bool C.ov,.bool C.ow,.bool C.tx,.bool C.ak,.int .i64 C.rn]) rfl (by kernel_rfl) (by kernel_rfl) (by kernel_rfl) (fun _ _ _ h=>h) (Or.inl ⟨by rfl,?_⟩) hS ?_
 ·intro W hSw;clear hS;go_simp
 simp only[Act.put,aA,aB,aC,aD,aE,aF];refine wpAnyH_all (rs:=[2]) (by kernel_rfl) (by simp) ?_
 refine AllReadyH.cons rfl (fun K2 hK2=>?_) AllReadyH.nil
 go_simp;refine (HO.out _ hS.b).mono ?_
 rintro o w2 ⟨P,rfl,hr,hb⟩;have hS2:=hS.below hb
 have HR2:Hid (R P w2):=hr
 clear hr hb;go_wp2_with fail;refine hK2.out _ _ hS2 (fun hS3=>?_)
 clear hK2 K2 hS2 hS;have hS:=hS3
 clear hS3;refine wT (i:=7) (v:=.agg #[.pointer (some ⟨P,0,none⟩),.int .i64 C.te,.int .i64 C.re]) rfl (by kernel_rfl) (by kernel_rfl) (by kernel_rfl) (fun _ _ _ h=>h) (Or.inl ⟨by rfl,?_⟩) hS ?_
 ·intro W hSw;clear hS;go_simp
 simp only[Act.put,aA,aB,aC,aD,aE,aF];refine wpAnyH_all (rs:=[27]) (by kernel_rfl) (by simp) ?_
 refine AllReadyH.cons rfl (fun K2 hK2=>?_) AllReadyH.nil
 go_simp;refine (HP.out _).mono ?_
 rintro o w3 ⟨rfl,hb⟩;have hS2:=hS.below hb
 have HR3:Hid (R P w3):=HR.out _ _ _ HR2.out hb
 clear hb HR2;go_wp2_with fail;refine hK2.out _ _ hS2 (fun hS3=>?_)
 clear hK2 K2 hS2 hS;have hS:=hS3
 clear hS3;refine wT (i:=28) (v:=.agg (mcL P C).toArray) rfl (by kernel_rfl) (by kernel_rfl) (by kernel_rfl) (fun _ _ _ h=>h) (Or.inl ⟨by rfl,?_⟩) hS ?_
 ·intro W hSw;clear hS;simp only[prL,mcL,mcH,sgL,List.cons_append,List.nil_append]
  go_simp
 simp only[Act.put,aA,aB,aC,aD,aE,aF];refine wpAnyH_all (rs:=[29]) (by kernel_rfl) (by simp) ?_
 refine AllReadyH.cons rfl (fun K2 hK2=>?_) AllReadyH.nil
 go_simp;have hS2:ctS w w.heap.size C s (w3.alloc (.cells (mcL P C).toArray 125)):=hS.below ((Below.refl _ _).alloc (Nat.le_refl _) _)
 have HB3:Hid (Below w.heap.size w w3):=hS.b
 refine hK2.out _ _ hS2 (fun hS3=>?_)
 clear hK2 K2 hS2 hS;have hS:=hS3
 clear hS3;refine wT (i:=30) (v:=.pointer (some ⟨w3.heap.size,0,none⟩)) rfl (by kernel_rfl) (by kernel_rfl) (by kernel_rfl) (fun _ _ _ h=>h) (Or.inl ⟨by rfl,?_⟩) hS ?_
 ·intro W hSw;clear hS;go_simp
 simp only[Act.put,aA,aB,aC,aD,aE,aF];refine wpAnyH_done (by kernel_rfl) ?_ _
 go_wp2_with fail;go_ret;exact⟨P,w3,rfl,rfl,HR3.out,HB3.out⟩
end Go.Proofs.YtkfcfigbgmbaiaaGreat
