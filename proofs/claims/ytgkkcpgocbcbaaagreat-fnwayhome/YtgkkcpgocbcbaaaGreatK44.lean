import Derived.Test.YtgkkcpgocbcbaaaGreatK43
import Derived.Deep.CutBlock
namespace Go.Proofs.YtgkkcpgocbcbaaaGreat
open Go.RowKit
set_option linter.unusedVariables false
theorem sz30:(Tryz.prog.info? 30).map (·.size)=some 10:=by kernel_rfl
set_option maxHeartbeats 8000000 in
set_option maxRecDepth 20000 in
theorem lawWay (w:World) (a:Option Addr) (n cap:Nat) (lc:List Nat) (b:Option Addr) (m cpm:Nat) (lm:List Nat) (h:isBytes w a n cap lc) (h':isBytes w b m cpm lm) (hn:n≤maxLen) (hm:m≤maxLen) :
  Calls Tryz.prog 3 #[.slice a n cap,.slice b m cpm] w fun o w'=>o = .returned (.bool true)∧Below w.heap.size w w':=by
 by_cases h1:¬ n≤1048576
 ·have e1:(1048576:Int)<(n:Int):=by omega
  clear h h' hn hm
  go_enter Tryz.func3,Tryz.ntmps3
  go_wp2_with fail
  go_ret
  exact⟨rfl,Below.refl _ _⟩
 by_cases h2:¬ m≤1048576
 ·have e1:¬ (1048576:Int)<(n:Int):=by omega
  have e2:(1048576:Int)<(m:Int):=by omega
  clear h h' hn hm
  go_enter Tryz.func3,Tryz.ntmps3
  go_wp2_with fail
  go_ret
  exact⟨rfl,Below.refl _ _⟩
 have h1:n≤1048576:=Classical.not_not.1 h1
 have h2:m≤1048576:=Classical.not_not.1 h2
 have e1:¬ (1048576:Int)<(n:Int):=by omega
 have e2:¬ (1048576:Int)<(m:Int):=by omega
 have HW1:Hid (∀ W,Below w.heap.size w W→Calls Tryz.prog 5 #[.slice a n cap,.int .i64 0] W fun o w'=>∃ x:Nat,o = .returned (.int .i64 (x:Int))∧x<256∧w'=W):=fun W hW=>wByte2 W a n cap lc 0 (h.below hW) h1 (by omega)
 have HW2:Hid (∀ W,Below w.heap.size w W→∀ i:Nat,i≤1000→Calls Tryz.prog 5 #[.slice b m cpm,.int .i64 (i:Int)] W fun o w'=>∃ x:Nat,o = .returned (.int .i64 (x:Int))∧x<256∧w'=W):=fun W hW i hi=>wByte2 W b m cpm lm i (h'.below hW) h2 hi
 clear h h' hn hm h1 h2
 go_enter Tryz.func3,Tryz.ntmps3
 go_upto_region 3 with fail
 clear e1 e2
 go_wp2_with fail
 refine (newQ _ _).mono ?_
 rintro o w1 ⟨s1,rfl,q1,q2⟩
 have H1:Hid (isHo w1 ⟨1,1,0,8,[],List.replicate 1 bx0,[],[],0,0⟩ s1∧Below w.heap.size w w1∧blk (w1.alloc (.cells [.int .i64 0,.int .i64 0,.int .i64 0,.int .i64 0,.slice none 0 0,.slice none 0 0,.slice none 0 0,.slice none 0 0,.int .i64 0,.int .i64 0].toArray 30)) w1.heap.size Z10 30):=⟨q1,((Below.refl w.heap.size w).alloc (Nat.le_refl _) _).trans (q2.mono (by simp)),blk.new w1 _ 30⟩
 clear q1 q2
 go_upto_region 4 with (first
  | (refine wpList_store_mid (P:=Tryz.prog) rfl 30 _ _ rfl w1.heap.size 0 (hoL ⟨1,1,0,8,[],List.replicate 1 bx0,[],[],0,0⟩ s1).toArray rfl rfl (H1.out.2.2.there 0 _ (by rw[List.size_toArray,hoL_len];decide)) sz30 (hoL_one _ _) ?_;generalize hW2:World.setCells _ w1.heap.size 0 _=w2;have HW2':Hid (_=w2):=hW2;clear hW2))
 have H2:Hid (isHo w2 ⟨1,1,0,8,[],List.replicate 1 bx0,[],[],0,0⟩ s1∧Below w.heap.size w w2∧blk w2 w1.heap.size (hoL ⟨1,1,0,8,[],List.replicate 1 bx0,[],[],0,0⟩ s1) 30):=by
  have e:(w1.alloc (.cells [.int .i64 0,.int .i64 0,.int .i64 0,.int .i64 0,.slice none 0 0,.slice none 0 0,.slice none 0 0,.slice none 0 0,.int .i64 0,.int .i64 0].toArray 30)).setCells w1.heap.size 0 (hoL ⟨1,1,0,8,[],List.replicate 1 bx0,[],[],0,0⟩ s1)=w2:=HW2'.out
  have hb:Below w1.heap.size w1 w2:=by rw[← e];exact setCells_below (Nat.le_refl _) 0 _ ((Below.refl _ _).alloc (Nat.le_refl _) _)
  refine⟨H1.out.1.below hb,H1.out.2.1.trans (hb.mono H1.out.2.1.size),?_⟩
  rw[← e]
  have:=blk.put [] Z10 [] (hoL ⟨1,1,0,8,[],List.replicate 1 bx0,[],[],0,0⟩ s1) (w:=w1.alloc (.cells [.int .i64 0,.int .i64 0,.int .i64 0,.int .i64 0,.slice none 0 0,.slice none 0 0,.slice none 0 0,.slice none 0 0,.int .i64 0,.int .i64 0].toArray 30)) (b:=w1.heap.size) (T:=30) (by simpa using H1.out.2.2) (by rw[hoL_len];rfl)
  simpa using this
 clear H1 HW2'
 go_cut [7] (fun c wx=>∃ (B:Nat) (s:Sl) (x:Nat),c = .pointer (some ⟨B,0,none⟩)∧x<256∧J w B (cO x) s wx)
 case first=>
  refine wp_region_held (S:=fun X=>blk X w1.heap.size (hoL ⟨1,1,0,8,[],List.replicate 1 bx0,[],[],0,0⟩ s1) 30) (by kernel_rfl) ?_
  have hS:blk (World.drew w2) w1.heap.size (hoL ⟨1,1,0,8,[],List.replicate 1 bx0,[],[],0,0⟩ s1) 30:=H2.out.2.2.below (Below.refl _ _).drew
  have HB:Hid (Below w.heap.size w (World.drew w2)):=H2.out.2.1.drew
  have HI:Hid (isHo (World.drew w2) ⟨1,1,0,8,[],List.replicate 1 bx0,[],[],0,0⟩ s1):=H2.out.1.below (Below.refl _ _).drew
  clear H2
  change wpAnyH Tryz.prog _ _ _ _ _ _ _ (World.drew w2)
  generalize World.drew w2=v0 at *
  have HSL:Hid (w1.heap.size<v0.heap.size):=hS.lt
  refine wT (i:=0) (v:=.slice a n cap) rfl (by kernel_rfl) (by kernel_rfl) (by kernel_rfl) (fun _ _ _ h=>h) (Or.inl ⟨by rfl,?_⟩) hS ?_
  ·intro W hSw
   clear hS
   go_simp
  simp only[Act.put,aA,aB,aC,aD,aE]
  refine wT (i:=2) (v:=.agg (hoL ⟨1,1,0,8,[],List.replicate 1 bx0,[],[],0,0⟩ s1).toArray) rfl (by kernel_rfl) (by kernel_rfl) (by kernel_rfl) (fun _ _ _ h=>h) (yieldsIf_load_mid (by rfl) 30 _ rfl w1.heap.size 0 rfl (hoL ⟨1,1,0,8,[],List.replicate 1 bx0,[],[],0,0⟩ s1) _ (fun X h=>h.load) Tryz.underlying30 rfl sz30) hS ?_
  simp only[Act.put,aA,aB,aC,aD,aE,aF]
  refine wT (i:=3) (v:=.agg #[.bool false,.int .u32 5,.bool false,.int .i64 0,.slice none 0 0]) rfl (by kernel_rfl) (by kernel_rfl) (by kernel_rfl) (fun _ _ _ h=>h) (Or.inl ⟨by rfl,?_⟩) hS ?_
  ·intro W hSw
   clear hS
   go_simp
  simp only[Act.put,aA,aB,aC,aD,aE,aF]
  refine wpAnyH_all (rs:=[1,6]) (by kernel_rfl) (by simp) ?_
  refine AllReadyH.cons rfl (fun K2 hK2=>?_) (AllReadyH.cons rfl (fun K2 hK2=>?_) AllReadyH.nil)
  ·go_simp
   refine (HW1.out _ HB.out).mono ?_
   rintro o v9 ⟨x,rfl,hx,hv⟩
   have hv:=hv.symm
   subst hv
   have HX:=hidX hx
   clear hx
   go_wp2_with fail
   refine hK2.out _ _ hS (fun hS3=>?_)
   clear hK2 K2 hS
   have hS:=hS3
   clear hS3
   refine wpAnyH_all (rs:=[4,6]) (by kernel_rfl) (by simp) ?_
   refine AllReadyH.cons rfl (fun K2 hK2=>?_) (AllReadyH.cons rfl (fun K2 hK2=>?_) AllReadyH.nil)
   ·go_simp
    refine (subQ _ s1 HI.out).mono ?_
    rintro o v3 ⟨s3,rfl,hq,hb⟩
    have HT:=hidX hq
    have hS3:blk v3 w1.heap.size (hoL ⟨1,1,0,8,[],List.replicate 1 bx0,[],[],0,0⟩ s1) 30:=hS.below hb
    have HB3:=hidX (HB.out.trans (hb.mono HB.out.size))
    have HBs:=hidX hb
    clear hq hb
    go_wp2_with fail
    refine hK2.out _ _ hS3 (fun hS4=>?_)
    clear hK2 K2 hS3 hS
    have hS:=hS4
    clear hS4
    have HL:Hid (w1.heap.size<v3.heap.size):=hS.lt
    refine wT (i:=5) (v:=.agg (coL (cO x) s3).toArray) rfl (by kernel_rfl) (by kernel_rfl) (by kernel_rfl) (fun _ _ _ h=>h) (Or.inl ⟨by rfl,?_⟩) hS ?_
    ·intro W hSw
     clear hS
     kernel_rfl
    simp only[Act.put,aA,aB,aC,aD,aE,aF]
    refine wpAnyH_all (rs:=[6]) (by kernel_rfl) (by simp) ?_
    refine AllReadyH.cons rfl (fun K2 hK2=>?_) AllReadyH.nil
    go_simp
    have hS5:blk (v3.alloc (.cells #[.int .i64 0,.int .i64 0,.int .i64 0,.bool false,.bool false,.bool false,.bool false,.bool false,.int .i64 0,.int .i64 0,.int .i64 0,.int .i64 0,.int .i64 0,.int .i64 0,.int .i64 0,.slice none 0 0,.slice none 0 0,.slice none 0 0,.slice none 0 0,.int .i64 0,.int .i64 0] 39)) w1.heap.size (hoL ⟨1,1,0,8,[],List.replicate 1 bx0,[],[],0,0⟩ s1) 30:=hS.alloc _
    refine hK2.out _ _ hS5 (fun hS3=>?_)
    clear hK2 K2 hS5 hS
    have hS:=hS3
    clear hS3
    have HP:Hid (blk (v3.alloc (.cells [.int .i64 0,.int .i64 0,.int .i64 0,.bool false,.bool false,.bool false,.bool false,.bool false,.int .i64 0,.int .i64 0,.int .i64 0,.int .i64 0,.int .i64 0,.int .i64 0,.int .i64 0,.slice none 0 0,.slice none 0 0,.slice none 0 0,.slice none 0 0,.int .i64 0,.int .i64 0].toArray 39)) v3.heap.size Z21 39):=blk.new v3 _ 39
    have HJ:Hid (J w v3.heap.size (cO x) s3 ((v3.alloc (.cells [.int .i64 0,.int .i64 0,.int .i64 0,.bool false,.bool false,.bool false,.bool false,.bool false,.int .i64 0,.int .i64 0,.int .i64 0,.int .i64 0,.int .i64 0,.int .i64 0,.int .i64 0,.slice none 0 0,.slice none 0 0,.slice none 0 0,.slice none 0 0,.int .i64 0,.int .i64 0].toArray 39)).setCells v3.heap.size 0 (coL (cO x) s3))):=by
     have hbf:Below v3.heap.size v3 ((v3.alloc (.cells [.int .i64 0,.int .i64 0,.int .i64 0,.bool false,.bool false,.bool false,.bool false,.bool false,.int .i64 0,.int .i64 0,.int .i64 0,.int .i64 0,.int .i64 0,.int .i64 0,.int .i64 0,.slice none 0 0,.slice none 0 0,.slice none 0 0,.slice none 0 0,.int .i64 0,.int .i64 0].toArray 39)).setCells v3.heap.size 0 (coL (cO x) s3)):=setCells_below (Nat.le_refl _) 0 _ ((Below.refl _ _).alloc (Nat.le_refl _) _)
     have h2:=HT.out _ (fun k _ h2=>hbf.block k h2)
     exact⟨HP.out.core rfl (cO x) s3,h2.1,h2.2,HB3.out.trans (hbf.mono HB3.out.size),HB3.out.size⟩
    refine wpAnyH_all (rs:=[7]) (by kernel_rfl) (by simp) ?_
    refine AllReadyH.cons rfl (fun K2 hK2=>?_) AllReadyH.nil
    rw[if_pos (by rfl)]
    refine wp_store_mid 39 _ _ rfl v3.heap.size 0 (coL (cO x) s3).toArray rfl rfl (HP.out.there 0 _ (by rw[List.size_toArray,coL_len];decide)) (szC41A (cO x) s3) (coL_one (cO x) s3) ?_
    have hS5:blk ((v3.alloc (.cells [.int .i64 0,.int .i64 0,.int .i64 0,.bool false,.bool false,.bool false,.bool false,.bool false,.int .i64 0,.int .i64 0,.int .i64 0,.int .i64 0,.int .i64 0,.int .i64 0,.int .i64 0,.slice none 0 0,.slice none 0 0,.slice none 0 0,.slice none 0 0,.int .i64 0,.int .i64 0].toArray 39)).setCells v3.heap.size 0 (coL (cO x) s3)) w1.heap.size (hoL ⟨1,1,0,8,[],List.replicate 1 bx0,[],[],0,0⟩ s1) 30:=hS.other (by have:=HL.out;omega) _ _
    refine hK2.out _ _ hS5 (fun hS3=>?_)
    clear hK2 K2 hS5 hS hS3
    refine wpAnyH_done (by kernel_rfl) ?_ _
    simp only[Act.put]
    go_wp2_with fail
    go_meet
    case rel=>exact⟨v3.heap.size,s3,x,rfl,HX.out,HJ.out⟩
   ·go_simp
    have hS5:blk (v0.alloc (.cells #[.int .i64 0,.int .i64 0,.int .i64 0,.bool false,.bool false,.bool false,.bool false,.bool false,.int .i64 0,.int .i64 0,.int .i64 0,.int .i64 0,.int .i64 0,.int .i64 0,.int .i64 0,.slice none 0 0,.slice none 0 0,.slice none 0 0,.slice none 0 0,.int .i64 0,.int .i64 0] 39)) w1.heap.size (hoL ⟨1,1,0,8,[],List.replicate 1 bx0,[],[],0,0⟩ s1) 30:=hS.alloc _
    refine hK2.out _ _ hS5 (fun hS3=>?_)
    clear hK2 K2 hS5 hS
    have hS:=hS3
    clear hS3
    have HP0:Hid (blk (v0.alloc (.cells [.int .i64 0,.int .i64 0,.int .i64 0,.bool false,.bool false,.bool false,.bool false,.bool false,.int .i64 0,.int .i64 0,.int .i64 0,.int .i64 0,.int .i64 0,.int .i64 0,.int .i64 0,.slice none 0 0,.slice none 0 0,.slice none 0 0,.slice none 0 0,.int .i64 0,.int .i64 0].toArray 39)) v0.heap.size Z21 39∧w1.heap.size<v0.heap.size∧w.heap.size≤v0.heap.size):=⟨blk.new v0 _ 39,HSL.out,HB.out.size⟩
    have HB:Hid (Below w.heap.size w (v0.alloc (.cells #[.int .i64 0,.int .i64 0,.int .i64 0,.bool false,.bool false,.bool false,.bool false,.bool false,.int .i64 0,.int .i64 0,.int .i64 0,.int .i64 0,.int .i64 0,.int .i64 0,.int .i64 0,.slice none 0 0,.slice none 0 0,.slice none 0 0,.slice none 0 0,.int .i64 0,.int .i64 0] 39))):=HB.out.alloc HB.out.size _
    have HI:Hid (isHo (v0.alloc (.cells #[.int .i64 0,.int .i64 0,.int .i64 0,.bool false,.bool false,.bool false,.bool false,.bool false,.int .i64 0,.int .i64 0,.int .i64 0,.int .i64 0,.int .i64 0,.int .i64 0,.int .i64 0,.slice none 0 0,.slice none 0 0,.slice none 0 0,.slice none 0 0,.int .i64 0,.int .i64 0] 39)) ⟨1,1,0,8,[],List.replicate 1 bx0,[],[],0,0⟩ s1):=HI.out.below ((Below.refl _ _).alloc (Nat.le_refl _) _)
    refine wpAnyH_all (rs:=[4]) (by kernel_rfl) (by simp) ?_
    refine AllReadyH.cons rfl (fun K2 hK2=>?_) AllReadyH.nil
    go_simp
    refine (subQ _ s1 HI.out).mono ?_
    rintro o v3 ⟨s3,rfl,hq,hb⟩
    have HT:=hidX hq
    have hS3:blk v3 w1.heap.size (hoL ⟨1,1,0,8,[],List.replicate 1 bx0,[],[],0,0⟩ s1) 30:=hS.below hb
    have HB3:=hidX (HB.out.trans (hb.mono HB.out.size))
    have HBs:=hidX hb
    clear hq hb
    go_wp2_with fail
    refine hK2.out _ _ hS3 (fun hS4=>?_)
    clear hK2 K2 hS3 hS
    have hS:=hS4
    clear hS4
    have HL:Hid (w1.heap.size<v0.heap.size):=HP0.out.2.1
    have HP:Hid (blk v3 v0.heap.size Z21 39):=HP0.out.1.below HBs.out
    have HJ:Hid (J w v0.heap.size (cO x) s3 (v3.setCells v0.heap.size 0 (coL (cO x) s3))):=by
     have h2:=HT.out (v3.setCells v0.heap.size 0 (coL (cO x) s3)) (fun k h1 _=>setCells_other _ k (by simp at h1;omega) _ _ _)
     exact⟨HP.out.core rfl (cO x) s3,h2.1,h2.2,setCells_below HP0.out.2.2 0 _ HB3.out,HP0.out.2.2⟩
    refine wT (i:=5) (v:=.agg (coL (cO x) s3).toArray) rfl (by kernel_rfl) (by kernel_rfl) (by kernel_rfl) (fun _ _ _ h=>h) (Or.inl ⟨by rfl,?_⟩) hS ?_
    ·intro W hSw
     clear hS
     kernel_rfl
    simp only[Act.put,aA,aB,aC,aD,aE,aF]
    refine wpAnyH_all (rs:=[7]) (by kernel_rfl) (by simp) ?_
    refine AllReadyH.cons rfl (fun K2 hK2=>?_) AllReadyH.nil
    rw[if_pos (by rfl)]
    refine wp_store_mid 39 _ _ rfl v0.heap.size 0 (coL (cO x) s3).toArray rfl rfl (HP.out.there 0 _ (by rw[List.size_toArray,coL_len];decide)) (szC41A (cO x) s3) (coL_one (cO x) s3) ?_
    have hS5:blk (v3.setCells v0.heap.size 0 (coL (cO x) s3)) w1.heap.size (hoL ⟨1,1,0,8,[],List.replicate 1 bx0,[],[],0,0⟩ s1) 30:=hS.other (by have:=HL.out;omega) _ _
    refine hK2.out _ _ hS5 (fun hS3=>?_)
    clear hK2 K2 hS5 hS hS3
    refine wpAnyH_done (by kernel_rfl) ?_ _
    simp only[Act.put]
    go_wp2_with fail
    go_meet
    case rel=>exact⟨v0.heap.size,s3,x,rfl,HX.out,HJ.out⟩
  ·go_simp
   have hS5:blk (v0.alloc (.cells #[.int .i64 0,.int .i64 0,.int .i64 0,.bool false,.bool false,.bool false,.bool false,.bool false,.int .i64 0,.int .i64 0,.int .i64 0,.int .i64 0,.int .i64 0,.int .i64 0,.int .i64 0,.slice none 0 0,.slice none 0 0,.slice none 0 0,.slice none 0 0,.int .i64 0,.int .i64 0] 39)) w1.heap.size (hoL ⟨1,1,0,8,[],List.replicate 1 bx0,[],[],0,0⟩ s1) 30:=hS.alloc _
   refine hK2.out _ _ hS5 (fun hS3=>?_)
   clear hK2 K2 hS5 hS
   have hS:=hS3
   clear hS3
   have HP0:Hid (blk (v0.alloc (.cells [.int .i64 0,.int .i64 0,.int .i64 0,.bool false,.bool false,.bool false,.bool false,.bool false,.int .i64 0,.int .i64 0,.int .i64 0,.int .i64 0,.int .i64 0,.int .i64 0,.int .i64 0,.slice none 0 0,.slice none 0 0,.slice none 0 0,.slice none 0 0,.int .i64 0,.int .i64 0].toArray 39)) v0.heap.size Z21 39∧w1.heap.size<v0.heap.size∧w.heap.size≤v0.heap.size):=⟨blk.new v0 _ 39,HSL.out,HB.out.size⟩
   have HB:Hid (Below w.heap.size w (v0.alloc (.cells #[.int .i64 0,.int .i64 0,.int .i64 0,.bool false,.bool false,.bool false,.bool false,.bool false,.int .i64 0,.int .i64 0,.int .i64 0,.int .i64 0,.int .i64 0,.int .i64 0,.int .i64 0,.slice none 0 0,.slice none 0 0,.slice none 0 0,.slice none 0 0,.int .i64 0,.int .i64 0] 39))):=HB.out.alloc HB.out.size _
   have HI:Hid (isHo (v0.alloc (.cells #[.int .i64 0,.int .i64 0,.int .i64 0,.bool false,.bool false,.bool false,.bool false,.bool false,.int .i64 0,.int .i64 0,.int .i64 0,.int .i64 0,.int .i64 0,.int .i64 0,.int .i64 0,.slice none 0 0,.slice none 0 0,.slice none 0 0,.slice none 0 0,.int .i64 0,.int .i64 0] 39)) ⟨1,1,0,8,[],List.replicate 1 bx0,[],[],0,0⟩ s1):=HI.out.below ((Below.refl _ _).alloc (Nat.le_refl _) _)
   refine wpAnyH_all (rs:=[1]) (by kernel_rfl) (by simp) ?_
   refine AllReadyH.cons rfl (fun K2 hK2=>?_) AllReadyH.nil
   go_simp
   refine (HW1.out _ HB.out).mono ?_
   rintro o v9 ⟨x,rfl,hx,hv⟩
   have hv:=hv.symm
   subst hv
   have HX:=hidX hx
   clear hx
   go_wp2_with fail
   refine hK2.out _ _ hS (fun hS3=>?_)
   clear hK2 K2 hS
   have hS:=hS3
   clear hS3
   refine wpAnyH_all (rs:=[4]) (by kernel_rfl) (by simp) ?_
   refine AllReadyH.cons rfl (fun K2 hK2=>?_) AllReadyH.nil
   go_simp
   refine (subQ _ s1 HI.out).mono ?_
   rintro o v3 ⟨s3,rfl,hq,hb⟩
   have HT:=hidX hq
   have hS3:blk v3 w1.heap.size (hoL ⟨1,1,0,8,[],List.replicate 1 bx0,[],[],0,0⟩ s1) 30:=hS.below hb
   have HB3:=hidX (HB.out.trans (hb.mono HB.out.size))
   have HBs:=hidX hb
   clear hq hb
   go_wp2_with fail
   refine hK2.out _ _ hS3 (fun hS4=>?_)
   clear hK2 K2 hS3 hS
   have hS:=hS4
   clear hS4
   have HL:Hid (w1.heap.size<v0.heap.size):=HP0.out.2.1
   have HP:Hid (blk v3 v0.heap.size Z21 39):=HP0.out.1.below HBs.out
   have HJ:Hid (J w v0.heap.size (cO x) s3 (v3.setCells v0.heap.size 0 (coL (cO x) s3))):=by
    have h2:=HT.out (v3.setCells v0.heap.size 0 (coL (cO x) s3)) (fun k h1 _=>setCells_other _ k (by simp at h1;omega) _ _ _)
    exact⟨HP.out.core rfl (cO x) s3,h2.1,h2.2,setCells_below HP0.out.2.2 0 _ HB3.out,HP0.out.2.2⟩
   refine wT (i:=5) (v:=.agg (coL (cO x) s3).toArray) rfl (by kernel_rfl) (by kernel_rfl) (by kernel_rfl) (fun _ _ _ h=>h) (Or.inl ⟨by rfl,?_⟩) hS ?_
   ·intro W hSw
    clear hS
    kernel_rfl
   simp only[Act.put,aA,aB,aC,aD,aE,aF]
   refine wpAnyH_all (rs:=[7]) (by kernel_rfl) (by simp) ?_
   refine AllReadyH.cons rfl (fun K2 hK2=>?_) AllReadyH.nil
   rw[if_pos (by rfl)]
   refine wp_store_mid 39 _ _ rfl v0.heap.size 0 (coL (cO x) s3).toArray rfl rfl (HP.out.there 0 _ (by rw[List.size_toArray,coL_len];decide)) (szC41A (cO x) s3) (coL_one (cO x) s3) ?_
   have hS5:blk (v3.setCells v0.heap.size 0 (coL (cO x) s3)) w1.heap.size (hoL ⟨1,1,0,8,[],List.replicate 1 bx0,[],[],0,0⟩ s1) 30:=hS.other (by have:=HL.out;omega) _ _
   refine hK2.out _ _ hS5 (fun hS3=>?_)
   clear hK2 K2 hS5 hS hS3
   refine wpAnyH_done (by kernel_rfl) ?_ _
   simp only[Act.put]
   go_wp2_with fail
   go_meet
   case rel=>exact⟨v0.heap.size,s3,x,rfl,HX.out,HJ.out⟩
 case rest=>
 obtain⟨B,s,x,rfl,hx,hJ⟩:=hcut
 have HX:=hidX hx
 have HJ:=hidX hJ
 clear hx hJ HW1 H2
 have hXb:0≤(x:Int)∧(x:Int)≤255:=by have:=HX.out;omega
 have HOK:=hidX (okCo_cO x hXb)
 go_wp2_with fail
 go_loopw [8] (fun t wr=>∃ (k:Nat) (s:Sl),k≤30∧t = .int .i64 (k:Int)∧J w B (cO x) s wr) (fun t _=>30-(intOf t).toNat)
 case atStart=>exact⟨0,s,by omega,rfl,HJ.out⟩
 case round=>
 clear HJ s
 obtain⟨k,s,hk,rfl,hJ⟩:=hrel
 have HJ:=hidX hJ
 clear hJ
 by_cases hlt:k<30
 ·go_wp2_with (first | (refine wpList_load_mid (P:=Tryz.prog) rfl 39 _ rfl B 0 rfl (coL (cO x) s) _ HJ.out.p.load Tryz.underlying39 rfl (szC41L (cO x) s) ?_))
  refine (stepQ wr (cO x) (cO x) s 1 HOK.out (show (7:Int)≠1 by decide) (Or.inr rfl) best_bW le_hW0 (step_cO x) Nat.one_pos HJ.out.h HJ.out.s).mono ?_
  rintro o w5 ⟨s5,rfl,q1,q2,q3⟩
  have HP5:=hidX (HJ.out.put q1 q2 q3)
  have HA5:=hidX (HJ.out.below q3)
  clear q1 q2 q3
  go_upto_region 9 with (refine wpList_store_mid (P:=Tryz.prog) rfl 39 _ _ rfl B 0 (coL (cO x) s5).toArray rfl rfl (HA5.out.room (cO x) s5) (szC41A (cO x) s5) (coL_one (cO x) s5) ?_;generalize hW6:World.setCells _ B 0 _=w6;have H6:=hidE39 hW6 HP5.out;clear hW6)
  have y0:=H6.out.p.cell 0 (.int .i64 7) rfl
  have y1:=H6.out.p.cell 1 (.int .i64 0) rfl
  have y8:=H6.out.p.cell 8 (.int .i64 0) rfl
  have y9:=H6.out.p.cell 9 (.int .i64 256) rfl
  go_wp2_with fail
  go_roundw
  case rel=>exact⟨k+1,s5,by omega,by go_num,H6.out⟩
  case measure=>simp[intOf];omega
 ·go_wp2_with (first | (refine wpList_load_mid (P:=Tryz.prog) rfl 39 _ rfl B 0 rfl (coL (cO x) s) _ HJ.out.p.load Tryz.underlying39 rfl (szC41L (cO x) s) ?_))
  refine (rstQ wr x s hXb HJ.out.h HJ.out.s).mono ?_
  rintro o w5 ⟨s5,rfl,q1,q2,q3⟩
  have HP5:=hidX (HJ.out.put q1 q2 q3)
  have HA5:=hidX (HJ.out.below q3)
  clear q1 q2 q3 hlt hk HOK HJ
  go_upto_region 12 with (refine wpList_store_mid (P:=Tryz.prog) rfl 39 _ _ rfl B 0 (coL (cR x 0 0) s5).toArray rfl rfl (HA5.out.room (cR x 0 0) s5) (szC41A (cR x 0 0) s5) (coL_one (cR x 0 0) s5) ?_;generalize hW6:World.setCells _ B 0 _=w6;have H6:=hidE39 hW6 HP5.out;clear hW6)
  clear HP5 HA5
  go_wp2_with fail
  go_loopw [9,10,11] (fun o r t wr=>∃ (i j q:Nat) (s:Sl),o = .int .i64 (i:Int)∧r = .int .i64 (j:Int)∧t = .int .i64 (q:Int)∧i≤10∧j≤128∧(q≤300∨q+(11*(128-j)-i)≤1708)∧J w B (cL x i j) s wr) (fun o r t _=>12*(300-(intOf t).toNat)+(11*(128-(intOf r).toNat)-(intOf o).toNat))
  case atStart=>exact⟨0,0,0,s5,rfl,rfl,rfl,by omega,by omega,by omega,H6.out⟩
  case round=>
  clear H6
  obtain⟨i,j,q,s6,rfl,rfl,rfl,hi,hj,hq,hJ⟩:=hrel
  have HJ:=hidX hJ
  have HQ:=hidX hq
  clear hJ hq
  by_cases hlt:j<128
  ·have HJ:Hid (J w B (cR x i j) s6 wr):=by have:=HJ.out;rw[cL_lt hlt] at this;exact this
   have HOK:=hidX (okCo_cR x i j hXb (by omega) (by omega))
   go_upto_region 18 with fail
   go_cut [77] (fun v wx=>∃ z:Bool,v = .bool z∧(z=true→q<300)∧wx=wr)
   case first=>
    by_cases h3:q<300
    ·go_wp2_with (first | (go_at_call 5;refine (HW2.out _ HJ.out.b q (by omega)).mono ?_;rintro o w4 ⟨y,rfl,hy,hv⟩;have hv:=hv.symm;subst hv))
     go_meet
     case rel=>exact⟨_,rfl,fun _=>h3,rfl⟩
    ·go_wp2_with fail
     go_meet
     case rel=>exact⟨_,rfl,fun h=>(by cases h),rfl⟩
   case rest=>
   obtain⟨z,rfl,hz,hw⟩:=hcut
   have hw:=hw.symm
   subst hw
   obtain⟨bt,ebt⟩ : ∃ bt:Int,(if z=true then 0 else 1)=bt:=⟨_,rfl⟩
   have HBT:=hidX ebt
   have HZ:=hidX hz
   clear hz ebt
   go_upto_if 77 with fail
   go_cut [12] (fun v wx=>v = .int .i64 bt∧wx=wr)
   case first=>
    cases z
    ·go_wp2_with fail
     go_meet
     case rel=>exact⟨by rw[← HBT.out];rfl,rfl⟩
    ·go_wp2_with fail
     go_meet
     case rel=>exact⟨by rw[← HBT.out];rfl,rfl⟩
   case rest=>
   obtain⟨rfl,hw⟩:=hcut
   have hw:=hw.symm
   subst hw
   have hcl:=coL_len (cR x i j) s6
   go_upto_if 80 with fail
   go_cut [] (fun wx=>J w B (cR x i j) s6 wx)
   case first=>
    go_wp2_with (first | (refine wpList_load_mid (P:=Tryz.prog) rfl 39 _ rfl B 0 rfl (coL (cR x i j) s6) _ HJ.out.p.load Tryz.underlying39 rfl (szC41L (cR x i j) s6) ?_))
    ·rw[fold43]
     refine (rdOff wr (cR x i j) s6 HOK.out rfl le_hW1 HJ.out.h HJ.out.s).mono ?_
     rintro o w7 ⟨⟨s7,rfl⟩,hb7⟩
     have H7:Hid (J w B (cR x i j) s6 w7∧blk (w7.alloc (.cells [.int .i64 0,.int .i64 0,.int .i64 0,.bool false,.bool false,.bool false,.bool false,.bool false,.int .i64 0,.int .i64 0,.int .i64 0,.int .i64 0,.int .i64 0,.int .i64 0,.int .i64 0,.slice none 0 0,.slice none 0 0,.slice none 0 0,.slice none 0 0,.int .i64 0,.int .i64 0,.string ⟨#[]⟩].toArray 43)) w7.heap.size Z22 43):=⟨HJ.out.below hb7,blk.new w7 _ 43⟩
     clear hb7
     go_upto_region 22 with (refine wpList_store_mid (P:=Tryz.prog) rfl 43 _ _ rfl w7.heap.size 0 (rfL (cR x i j) s7 ⟨#[]⟩).toArray rfl rfl (H7.out.2.there 0 _ (by rw[List.size_toArray,rfL_len];decide)) sz43 (rfL_one _ _ _) ?_;generalize hW9:World.setCells _ w7.heap.size 0 _=w9;have HW9:Hid (_=w9):=hW9;clear hW9)
     have H9:Hid (J w B (cR x i j) s6 w9∧blk w9 w7.heap.size (rfL (cR x i j) s7 ⟨#[]⟩) 43):=by
      have e:(w7.alloc (.cells [.int .i64 0,.int .i64 0,.int .i64 0,.bool false,.bool false,.bool false,.bool false,.bool false,.int .i64 0,.int .i64 0,.int .i64 0,.int .i64 0,.int .i64 0,.int .i64 0,.int .i64 0,.slice none 0 0,.slice none 0 0,.slice none 0 0,.slice none 0 0,.int .i64 0,.int .i64 0,.string ⟨#[]⟩].toArray 43)).setCells w7.heap.size 0 (rfL (cR x i j) s7 ⟨#[]⟩)=w9:=HW9.out
      have hb:Below w7.heap.size w7 w9:=by rw[← e];exact setCells_below (Nat.le_refl _) 0 _ ((Below.refl _ _).alloc (Nat.le_refl _) _)
      refine⟨H7.out.1.below hb,?_⟩
      rw[← e]
      have:=blk.put [] Z22 [] (rfL (cR x i j) s7 ⟨#[]⟩) (w:=w7.alloc (.cells [.int .i64 0,.int .i64 0,.int .i64 0,.bool false,.bool false,.bool false,.bool false,.bool false,.int .i64 0,.int .i64 0,.int .i64 0,.int .i64 0,.int .i64 0,.int .i64 0,.int .i64 0,.slice none 0 0,.slice none 0 0,.slice none 0 0,.slice none 0 0,.int .i64 0,.int .i64 0,.string ⟨#[]⟩].toArray 43)) (b:=w7.heap.size) (T:=43) (by simpa using H7.out.2) (by rw[rfL_len];rfl)
      simpa using this
     have y0:=H9.out.2.cell 0 (.int .i64 7) rfl
     clear H7 HW9
     go_wp2_with fail
     go_meet
     case rel=>exact H9.out.1
    ·go_meet
     case rel=>exact HJ.out
   case rest=>
   have HJ:=hidX hcut
   clear hcut hcl
   have es7:∀ (t r:Int),esZ 7 t r=2:=fun t r=>rfl
   cases z
   ·have hbt:bt=1:=HBT.out.symm
    subst hbt
    clear HBT HZ
    by_cases h11:i+1=11
    ·obtain rfl:i=10:=by omega
     by_cases h12:j+1=128
     ·obtain rfl:j=127:=by omega
      have hq7:q≤1708:=by have:=HQ.out;omega
      go_wp2_with (first | (refine wpList_load_mid (P:=Tryz.prog) rfl 39 _ rfl B 0 rfl (coL (cR x (10:Nat) (127:Nat)) s6) _ HJ.out.p.load Tryz.underlying39 rfl (szC41L (cR x (10:Nat) (127:Nat)) s6) ?_))
      refine (stepQ _ (cR x (10:Nat) (127:Nat)) cI s6 1 HOK.out (show (7:Int)≠1 by decide) (by decide) best_bW le_hW1 (step_cR3 _ _ _ (by rfl) (by rfl)) Nat.one_pos HJ.out.h HJ.out.s).mono ?_
      rintro o w5 ⟨s5,rfl,q1,q2,q3⟩
      have HP5:=hidX (HJ.out.put q1 q2 q3)
      have HA5:=hidX (HJ.out.below q3)
      clear q1 q2 q3 HJ
      go_upto_region 25 with (refine wpList_store_mid (P:=Tryz.prog) rfl 39 _ _ rfl B 0 (coL cI s5).toArray rfl rfl (HA5.out.room cI s5) (szC41A cI s5) (coL_one cI s5) ?_;generalize hW6:World.setCells _ B 0 _=w6;have H6:=hidE39 hW6 HP5.out;clear hW6)
      clear HP5 HA5 HOK
      go_wp2_with fail
      go_roundw
      case rel=>exact⟨0,128,q+1,s5,rfl,rfl,by go_num,by omega,by omega,by have:=HQ.out;omega,by rw[cL_ge (by omega)];exact H6.out⟩
      case measure=>simp[intOf];omega
     ·have hbr:((j:Int)+1<128):=by omega
      have hbw:IntKind.i64.wrap ((j:Int)+1)=(j:Int)+1:=by rw[IntKind.wrap_i64];omega
      have hq7:q≤1708:=by have:=HQ.out;omega
      go_wp2_with (first | (refine wpList_load_mid (P:=Tryz.prog) rfl 39 _ rfl B 0 rfl (coL (cR x (10:Nat) j) s6) _ HJ.out.p.load Tryz.underlying39 rfl (szC41L (cR x (10:Nat) j) s6) ?_))
      refine (stepQ _ (cR x (10:Nat) j) (cR x 0 (j+1:Nat)) s6 1 HOK.out (show (7:Int)≠1 by decide) (by decide) best_bW le_hW1 (by rw[step_cR2 _ _ _ (by rfl) (by omega)];rfl) Nat.one_pos HJ.out.h HJ.out.s).mono ?_
      rintro o w5 ⟨s5,rfl,q1,q2,q3⟩
      have HP5:=hidX (HJ.out.put q1 q2 q3)
      have HA5:=hidX (HJ.out.below q3)
      clear q1 q2 q3 HJ
      go_upto_region 25 with (refine wpList_store_mid (P:=Tryz.prog) rfl 39 _ _ rfl B 0 (coL (cR x 0 (j+1:Nat)) s5).toArray rfl rfl (HA5.out.room (cR x 0 (j+1:Nat)) s5) (szC41A (cR x 0 (j+1:Nat)) s5) (coL_one (cR x 0 (j+1:Nat)) s5) ?_;generalize hW6:World.setCells _ B 0 _=w6;have H6:=hidE39 hW6 HP5.out;clear hW6)
      clear HP5 HA5 HOK
      have y0:=H6.out.p.cell 0 (.int .i64 7) rfl
      have y1:=H6.out.p.cell 1 (.int .i64 0) rfl
      have y8:=H6.out.p.cell 8 (.int .i64 ((j+1:Nat):Int)) rfl
      go_wp2_with (first | (refine wpList_load_midG (by rfl) 39 (.tmp 7) rfl B 0 rfl (coL (cR x 0 (j+1:Nat)) s5) _ H6.out.p.load Tryz.underlying39 rfl (szC41L (cR x 0 (j+1:Nat)) s5) ?_))
      refine (errR _ x 0 (j+1:Nat) s5).mono ?_
      rintro o w8 ⟨rfl,hb8⟩
      have H8:=hidX (H6.out.below hb8)
      have z1:=H8.out.p.cell 1 (.int .i64 0) rfl
      have z8:=H8.out.p.cell 8 (.int .i64 ((j+1:Nat):Int)) rfl
      clear hb8 H6
      go_wp2_with fail
      go_roundw
      case rel=>exact⟨0,j+1,q+1,s5,rfl,by go_num,by go_num,by omega,by omega,by have:=HQ.out;omega,by rw[cL_lt (by omega)];exact H8.out⟩
      case measure=>simp[intOf];omega
    ·have hbi:((i:Int)+1 == 11)=false:=by simp;omega
     have hq7:q≤1708:=by have:=HQ.out;omega
     go_wp2_with (first | (refine wpList_load_mid (P:=Tryz.prog) rfl 39 _ rfl B 0 rfl (coL (cR x i j) s6) _ HJ.out.p.load Tryz.underlying39 rfl (szC41L (cR x i j) s6) ?_))
     refine (stepQ _ (cR x i j) (cR x (i+1:Nat) j) s6 1 HOK.out (show (7:Int)≠1 by decide) (by decide) best_bW le_hW1 (by rw[step_cR1 _ _ _ (by omega)];rfl) Nat.one_pos HJ.out.h HJ.out.s).mono ?_
     rintro o w5 ⟨s5,rfl,q1,q2,q3⟩
     have HP5:=hidX (HJ.out.put q1 q2 q3)
     have HA5:=hidX (HJ.out.below q3)
     clear q1 q2 q3 HJ
     go_upto_region 25 with (refine wpList_store_mid (P:=Tryz.prog) rfl 39 _ _ rfl B 0 (coL (cR x (i+1:Nat) j) s5).toArray rfl rfl (HA5.out.room (cR x (i+1:Nat) j) s5) (szC41A (cR x (i+1:Nat) j) s5) (coL_one (cR x (i+1:Nat) j) s5) ?_;generalize hW6:World.setCells _ B 0 _=w6;have H6:=hidE39 hW6 HP5.out;clear hW6)
     clear HP5 HA5 HOK
     have y0:=H6.out.p.cell 0 (.int .i64 7) rfl
     have y1:=H6.out.p.cell 1 (.int .i64 ((i+1:Nat):Int)) rfl
     have y8:=H6.out.p.cell 8 (.int .i64 (j:Int)) rfl
     go_wp2_with (first | (refine wpList_load_midG (by rfl) 39 (.tmp 7) rfl B 0 rfl (coL (cR x (i+1:Nat) j) s5) _ H6.out.p.load Tryz.underlying39 rfl (szC41L (cR x (i+1:Nat) j) s5) ?_))
     refine (errR _ x (i+1:Nat) j s5).mono ?_
     rintro o w8 ⟨rfl,hb8⟩
     have H8:=hidX (H6.out.below hb8)
     have z1:=H8.out.p.cell 1 (.int .i64 ((i+1:Nat):Int)) rfl
     have z8:=H8.out.p.cell 8 (.int .i64 (j:Int)) rfl
     clear hb8 H6
     go_wp2_with fail
     go_roundw
     case rel=>exact⟨i+1,j,q+1,s5,by go_num,rfl,by go_num,by omega,hj,by have:=HQ.out;omega,by rw[cL_lt hlt];exact H8.out⟩
     case measure=>simp[intOf];omega
   ·have hbt:bt=0:=HBT.out.symm
    subst hbt
    have h3:q<300:=HZ.out rfl
    clear HBT HZ
    have hq7:q≤1708:=by have:=HQ.out;omega
    go_wp2_with (first | (refine wpList_load_mid (P:=Tryz.prog) rfl 39 _ rfl B 0 rfl (coL (cR x i j) s6) _ HJ.out.p.load Tryz.underlying39 rfl (szC41L (cR x i j) s6) ?_))
    refine (stepQ _ (cR x i j) (cR x 0 j) s6 0 HOK.out (show (7:Int)≠1 by decide) (by decide) best_bW le_hW1 (step_cR0 _ _ _) Nat.one_pos HJ.out.h HJ.out.s).mono ?_
    rintro o w5 ⟨s5,rfl,q1,q2,q3⟩
    have HP5:=hidX (HJ.out.put q1 q2 q3)
    have HA5:=hidX (HJ.out.below q3)
    clear q1 q2 q3 HJ
    go_upto_region 25 with (refine wpList_store_mid (P:=Tryz.prog) rfl 39 _ _ rfl B 0 (coL (cR x 0 j) s5).toArray rfl rfl (HA5.out.room (cR x 0 j) s5) (szC41A (cR x 0 j) s5) (coL_one (cR x 0 j) s5) ?_;generalize hW6:World.setCells _ B 0 _=w6;have H6:=hidE39 hW6 HP5.out;clear hW6)
    clear HP5 HA5 HOK
    have y0:=H6.out.p.cell 0 (.int .i64 7) rfl
    have y1:=H6.out.p.cell 1 (.int .i64 0) rfl
    have y8:=H6.out.p.cell 8 (.int .i64 (j:Int)) rfl
    go_wp2_with (first | (refine wpList_load_midG (by rfl) 39 (.tmp 7) rfl B 0 rfl (coL (cR x 0 j) s5) _ H6.out.p.load Tryz.underlying39 rfl (szC41L (cR x 0 j) s5) ?_))
    refine (errR _ x 0 j s5).mono ?_
    rintro o w8 ⟨rfl,hb8⟩
    have H8:=hidX (H6.out.below hb8)
    have z1:=H8.out.p.cell 1 (.int .i64 0) rfl
    have z8:=H8.out.p.cell 8 (.int .i64 (j:Int)) rfl
    clear hb8 H6
    go_wp2_with fail
    go_roundw
    case rel=>exact⟨0,j,q+1,s5,rfl,rfl,by go_num,by omega,hj,by omega,by rw[cL_lt hlt];exact H8.out⟩
    case measure=>simp[intOf];omega
  ·have HJ:Hid (J w B cI s6 wr):=by have:=HJ.out;rw[cL_ge hlt] at this;exact this
   have y0:=HJ.out.p.cell 0 (.int .i64 0) rfl
   have y9:=HJ.out.p.cell 9 (.int .i64 0) rfl
   have y10:=HJ.out.p.cell 10 (.int .i64 0) rfl
   go_wp2_with (first | (refine wpList_load_midG (by rfl) 39 (.tmp 7) rfl B 0 rfl (coL cI s6) _ HJ.out.p.load Tryz.underlying39 rfl (szC41L cI s6) ?_))
   refine (errI _ s6).mono ?_
   rintro o w8 ⟨rfl,hb8⟩
   have H8:=hidX (HJ.out.below hb8)
   clear hb8 HJ y0 y9 y10
   go_wp2_with (first | (refine wpList_load_mid (P:=Tryz.prog) rfl 30 _ rfl B 11 rfl (hoL cI.ho s6) _ H8.out.p.hostAt Tryz.underlying30 rfl sz30 ?_))
   refine (drainQ w8 s6 H8.out.h H8.out.s).mono ?_
   rintro o w9 ⟨L,g,c,rfl,hL,hL1,hc,c0,c1,c8,c9,hb9⟩
   have H9:Hid (J w B cI s6 w9∧blk (w9.alloc (.cells [.int .i64 0,.int .i64 0,.int .i64 0,.int .i64 0,.slice none 0 0,.slice none 0 0,.slice none 0 0,.slice none 0 0,.int .i64 0,.int .i64 0].toArray 30)) w9.heap.size Z10 30∧L.length=10∧L.toArray.all (·.oneCell')=true):=⟨H8.out.below hb9,blk.new w9 _ 30,hL,hL1⟩
   clear hb9 H8 hL hL1
   go_upto_region 36 with (refine wpList_store_mid (P:=Tryz.prog) rfl 30 _ _ rfl w9.heap.size 0 L.toArray rfl rfl (H9.out.2.1.there 0 _ (by rw[List.size_toArray,H9.out.2.2.1];decide)) (by rw[List.size_toArray,H9.out.2.2.1];exact sz30) H9.out.2.2.2 ?_;generalize hW4:World.setCells _ w9.heap.size 0 _=w4;have HW4:Hid (_=w4):=hW4;clear hW4)
   have hb4:Below w9.heap.size w9 w4:=by
    have e:(w9.alloc (.cells [.int .i64 0,.int .i64 0,.int .i64 0,.int .i64 0,.slice none 0 0,.slice none 0 0,.slice none 0 0,.slice none 0 0,.int .i64 0,.int .i64 0].toArray 30)).setCells w9.heap.size 0 L=w4:=HW4.out
    rw[← e]
    exact setCells_below (Nat.le_refl _) 0 _ ((Below.refl _ _).alloc (Nat.le_refl _) _)
   have H4:=hidX (H9.out.1.below hb4)
   have d0:=(hb4.cell (by exact World.block_lt_of_cell? w9 _ c0)).trans c0
   have d1:=(hb4.cell (by exact World.block_lt_of_cell? w9 _ c1)).trans c1
   have d8:=(hb4.cell (by exact World.block_lt_of_cell? w9 _ c8)).trans c8
   have d9:=(hb4.cell (by exact World.block_lt_of_cell? w9 _ c9)).trans c9
   clear hb4 HW4 c0 c1 c8 c9 H9
   go_upto_region 38 with fail
   clear d0 d1 d8 d9 hc
   have hcl:=coL_len cI s6
   go_wp2_with (first | (refine wpList_load_mid (P:=Tryz.prog) rfl 39 _ rfl B 0 rfl (coL cI s6) _ H4.out.p.load Tryz.underlying39 rfl (szC41L cI s6) ?_))
   rw[fold43]
   refine (rdIdle w4 s6 H4.out.h H4.out.s).mono ?_
   rintro o w7 ⟨⟨s7,rfl⟩,hb7⟩
   have H7:Hid (Below w.heap.size w w7∧blk (w7.alloc (.cells [.int .i64 0,.int .i64 0,.int .i64 0,.bool false,.bool false,.bool false,.bool false,.bool false,.int .i64 0,.int .i64 0,.int .i64 0,.int .i64 0,.int .i64 0,.int .i64 0,.int .i64 0,.slice none 0 0,.slice none 0 0,.slice none 0 0,.slice none 0 0,.int .i64 0,.int .i64 0,.string ⟨#[]⟩].toArray 43)) w7.heap.size Z22 43):=⟨H4.out.b.trans (hb7.mono H4.out.b.size),blk.new w7 _ 43⟩
   clear hb7 H4
   go_upto_region 39 with (refine wpList_store_mid (P:=Tryz.prog) rfl 43 _ _ rfl w7.heap.size 0 (rfL (jnC cI 0) s7 ⟨#[]⟩).toArray rfl rfl (H7.out.2.there 0 _ (by rw[List.size_toArray,rfL_len];decide)) sz43 (rfL_one _ _ _) ?_;generalize hW9:World.setCells _ w7.heap.size 0 _=w2';have HW9:Hid (_=w2'):=hW9;clear hW9)
   have HE:Hid (Below w.heap.size w w2'∧blk w2' w7.heap.size (rfL (jnC cI 0) s7 ⟨#[]⟩) 43):=by
    have e:(w7.alloc (.cells [.int .i64 0,.int .i64 0,.int .i64 0,.bool false,.bool false,.bool false,.bool false,.bool false,.int .i64 0,.int .i64 0,.int .i64 0,.int .i64 0,.int .i64 0,.int .i64 0,.int .i64 0,.slice none 0 0,.slice none 0 0,.slice none 0 0,.slice none 0 0,.int .i64 0,.int .i64 0,.string ⟨#[]⟩].toArray 43)).setCells w7.heap.size 0 (rfL (jnC cI 0) s7 ⟨#[]⟩)=w2':=HW9.out
    have hb:Below w7.heap.size w7 w2':=by rw[← e];exact setCells_below (Nat.le_refl _) 0 _ ((Below.refl _ _).alloc (Nat.le_refl _) _)
    refine⟨H7.out.1.trans (hb.mono H7.out.1.size),?_⟩
    rw[← e]
    have:=blk.put [] Z22 [] (rfL (jnC cI 0) s7 ⟨#[]⟩) (w:=w7.alloc (.cells [.int .i64 0,.int .i64 0,.int .i64 0,.bool false,.bool false,.bool false,.bool false,.bool false,.int .i64 0,.int .i64 0,.int .i64 0,.int .i64 0,.int .i64 0,.int .i64 0,.int .i64 0,.slice none 0 0,.slice none 0 0,.slice none 0 0,.slice none 0 0,.int .i64 0,.int .i64 0,.string ⟨#[]⟩].toArray 43)) (b:=w7.heap.size) (T:=43) (by simpa using H7.out.2) (by rw[rfL_len];rfl)
    simpa using this
   have y0:=HE.out.2.cell 0 (.int .i64 1) rfl
   have y6:=HE.out.2.cell 6 (.bool true) rfl
   clear H7 HW9
   go_wp2_with fail
   go_ret
   exact⟨rfl,HE.out.1⟩
end Go.Proofs.YtgkkcpgocbcbaaaGreat
