import Derived.Test.YtkfcfigbgmbaiaaGreatK07
import Derived.Test.YtkfcfigbgmbaiaaGreatK30
import Derived.Deep.RegionHeld3
import Derived.Test.YtkfcfigbgmbaiaaGreatK27
import Derived.Test.YtkfcfigbgmbaiaaGreatK05
namespace Go.Proofs.YtkfcfigbgmbaiaaGreat
open Go.RowKit
set_option linter.unusedVariables false
set_option maxHeartbeats 16000000
def toldC (w:World) (C:Co) (o:Ending) (w':World):Prop:=∃ s4:Wh,o = .returned (.agg (coL C s4.sl).toArray)∧St w.heap.size w' (fun W=>isHo W C.ho s4.sl)∧whS w.heap.size w'.heap.size w' s4∧whD s4∧whE s4∧Below w.heap.size w w'
set_option maxRecDepth 20000 in
theorem mtold_any (w:World) (M P:Nat) (C:Co) (hm:blk w M (mcL P C) 125) (ht:∀ X,Below w.heap.size w X→Calls Tryz.prog 124 #[.pointer (some ⟨P,0,none⟩)] X (toldQ X C.ho)) :
  Calls Tryz.prog 86 #[.pointer (some ⟨M,0,none⟩)] w (toldC w C):=by
 have HT:Hid (∀ X,Below w.heap.size w X→Calls Tryz.prog 124 #[.pointer (some ⟨P,0,none⟩)] X (toldQ X C.ho)):=ht
 have HA:Hid (Below w.heap.size w (w.alloc (.cells Z21.toArray 41))):=(Below.refl _ _).alloc (Nat.le_refl _) _
 have HM:Hid (blk (w.alloc (.cells Z21.toArray 41)) M (mcL P C) 125∧blk (w.alloc (.cells Z21.toArray 41)) w.heap.size Z21 41∧Below w.heap.size w (w.alloc (.cells Z21.toArray 41))):=⟨hm.below HA.out,blk.new w _ 41,HA.out⟩
 clear hm ht HA;go_enter Tryz.func86,Tryz.ntmps86
 go_wp2_with fail;refine wp_region_held (S:=fun X=>blk X M (mcL P C) 125∧(∃ l:List Value,l.length=21∧blk X w.heap.size l 41)∧Below w.heap.size w X) (by kernel_rfl) ?_
 have hS:(fun X=>blk X M (mcL P C) 125∧(∃ l:List Value,l.length=21∧blk X w.heap.size l 41)∧Below w.heap.size w X) (World.drew (w.alloc (.cells Z21.toArray 41))):=⟨HM.out.1.below (Below.refl _ _).drew,⟨Z21,rfl,HM.out.2.1.below (Below.refl _ _).drew⟩,HM.out.2.2.drew⟩
 clear HM;change wpAnyH Tryz.prog _ _ _ _ _ _ _ (World.drew (w.alloc (.cells Z21.toArray 41)))
 generalize World.drew (w.alloc (.cells Z21.toArray 41))=v0 at *;refine wV 0 (.pointer (some ⟨M,0,none⟩)) rfl (by kernel_rfl) ?_ hS ?_ fun _ _ _ h=>h
 ·intro W hSw;clear hS;go_simp
 simp only[Act.put,aA,aB,aC,aD,aE]
 refine wV 1 (.pointer (some ⟨M,0,none⟩)) rfl (by kernel_rfl) ?_ hS ?_ fun _ _ _ h=>h
 ·intro W hSw;clear hS;go_simp
 simp only[Act.put,aA,aB,aC,aD,aE,aF];refine wV 2 (.pointer (some ⟨M,3,none⟩)) rfl (by kernel_rfl) ?_ hS ?_ fun _ _ _ h=>h
 ·intro W hSw;clear hS;go_simp
 simp only[Act.put,aA,aB,aC,aD,aE,aF];refine wV 3 (.pointer (some ⟨M,3,none⟩)) rfl (by kernel_rfl) ?_ hS ?_ fun _ _ _ h=>h
 ·intro W hSw;clear hS;go_simp
 simp only[Act.put,aA,aB,aC,aD,aE,aF];refine wV 4 (.int .i64 C.p) rfl (by kernel_rfl) ?_ hS ?_ fun _ _ _ h=>h
 ·intro W hSw;clear hS;have y:=hSw.1.cell 3 (.int .i64 C.p) rfl
  go_simp
 simp only[Act.put,aA,aB,aC,aD,aE,aF];refine wV 5 (.pointer (some ⟨M,0,none⟩)) rfl (by kernel_rfl) ?_ hS ?_ fun _ _ _ h=>h
 ·intro W hSw;clear hS;go_simp
 simp only[Act.put,aA,aB,aC,aD,aE,aF];refine wV 6 (.pointer (some ⟨M,0,none⟩)) rfl (by kernel_rfl) ?_ hS ?_ fun _ _ _ h=>h
 ·intro W hSw;clear hS;go_simp
 simp only[Act.put,aA,aB,aC,aD,aE,aF];refine wV 7 (.pointer (some ⟨M,3,none⟩)) rfl (by kernel_rfl) ?_ hS ?_ fun _ _ _ h=>h
 ·intro W hSw;clear hS;go_simp
 simp only[Act.put,aA,aB,aC,aD,aE,aF];refine wV 8 (.pointer (some ⟨M,4,none⟩)) rfl (by kernel_rfl) ?_ hS ?_ fun _ _ _ h=>h
 ·intro W hSw;clear hS;go_simp
 simp only[Act.put,aA,aB,aC,aD,aE,aF];refine wV 9 (.int .i64 C.ct) rfl (by kernel_rfl) ?_ hS ?_ fun _ _ _ h=>h
 ·intro W hSw;clear hS;have y:=hSw.1.cell 4 (.int .i64 C.ct) rfl
  go_simp
 simp only[Act.put,aA,aB,aC,aD,aE,aF];refine wV 10 (.pointer (some ⟨M,0,none⟩)) rfl (by kernel_rfl) ?_ hS ?_ fun _ _ _ h=>h
 ·intro W hSw;clear hS;go_simp
 simp only[Act.put,aA,aB,aC,aD,aE,aF];refine wV 11 (.pointer (some ⟨M,0,none⟩)) rfl (by kernel_rfl) ?_ hS ?_ fun _ _ _ h=>h
 ·intro W hSw;clear hS;go_simp
 simp only[Act.put,aA,aB,aC,aD,aE,aF];refine wV 12 (.pointer (some ⟨M,3,none⟩)) rfl (by kernel_rfl) ?_ hS ?_ fun _ _ _ h=>h
 ·intro W hSw;clear hS;go_simp
 simp only[Act.put,aA,aB,aC,aD,aE,aF];refine wV 13 (.pointer (some ⟨M,5,none⟩)) rfl (by kernel_rfl) ?_ hS ?_ fun _ _ _ h=>h
 ·intro W hSw;clear hS;go_simp
 simp only[Act.put,aA,aB,aC,aD,aE,aF];refine wV 14 (.int .i64 C.lv) rfl (by kernel_rfl) ?_ hS ?_ fun _ _ _ h=>h
 ·intro W hSw;clear hS;have y:=hSw.1.cell 5 (.int .i64 C.lv) rfl
  go_simp
 simp only[Act.put,aA,aB,aC,aD,aE,aF];refine wV 15 (.pointer (some ⟨M,0,none⟩)) rfl (by kernel_rfl) ?_ hS ?_ fun _ _ _ h=>h
 ·intro W hSw;clear hS;go_simp
 simp only[Act.put,aA,aB,aC,aD,aE,aF];refine wV 16 (.pointer (some ⟨M,0,none⟩)) rfl (by kernel_rfl) ?_ hS ?_ fun _ _ _ h=>h
 ·intro W hSw;clear hS;go_simp
 simp only[Act.put,aA,aB,aC,aD,aE,aF];refine wV 17 (.pointer (some ⟨M,3,none⟩)) rfl (by kernel_rfl) ?_ hS ?_ fun _ _ _ h=>h
 ·intro W hSw;clear hS;go_simp
 simp only[Act.put,aA,aB,aC,aD,aE,aF];refine wV 18 (.pointer (some ⟨M,6,none⟩)) rfl (by kernel_rfl) ?_ hS ?_ fun _ _ _ h=>h
 ·intro W hSw;clear hS;go_simp
 simp only[Act.put,aA,aB,aC,aD,aE,aF];refine wV 19 (.bool C.wk) rfl (by kernel_rfl) ?_ hS ?_ fun _ _ _ h=>h
 ·intro W hSw;clear hS;have y:=hSw.1.cell 6 (.bool C.wk) rfl
  go_simp
 simp only[Act.put,aA,aB,aC,aD,aE,aF];refine wV 20 (.pointer (some ⟨M,0,none⟩)) rfl (by kernel_rfl) ?_ hS ?_ fun _ _ _ h=>h
 ·intro W hSw;clear hS;go_simp
 simp only[Act.put,aA,aB,aC,aD,aE,aF];refine wV 21 (.pointer (some ⟨M,0,none⟩)) rfl (by kernel_rfl) ?_ hS ?_ fun _ _ _ h=>h
 ·intro W hSw;clear hS;go_simp
 simp only[Act.put,aA,aB,aC,aD,aE,aF];refine wV 22 (.pointer (some ⟨M,3,none⟩)) rfl (by kernel_rfl) ?_ hS ?_ fun _ _ _ h=>h
 ·intro W hSw;clear hS;go_simp
 simp only[Act.put,aA,aB,aC,aD,aE,aF];refine wV 23 (.pointer (some ⟨M,7,none⟩)) rfl (by kernel_rfl) ?_ hS ?_ fun _ _ _ h=>h
 ·intro W hSw;clear hS;go_simp
 simp only[Act.put,aA,aB,aC,aD,aE,aF];refine wV 24 (.bool C.ov) rfl (by kernel_rfl) ?_ hS ?_ fun _ _ _ h=>h
 ·intro W hSw;clear hS;have y:=hSw.1.cell 7 (.bool C.ov) rfl
  go_simp
 simp only[Act.put,aA,aB,aC,aD,aE,aF];refine wV 25 (.pointer (some ⟨M,0,none⟩)) rfl (by kernel_rfl) ?_ hS ?_ fun _ _ _ h=>h
 ·intro W hSw;clear hS;go_simp
 simp only[Act.put,aA,aB,aC,aD,aE,aF];refine wV 26 (.pointer (some ⟨M,0,none⟩)) rfl (by kernel_rfl) ?_ hS ?_ fun _ _ _ h=>h
 ·intro W hSw;clear hS;go_simp
 simp only[Act.put,aA,aB,aC,aD,aE,aF];refine wV 27 (.pointer (some ⟨M,3,none⟩)) rfl (by kernel_rfl) ?_ hS ?_ fun _ _ _ h=>h
 ·intro W hSw;clear hS;go_simp
 simp only[Act.put,aA,aB,aC,aD,aE,aF];refine wV 28 (.pointer (some ⟨M,8,none⟩)) rfl (by kernel_rfl) ?_ hS ?_ fun _ _ _ h=>h
 ·intro W hSw;clear hS;go_simp
 simp only[Act.put,aA,aB,aC,aD,aE,aF];refine wV 29 (.bool C.ow) rfl (by kernel_rfl) ?_ hS ?_ fun _ _ _ h=>h
 ·intro W hSw;clear hS;have y:=hSw.1.cell 8 (.bool C.ow) rfl
  go_simp
 simp only[Act.put,aA,aB,aC,aD,aE,aF];refine wV 30 (.pointer (some ⟨M,0,none⟩)) rfl (by kernel_rfl) ?_ hS ?_ fun _ _ _ h=>h
 ·intro W hSw;clear hS;go_simp
 simp only[Act.put,aA,aB,aC,aD,aE,aF];refine wV 31 (.pointer (some ⟨M,0,none⟩)) rfl (by kernel_rfl) ?_ hS ?_ fun _ _ _ h=>h
 ·intro W hSw;clear hS;go_simp
 simp only[Act.put,aA,aB,aC,aD,aE,aF];refine wV 32 (.pointer (some ⟨M,3,none⟩)) rfl (by kernel_rfl) ?_ hS ?_ fun _ _ _ h=>h
 ·intro W hSw;clear hS;go_simp
 simp only[Act.put,aA,aB,aC,aD,aE,aF];refine wV 33 (.pointer (some ⟨M,9,none⟩)) rfl (by kernel_rfl) ?_ hS ?_ fun _ _ _ h=>h
 ·intro W hSw;clear hS;go_simp
 simp only[Act.put,aA,aB,aC,aD,aE,aF];refine wV 34 (.bool C.tx) rfl (by kernel_rfl) ?_ hS ?_ fun _ _ _ h=>h
 ·intro W hSw;clear hS;have y:=hSw.1.cell 9 (.bool C.tx) rfl
  go_simp
 simp only[Act.put,aA,aB,aC,aD,aE,aF];refine wV 35 (.pointer (some ⟨M,0,none⟩)) rfl (by kernel_rfl) ?_ hS ?_ fun _ _ _ h=>h
 ·intro W hSw;clear hS;go_simp
 simp only[Act.put,aA,aB,aC,aD,aE,aF];refine wV 36 (.pointer (some ⟨M,0,none⟩)) rfl (by kernel_rfl) ?_ hS ?_ fun _ _ _ h=>h
 ·intro W hSw;clear hS;go_simp
 simp only[Act.put,aA,aB,aC,aD,aE,aF];refine wV 37 (.pointer (some ⟨M,3,none⟩)) rfl (by kernel_rfl) ?_ hS ?_ fun _ _ _ h=>h
 ·intro W hSw;clear hS;go_simp
 simp only[Act.put,aA,aB,aC,aD,aE,aF];refine wV 38 (.pointer (some ⟨M,10,none⟩)) rfl (by kernel_rfl) ?_ hS ?_ fun _ _ _ h=>h
 ·intro W hSw;clear hS;go_simp
 simp only[Act.put,aA,aB,aC,aD,aE,aF];refine wV 39 (.bool C.ak) rfl (by kernel_rfl) ?_ hS ?_ fun _ _ _ h=>h
 ·intro W hSw;clear hS;have y:=hSw.1.cell 10 (.bool C.ak) rfl
  go_simp
 simp only[Act.put,aA,aB,aC,aD,aE,aF];refine wV 40 (.pointer (some ⟨M,0,none⟩)) rfl (by kernel_rfl) ?_ hS ?_ fun _ _ _ h=>h
 ·intro W hSw;clear hS;go_simp
 simp only[Act.put,aA,aB,aC,aD,aE,aF];refine wV 41 (.pointer (some ⟨M,0,none⟩)) rfl (by kernel_rfl) ?_ hS ?_ fun _ _ _ h=>h
 ·intro W hSw;clear hS;go_simp
 simp only[Act.put,aA,aB,aC,aD,aE,aF];refine wV 42 (.pointer (some ⟨M,3,none⟩)) rfl (by kernel_rfl) ?_ hS ?_ fun _ _ _ h=>h
 ·intro W hSw;clear hS;go_simp
 simp only[Act.put,aA,aB,aC,aD,aE,aF];refine wV 43 (.pointer (some ⟨M,11,none⟩)) rfl (by kernel_rfl) ?_ hS ?_ fun _ _ _ h=>h
 ·intro W hSw;clear hS;go_simp
 simp only[Act.put,aA,aB,aC,aD,aE,aF];refine wV 44 (.int .i64 C.rn) rfl (by kernel_rfl) ?_ hS ?_ fun _ _ _ h=>h
 ·intro W hSw;clear hS;have y:=hSw.1.cell 11 (.int .i64 C.rn) rfl
  go_simp
 simp only[Act.put,aA,aB,aC,aD,aE,aF];refine wV 45 (.pointer (some ⟨M,0,none⟩)) rfl (by kernel_rfl) ?_ hS ?_ fun _ _ _ h=>h
 ·intro W hSw;clear hS;go_simp
 simp only[Act.put,aA,aB,aC,aD,aE,aF];refine wV 46 (.pointer (some ⟨M,0,none⟩)) rfl (by kernel_rfl) ?_ hS ?_ fun _ _ _ h=>h
 ·intro W hSw;clear hS;go_simp
 simp only[Act.put,aA,aB,aC,aD,aE,aF];refine wV 47 (.pointer (some ⟨M,0,none⟩)) rfl (by kernel_rfl) ?_ hS ?_ fun _ _ _ h=>h
 ·intro W hSw;clear hS;go_simp
 simp only[Act.put,aA,aB,aC,aD,aE,aF];refine wV 48 (.pointer (some ⟨M,1,none⟩)) rfl (by kernel_rfl) ?_ hS ?_ fun _ _ _ h=>h
 ·intro W hSw;clear hS;go_simp
 simp only[Act.put,aA,aB,aC,aD,aE,aF];refine wV 49 (.int .i64 C.te) rfl (by kernel_rfl) ?_ hS ?_ fun _ _ _ h=>h
 ·intro W hSw;clear hS;have y:=hSw.1.cell 1 (.int .i64 C.te) rfl
  go_simp
 simp only[Act.put,aA,aB,aC,aD,aE,aF];refine wV 50 (.pointer (some ⟨M,0,none⟩)) rfl (by kernel_rfl) ?_ hS ?_ fun _ _ _ h=>h
 ·intro W hSw;clear hS;go_simp
 simp only[Act.put,aA,aB,aC,aD,aE,aF];refine wV 51 (.pointer (some ⟨M,0,none⟩)) rfl (by kernel_rfl) ?_ hS ?_ fun _ _ _ h=>h
 ·intro W hSw;clear hS;go_simp
 simp only[Act.put,aA,aB,aC,aD,aE,aF];refine wV 52 (.pointer (some ⟨M,0,none⟩)) rfl (by kernel_rfl) ?_ hS ?_ fun _ _ _ h=>h
 ·intro W hSw;clear hS;go_simp
 simp only[Act.put,aA,aB,aC,aD,aE,aF];refine wV 53 (.pointer (some ⟨M,2,none⟩)) rfl (by kernel_rfl) ?_ hS ?_ fun _ _ _ h=>h
 ·intro W hSw;clear hS;go_simp
 simp only[Act.put,aA,aB,aC,aD,aE,aF];refine wV 54 (.int .i64 C.re) rfl (by kernel_rfl) ?_ hS ?_ fun _ _ _ h=>h
 ·intro W hSw;clear hS;have y:=hSw.1.cell 2 (.int .i64 C.re) rfl
  go_simp
 simp only[Act.put,aA,aB,aC,aD,aE,aF];refine wV 55 (.pointer (some ⟨M,0,none⟩)) rfl (by kernel_rfl) ?_ hS ?_ fun _ _ _ h=>h
 ·intro W hSw;clear hS;go_simp
 simp only[Act.put,aA,aB,aC,aD,aE,aF];refine wV 56 (.pointer (some ⟨M,0,none⟩)) rfl (by kernel_rfl) ?_ hS ?_ fun _ _ _ h=>h
 ·intro W hSw;clear hS;go_simp
 simp only[Act.put,aA,aB,aC,aD,aE,aF];refine wV 57 (.pointer (some ⟨M,0,none⟩)) rfl (by kernel_rfl) ?_ hS ?_ fun _ _ _ h=>h
 ·intro W hSw;clear hS;go_simp
 simp only[Act.put,aA,aB,aC,aD,aE,aF];refine wV 58 (.pointer (some ⟨M,0,none⟩)) rfl (by kernel_rfl) ?_ hS ?_ fun _ _ _ h=>h
 ·intro W hSw;clear hS;go_simp
 simp only[Act.put,aA,aB,aC,aD,aE,aF];refine wV 59 (.pointer (some ⟨P,0,none⟩)) rfl (by kernel_rfl) ?_ hS ?_ fun _ _ _ h=>h
 ·intro W hSw;clear hS;have y:=hSw.1.cell 0 (.pointer (some ⟨P,0,none⟩)) rfl
  go_simp
 simp only[Act.put,aA,aB,aC,aD,aE,aF];refine wpAnyH_all (rs:=[60]) (by kernel_rfl) (by simp) ?_
 refine AllReadyH.cons rfl (fun K2 hK2=>?_) AllReadyH.nil
 go_simp;refine (HT.out _ hS.2.2).mono ?_
 rintro o w2 ⟨s4,rfl,q1,q2,q3,q4,hb⟩;have hS2:(fun X=>blk X M (mcL P C) 125∧(∃ l:List Value,l.length=21∧blk X w.heap.size l 41)∧Below w.heap.size w X) w2:=⟨hS.1.below hb,(by obtain⟨l,h1,h2⟩:=hS.2.1;exact⟨l,h1,h2.below hb⟩),hS.2.2.trans (hb.mono hS.2.2.size)⟩
 have HQ:Hid (St v0.heap.size w2 (fun W=>isHo W C.ho s4.sl)∧whS v0.heap.size w2.heap.size w2 s4∧whD s4∧whE s4):=⟨q1,q2,q3,q4⟩
 have HZ:Hid (w.heap.size≤v0.heap.size∧w.heap.size<v0.heap.size):=⟨hS.2.2.size,(by obtain⟨l,h1,h2⟩:=hS.2.1;exact h2.lt)⟩
 clear q1 q2 q3 q4 hb;go_wp2_with fail;refine hK2.out _ _ hS2 (fun hS3=>?_)
 clear hK2 K2 hS2 hS;have hS:=hS3
 clear hS3;refine wV 61 (.agg (coL C s4.sl).toArray) rfl (by kernel_rfl) ?_ hS ?_ fun _ _ _ h=>h
 ·intro W hSw;clear hS;simp only[coL,hoL]
  go_simp
 simp only[Act.put,aA,aB,aC,aD,aE,aF];refine wpAnyH_all (rs:=[62]) (by kernel_rfl) (by simp) ?_
 refine AllReadyH.cons rfl (fun K2 hK2=>?_) AllReadyH.nil
 rw[if_pos (by rfl)]
 obtain⟨l0,hl0,hbl⟩:=hS.2.1
 have HL0:Hid (l0.length=21∧blk w2 w.heap.size l0 41):=⟨hl0,hbl⟩
 refine wp_store_mid 41 (.tmp 2) (.tmp 64) rfl w.heap.size 0 (coL C s4.sl).toArray rfl rfl (hbl.there 0 _ (by rw[List.size_toArray,coL_len,hl0];decide)) (szC41A C s4.sl) (coL_one C s4.sl) ?_
 generalize hW8:World.setCells w2 w.heap.size 0 _=w8
 have HM8:Hid (M≠w.heap.size):=fun e=>by
  have h1:=hS.1
  have h2:=HL0.out.2
  rw[e] at h1
  have:=h1.symm.trans h2
  simp at this
 have hf8:blk w8 w.heap.size (coL C s4.sl) 41:=by
  rw[← hW8]
  have:=blk.put [] l0 [] (coL C s4.sl) (w:=w2) (b:=w.heap.size) (T:=41) (by simpa using HL0.out.2) (by rw[HL0.out.1,coL_len])
  simpa using this
 have HF:Hid (blk w8 w.heap.size (coL C s4.sl) 41):=hf8
 clear hf8;have oth:∀ x,x≠w.heap.size→w8.heap[x]?=w2.heap[x]?:=fun x hx=>by rw[← hW8];exact setCells_other _ x hx _ _ _
 have hsz:w8.heap.size=w2.heap.size:=by rw[← hW8];exact setCells_size ..
 have HB8:Hid (Below w.heap.size w w8):=by rw[← hW8];exact setCells_below (by omega) 0 _ hS.2.2
 have HQ8:Hid (St w.heap.size w8 (fun W=>isHo W C.ho s4.sl)∧whS w.heap.size w8.heap.size w8 s4):=toldQ.put (w:=w) HZ.out.1 HZ.out.2 HQ.out.1 HQ.out.2.1 oth hsz
 have hS8:(fun X=>blk X M (mcL P C) 125∧(∃ l:List Value,l.length=21∧blk X w.heap.size l 41)∧Below w.heap.size w X) w8:=⟨hS.1.kept (oth _ HM8.out),⟨_,coL_len _ _,HF.out⟩,HB8.out⟩
 clear oth hsz hW8 hbl hl0;refine hK2.out _ _ hS8 (fun hS3=>?_)
 clear hK2 K2 hS8 hS hS3 HL0 HM8 HZ;refine wpAnyH_done (by kernel_rfl) ?_ _
 go_wp2_with fail;have hL:=run_loadVar_mid (P:=Tryz.prog) w8 w.heap.size 0 41 _ _ HF.out.load Tryz.underlying41 rfl (szC41L C s4.sl)
 refine bodyPost_ret (v:=.agg (coL C s4.sl).toArray) (results_cell Tryz.results86 _ w8 w.heap.size _ rfl hL) rfl ?_
 exact⟨s4,rfl,HQ8.out.1,HQ8.out.2,HQ.out.2.2.1,HQ.out.2.2.2,HB8.out⟩
set_option maxRecDepth 20000 in
theorem validCore_gen (w:World) (C:Co) (s:Sl) (VP CP MP SP:Prop) (hv:∀ W,Below w.heap.size w W→Calls Tryz.prog 122 #[.agg (hoL C.ho s).toArray] W fun o w'=>retB o VP∧Below W.heap.size W w')
  (hc:(0≤C.p∧C.p≤7)→∀ W,Below w.heap.size w W→Calls Tryz.prog 141 #[.agg (coL C s).toArray] W fun o w'=>retB o CP∧Below W.heap.size W w')
  (hm:(0≤C.p∧C.p≤7)→∀ W,Below w.heap.size w W→Calls Tryz.prog 142 #[.agg (coL C s).toArray] W fun o w'=>retB o MP∧Below W.heap.size W w')
  (hz:VP→∀ W,Below w.heap.size w W→Calls Tryz.prog 143 #[.agg (coL C s).toArray] W fun o w'=>retB o SP∧Below W.heap.size W w') :
  Calls Tryz.prog 83 #[.agg (coL C s).toArray] w fun o w'=>retB o ((0≤C.p∧C.p≤7)∧VP∧CP∧MP∧((C.p=1∧C.tx=true)↔SP))∧Below w.heap.size w w':=by
 have HV:Hid (∀ W,Below w.heap.size w W→Calls Tryz.prog 122 #[.agg (hoL C.ho s).toArray] W fun o w'=>retB o VP∧Below W.heap.size W w'):=hv
 have HC0:Hid ((0≤C.p∧C.p≤7)→∀ W,Below w.heap.size w W→Calls Tryz.prog 141 #[.agg (coL C s).toArray] W fun o w'=>retB o CP∧Below W.heap.size W w'):=hc
 have HM0:Hid ((0≤C.p∧C.p≤7)→∀ W,Below w.heap.size w W→Calls Tryz.prog 142 #[.agg (coL C s).toArray] W fun o w'=>retB o MP∧Below W.heap.size W w'):=hm
 have HZ0:Hid (VP→∀ W,Below w.heap.size w W→Calls Tryz.prog 143 #[.agg (coL C s).toArray] W fun o w'=>retB o SP∧Below W.heap.size W w'):=hz
 have HIR:Hid (∀ W v l m,Calls Tryz.prog 43 #[.int .i64 v,.int .i64 l,.int .i64 m] W fun o w'=>o = .returned (.bool (decide (l≤v∧v≤m)))∧W=w'):=inRange_any
 have H0:Hid (ctS w w.heap.size C s (w.alloc (.cells (coL C s).toArray 41))):=ctS.new w C s
 have y0:=H0.out.p.cell 0 (.int .i64 C.p) rfl
 clear hv hc hm hz;go_enter Tryz.func83,Tryz.ntmps83
 generalize hW0:w.alloc (.cells (coL C s).toArray 41)=W0 at *;by_cases hin:0≤C.p∧C.p≤7
 ·have din:decide (0≤C.p∧C.p≤7)=true:=by simpa using hin
  have HIN:Hid (0≤C.p∧C.p≤7):=hin
  have HC:Hid (∀ W,Below w.heap.size w W→Calls Tryz.prog 141 #[.agg (coL C s).toArray] W fun o w'=>retB o CP∧Below W.heap.size W w'):=HC0.out hin
  have HM:Hid (∀ W,Below w.heap.size w W→Calls Tryz.prog 142 #[.agg (coL C s).toArray] W fun o w'=>retB o MP∧Below W.heap.size W w'):=HM0.out hin
  clear hin HC0 HM0;go_wp2_with (first
   | (go_at_call 43;refine (HIR.out _ _ _ _).mono ?_;rintro o w2 ⟨rfl,rfl⟩)
   | (refine wpList_load_midG (by first | rfl | (simp[Region.wanted,yielded];done) | (simp[Region.wanted,yielded];omega)) 39 (.tmp 8) rfl w.heap.size 11 rfl (hoL C.ho s) _ H0.out.p.hostAt Tryz.underlying39 rfl (sz39h C.ho s) ?_))
  clear hW0;refine (HV.out _ H0.out.b).mono ?_
  rintro o w1 ⟨⟨b,rfl,hvp⟩,hb1⟩;have H1:Hid (ctS w w.heap.size C s w1):=H0.out.below hb1
  clear hb1 H0 HV y0;cases b
  ·go_wp2_with fail;go_ret;exact⟨⟨false,rfl,by simp only[Bool.false_eq_true,false_iff];rintro⟨_,h,_⟩;exact absurd (hvp.2 h) (by simp)⟩,H1.out.b⟩
  have HVP:Hid VP:=hvp.1 rfl
  have HS:Hid (∀ W,Below w.heap.size w W→Calls Tryz.prog 143 #[.agg (coL C s).toArray] W fun o w'=>retB o SP∧Below W.heap.size W w'):=HZ0.out HVP.out
  clear hvp HZ0;go_wp2_with fail;refine wp_region_held (S:=fun X=>ctS w w.heap.size C s X) (by kernel_rfl) ?_
  have hS:ctS w w.heap.size C s (World.drew w1):=H1.out.below (Below.refl _ _).drew
  clear H1;change wpAnyH Tryz.prog _ _ _ _ _ _ _ (World.drew w1)
  generalize World.drew w1=v0 at *;refine wU 0 (.agg (coL C s).toArray) rfl (by kernel_rfl) (yieldsIf_load_mid (by rfl) 41 (.tmp 1) rfl w.heap.size 0 rfl (coL C s) _ (fun X h=>h.p.load) Tryz.underlying41 rfl (szC41L C s)) hS ?_ fun _ _ _ h=>h
  simp only[Act.put,aA,aB,aC,aD,aE]
  refine wpAnyH_all (rs:=[1]) (by kernel_rfl) (by simp) ?_
  refine AllReadyH.cons rfl (fun K2 hK2=>?_) AllReadyH.nil
  go_simp;refine (HC.out _ hS.b).mono ?_
  rintro o v1 ⟨⟨b,rfl,hx⟩,hb⟩;have hS1:=hS.below hb
  have HXC:Hid (b=true↔CP):=hx
  clear hb hx;go_wp2_with fail;refine hK2.out _ _ hS1 (fun hS2=>?_)
  clear hK2 K2 hS1 hS;have hS:=hS2
  clear hS2;cases b
  ·refine wV 2 (.bool false) rfl (by kernel_rfl) ?_ hS ?_ fun _ _ _ h=>h
   ·intro W hSw;clear hS;go_simp
   simp only[Act.put,aA,aB,aC,aD,aE,aF];refine wW 3 rfl (by kernel_rfl) hS ?_ fun _ _ _ h=>h
   simp only[Act.put,aA,aB,aC,aD,aE,aF];refine wW 4 rfl (by kernel_rfl) hS ?_ fun _ _ _ h=>h
   simp only[Act.put,aA,aB,aC,aD,aE,aF];refine wV 5 (.bool false) rfl (by kernel_rfl) ?_ hS ?_ fun _ _ _ h=>h
   ·intro W hSw;clear hS;go_simp
   simp only[Act.put,aA,aB,aC,aD,aE,aF];refine wV 6 (.bool false) rfl (by kernel_rfl) ?_ hS ?_ fun _ _ _ h=>h
   ·intro W hSw;clear hS;go_simp
   simp only[Act.put,aA,aB,aC,aD,aE,aF];refine wW 7 rfl (by kernel_rfl) hS ?_ fun _ _ _ h=>h
   simp only[Act.put,aA,aB,aC,aD,aE,aF];refine wW 8 rfl (by kernel_rfl) hS ?_ fun _ _ _ h=>h
   simp only[Act.put,aA,aB,aC,aD,aE,aF];refine wW 9 rfl (by kernel_rfl) hS ?_ fun _ _ _ h=>h
   simp only[Act.put,aA,aB,aC,aD,aE,aF];refine wW 10 rfl (by kernel_rfl) hS ?_ fun _ _ _ h=>h
   simp only[Act.put,aA,aB,aC,aD,aE,aF];refine wW 11 rfl (by kernel_rfl) hS ?_ fun _ _ _ h=>h
   simp only[Act.put,aA,aB,aC,aD,aE,aF];refine wW 12 rfl (by kernel_rfl) hS ?_ fun _ _ _ h=>h
   simp only[Act.put,aA,aB,aC,aD,aE,aF];refine wW 13 rfl (by kernel_rfl) hS ?_ fun _ _ _ h=>h
   simp only[Act.put,aA,aB,aC,aD,aE,aF];refine wW 14 rfl (by kernel_rfl) hS ?_ fun _ _ _ h=>h
   simp only[Act.put,aA,aB,aC,aD,aE,aF];refine wW 15 rfl (by kernel_rfl) hS ?_ fun _ _ _ h=>h
   simp only[Act.put,aA,aB,aC,aD,aE,aF];refine wW 16 rfl (by kernel_rfl) hS ?_ fun _ _ _ h=>h
   simp only[Act.put,aA,aB,aC,aD,aE,aF];refine wV 17 (.bool false) rfl (by kernel_rfl) ?_ hS ?_ fun _ _ _ h=>h
   ·intro W hSw;clear hS;go_simp
   simp only[Act.put,aA,aB,aC,aD,aE,aF];refine wV 18 (.bool false) rfl (by kernel_rfl) ?_ hS ?_ fun _ _ _ h=>h
   ·intro W hSw;clear hS;go_simp
   simp only[Act.put,aA,aB,aC,aD,aE,aF];refine wpAnyH_done (by kernel_rfl) ?_ _
   go_wp2_with fail;go_ret;exact⟨⟨_,rfl,by simp only[Bool.false_eq_true,false_iff];rintro⟨_,_,h,_⟩;exact absurd (HXC.out.2 h) (by simp)⟩,hS.b⟩
  refine wV 2 (.bool true) rfl (by kernel_rfl) ?_ hS ?_ fun _ _ _ h=>h
  ·intro W hSw;clear hS;go_simp
  simp only[Act.put,aA,aB,aC,aD,aE,aF];refine wU 3 (.agg (coL C s).toArray) rfl (by kernel_rfl) (yieldsIf_load_mid (by rfl) 41 (.tmp 1) rfl w.heap.size 0 rfl (coL C s) _ (fun X h=>h.p.load) Tryz.underlying41 rfl (szC41L C s)) hS ?_ fun _ _ _ h=>h
  simp only[Act.put,aA,aB,aC,aD,aE,aF];refine wpAnyH_all (rs:=[4]) (by kernel_rfl) (by simp) ?_
  refine AllReadyH.cons rfl (fun K2 hK2=>?_) AllReadyH.nil
  go_simp;refine (HM.out _ hS.b).mono ?_
  rintro o v2 ⟨⟨b,rfl,hx⟩,hb⟩;have hS1:=hS.below hb
  have HXM:Hid (b=true↔MP):=hx
  clear hb hx;go_wp2_with fail;refine hK2.out _ _ hS1 (fun hS2=>?_)
  clear hK2 K2 hS1 hS;have hS:=hS2
  clear hS2;cases b
  ·refine wV 5 (.bool false) rfl (by kernel_rfl) ?_ hS ?_ fun _ _ _ h=>h
   ·intro W hSw;clear hS;go_simp
   simp only[Act.put,aA,aB,aC,aD,aE,aF];refine wV 6 (.bool false) rfl (by kernel_rfl) ?_ hS ?_ fun _ _ _ h=>h
   ·intro W hSw;clear hS;go_simp
   simp only[Act.put,aA,aB,aC,aD,aE,aF];refine wW 7 rfl (by kernel_rfl) hS ?_ fun _ _ _ h=>h
   simp only[Act.put,aA,aB,aC,aD,aE,aF];refine wW 8 rfl (by kernel_rfl) hS ?_ fun _ _ _ h=>h
   simp only[Act.put,aA,aB,aC,aD,aE,aF];refine wW 9 rfl (by kernel_rfl) hS ?_ fun _ _ _ h=>h
   simp only[Act.put,aA,aB,aC,aD,aE,aF];refine wW 10 rfl (by kernel_rfl) hS ?_ fun _ _ _ h=>h
   simp only[Act.put,aA,aB,aC,aD,aE,aF];refine wW 11 rfl (by kernel_rfl) hS ?_ fun _ _ _ h=>h
   simp only[Act.put,aA,aB,aC,aD,aE,aF];refine wW 12 rfl (by kernel_rfl) hS ?_ fun _ _ _ h=>h
   simp only[Act.put,aA,aB,aC,aD,aE,aF];refine wW 13 rfl (by kernel_rfl) hS ?_ fun _ _ _ h=>h
   simp only[Act.put,aA,aB,aC,aD,aE,aF];refine wW 14 rfl (by kernel_rfl) hS ?_ fun _ _ _ h=>h
   simp only[Act.put,aA,aB,aC,aD,aE,aF];refine wW 15 rfl (by kernel_rfl) hS ?_ fun _ _ _ h=>h
   simp only[Act.put,aA,aB,aC,aD,aE,aF];refine wW 16 rfl (by kernel_rfl) hS ?_ fun _ _ _ h=>h
   simp only[Act.put,aA,aB,aC,aD,aE,aF];refine wV 17 (.bool false) rfl (by kernel_rfl) ?_ hS ?_ fun _ _ _ h=>h
   ·intro W hSw;clear hS;go_simp
   simp only[Act.put,aA,aB,aC,aD,aE,aF];refine wV 18 (.bool false) rfl (by kernel_rfl) ?_ hS ?_ fun _ _ _ h=>h
   ·intro W hSw;clear hS;go_simp
   simp only[Act.put,aA,aB,aC,aD,aE,aF];refine wpAnyH_done (by kernel_rfl) ?_ _
   go_wp2_with fail;go_ret;exact⟨⟨_,rfl,by simp only[Bool.false_eq_true,false_iff];rintro⟨_,_,_,h,_⟩;exact absurd (HXM.out.2 h) (by simp)⟩,hS.b⟩
  refine wV 5 (.bool true) rfl (by kernel_rfl) ?_ hS ?_ fun _ _ _ h=>h
  ·intro W hSw;clear hS;go_simp
  simp only[Act.put,aA,aB,aC,aD,aE,aF];refine wV 6 (.bool true) rfl (by kernel_rfl) ?_ hS ?_ fun _ _ _ h=>h
  ·intro W hSw;clear hS;go_simp
  simp only[Act.put,aA,aB,aC,aD,aE,aF];refine wU 7 (.agg (coL C s).toArray) rfl (by kernel_rfl) (yieldsIf_load_mid (by rfl) 41 (.tmp 1) rfl w.heap.size 0 rfl (coL C s) _ (fun X h=>h.p.load) Tryz.underlying41 rfl (szC41L C s)) hS ?_ fun _ _ _ h=>h
  simp only[Act.put,aA,aB,aC,aD,aE,aF];refine wV 9 (.pointer (some ⟨w.heap.size,0,none⟩)) rfl (by kernel_rfl) ?_ hS ?_ fun _ _ _ h=>h
  ·intro W hSw;clear hS;go_simp
  simp only[Act.put,aA,aB,aC,aD,aE,aF];refine wV 10 (.int .i64 C.p) rfl (by kernel_rfl) ?_ hS ?_ fun _ _ _ h=>h
  ·intro W hSw;clear hS;have y:=hSw.p.cell 0 (.int .i64 C.p) rfl
   go_simp
  simp only[Act.put,aA,aB,aC,aD,aE,aF];by_cases hp1:C.p=1
  ·have dp1:(C.p == 1)=true:=by simpa using hp1
   refine wV 11 (.bool true) rfl (by kernel_rfl) ?_ hS ?_ fun _ _ _ h=>h
   ·intro W hSw;clear hS;go_simp
   simp only[Act.put,aA,aB,aC,aD,aE,aF];refine wpAnyH_all (rs:=[8]) (by kernel_rfl) (by simp) ?_
   refine AllReadyH.cons rfl (fun K2 hK2=>?_) AllReadyH.nil
   go_simp;refine (HS.out _ hS.b).mono ?_
   rintro o v3 ⟨⟨b,rfl,hx⟩,hb⟩;have hS1:=hS.below hb
   have HXS:Hid (b=true↔SP):=hx
   clear hb hx;go_wp2_with fail;refine hK2.out _ _ hS1 (fun hS2=>?_)
   clear hK2 K2 hS1 hS;have hS:=hS2
   clear hS2;refine wV 12 (.bool true) rfl (by kernel_rfl) ?_ hS ?_ fun _ _ _ h=>h
   ·intro W hSw;clear hS;go_simp
   simp only[Act.put,aA,aB,aC,aD,aE,aF];refine wV 13 (.pointer (some ⟨w.heap.size,6,none⟩)) rfl (by kernel_rfl) ?_ hS ?_ fun _ _ _ h=>h
   ·intro W hSw;clear hS;go_simp
   simp only[Act.put,aA,aB,aC,aD,aE,aF];refine wV 14 (.bool C.tx) rfl (by kernel_rfl) ?_ hS ?_ fun _ _ _ h=>h
   ·intro W hSw;clear hS;have y:=hSw.p.cell 6 (.bool C.tx) rfl
    go_simp
   simp only[Act.put,aA,aB,aC,aD,aE,aF];refine wV 15 (.bool C.tx) rfl (by kernel_rfl) ?_ hS ?_ fun _ _ _ h=>h
   ·intro W hSw;clear hS;go_simp
   simp only[Act.put,aA,aB,aC,aD,aE,aF];refine wV 16 (.bool (b == C.tx)) rfl (by kernel_rfl) ?_ hS ?_ fun _ _ _ h=>h
   ·intro W hSw;clear hS;go_simp
   simp only[Act.put,aA,aB,aC,aD,aE,aF];refine wV 17 (.bool (b == C.tx)) rfl (by kernel_rfl) ?_ hS ?_ fun _ _ _ h=>h
   ·intro W hSw;clear hS;go_simp
   simp only[Act.put,aA,aB,aC,aD,aE,aF];refine wV 18 (.bool (b == C.tx)) rfl (by kernel_rfl) ?_ hS ?_ fun _ _ _ h=>h
   ·intro W hSw;clear hS;go_simp
   simp only[Act.put,aA,aB,aC,aD,aE,aF];have h1:=HXC.out.1 (by simp)
   have h2:=HXM.out.1 (by simp)
   have h3:=HXS.out
   have h4:=HVP.out
   have h5:=HIN.out
   refine wpAnyH_done (by kernel_rfl) ?_ _
   go_wp2_with fail;go_ret;refine⟨⟨_,rfl,?_⟩,hS.b⟩
   simp only[h1,h2,h4,h5,true_and,← h3]
   generalize C.tx=q
   cases b <;> cases q <;> simp[hp1]
  ·have dp1:(C.p == 1)=false:=by simpa using hp1
   refine wV 11 (.bool false) rfl (by kernel_rfl) ?_ hS ?_ fun _ _ _ h=>h
   ·intro W hSw;clear hS;go_simp
   simp only[Act.put,aA,aB,aC,aD,aE,aF];refine wpAnyH_all (rs:=[8]) (by kernel_rfl) (by simp) ?_
   refine AllReadyH.cons rfl (fun K2 hK2=>?_) AllReadyH.nil
   go_simp;refine (HS.out _ hS.b).mono ?_
   rintro o v3 ⟨⟨b,rfl,hx⟩,hb⟩;have hS1:=hS.below hb
   have HXS:Hid (b=true↔SP):=hx
   clear hb hx;go_wp2_with fail;refine hK2.out _ _ hS1 (fun hS2=>?_)
   clear hK2 K2 hS1 hS;have hS:=hS2
   clear hS2;refine wV 12 (.bool false) rfl (by kernel_rfl) ?_ hS ?_ fun _ _ _ h=>h
   ·intro W hSw;clear hS;go_simp
   simp only[Act.put,aA,aB,aC,aD,aE,aF];refine wW 13 rfl (by kernel_rfl) hS ?_ fun _ _ _ h=>h
   simp only[Act.put,aA,aB,aC,aD,aE,aF];refine wW 14 rfl (by kernel_rfl) hS ?_ fun _ _ _ h=>h
   simp only[Act.put,aA,aB,aC,aD,aE,aF];refine wV 15 (.bool false) rfl (by kernel_rfl) ?_ hS ?_ fun _ _ _ h=>h
   ·intro W hSw;clear hS;go_simp
   simp only[Act.put,aA,aB,aC,aD,aE,aF];refine wV 16 (.bool (!b)) rfl (by kernel_rfl) ?_ hS ?_ fun _ _ _ h=>h
   ·intro W hSw;clear hS;go_simp
   simp only[Act.put,aA,aB,aC,aD,aE,aF];refine wV 17 (.bool (!b)) rfl (by kernel_rfl) ?_ hS ?_ fun _ _ _ h=>h
   ·intro W hSw;clear hS;go_simp
   simp only[Act.put,aA,aB,aC,aD,aE,aF];refine wV 18 (.bool (!b)) rfl (by kernel_rfl) ?_ hS ?_ fun _ _ _ h=>h
   ·intro W hSw;clear hS;go_simp
   simp only[Act.put,aA,aB,aC,aD,aE,aF];have h1:=HXC.out.1 (by simp)
   have h2:=HXM.out.1 (by simp)
   have h3:=HXS.out
   have h4:=HVP.out
   have h5:=HIN.out
   refine wpAnyH_done (by kernel_rfl) ?_ _
   go_wp2_with fail;go_ret;refine⟨⟨_,rfl,?_⟩,hS.b⟩
   simp only[h1,h2,h4,h5,true_and,← h3]
   cases b <;> simp[hp1]
 ·have din:decide (0≤C.p∧C.p≤7)=false:=by simpa using hin
  go_wp2_with (first
   | (go_at_call 43;refine (HIR.out _ _ _ _).mono ?_;rintro o w2 ⟨rfl,rfl⟩))
  go_ret;exact⟨⟨false,rfl,by simp only[Bool.false_eq_true,false_iff];rintro⟨h,_⟩;exact hin h⟩,H0.out.b⟩
end Go.Proofs.YtkfcfigbgmbaiaaGreat
