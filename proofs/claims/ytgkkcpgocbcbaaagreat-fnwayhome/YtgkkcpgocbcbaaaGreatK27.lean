import Derived.Test.YtgkkcpgocbcbaaaGreatK26
import Derived.Test.YtgkkcpgocbcbaaaGreatK23
import Derived.Test.YtgkkcpgocbcbaaaGreatK25
import Derived.Test.YtgkkcpgocbcbaaaGreatK04
import Derived.Deep.RegionHeld3
import Derived.Test.YtgkkcpgocbcbaaaGreatK21
import Derived.Test.YtgkkcpgocbcbaaaGreatK03
namespace Go.Proofs.YtgkkcpgocbcbaaaGreat
open Go.RowKit
set_option linter.unusedVariables false
theorem rowQ8.F {B T E g n k:Nat} {bs:List R8} {W:World} (h:rowQ8 B T E g n k bs W):B≤g∧g<T∧rowF W g (n*8):=by
 obtain⟨rs,h2,_,h4,h5,_⟩:=h
 refine⟨h2.lt.1,h5,?_⟩
 rcases ownsRow_split h2.own with⟨e,_⟩|⟨g',cap,e,_,_,_,hr,_⟩
 ·cases e
 ·injection e with e1 e2 e3
  injection e1 with e1
  injection e1 with e1
  subst e1
  rw[h4] at hr
  exact hr
theorem l3copy_anyN (w:World) (H:Ho) (s:Sl) (h:isHo w H s) (hn:H.le 1048576) :
  Calls Tryz.prog 14 #[hoV H s] w fun o w'=>∃ s',o = .returned (hoV H s')∧St (w.heap.size+3) w' (fun W=>isHo W H s')∧Below w.heap.size w w':=by
 refine (l3copy_own w H s h hn).mono ?_
 rintro o w' ⟨gf,kf,gb,kb,gq,kq,g4,k4,T0,T1,T2,T3,rfl,_,hs,hb⟩
 exact⟨_,rfl,fun V hV=>⟨(hs V hV).1,(hs V hV).2.1.is,(hs V hV).2.2.1.is,(hs V hV).2.2.2.is⟩,hb⟩
abbrev zHo:Ho:=⟨0,0,0,0,[],[],[],[],0,0⟩
abbrev zSl:Sl:=⟨none,0,0,none,0,0,none,0,0,none,0,0⟩
theorem okL (W:World) (H:Ho) (s:Sl) (h:isHo W H s) (hn:H.le 1048576) (hok:okHo H):Calls Tryz.prog 15 #[.agg (hoL H s).toArray] W fun o w'=>o = .returned (.bool true)∧Below W.heap.size W w':=(l3ok_any W H s h hn).mono (by rintro o w' ⟨⟨b,rfl,hb⟩,h2⟩;rw[hb.2 hok];exact⟨rfl,h2⟩)
theorem whS.mono {B T B' T':Nat} {W:World} {s:Wh} (h:whS B T W s) (hB:B'≤B) (hT:T≤T'):whS B' T' W s:=
 ⟨h.f,h.fc,⟨by have:=h.fb.1;omega,by have:=h.fb.2;omega⟩,h.x,h.xb.mono hB hT,h.r,h.rb.mono hB hT,h.q,h.qb.mono hB hT,h.m1,h.m2,h.m3,h.m4⟩
theorem toldQ.put {w w3 w4 w8:World} {H:Ho} {s4:Wh} {R:Nat} (hz:w.heap.size≤w3.heap.size) (hR:R<w3.heap.size) (q1:St w3.heap.size w4 (fun W=>isHo W H s4.sl)) (q2:whS w3.heap.size w4.heap.size w4 s4) (oth:∀ x,x≠R→w8.heap[x]?=w4.heap[x]?) (hs:w8.heap.size=w4.heap.size):St w.heap.size w8 (fun W=>isHo W H s4.sl)∧whS w.heap.size w8.heap.size w8 s4:=by
 refine⟨fun W hW=>q1 W (fun x h1 h2=>(hW x (by omega) (by omega)).trans (oth x (by omega))),?_⟩
 rw[hs]
 exact (q2.same (fun x h1 h2=>oth x (by omega))).mono hz (Nat.le_refl _)
theorem vOk (W:World) (H:Ho) (s:Sl) (h:isHo W H s) (hn:H.le 1048576) (hok:okHo H):Calls Tryz.prog 44 #[.agg (hoL H s).toArray] W fun o w'=>o = .returned (.bool true)∧Below W.heap.size W w':=(validHost_any W H s h hn).mono (by rintro o w' ⟨⟨b,rfl,hb⟩,h2⟩;rw[hb.2 hok];exact⟨rfl,h2⟩)
theorem vBad (W:World) (H:Ho) (s:Sl) (h:isHo W H s) (hn:H.le 1048576) (hok:¬ okHo H):Calls Tryz.prog 44 #[.agg (hoL H s).toArray] W fun o w'=>o = .returned (.bool false)∧Below W.heap.size W w':=(validHost_any W H s h hn).mono (by rintro o w' ⟨⟨b,rfl,hb⟩,h2⟩;cases b;exact⟨rfl,h2⟩;exact absurd (hb.1 rfl) hok)
def toldC (w:World) (C:Co) (o:Ending) (w':World):Prop:=∃ s4:Wh,o = .returned (.agg (coL C s4.sl).toArray)∧St w.heap.size w' (fun W=>isHo W C.ho s4.sl)∧whS w.heap.size w'.heap.size w' s4∧whD s4∧whE s4∧Below w.heap.size w w'
set_option maxHeartbeats 8000000 in
set_option maxRecDepth 20000 in
theorem mtold_any (w:World) (M P:Nat) (C:Co) (hm:blk w M (mcL P C) 106) (ht:∀ X,Below w.heap.size w X→Calls Tryz.prog 46 #[.pointer (some ⟨P,0,none⟩)] X (toldQ X C.ho)) :
  Calls Tryz.prog 39 #[.pointer (some ⟨M,0,none⟩)] w (toldC w C):=by
 have HT:Hid (∀ X,Below w.heap.size w X→Calls Tryz.prog 46 #[.pointer (some ⟨P,0,none⟩)] X (toldQ X C.ho)):=ht
 have HA:Hid (Below w.heap.size w (w.alloc (.cells Z21.toArray 39))):=(Below.refl _ _).alloc (Nat.le_refl _) _
 have HM:Hid (blk (w.alloc (.cells Z21.toArray 39)) M (mcL P C) 106∧blk (w.alloc (.cells Z21.toArray 39)) w.heap.size Z21 39∧Below w.heap.size w (w.alloc (.cells Z21.toArray 39))):=⟨hm.below HA.out,blk.new w _ 39,HA.out⟩
 clear hm ht HA
 go_enter Tryz.func39,Tryz.ntmps39
 go_wp2_with fail
 refine wp_region_held (S:=fun X=>blk X M (mcL P C) 106∧(∃ l:List Value,l.length=21∧blk X w.heap.size l 39)∧Below w.heap.size w X) (by kernel_rfl) ?_
 have hS:(fun X=>blk X M (mcL P C) 106∧(∃ l:List Value,l.length=21∧blk X w.heap.size l 39)∧Below w.heap.size w X) (World.drew (w.alloc (.cells Z21.toArray 39))):=⟨HM.out.1.below (Below.refl _ _).drew,⟨Z21,rfl,HM.out.2.1.below (Below.refl _ _).drew⟩,HM.out.2.2.drew⟩
 clear HM
 change wpAnyH Tryz.prog _ _ _ _ _ _ _ (World.drew (w.alloc (.cells Z21.toArray 39)))
 generalize World.drew (w.alloc (.cells Z21.toArray 39))=v0 at *
 refine wT (i:=0) (v:=.pointer (some ⟨M,0,none⟩)) rfl (by kernel_rfl) (by kernel_rfl) (by kernel_rfl) (fun _ _ _ h=>h) (Or.inl ⟨by rfl,?_⟩) hS ?_
 ·intro W hSw
  clear hS
  go_simp
 simp only[Act.put,aA,aB,aC,aD,aE]
 refine wT (i:=1) (v:=.pointer (some ⟨M,0,none⟩)) rfl (by kernel_rfl) (by kernel_rfl) (by kernel_rfl) (fun _ _ _ h=>h) (Or.inl ⟨by rfl,?_⟩) hS ?_
 ·intro W hSw
  clear hS
  go_simp
 simp only[Act.put,aA,aB,aC,aD,aE,aF]
 refine wT (i:=2) (v:=.pointer (some ⟨M,3,none⟩)) rfl (by kernel_rfl) (by kernel_rfl) (by kernel_rfl) (fun _ _ _ h=>h) (Or.inl ⟨by rfl,?_⟩) hS ?_
 ·intro W hSw
  clear hS
  go_simp
 simp only[Act.put,aA,aB,aC,aD,aE,aF]
 refine wT (i:=3) (v:=.pointer (some ⟨M,3,none⟩)) rfl (by kernel_rfl) (by kernel_rfl) (by kernel_rfl) (fun _ _ _ h=>h) (Or.inl ⟨by rfl,?_⟩) hS ?_
 ·intro W hSw
  clear hS
  go_simp
 simp only[Act.put,aA,aB,aC,aD,aE,aF]
 refine wT (i:=4) (v:=.int .i64 C.p) rfl (by kernel_rfl) (by kernel_rfl) (by kernel_rfl) (fun _ _ _ h=>h) (Or.inl ⟨by rfl,?_⟩) hS ?_
 ·intro W hSw
  clear hS
  have y:=hSw.1.cell 3 (.int .i64 C.p) rfl
  go_simp
 simp only[Act.put,aA,aB,aC,aD,aE,aF]
 refine wT (i:=5) (v:=.pointer (some ⟨M,0,none⟩)) rfl (by kernel_rfl) (by kernel_rfl) (by kernel_rfl) (fun _ _ _ h=>h) (Or.inl ⟨by rfl,?_⟩) hS ?_
 ·intro W hSw
  clear hS
  go_simp
 simp only[Act.put,aA,aB,aC,aD,aE,aF]
 refine wT (i:=6) (v:=.pointer (some ⟨M,0,none⟩)) rfl (by kernel_rfl) (by kernel_rfl) (by kernel_rfl) (fun _ _ _ h=>h) (Or.inl ⟨by rfl,?_⟩) hS ?_
 ·intro W hSw
  clear hS
  go_simp
 simp only[Act.put,aA,aB,aC,aD,aE,aF]
 refine wT (i:=7) (v:=.pointer (some ⟨M,3,none⟩)) rfl (by kernel_rfl) (by kernel_rfl) (by kernel_rfl) (fun _ _ _ h=>h) (Or.inl ⟨by rfl,?_⟩) hS ?_
 ·intro W hSw
  clear hS
  go_simp
 simp only[Act.put,aA,aB,aC,aD,aE,aF]
 refine wT (i:=8) (v:=.pointer (some ⟨M,4,none⟩)) rfl (by kernel_rfl) (by kernel_rfl) (by kernel_rfl) (fun _ _ _ h=>h) (Or.inl ⟨by rfl,?_⟩) hS ?_
 ·intro W hSw
  clear hS
  go_simp
 simp only[Act.put,aA,aB,aC,aD,aE,aF]
 refine wT (i:=9) (v:=.int .i64 C.ct) rfl (by kernel_rfl) (by kernel_rfl) (by kernel_rfl) (fun _ _ _ h=>h) (Or.inl ⟨by rfl,?_⟩) hS ?_
 ·intro W hSw
  clear hS
  have y:=hSw.1.cell 4 (.int .i64 C.ct) rfl
  go_simp
 simp only[Act.put,aA,aB,aC,aD,aE,aF]
 refine wT (i:=10) (v:=.pointer (some ⟨M,0,none⟩)) rfl (by kernel_rfl) (by kernel_rfl) (by kernel_rfl) (fun _ _ _ h=>h) (Or.inl ⟨by rfl,?_⟩) hS ?_
 ·intro W hSw
  clear hS
  go_simp
 simp only[Act.put,aA,aB,aC,aD,aE,aF]
 refine wT (i:=11) (v:=.pointer (some ⟨M,0,none⟩)) rfl (by kernel_rfl) (by kernel_rfl) (by kernel_rfl) (fun _ _ _ h=>h) (Or.inl ⟨by rfl,?_⟩) hS ?_
 ·intro W hSw
  clear hS
  go_simp
 simp only[Act.put,aA,aB,aC,aD,aE,aF]
 refine wT (i:=12) (v:=.pointer (some ⟨M,3,none⟩)) rfl (by kernel_rfl) (by kernel_rfl) (by kernel_rfl) (fun _ _ _ h=>h) (Or.inl ⟨by rfl,?_⟩) hS ?_
 ·intro W hSw
  clear hS
  go_simp
 simp only[Act.put,aA,aB,aC,aD,aE,aF]
 refine wT (i:=13) (v:=.pointer (some ⟨M,5,none⟩)) rfl (by kernel_rfl) (by kernel_rfl) (by kernel_rfl) (fun _ _ _ h=>h) (Or.inl ⟨by rfl,?_⟩) hS ?_
 ·intro W hSw
  clear hS
  go_simp
 simp only[Act.put,aA,aB,aC,aD,aE,aF]
 refine wT (i:=14) (v:=.int .i64 C.lv) rfl (by kernel_rfl) (by kernel_rfl) (by kernel_rfl) (fun _ _ _ h=>h) (Or.inl ⟨by rfl,?_⟩) hS ?_
 ·intro W hSw
  clear hS
  have y:=hSw.1.cell 5 (.int .i64 C.lv) rfl
  go_simp
 simp only[Act.put,aA,aB,aC,aD,aE,aF]
 refine wT (i:=15) (v:=.pointer (some ⟨M,0,none⟩)) rfl (by kernel_rfl) (by kernel_rfl) (by kernel_rfl) (fun _ _ _ h=>h) (Or.inl ⟨by rfl,?_⟩) hS ?_
 ·intro W hSw
  clear hS
  go_simp
 simp only[Act.put,aA,aB,aC,aD,aE,aF]
 refine wT (i:=16) (v:=.pointer (some ⟨M,0,none⟩)) rfl (by kernel_rfl) (by kernel_rfl) (by kernel_rfl) (fun _ _ _ h=>h) (Or.inl ⟨by rfl,?_⟩) hS ?_
 ·intro W hSw
  clear hS
  go_simp
 simp only[Act.put,aA,aB,aC,aD,aE,aF]
 refine wT (i:=17) (v:=.pointer (some ⟨M,3,none⟩)) rfl (by kernel_rfl) (by kernel_rfl) (by kernel_rfl) (fun _ _ _ h=>h) (Or.inl ⟨by rfl,?_⟩) hS ?_
 ·intro W hSw
  clear hS
  go_simp
 simp only[Act.put,aA,aB,aC,aD,aE,aF]
 refine wT (i:=18) (v:=.pointer (some ⟨M,6,none⟩)) rfl (by kernel_rfl) (by kernel_rfl) (by kernel_rfl) (fun _ _ _ h=>h) (Or.inl ⟨by rfl,?_⟩) hS ?_
 ·intro W hSw
  clear hS
  go_simp
 simp only[Act.put,aA,aB,aC,aD,aE,aF]
 refine wT (i:=19) (v:=.bool C.wk) rfl (by kernel_rfl) (by kernel_rfl) (by kernel_rfl) (fun _ _ _ h=>h) (Or.inl ⟨by rfl,?_⟩) hS ?_
 ·intro W hSw
  clear hS
  have y:=hSw.1.cell 6 (.bool C.wk) rfl
  go_simp
 simp only[Act.put,aA,aB,aC,aD,aE,aF]
 refine wT (i:=20) (v:=.pointer (some ⟨M,0,none⟩)) rfl (by kernel_rfl) (by kernel_rfl) (by kernel_rfl) (fun _ _ _ h=>h) (Or.inl ⟨by rfl,?_⟩) hS ?_
 ·intro W hSw
  clear hS
  go_simp
 simp only[Act.put,aA,aB,aC,aD,aE,aF]
 refine wT (i:=21) (v:=.pointer (some ⟨M,0,none⟩)) rfl (by kernel_rfl) (by kernel_rfl) (by kernel_rfl) (fun _ _ _ h=>h) (Or.inl ⟨by rfl,?_⟩) hS ?_
 ·intro W hSw
  clear hS
  go_simp
 simp only[Act.put,aA,aB,aC,aD,aE,aF]
 refine wT (i:=22) (v:=.pointer (some ⟨M,3,none⟩)) rfl (by kernel_rfl) (by kernel_rfl) (by kernel_rfl) (fun _ _ _ h=>h) (Or.inl ⟨by rfl,?_⟩) hS ?_
 ·intro W hSw
  clear hS
  go_simp
 simp only[Act.put,aA,aB,aC,aD,aE,aF]
 refine wT (i:=23) (v:=.pointer (some ⟨M,7,none⟩)) rfl (by kernel_rfl) (by kernel_rfl) (by kernel_rfl) (fun _ _ _ h=>h) (Or.inl ⟨by rfl,?_⟩) hS ?_
 ·intro W hSw
  clear hS
  go_simp
 simp only[Act.put,aA,aB,aC,aD,aE,aF]
 refine wT (i:=24) (v:=.bool C.ov) rfl (by kernel_rfl) (by kernel_rfl) (by kernel_rfl) (fun _ _ _ h=>h) (Or.inl ⟨by rfl,?_⟩) hS ?_
 ·intro W hSw
  clear hS
  have y:=hSw.1.cell 7 (.bool C.ov) rfl
  go_simp
 simp only[Act.put,aA,aB,aC,aD,aE,aF]
 refine wT (i:=25) (v:=.pointer (some ⟨M,0,none⟩)) rfl (by kernel_rfl) (by kernel_rfl) (by kernel_rfl) (fun _ _ _ h=>h) (Or.inl ⟨by rfl,?_⟩) hS ?_
 ·intro W hSw
  clear hS
  go_simp
 simp only[Act.put,aA,aB,aC,aD,aE,aF]
 refine wT (i:=26) (v:=.pointer (some ⟨M,0,none⟩)) rfl (by kernel_rfl) (by kernel_rfl) (by kernel_rfl) (fun _ _ _ h=>h) (Or.inl ⟨by rfl,?_⟩) hS ?_
 ·intro W hSw
  clear hS
  go_simp
 simp only[Act.put,aA,aB,aC,aD,aE,aF]
 refine wT (i:=27) (v:=.pointer (some ⟨M,3,none⟩)) rfl (by kernel_rfl) (by kernel_rfl) (by kernel_rfl) (fun _ _ _ h=>h) (Or.inl ⟨by rfl,?_⟩) hS ?_
 ·intro W hSw
  clear hS
  go_simp
 simp only[Act.put,aA,aB,aC,aD,aE,aF]
 refine wT (i:=28) (v:=.pointer (some ⟨M,8,none⟩)) rfl (by kernel_rfl) (by kernel_rfl) (by kernel_rfl) (fun _ _ _ h=>h) (Or.inl ⟨by rfl,?_⟩) hS ?_
 ·intro W hSw
  clear hS
  go_simp
 simp only[Act.put,aA,aB,aC,aD,aE,aF]
 refine wT (i:=29) (v:=.bool C.ow) rfl (by kernel_rfl) (by kernel_rfl) (by kernel_rfl) (fun _ _ _ h=>h) (Or.inl ⟨by rfl,?_⟩) hS ?_
 ·intro W hSw
  clear hS
  have y:=hSw.1.cell 8 (.bool C.ow) rfl
  go_simp
 simp only[Act.put,aA,aB,aC,aD,aE,aF]
 refine wT (i:=30) (v:=.pointer (some ⟨M,0,none⟩)) rfl (by kernel_rfl) (by kernel_rfl) (by kernel_rfl) (fun _ _ _ h=>h) (Or.inl ⟨by rfl,?_⟩) hS ?_
 ·intro W hSw
  clear hS
  go_simp
 simp only[Act.put,aA,aB,aC,aD,aE,aF]
 refine wT (i:=31) (v:=.pointer (some ⟨M,0,none⟩)) rfl (by kernel_rfl) (by kernel_rfl) (by kernel_rfl) (fun _ _ _ h=>h) (Or.inl ⟨by rfl,?_⟩) hS ?_
 ·intro W hSw
  clear hS
  go_simp
 simp only[Act.put,aA,aB,aC,aD,aE,aF]
 refine wT (i:=32) (v:=.pointer (some ⟨M,3,none⟩)) rfl (by kernel_rfl) (by kernel_rfl) (by kernel_rfl) (fun _ _ _ h=>h) (Or.inl ⟨by rfl,?_⟩) hS ?_
 ·intro W hSw
  clear hS
  go_simp
 simp only[Act.put,aA,aB,aC,aD,aE,aF]
 refine wT (i:=33) (v:=.pointer (some ⟨M,9,none⟩)) rfl (by kernel_rfl) (by kernel_rfl) (by kernel_rfl) (fun _ _ _ h=>h) (Or.inl ⟨by rfl,?_⟩) hS ?_
 ·intro W hSw
  clear hS
  go_simp
 simp only[Act.put,aA,aB,aC,aD,aE,aF]
 refine wT (i:=34) (v:=.bool C.tx) rfl (by kernel_rfl) (by kernel_rfl) (by kernel_rfl) (fun _ _ _ h=>h) (Or.inl ⟨by rfl,?_⟩) hS ?_
 ·intro W hSw
  clear hS
  have y:=hSw.1.cell 9 (.bool C.tx) rfl
  go_simp
 simp only[Act.put,aA,aB,aC,aD,aE,aF]
 refine wT (i:=35) (v:=.pointer (some ⟨M,0,none⟩)) rfl (by kernel_rfl) (by kernel_rfl) (by kernel_rfl) (fun _ _ _ h=>h) (Or.inl ⟨by rfl,?_⟩) hS ?_
 ·intro W hSw
  clear hS
  go_simp
 simp only[Act.put,aA,aB,aC,aD,aE,aF]
 refine wT (i:=36) (v:=.pointer (some ⟨M,0,none⟩)) rfl (by kernel_rfl) (by kernel_rfl) (by kernel_rfl) (fun _ _ _ h=>h) (Or.inl ⟨by rfl,?_⟩) hS ?_
 ·intro W hSw
  clear hS
  go_simp
 simp only[Act.put,aA,aB,aC,aD,aE,aF]
 refine wT (i:=37) (v:=.pointer (some ⟨M,3,none⟩)) rfl (by kernel_rfl) (by kernel_rfl) (by kernel_rfl) (fun _ _ _ h=>h) (Or.inl ⟨by rfl,?_⟩) hS ?_
 ·intro W hSw
  clear hS
  go_simp
 simp only[Act.put,aA,aB,aC,aD,aE,aF]
 refine wT (i:=38) (v:=.pointer (some ⟨M,10,none⟩)) rfl (by kernel_rfl) (by kernel_rfl) (by kernel_rfl) (fun _ _ _ h=>h) (Or.inl ⟨by rfl,?_⟩) hS ?_
 ·intro W hSw
  clear hS
  go_simp
 simp only[Act.put,aA,aB,aC,aD,aE,aF]
 refine wT (i:=39) (v:=.bool C.ak) rfl (by kernel_rfl) (by kernel_rfl) (by kernel_rfl) (fun _ _ _ h=>h) (Or.inl ⟨by rfl,?_⟩) hS ?_
 ·intro W hSw
  clear hS
  have y:=hSw.1.cell 10 (.bool C.ak) rfl
  go_simp
 simp only[Act.put,aA,aB,aC,aD,aE,aF]
 refine wT (i:=40) (v:=.pointer (some ⟨M,0,none⟩)) rfl (by kernel_rfl) (by kernel_rfl) (by kernel_rfl) (fun _ _ _ h=>h) (Or.inl ⟨by rfl,?_⟩) hS ?_
 ·intro W hSw
  clear hS
  go_simp
 simp only[Act.put,aA,aB,aC,aD,aE,aF]
 refine wT (i:=41) (v:=.pointer (some ⟨M,0,none⟩)) rfl (by kernel_rfl) (by kernel_rfl) (by kernel_rfl) (fun _ _ _ h=>h) (Or.inl ⟨by rfl,?_⟩) hS ?_
 ·intro W hSw
  clear hS
  go_simp
 simp only[Act.put,aA,aB,aC,aD,aE,aF]
 refine wT (i:=42) (v:=.pointer (some ⟨M,3,none⟩)) rfl (by kernel_rfl) (by kernel_rfl) (by kernel_rfl) (fun _ _ _ h=>h) (Or.inl ⟨by rfl,?_⟩) hS ?_
 ·intro W hSw
  clear hS
  go_simp
 simp only[Act.put,aA,aB,aC,aD,aE,aF]
 refine wT (i:=43) (v:=.pointer (some ⟨M,11,none⟩)) rfl (by kernel_rfl) (by kernel_rfl) (by kernel_rfl) (fun _ _ _ h=>h) (Or.inl ⟨by rfl,?_⟩) hS ?_
 ·intro W hSw
  clear hS
  go_simp
 simp only[Act.put,aA,aB,aC,aD,aE,aF]
 refine wT (i:=44) (v:=.int .i64 C.rn) rfl (by kernel_rfl) (by kernel_rfl) (by kernel_rfl) (fun _ _ _ h=>h) (Or.inl ⟨by rfl,?_⟩) hS ?_
 ·intro W hSw
  clear hS
  have y:=hSw.1.cell 11 (.int .i64 C.rn) rfl
  go_simp
 simp only[Act.put,aA,aB,aC,aD,aE,aF]
 refine wT (i:=45) (v:=.pointer (some ⟨M,0,none⟩)) rfl (by kernel_rfl) (by kernel_rfl) (by kernel_rfl) (fun _ _ _ h=>h) (Or.inl ⟨by rfl,?_⟩) hS ?_
 ·intro W hSw
  clear hS
  go_simp
 simp only[Act.put,aA,aB,aC,aD,aE,aF]
 refine wT (i:=46) (v:=.pointer (some ⟨M,0,none⟩)) rfl (by kernel_rfl) (by kernel_rfl) (by kernel_rfl) (fun _ _ _ h=>h) (Or.inl ⟨by rfl,?_⟩) hS ?_
 ·intro W hSw
  clear hS
  go_simp
 simp only[Act.put,aA,aB,aC,aD,aE,aF]
 refine wT (i:=47) (v:=.pointer (some ⟨M,0,none⟩)) rfl (by kernel_rfl) (by kernel_rfl) (by kernel_rfl) (fun _ _ _ h=>h) (Or.inl ⟨by rfl,?_⟩) hS ?_
 ·intro W hSw
  clear hS
  go_simp
 simp only[Act.put,aA,aB,aC,aD,aE,aF]
 refine wT (i:=48) (v:=.pointer (some ⟨M,1,none⟩)) rfl (by kernel_rfl) (by kernel_rfl) (by kernel_rfl) (fun _ _ _ h=>h) (Or.inl ⟨by rfl,?_⟩) hS ?_
 ·intro W hSw
  clear hS
  go_simp
 simp only[Act.put,aA,aB,aC,aD,aE,aF]
 refine wT (i:=49) (v:=.int .i64 C.te) rfl (by kernel_rfl) (by kernel_rfl) (by kernel_rfl) (fun _ _ _ h=>h) (Or.inl ⟨by rfl,?_⟩) hS ?_
 ·intro W hSw
  clear hS
  have y:=hSw.1.cell 1 (.int .i64 C.te) rfl
  go_simp
 simp only[Act.put,aA,aB,aC,aD,aE,aF]
 refine wT (i:=50) (v:=.pointer (some ⟨M,0,none⟩)) rfl (by kernel_rfl) (by kernel_rfl) (by kernel_rfl) (fun _ _ _ h=>h) (Or.inl ⟨by rfl,?_⟩) hS ?_
 ·intro W hSw
  clear hS
  go_simp
 simp only[Act.put,aA,aB,aC,aD,aE,aF]
 refine wT (i:=51) (v:=.pointer (some ⟨M,0,none⟩)) rfl (by kernel_rfl) (by kernel_rfl) (by kernel_rfl) (fun _ _ _ h=>h) (Or.inl ⟨by rfl,?_⟩) hS ?_
 ·intro W hSw
  clear hS
  go_simp
 simp only[Act.put,aA,aB,aC,aD,aE,aF]
 refine wT (i:=52) (v:=.pointer (some ⟨M,0,none⟩)) rfl (by kernel_rfl) (by kernel_rfl) (by kernel_rfl) (fun _ _ _ h=>h) (Or.inl ⟨by rfl,?_⟩) hS ?_
 ·intro W hSw
  clear hS
  go_simp
 simp only[Act.put,aA,aB,aC,aD,aE,aF]
 refine wT (i:=53) (v:=.pointer (some ⟨M,2,none⟩)) rfl (by kernel_rfl) (by kernel_rfl) (by kernel_rfl) (fun _ _ _ h=>h) (Or.inl ⟨by rfl,?_⟩) hS ?_
 ·intro W hSw
  clear hS
  go_simp
 simp only[Act.put,aA,aB,aC,aD,aE,aF]
 refine wT (i:=54) (v:=.int .i64 C.re) rfl (by kernel_rfl) (by kernel_rfl) (by kernel_rfl) (fun _ _ _ h=>h) (Or.inl ⟨by rfl,?_⟩) hS ?_
 ·intro W hSw
  clear hS
  have y:=hSw.1.cell 2 (.int .i64 C.re) rfl
  go_simp
 simp only[Act.put,aA,aB,aC,aD,aE,aF]
 refine wT (i:=55) (v:=.pointer (some ⟨M,0,none⟩)) rfl (by kernel_rfl) (by kernel_rfl) (by kernel_rfl) (fun _ _ _ h=>h) (Or.inl ⟨by rfl,?_⟩) hS ?_
 ·intro W hSw
  clear hS
  go_simp
 simp only[Act.put,aA,aB,aC,aD,aE,aF]
 refine wT (i:=56) (v:=.pointer (some ⟨M,0,none⟩)) rfl (by kernel_rfl) (by kernel_rfl) (by kernel_rfl) (fun _ _ _ h=>h) (Or.inl ⟨by rfl,?_⟩) hS ?_
 ·intro W hSw
  clear hS
  go_simp
 simp only[Act.put,aA,aB,aC,aD,aE,aF]
 refine wT (i:=57) (v:=.pointer (some ⟨M,0,none⟩)) rfl (by kernel_rfl) (by kernel_rfl) (by kernel_rfl) (fun _ _ _ h=>h) (Or.inl ⟨by rfl,?_⟩) hS ?_
 ·intro W hSw
  clear hS
  go_simp
 simp only[Act.put,aA,aB,aC,aD,aE,aF]
 refine wT (i:=58) (v:=.pointer (some ⟨M,0,none⟩)) rfl (by kernel_rfl) (by kernel_rfl) (by kernel_rfl) (fun _ _ _ h=>h) (Or.inl ⟨by rfl,?_⟩) hS ?_
 ·intro W hSw
  clear hS
  go_simp
 simp only[Act.put,aA,aB,aC,aD,aE,aF]
 refine wT (i:=59) (v:=.pointer (some ⟨P,0,none⟩)) rfl (by kernel_rfl) (by kernel_rfl) (by kernel_rfl) (fun _ _ _ h=>h) (Or.inl ⟨by rfl,?_⟩) hS ?_
 ·intro W hSw
  clear hS
  have y:=hSw.1.cell 0 (.pointer (some ⟨P,0,none⟩)) rfl
  go_simp
 simp only[Act.put,aA,aB,aC,aD,aE,aF]
 refine wpAnyH_all (rs:=[60]) (by kernel_rfl) (by simp) ?_
 refine AllReadyH.cons rfl (fun K2 hK2=>?_) AllReadyH.nil
 go_simp
 refine (HT.out _ hS.2.2).mono ?_
 rintro o w2 ⟨s4,rfl,q1,q2,q3,q4,hb⟩
 have hS2:(fun X=>blk X M (mcL P C) 106∧(∃ l:List Value,l.length=21∧blk X w.heap.size l 39)∧Below w.heap.size w X) w2:=⟨hS.1.below hb,(by obtain⟨l,h1,h2⟩:=hS.2.1;exact⟨l,h1,h2.below hb⟩),hS.2.2.trans (hb.mono hS.2.2.size)⟩
 have HQ:Hid (St v0.heap.size w2 (fun W=>isHo W C.ho s4.sl)∧whS v0.heap.size w2.heap.size w2 s4∧whD s4∧whE s4):=⟨q1,q2,q3,q4⟩
 have HZ:Hid (w.heap.size≤v0.heap.size∧w.heap.size<v0.heap.size):=⟨hS.2.2.size,(by obtain⟨l,h1,h2⟩:=hS.2.1;exact h2.lt)⟩
 clear q1 q2 q3 q4 hb
 go_wp2_with fail
 refine hK2.out _ _ hS2 (fun hS3=>?_)
 clear hK2 K2 hS2 hS
 have hS:=hS3
 clear hS3
 refine wT (i:=61) (v:=.agg (coL C s4.sl).toArray) rfl (by kernel_rfl) (by kernel_rfl) (by kernel_rfl) (fun _ _ _ h=>h) (Or.inl ⟨by rfl,?_⟩) hS ?_
 ·intro W hSw
  clear hS
  simp only[coL,hoL]
  go_simp
 simp only[Act.put,aA,aB,aC,aD,aE,aF]
 refine wpAnyH_all (rs:=[62]) (by kernel_rfl) (by simp) ?_
 refine AllReadyH.cons rfl (fun K2 hK2=>?_) AllReadyH.nil
 rw[if_pos (by rfl)]
 obtain⟨l0,hl0,hbl⟩:=hS.2.1
 have HL0:Hid (l0.length=21∧blk w2 w.heap.size l0 39):=⟨hl0,hbl⟩
 refine wp_store_mid 39 (.tmp 2) (.tmp 64) rfl w.heap.size 0 (coL C s4.sl).toArray rfl rfl (hbl.there 0 _ (by rw[List.size_toArray,coL_len,hl0];decide)) (szC41A C s4.sl) (coL_one C s4.sl) ?_
 generalize hW8:World.setCells w2 w.heap.size 0 _=w8
 have HM8:Hid (M≠w.heap.size):=fun e=>by
  have h1:=hS.1
  have h2:=HL0.out.2
  rw[e] at h1
  have:=h1.symm.trans h2
  simp at this
 have hf8:blk w8 w.heap.size (coL C s4.sl) 39:=by
  rw[← hW8]
  have:=blk.put [] l0 [] (coL C s4.sl) (w:=w2) (b:=w.heap.size) (T:=39) (by simpa using HL0.out.2) (by rw[HL0.out.1,coL_len])
  simpa using this
 have HF:Hid (blk w8 w.heap.size (coL C s4.sl) 39):=hf8
 clear hf8
 have oth:∀ x,x≠w.heap.size→w8.heap[x]?=w2.heap[x]?:=fun x hx=>by rw[← hW8];exact setCells_other _ x hx _ _ _
 have hsz:w8.heap.size=w2.heap.size:=by rw[← hW8];exact setCells_size ..
 have HB8:Hid (Below w.heap.size w w8):=by rw[← hW8];exact setCells_below (by omega) 0 _ hS.2.2
 have HQ8:Hid (St w.heap.size w8 (fun W=>isHo W C.ho s4.sl)∧whS w.heap.size w8.heap.size w8 s4):=toldQ.put (w:=w) HZ.out.1 HZ.out.2 HQ.out.1 HQ.out.2.1 oth hsz
 have hS8:(fun X=>blk X M (mcL P C) 106∧(∃ l:List Value,l.length=21∧blk X w.heap.size l 39)∧Below w.heap.size w X) w8:=⟨hS.1.kept (oth _ HM8.out),⟨_,coL_len _ _,HF.out⟩,HB8.out⟩
 clear oth hsz hW8 hbl hl0
 refine hK2.out _ _ hS8 (fun hS3=>?_)
 clear hK2 K2 hS8 hS hS3 HL0 HM8 HZ
 refine wpAnyH_done (by kernel_rfl) ?_ _
 go_wp2_with fail
 have hL:=run_loadVar_mid (P:=Tryz.prog) w8 w.heap.size 0 39 _ _ HF.out.load Tryz.underlying39 rfl (szC41L C s4.sl)
 refine bodyPost_ret (v:=.agg (coL C s4.sl).toArray) (results_cell Tryz.results39 _ w8 w.heap.size _ rfl hL) rfl ?_
 exact⟨s4,rfl,HQ8.out.1,HQ8.out.2,HQ.out.2.2.1,HQ.out.2.2.2,HB8.out⟩
theorem app_recO {ops:Array Oper} {rest:List Oper} {o:Oper} {a:Act} {Q:Exit→Act→World→Prop} {w:World} (hgd:o.guard=none) (s x:Operand) (T E:TypeId) (Z:Value) (sz by_:Nat) (hi0:(Tryz.prog.info? E).map (fun i=>(i.zero,i.size,i.bytes))=some (some Z,sz,by_)) (hu:Tryz.prog.underlying T=some (.slice E)) (hZ:Z.cells.size=sz) (hsz:0<sz) (hby:by_≤1000)
  (ho:o.op = .call { callee:=.builtin .append,args:=#[s,x],argTypes:=#[T,T] })
  (B n:Nat) (v:Value) (xs:List Value) (hs:a.eval s=v) (hown:w.ownsRow B E sz v n xs) (b:Nat) (news:List Value) (hx:a.eval x = .slice (some ⟨b,0,none⟩) 1 1) (hl:news.length=sz) (hb:w.heap[b]?=some (.cells news.toArray E)) (h1:∀ u ∈ news,u.oneCell'=true) (hn:n≤100000000) (hB:B≤w.heap.size)
  (h:∀ g' k' w',w'.ownsRow B E sz (.slice (some ⟨g',0,none⟩) (n+1) k') (n+1) (xs++news)→(∀ k,k<w.heap.size→k<B→w'.heap[k]?=w.heap[k]?)→Below B w w'→wpList Tryz.prog ops Q rest (a.put o.dst (.slice (some ⟨g',0,none⟩) (n+1) k')) w') :
  wpList Tryz.prog ops Q (o :: rest) a w:=by
 obtain⟨i0,hi,hz0,hz1,hz2⟩:=info_parts hi0
 have hmul:(n+1)*by_≤(n+1)*1000:=Nat.mul_le_mul_left _ hby
 obtain⟨v',w',hr,h2,h3,h4,h5⟩:=run_append_own_at (P:=Tryz.prog) w B T o.type E i0 Z sz by_ hu hi hz0 hz1 hz2 hZ hsz v n xs hown ⟨b,0,none⟩ 1 1 news (by rw[hl,Nat.one_mul]) (by
  intro j u hj
  have:=range_block hb j u hj
  rw[Addr.add_lit]
  exact this) h1 (by unfold maxLen;omega) (by omega) hB
 have hne:v'≠.slice none 0 0:=by
  intro e
  obtain⟨_,e1⟩:=h4.1 e
  cases e1
 obtain⟨g',k',rfl,q1,q2,q3,q4⟩:=own_slice h2 hne
 refine wpList_plain hgd fun K hK=>?_
 unfold Oper.wp execOp
 simp only[ho,resolve,invoke,builtin,Sem.run_bind,Sem.run_pure,Result.andThen_ok,List.map_toArray,List.map_cons,List.map_nil,hs,hx,hr]
 have hB':Below B w w':=(Below.refl _ _).grown h3 hB (fun k hk=>(World.ownsRow.lt hown k hk).1)
 exact hK _ _ (h g' k' w' h2 (fun k hk hkB=>hB'.block k hkB) hB')
def e80:R8→List Value:=fun _=>[.int .i64 0,.int .i64 0,.int .i64 0,.bool false,.int .u32 0,.bool false,.int .i64 0,.slice none 0 0]
theorem e80_snoc (k:Nat):(List.replicate k bx0).flatMap e80++[.int .i64 0,.int .i64 0,.int .i64 0,.bool false,.int .u32 0,.bool false,.int .i64 0,.slice none 0 0]=(List.replicate (k+1) bx0).flatMap e80:=by
 rw[List.replicate_succ',List.flatMap_append,List.flatMap_cons,List.flatMap_nil,List.append_nil]
 rfl
theorem e80_row {w:World} {B m k:Nat} {ao:Option Addr} (h:w.ownsRow B 55 8 (.slice ao m k) m ((List.replicate m bx0).flatMap e80)):isR8s w ao m k (List.replicate m bx0):=by
 by_cases hn:(.slice ao m k:Value) = .slice none 0 0
 ·cases hn
  exact⟨by simp,Nat.le_refl _,fun e=>absurd rfl e⟩
 ·obtain⟨g,c,e,q1,q2,q3,q4⟩:=own_slice h hn
  cases e
  refine⟨by simp,q3,fun _=>⟨g,0,rfl,fun j hj=>⟨none,0,0,?_⟩⟩⟩
  have hj':j<m:=by simpa using hj
  have hc:∀ t,t<8→w.cell? ⟨g,j*8+t,none⟩=(e80 bx0)[t]?:=fun t ht=>by
   rw[q4 w rfl (j*8+t) (by omega),flat_at e80 8 (fun _=>rfl) _ j hj t ht]
   rfl
  rw[Nat.zero_add,List.getElem_replicate]
  exact⟨hc 0 (by omega),hc 1 (by omega),hc 2 (by omega),hc 3 (by omega),hc 4 (by omega),hc 5 (by omega),hc 6 (by omega),hc 7 (by omega),⟨rfl,Nat.le_refl _,fun _ hx=>(by cases hx),fun hne=>absurd rfl hne⟩⟩
structure nS (w:World) (m b c d:Int) (P:Nat) (gv:List Value) (W:World):Prop where
 p:blk W w.heap.size [.int .i64 m,.int .i64 b,.int .i64 c,.int .i64 d] 24
 r:blk W (w.heap.size+1) z10 30
 q:blk W P gv 30
 b:Below w.heap.size w W
theorem nS.belowB {w W W':World} {m b c d:Int} {P B:Nat} {gv:List Value} (h:nS w m b c d P gv W) (hP:w.heap.size+2≤P) (hB:P<B) (hb:Below B W W'):nS w m b c d P gv W':=
 ⟨h.p.kept (hb.block _ (by omega)),h.r.kept (hb.block _ (by omega)),h.q.kept (hb.block _ (by omega)),h.b.trans (hb.mono (by omega))⟩
theorem nS.set {w W:World} {m b c d:Int} {P:Nat} {gv:List Value} (h:nS w m b c d P gv W) (hP:w.heap.size+2≤P) (o:Nat) (v:Value):nS w m b c d P (gv.set o v) (W.setCell ⟨P,o,none⟩ v):=
 ⟨h.p.setOther (by omega) _ _,h.r.setOther (by omega) _ _,h.q.set _ _,h.b.setCell (by show _≤P;omega) _⟩
set_option maxHeartbeats 4000000 in
set_option maxRecDepth 40000 in
theorem specNewHost_ok (w:World) (m:Nat) (b c d:Int) (g n cap:Nat) (bs:List R3) (h:okCf m b c d=true) (hf:isR3s w (some ⟨g,0,none⟩) n cap bs) (hn:n≤1048576) (hm:m≤8) (h2:okFs bs=true) :
  Calls Tryz.prog 4 #[cfV m b c d,.slice (some ⟨g,0,none⟩) n cap] w fun o w'=>∃ s',o = .returned (.tuple #[hoV ⟨m,b,c,d,bs,List.replicate m bx0,[],[],0,0⟩ s',.int .i64 0])∧St (w.heap.size+2) w' (fun W=>isHo W ⟨m,b,c,d,bs,List.replicate m bx0,[],[],0,0⟩ s')∧Below w.heap.size w w':=by
 have HE:Hid (∀ W,Calls Tryz.prog 12 #[cfV m b c d] W fun o w'=>o = .returned (.bool true)∧Below W.heap.size W w'):=fun W=>by have:=l3okConfig_any W m b c d;rw[h] at this;exact this
 have HF:Hid (∀ W,Below w.heap.size w W→Calls Tryz.prog 13 #[.slice (some ⟨g,0,none⟩) n cap] W fun o w'=>o = .returned (.bool true)∧Below W.heap.size W w'):=fun W hW=>by have:=l3okFilters_any W _ n cap bs (hf.below hW) hn;rw[h2] at this;exact this
 have HFS:Hid (isR3s w (some ⟨g,0,none⟩) n cap bs):=hf
 have HLE:Hid (Ho.le ⟨m,b,c,d,bs,List.replicate m bx0,[],[],0,0⟩ 1048576):=⟨(by rw[← hf.len];exact hn),(by simp;omega),(by simp),(by simp),(by intro j hj;simp[bx0]),(by intro j hj;cases hj),(by intro j hj;cases hj)⟩
 clear h hf h2
 go_enter Tryz.func4,Tryz.ntmps4
 go_wp2_with fail
 refine (HE.out _).mono ?_
 rintro o w1 ⟨rfl,hb1⟩
 have HP1:Hid (blk w1 w.heap.size [.int .i64 m,.int .i64 b,.int .i64 c,.int .i64 d] 24∧blk w1 (w.heap.size+1) z10 30∧Below w.heap.size w w1):=by
  refine⟨((blk.new w _ 24).alloc _).below hb1,?_,(((Below.refl _ _).alloc (Nat.le_refl _) _).alloc (by simp) _).trans (hb1.mono (by simp;try omega))⟩
  have:=(blk.new (w.alloc (.cells [.int .i64 m,.int .i64 b,.int .i64 c,.int .i64 d].toArray 24)) z10 30).below hb1
  simpa using this
 clear hb1
 go_wp2_with fail
 refine (HF.out _ HP1.out.2.2).mono ?_
 rintro o w2 ⟨rfl,hb2⟩
 have HP2:Hid (blk w2 w.heap.size [.int .i64 m,.int .i64 b,.int .i64 c,.int .i64 d] 24∧blk w2 (w.heap.size+1) z10 30∧Below w.heap.size w w2):=⟨HP1.out.1.below hb2,HP1.out.2.1.below hb2,HP1.out.2.2.trans (hb2.mono HP1.out.2.2.size)⟩
 clear hb2 HP1
 have HZ2:Hid (w.heap.size+2≤w2.heap.size):=HP2.out.2.1.lt
 have HQ2:Hid (nS w m b c d w2.heap.size ([]++z10++[]) (w2.alloc (.cells z10.toArray 30))):=⟨HP2.out.1.alloc _,HP2.out.2.1.alloc _,blk.new w2 _ 30,HP2.out.2.2.alloc HP2.out.2.2.size _⟩
 go_wp2_with (first
  | (refine wpList_load_mid (P:=Tryz.prog) rfl 24 (.tmp 2) rfl w.heap.size 0 rfl _ _ HP2.out.1.load Tryz.underlying24 rfl sz35 ?_)
  | (refine wpList_store_mid (P:=Tryz.prog) rfl 30 (.tmp 6) (.tmp 18) rfl w2.heap.size 0 _ rfl rfl (HQ2.out.q.there 0 10 (by simp)) sz41 (one10 _ _ _ _ _ _ _ _ _ _ _ _ _ _ _ _ _ _) ?_;generalize hW3:World.setCells (World.alloc _ _) w2.heap.size 0 _=w3;have HN3:Hid (nS w m b c d w2.heap.size [.int .i64 m,.int .i64 b,.int .i64 c,.int .i64 d,.slice (some ⟨g,0,none⟩) n cap,.slice none 0 0,.slice none 0 0,.slice none 0 0,.int .i64 0,.int .i64 0] w3):=(hW3 ▸ ⟨HQ2.out.p.other (by have:=HZ2.out;omega) _ _,HQ2.out.r.other (by have:=HZ2.out;omega) _ _,blk.put [] z10 [] [.int .i64 m,.int .i64 b,.int .i64 c,.int .i64 d,.slice (some ⟨g,0,none⟩) n cap,.slice none 0 0,.slice none 0 0,.slice none 0 0,.int .i64 0,.int .i64 0] HQ2.out.q rfl,setCells_below (by have:=HZ2.out;omega) _ _ HQ2.out.b⟩);clear hW3))
 clear HQ2
 go_loopw [7] (fun t wr=>∃ (k kc:Nat) (ao:Option Addr),k≤m∧t = .int .i64 (k:Int)∧nS w m b c d w2.heap.size [.int .i64 m,.int .i64 b,.int .i64 c,.int .i64 d,.slice (some ⟨g,0,none⟩) n cap,.slice ao k kc,.slice none 0 0,.slice none 0 0,.int .i64 0,.int .i64 0] wr∧wr.ownsRow (w2.heap.size+1) 55 8 (.slice ao k kc) k ((List.replicate k bx0).flatMap e80)) (fun t _=>m-(intOf t).toNat)
 case atStart=>exact⟨0,0,none,Nat.zero_le _,rfl,HN3.out,World.ownsRow_nil _ _ _ _⟩
 case round=>
  clear HN3
  obtain⟨k,kc,ao,hk,rfl,hN,ho⟩:=hrel
  have y0:=hN.p.cell 0 _ rfl
  have y5:=hN.q.cell 5 _ rfl
  have HN:Hid _:=hN
  have HO:Hid (wr.ownsRow (w2.heap.size+1) 55 8 (.slice ao k kc) k ((List.replicate k bx0).flatMap e80)):=ho
  have hz:w2.heap.size<wr.heap.size:=hN.q.lt
  have HZ:Hid (w2.heap.size<wr.heap.size):=hz
  clear hN ho hz
  by_cases hlt:k<m
  ·have HLT:Hid (k<m):=hlt
   have y5a:(wr.alloc (.cells #[.int .i64 0,.int .i64 0,.int .i64 0,.bool false,.int .u32 0,.bool false,.int .i64 0,.slice none 0 0] 55)).cell? ⟨w2.heap.size,5,none⟩=some (.slice ao k kc):=(HN.out.q.alloc _).cell 5 _ rfl
   go_wp2_with (first
    | (at_builtin;refine app_recO (w:=wr.alloc (.cells #[.int .i64 0,.int .i64 0,.int .i64 0,.bool false,.int .u32 0,.bool false,.int .i64 0,.slice none 0 0] 55)) rfl (.tmp 26) (.tmp 28) 26 55 _ 8 72 Tryz.info55 Tryz.underlying26 rfl (by decide) (by decide) rfl (w2.heap.size+1) k (.slice ao k kc) _ rfl (HO.out.alloc _) wr.heap.size [.int .i64 0,.int .i64 0,.int .i64 0,.bool false,.int .u32 0,.bool false,.int .i64 0,.slice none 0 0] rfl rfl (blk.new wr _ 55) (one8L _ _ _ _ _ _ _ _ _ _) (by omega) (by have:=HZ.out;simp;omega) ?_;intro g' k' w6 ho6 hs6 hb6;have N6:=((HN.out.belowB HZ2.out HZ.out ((Below.refl wr.heap.size wr).alloc (Nat.le_refl _) (.cells #[.int .i64 0,.int .i64 0,.int .i64 0,.bool false,.int .u32 0,.bool false,.int .i64 0,.slice none 0 0] 55))).belowB HZ2.out (Nat.lt_succ_self _) hb6);have x6:=N6.q.cell 5 _ rfl;have f6:=N6.q.free 5;have HN6:Hid _:=N6;have HO6:Hid (w6.ownsRow (w2.heap.size+1) 55 8 (.slice (some ⟨g',0,none⟩) (k+1) k') (k+1) ((List.replicate k bx0).flatMap e80++[.int .i64 0,.int .i64 0,.int .i64 0,.bool false,.int .u32 0,.bool false,.int .i64 0,.slice none 0 0])):=ho6;clear N6 ho6 hs6 hb6))
   go_roundw
   case rel=>
    refine⟨k+1,k',some ⟨g',0,none⟩,HLT.out,by go_num,HN6.out.set HZ2.out 5 (.slice (some ⟨g',0,none⟩) (k+1) k'),?_⟩
    rw[← e80_snoc]
    refine ownsRow_kept HO6.out ?_
    rw[heap_setCell_other _ _ _ _ (by have:=(World.ownsRow.lt HO6.out g' rfl).1;show g'≠w2.heap.size;omega)]
   case measure=>have:=HLT.out;simp[intOf];omega
  ·have hkm:m=k:=by omega
   subst hkm
   have HIS:Hid (isHo wr ⟨m,b,c,d,bs,List.replicate m bx0,[],[],0,0⟩ ⟨some ⟨g,0,none⟩,n,cap,ao,m,kc,none,0,0,none,0,0⟩):=⟨HFS.out.below HN.out.b,e80_row HO.out,⟨rfl,Nat.le_refl _,fun e=>absurd rfl e⟩,⟨rfl,Nat.le_refl _,fun e=>absurd rfl e⟩⟩
   go_wp2_with (first
    | (refine wpList_load_mid (P:=Tryz.prog) rfl 30 (.tmp 6) rfl w2.heap.size 0 rfl _ _ HN.out.q.load Tryz.underlying30 rfl sz41 ?_)
    | (go_at_call 14;refine (l3copy_anyN wr ⟨m,b,c,d,bs,List.replicate m bx0,[],[],0,0⟩ ⟨some ⟨g,0,none⟩,n,cap,ao,m,kc,none,0,0,none,0,0⟩ HIS.out HLE.out).mono ?_;rintro o w7 ⟨⟨b1,m1,l1,b2,m2,l2,b3,m3,l3,b4,m4,l4⟩,rfl,S7,hb7⟩;have HS7:Hid _:=S7;have HN7:Hid _:=HN.out.belowB HZ2.out HZ.out hb7;clear S7 hb7)
    | (refine wpList_store_mid (P:=Tryz.prog) rfl 30 (.tmp 4) (.tmp 32) rfl (w.heap.size+1) 0 _ rfl rfl (HN7.out.r.there 0 10 (by simp)) sz41 (one10 _ _ _ _ _ _ _ _ _ _ _ _ _ _ _ _ _ _) ?_;generalize hW8:World.setCells w7 (w.heap.size+1) 0 _=w8;have HW8:Hid (World.setCells w7 (w.heap.size+1) 0 [.int .i64 m,.int .i64 b,.int .i64 c,.int .i64 d,.slice b1 m1 l1,.slice b2 m2 l2,.slice b3 m3 l3,.slice b4 m4 l4,.int .i64 0,.int .i64 0]=w8):=hW8;clear hW8))
   have e8:=HW8.out
   have hF:blk w8 (w.heap.size+1) [.int .i64 m,.int .i64 b,.int .i64 c,.int .i64 d,.slice b1 m1 l1,.slice b2 m2 l2,.slice b3 m3 l3,.slice b4 m4 l4,.int .i64 0,.int .i64 0] 30:=e8 ▸ blk.put [] z10 [] _ HN7.out.r rfl
   have hL:=run_loadVar_mid (P:=Tryz.prog) w8 (w.heap.size+1) 0 30 _ _ hF.load Tryz.underlying30 rfl sz41
   refine bodyPost_ret (results_cell_tmp Tryz.results4 _ w8 (w.heap.size+1) _ rfl hL) rfl ?_
   refine⟨⟨b1,m1,l1,b2,m2,l2,b3,m3,l3,b4,m4,l4⟩,rfl,?_,?_⟩
   ·rw[← e8]
    have h1:=HZ.out
    have h2:=HZ2.out
    exact St.mono (St.setCells HS7.out _ _ (by omega) _) (by omega)
   ·rw[← e8]
    exact setCells_below (by omega) _ _ HN7.out.b
structure itS (w:World) (H:Ho) (s:Sl) (i:Int) (W:World):Prop where
 p:blk W w.heap.size (hoL H s) 30
 x:blk W (w.heap.size+1) [.int .i64 i] 3
 r:blk W (w.heap.size+1+1) Z10 30
 b:Below w.heap.size w W
theorem itS.below {w:World} {H:Ho} {s:Sl} {i:Int} {W W':World} (h:itS w H s i W) (hb:Below W.heap.size W W'):itS w H s i W':=⟨h.p.below hb,h.x.below hb,h.r.below hb,h.b.trans (hb.mono h.b.size)⟩
theorem itS.new (w:World) (H:Ho) (s:Sl) (i:Int):itS w H s i (((w.alloc (.cells (hoL H s).toArray 30)).alloc (.cells #[.int .i64 i] 3)).alloc (.cells [.int .i64 0,.int .i64 0,.int .i64 0,.int .i64 0,.slice none 0 0,.slice none 0 0,.slice none 0 0,.slice none 0 0,.int .i64 0,.int .i64 0].toArray 30)):=by
 refine⟨((blk.new w _ 30).alloc _).alloc _,?_,?_,(((Below.refl _ _).alloc (Nat.le_refl _) _).alloc (by simp) _).alloc (by simp;omega) _⟩
 ·have:=(blk.new (w.alloc (.cells (hoL H s).toArray 30)) [.int .i64 i] 3).alloc (.cells [.int .i64 0,.int .i64 0,.int .i64 0,.int .i64 0,.slice none 0 0,.slice none 0 0,.slice none 0 0,.slice none 0 0,.int .i64 0,.int .i64 0].toArray 30)
  simpa using this
 ·have:=blk.new ((w.alloc (.cells (hoL H s).toArray 30)).alloc (.cells #[.int .i64 i] 3)) Z10 30
  have e:((w.alloc (.cells (hoL H s).toArray 30)).alloc (.cells #[.int .i64 i] 3)).heap.size=w.heap.size+1+1:=by simp
  rw[e] at this
  exact this
theorem new_hostS {w:World} (l:List Value) (hl:l.length=10):blk (World.setCells (w.alloc (.cells [.int .i64 0,.int .i64 0,.int .i64 0,.int .i64 0,.slice none 0 0,.slice none 0 0,.slice none 0 0,.slice none 0 0,.int .i64 0,.int .i64 0].toArray 30)) w.heap.size 0 l) w.heap.size l 30∧Below w.heap.size w (World.setCells (w.alloc (.cells [.int .i64 0,.int .i64 0,.int .i64 0,.int .i64 0,.slice none 0 0,.slice none 0 0,.slice none 0 0,.slice none 0 0,.int .i64 0,.int .i64 0].toArray 30)) w.heap.size 0 l):=by
 refine⟨?_,setCells_below (Nat.le_refl _) 0 l ((Below.refl _ _).alloc (Nat.le_refl _) _)⟩
 have:=blk.put [] [.int .i64 0,.int .i64 0,.int .i64 0,.int .i64 0,.slice none 0 0,.slice none 0 0,.slice none 0 0,.slice none 0 0,.int .i64 0,.int .i64 0] [] l (w:=w.alloc (.cells [.int .i64 0,.int .i64 0,.int .i64 0,.int .i64 0,.slice none 0 0,.slice none 0 0,.slice none 0 0,.slice none 0 0,.int .i64 0,.int .i64 0].toArray 30)) (b:=w.heap.size) (T:=30) (by simpa using blk.new w _ 30) (by rw[hl];rfl)
 simpa using this
end Go.Proofs.YtgkkcpgocbcbaaaGreat
