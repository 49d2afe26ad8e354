import Derived.Test.YtaamahohdnbpiaaGreatG22
import Derived.Test.YtaamahohdnbpiaaGreatLK
namespace Go.Proofs.YtaamahohdnbpiaaGreat
open Go.RowKit
set_option linter.unusedVariables false
set_option maxHeartbeats 4000000 in
set_option maxRecDepth 20000 in
theorem l3say_full (w:World) (c0 c1 c2 c3 lo st:Int) (a1:Option Addr) (n1 k1:Nat) (a2:Option Addr) (n2 k2:Nat) (a3:Option Addr) (n3 k3:Nat) (a4:Option Addr) (n4 k4:Nat) (x y z:Int) (hq:c3≤(n4:Int)) (hlo:0≤lo∧lo≤100000) (lo2:Int) (h2:lo2=if lo<100000 then lo+1 else lo) :
  Calls Tryz.prog 139 #[.agg [.int .i64 c0,.int .i64 c1,.int .i64 c2,.int .i64 c3,.slice a1 n1 k1,.slice a2 n2 k2,.slice a3 n3 k3,.slice a4 n4 k4,.int .i64 lo,.int .i64 st].toArray,.int .i64 x,.int .i64 y,.int .i64 z] w fun o w'=>o = .returned (.agg [.int .i64 c0,.int .i64 c1,.int .i64 c2,.int .i64 c3,.slice a1 n1 k1,.slice a2 n2 k2,.slice a3 n3 k3,.slice a4 n4 k4,.int .i64 lo2,.int .i64 st].toArray)∧Below w.heap.size w w':=by
 have HB0:Hid (Below w.heap.size w ((w.alloc (.cells [.int .i64 c0,.int .i64 c1,.int .i64 c2,.int .i64 c3,.slice a1 n1 k1,.slice a2 n2 k2,.slice a3 n3 k3,.slice a4 n4 k4,.int .i64 lo,.int .i64 st].toArray 35)).alloc (.cells [.int .i64 0,.int .i64 0,.int .i64 0,.int .i64 0,.slice none 0 0,.slice none 0 0,.slice none 0 0,.slice none 0 0,.int .i64 0,.int .i64 0].toArray 35))):=((Below.refl _ _).alloc (Nat.le_refl _) _).alloc (by simp) _
 have HR0:Hid (blk ((w.alloc (.cells [.int .i64 c0,.int .i64 c1,.int .i64 c2,.int .i64 c3,.slice a1 n1 k1,.slice a2 n2 k2,.slice a3 n3 k3,.slice a4 n4 k4,.int .i64 lo,.int .i64 st].toArray 35)).alloc (.cells [.int .i64 0,.int .i64 0,.int .i64 0,.int .i64 0,.slice none 0 0,.slice none 0 0,.slice none 0 0,.slice none 0 0,.int .i64 0,.int .i64 0].toArray 35)) (w.heap.size+1) Z10 35):=by
  have:=blk.new (w.alloc (.cells [.int .i64 c0,.int .i64 c1,.int .i64 c2,.int .i64 c3,.slice a1 n1 k1,.slice a2 n2 k2,.slice a3 n3 k3,.slice a4 n4 k4,.int .i64 lo,.int .i64 st].toArray 35)) Z10 35
  have e:(w.alloc (.cells [.int .i64 c0,.int .i64 c1,.int .i64 c2,.int .i64 c3,.slice a1 n1 k1,.slice a2 n2 k2,.slice a3 n3 k3,.slice a4 n4 k4,.int .i64 lo,.int .i64 st].toArray 35)).heap.size=w.heap.size+1:=by simp
  rw[e] at this
  exact this
 have HC:Hid (∀ X:World,Calls Tryz.prog 143 #[.agg [.int .i64 c0,.int .i64 c1,.int .i64 c2,.int .i64 c3,.slice a1 n1 k1,.slice a2 n2 k2,.slice a3 n3 k3,.slice a4 n4 k4,.int .i64 lo,.int .i64 st].toArray,.int .i64 x,.int .i64 y,.int .i64 z,frV false 0 false 0 none 0 0] X fun o w'=>o = .returned (.agg [.int .i64 c0,.int .i64 c1,.int .i64 c2,.int .i64 c3,.slice a1 n1 k1,.slice a2 n2 k2,.slice a3 n3 k3,.slice a4 n4 k4,.int .i64 lo2,.int .i64 st].toArray)∧Below X.heap.size X w'):=fun X=>by
  have:=l3post_full X c0 c1 c2 c3 lo st a1 n1 k1 a2 n2 k2 a3 n3 k3 a4 n4 k4 x y z false 0 false 0 none 0 0 hq hlo
  rw[← h2] at this
  exact this
 clear hq hlo h2;go_enter Tryz.func139,Tryz.ntmps139
 go_wp2_with fail;refine (HC.out _).mono ?_
 rintro o w1 ⟨rfl,b1⟩;have HR1:Hid (blk w1 (w.heap.size+1) Z10 35):=HR0.out.below b1
 have HB1:Hid (Below w.heap.size w w1):=HB0.out.trans (b1.mono HB0.out.size)
 clear b1 HR0 HB0 HC;go_wp2_with (first
  | (refine wpList_store_mid (P:=Tryz.prog) rfl 35 _ _ rfl (w.heap.size+1) 0 [.int .i64 c0,.int .i64 c1,.int .i64 c2,.int .i64 c3,.slice a1 n1 k1,.slice a2 n2 k2,.slice a3 n3 k3,.slice a4 n4 k4,.int .i64 lo2,.int .i64 st].toArray rfl rfl (HR1.out.there 0 10 (by simp[Z10])) sz41 (all_oneCell_toArray (by simp[Value.oneCell'])) ?_;generalize hW8:World.setCells _ (w.heap.size+1) 0 _=w8;have HW8:Hid (World.setCells w1 (w.heap.size+1) 0 [.int .i64 c0,.int .i64 c1,.int .i64 c2,.int .i64 c3,.slice a1 n1 k1,.slice a2 n2 k2,.slice a3 n3 k3,.slice a4 n4 k4,.int .i64 lo2,.int .i64 st]=w8):=hW8;clear hW8))
 have e8:=HW8.out
 have hF:blk w8 (w.heap.size+1) [.int .i64 c0,.int .i64 c1,.int .i64 c2,.int .i64 c3,.slice a1 n1 k1,.slice a2 n2 k2,.slice a3 n3 k3,.slice a4 n4 k4,.int .i64 lo2,.int .i64 st] 35:=by
  rw[← e8]
  have:=blk.put [] Z10 [] [.int .i64 c0,.int .i64 c1,.int .i64 c2,.int .i64 c3,.slice a1 n1 k1,.slice a2 n2 k2,.slice a3 n3 k3,.slice a4 n4 k4,.int .i64 lo2,.int .i64 st] (w:=w1) (b:=w.heap.size+1) (T:=35) (by simpa using HR1.out) rfl
  simpa using this
 have hL:=run_loadVar_mid (P:=Tryz.prog) w8 (w.heap.size+1) 0 35 _ _ hF.load Tryz.underlying35 rfl sz41
 refine bodyPost_ret (v:=.agg [.int .i64 c0,.int .i64 c1,.int .i64 c2,.int .i64 c3,.slice a1 n1 k1,.slice a2 n2 k2,.slice a3 n3 k3,.slice a4 n4 k4,.int .i64 lo2,.int .i64 st].toArray) (results_cell Tryz.results139 _ w8 (w.heap.size+1) _ rfl hL) rfl ?_
 refine⟨rfl,?_⟩
 rw[← e8]
 exact setCells_below (by omega) 0 _ HB1.out
theorem run_makeMapN (n:Nat) (W:World):(Instr.makeMap 128 (some (.int .i64 (n:Int)))).run Tryz.prog W = .ok (.map (some W.heap.size)) (W.alloc (.map #[] 0)):=by
 simp[Instr.makeMap,go_sem]
set_option maxHeartbeats 8000000 in
set_option maxRecDepth 20000 in
theorem openHost_any (H:Type) (w:World) (c0 c2:Int) (r1 r3:Nat) (fs:List R3) (bx:List R8) (ff:List R5) (qu:List R8) (lo st:Int) (g1 n1 k1 g2 o2 n2 k2:Nat) (a3:Option Addr) (n3 k3:Nat) (a4:Option Addr) (n4 k4:Nat) (h1:isR3s w (some ⟨g1,0,none⟩) n1 k1 fs) (h2:isR8s w (some ⟨g2,o2,none⟩) n2 k2 bx) (h3:isR5s w a3 n3 k3 ff) (h4:isR8s w a4 n4 k4 qu) (m1:n1≤1048576) (m2:n2≤8) (hc1:1≤r1∧r1≤1000∧n3≤r1) (hc3:1≤r3∧r3≤1000∧n4≤r3) (hok:okBxs st bx) (hsm:∀ j (h:j<bx.length),bx[j].l.length≤1048576) :
  Calls Tryz.prog 61 #[.agg #[.int .i64 c0,.int .i64 (r1:Int),.int .i64 c2,.int .i64 (r3:Int),.slice (some ⟨g1,0,none⟩) n1 k1,.slice (some ⟨g2,o2,none⟩) n2 k2,.slice a3 n3 k3,.slice a4 n4 k4,.int .i64 lo,.int .i64 st]] w fun o w'=>∃ P mb gf kf gb kb hs gr gq,o = .returned (.pointer (some ⟨P,0,none⟩))∧lvS H w P mb [.int .i64 c0,.int .i64 (r1:Int),.int .i64 c2,.int .i64 (r3:Int),.slice (some ⟨gf,0,none⟩) n1 kf,.slice (some ⟨gb,0,none⟩) n2 kb,.map (some mb),.slice (some ⟨gr,0,none⟩) r1 r1,.int .i64 0,.int .i64 (n3:Int),.slice (some ⟨gq,0,none⟩) r3 r3,.int .i64 0,.int .i64 (n4:Int),.int .i64 lo,.int .i64 st] gf n1 kf fs gb n2 kb bx hs gr r1 ff gq r3 qu n2 w':=by
 have HSU:Hid (∀ (w1:World) (P mb:Nat) (hb0:Below w.heap.size w w1) (hP:blk w1 P [.int .i64 0,.int .i64 0,.int .i64 0,.int .i64 0,.slice none 0 0,.slice none 0 0,.map (some mb),.slice none 0 0,.int .i64 0,.int .i64 0,.slice none 0 0,.int .i64 0,.int .i64 0,.int .i64 0,.int .i64 0] 134) (hm:w1.heap[mb]?=some (.map #[] 0)) (hP0:w.heap.size≤P) (hmb0:w.heap.size≤mb) (hne:mb≠P),Calls Tryz.prog 129 #[.pointer (some ⟨P,0,none⟩),.agg #[.int .i64 c0,.int .i64 (r1:Int),.int .i64 c2,.int .i64 (r3:Int),.slice (some ⟨g1,0,none⟩) n1 k1,.slice (some ⟨g2,o2,none⟩) n2 k2,.slice a3 n3 k3,.slice a4 n4 k4,.int .i64 lo,.int .i64 st]] w1 fun o w'=>∃ gf kf gb kb hs gr gq,o = .returned (.tuple #[])∧lvS H w P mb [.int .i64 c0,.int .i64 (r1:Int),.int .i64 c2,.int .i64 (r3:Int),.slice (some ⟨gf,0,none⟩) n1 kf,.slice (some ⟨gb,0,none⟩) n2 kb,.map (some mb),.slice (some ⟨gr,0,none⟩) r1 r1,.int .i64 0,.int .i64 (n3:Int),.slice (some ⟨gq,0,none⟩) r3 r3,.int .i64 0,.int .i64 (n4:Int),.int .i64 lo,.int .i64 st] gf n1 kf fs gb n2 kb bx hs gr r1 ff gq r3 qu n2 w'):=fun w1 P mb hb0 hP hm hP0 hmb0 hne=>setUp_any H w w1 P mb c0 c2 r1 r3 fs bx ff qu lo st g1 n1 k1 g2 o2 n2 k2 a3 n3 k3 a4 n4 k4 h1 h2 h3 h4 m1 m2 hc1 hc3 hok hsm hmb0 hb0 hP hm hP0 hne
 have HPH:Hid (blk (w.alloc (.cells #[.int .i64 c0,.int .i64 (r1:Int),.int .i64 c2,.int .i64 (r3:Int),.slice (some ⟨g1,0,none⟩) n1 k1,.slice (some ⟨g2,o2,none⟩) n2 k2,.slice a3 n3 k3,.slice a4 n4 k4,.int .i64 lo,.int .i64 st] 35)) w.heap.size [.int .i64 c0,.int .i64 (r1:Int),.int .i64 c2,.int .i64 (r3:Int),.slice (some ⟨g1,0,none⟩) n1 k1,.slice (some ⟨g2,o2,none⟩) n2 k2,.slice a3 n3 k3,.slice a4 n4 k4,.int .i64 lo,.int .i64 st] 35∧Below w.heap.size w (w.alloc (.cells #[.int .i64 c0,.int .i64 (r1:Int),.int .i64 c2,.int .i64 (r3:Int),.slice (some ⟨g1,0,none⟩) n1 k1,.slice (some ⟨g2,o2,none⟩) n2 k2,.slice a3 n3 k3,.slice a4 n4 k4,.int .i64 lo,.int .i64 st] 35))):=⟨blk.new w _ 35,(Below.refl _ _).alloc (Nat.le_refl _) _⟩
 have y5:=HPH.out.1.cell 5 _ rfl
 clear h1 h2 h3 h4 m1 hc1 hc3 hok hsm;have HM2:Hid (((w.alloc (.cells #[.int .i64 c0,.int .i64 (r1:Int),.int .i64 c2,.int .i64 (r3:Int),.slice (some ⟨g1,0,none⟩) n1 k1,.slice (some ⟨g2,o2,none⟩) n2 k2,.slice a3 n3 k3,.slice a4 n4 k4,.int .i64 lo,.int .i64 st] 35)).alloc (.map #[] 0)).heap[w.heap.size+1]?=some (.map #[] 0)):=by
  have:=heap_alloc_new (w.alloc (.cells #[.int .i64 c0,.int .i64 (r1:Int),.int .i64 c2,.int .i64 (r3:Int),.slice (some ⟨g1,0,none⟩) n1 k1,.slice (some ⟨g2,o2,none⟩) n2 k2,.slice a3 n3 k3,.slice a4 n4 k4,.int .i64 lo,.int .i64 st] 35)) (.map #[] 0)
  have e:(w.alloc (.cells #[.int .i64 c0,.int .i64 (r1:Int),.int .i64 c2,.int .i64 (r3:Int),.slice (some ⟨g1,0,none⟩) n1 k1,.slice (some ⟨g2,o2,none⟩) n2 k2,.slice a3 n3 k3,.slice a4 n4 k4,.int .i64 lo,.int .i64 st] 35)).heap.size=w.heap.size+1:=by simp
  rw[e] at this
  exact this
 have HM3:Hid ((((w.alloc (.cells #[.int .i64 c0,.int .i64 (r1:Int),.int .i64 c2,.int .i64 (r3:Int),.slice (some ⟨g1,0,none⟩) n1 k1,.slice (some ⟨g2,o2,none⟩) n2 k2,.slice a3 n3 k3,.slice a4 n4 k4,.int .i64 lo,.int .i64 st] 35)).alloc (.map #[] 0)).alloc (.cells #[.int .i64 0,.int .i64 0,.int .i64 0,.int .i64 0,.slice none 0 0,.slice none 0 0,.map (some (w.heap.size+1)),.slice none 0 0,.int .i64 0,.int .i64 0,.slice none 0 0,.int .i64 0,.int .i64 0,.int .i64 0,.int .i64 0] 134)).heap[w.heap.size+1]?=some (.map #[] 0)):=(Below.heap_alloc _ _ _ (lt_of_some HM2.out)).trans HM2.out
 have HP3:Hid (blk (((w.alloc (.cells #[.int .i64 c0,.int .i64 (r1:Int),.int .i64 c2,.int .i64 (r3:Int),.slice (some ⟨g1,0,none⟩) n1 k1,.slice (some ⟨g2,o2,none⟩) n2 k2,.slice a3 n3 k3,.slice a4 n4 k4,.int .i64 lo,.int .i64 st] 35)).alloc (.map #[] 0)).alloc (.cells #[.int .i64 0,.int .i64 0,.int .i64 0,.int .i64 0,.slice none 0 0,.slice none 0 0,.map (some (w.heap.size+1)),.slice none 0 0,.int .i64 0,.int .i64 0,.slice none 0 0,.int .i64 0,.int .i64 0,.int .i64 0,.int .i64 0] 134)) (w.heap.size+1+1) [.int .i64 0,.int .i64 0,.int .i64 0,.int .i64 0,.slice none 0 0,.slice none 0 0,.map (some (w.heap.size+1)),.slice none 0 0,.int .i64 0,.int .i64 0,.slice none 0 0,.int .i64 0,.int .i64 0,.int .i64 0,.int .i64 0] 134):=by
  have:=blk.new ((w.alloc (.cells #[.int .i64 c0,.int .i64 (r1:Int),.int .i64 c2,.int .i64 (r3:Int),.slice (some ⟨g1,0,none⟩) n1 k1,.slice (some ⟨g2,o2,none⟩) n2 k2,.slice a3 n3 k3,.slice a4 n4 k4,.int .i64 lo,.int .i64 st] 35)).alloc (.map #[] 0)) [.int .i64 0,.int .i64 0,.int .i64 0,.int .i64 0,.slice none 0 0,.slice none 0 0,.map (some (w.heap.size+1)),.slice none 0 0,.int .i64 0,.int .i64 0,.slice none 0 0,.int .i64 0,.int .i64 0,.int .i64 0,.int .i64 0] 134
  have e:((w.alloc (.cells #[.int .i64 c0,.int .i64 (r1:Int),.int .i64 c2,.int .i64 (r3:Int),.slice (some ⟨g1,0,none⟩) n1 k1,.slice (some ⟨g2,o2,none⟩) n2 k2,.slice a3 n3 k3,.slice a4 n4 k4,.int .i64 lo,.int .i64 st] 35)).alloc (.map #[] 0)).heap.size=w.heap.size+1+1:=by simp
  rw[e] at this
  exact this
 have HB3:Hid (Below w.heap.size w (((w.alloc (.cells #[.int .i64 c0,.int .i64 (r1:Int),.int .i64 c2,.int .i64 (r3:Int),.slice (some ⟨g1,0,none⟩) n1 k1,.slice (some ⟨g2,o2,none⟩) n2 k2,.slice a3 n3 k3,.slice a4 n4 k4,.int .i64 lo,.int .i64 st] 35)).alloc (.map #[] 0)).alloc (.cells #[.int .i64 0,.int .i64 0,.int .i64 0,.int .i64 0,.slice none 0 0,.slice none 0 0,.map (some (w.heap.size+1)),.slice none 0 0,.int .i64 0,.int .i64 0,.slice none 0 0,.int .i64 0,.int .i64 0,.int .i64 0,.int .i64 0] 134))):=((HPH.out.2.alloc (by simp) _).alloc (by simp;omega) _)
 have hmm:∀ W:World,(Instr.makeMap 128 (some (.int .i64 (n2:Int)))).run Tryz.prog W = .ok (.map (some W.heap.size)) (W.alloc (.map #[] 0)):=fun W=>run_makeMapN n2 W
 go_enter Tryz.func61,Tryz.ntmps61
 go_wp2_with fail;refine (HSU.out _ (w.heap.size+1+1) (w.heap.size+1) HB3.out HP3.out HM3.out (by omega) (by omega) (by omega)).mono ?_
 rintro o w9 ⟨gf,kf,gb,kb,hs,gr,gq,rfl,hlv⟩;have HLV:Hid _:=hlv
 clear hlv hmm y5 HSU HPH HM2 HM3 HP3 HB3;go_wp2
 go_ret;exact⟨_,_,gf,kf,gb,kb,hs,gr,gq,rfl,HLV.out⟩
end Go.Proofs.YtaamahohdnbpiaaGreat
