import Derived.Test.YtgkkcpgocbcbaaaGreatK28
import Derived.Test.YtgkkcpgocbcbaaaGreatK21
import Derived.Test.YtgkkcpgocbcbaaaGreatK27
import Derived.Test.YtgkkcpgocbcbaaaGreatK23
namespace Go.Proofs.YtgkkcpgocbcbaaaGreat
open Go.RowKit
set_option linter.unusedVariables false
set_option maxHeartbeats 4000000 in
set_option maxRecDepth 20000 in
theorem l3post_full (w:World) (c0 c1 c2 c3 lo st:Int) (a1:Option Addr) (n1 k1:Nat) (a2:Option Addr) (n2 k2:Nat) (a3:Option Addr) (n3 k3:Nat) (a4:Option Addr) (n4 k4:Nat) (x y z:Int) (e:Bool) (i:Nat) (r:Bool) (d:Int) (ao:Option Addr) (m c:Nat) (hq:c3≤(n4:Int)) (hlo:0≤lo∧lo≤100000) :
  Calls Tryz.prog 50 #[.agg [.int .i64 c0,.int .i64 c1,.int .i64 c2,.int .i64 c3,.slice a1 n1 k1,.slice a2 n2 k2,.slice a3 n3 k3,.slice a4 n4 k4,.int .i64 lo,.int .i64 st].toArray,.int .i64 x,.int .i64 y,.int .i64 z,frV e i r d ao m c] w fun o w'=>o = .returned (.agg #[.int .i64 c0,.int .i64 c1,.int .i64 c2,.int .i64 c3,.slice a1 n1 k1,.slice a2 n2 k2,.slice a3 n3 k3,.slice a4 n4 k4,.int .i64 (if lo<100000 then lo+1 else lo),.int .i64 st])∧Below w.heap.size w w':=by
 have H0:Hid (ptS w [.int .i64 c0,.int .i64 c1,.int .i64 c2,.int .i64 c3,.slice a1 n1 k1,.slice a2 n2 k2,.slice a3 n3 k3,.slice a4 n4 k4,.int .i64 lo,.int .i64 st] [.bool e,.int .u32 (i:Int),.bool r,.int .i64 d,.slice ao m c] (((w.alloc (.cells [.int .i64 c0,.int .i64 c1,.int .i64 c2,.int .i64 c3,.slice a1 n1 k1,.slice a2 n2 k2,.slice a3 n3 k3,.slice a4 n4 k4,.int .i64 lo,.int .i64 st].toArray 30)).alloc (.cells [.bool e,.int .u32 (i:Int),.bool r,.int .i64 d,.slice ao m c].toArray 37)).alloc (.cells [.int .i64 0,.int .i64 0,.int .i64 0,.int .i64 0,.slice none 0 0,.slice none 0 0,.slice none 0 0,.slice none 0 0,.int .i64 0,.int .i64 0].toArray 30))):=ptS.new w _ _
 have x3:=H0.out.p.cell 3 _ rfl
 have x7:=H0.out.p.cell 7 _ rfl
 have x8:=H0.out.p.cell 8 _ rfl
 have f8:=H0.out.p.free 8
 obtain⟨hl0,hl1⟩:=hlo
 have hq':decide (c3≤(n4:Int))=true:=by simpa using hq
 by_cases hl:lo<100000
 ·rw[if_pos hl]
  have hwr:IntKind.i64.wrap (lo+1)=lo+1:=by rw[IntKind.wrap_i64];omega
  clear H0
  go_enter Tryz.func50,Tryz.ntmps50
  go_wp2_with fail
  have hF:blk (((w.alloc (.cells [.int .i64 c0,.int .i64 c1,.int .i64 c2,.int .i64 c3,.slice a1 n1 k1,.slice a2 n2 k2,.slice a3 n3 k3,.slice a4 n4 k4,.int .i64 (lo+1),.int .i64 st].toArray 30)).alloc (.cells [.bool e,.int .u32 (i:Int),.bool r,.int .i64 d,.slice ao m c].toArray 37)).alloc (.cells [.int .i64 c0,.int .i64 c1,.int .i64 c2,.int .i64 c3,.slice a1 n1 k1,.slice a2 n2 k2,.slice a3 n3 k3,.slice a4 n4 k4,.int .i64 (lo+1),.int .i64 st].toArray 30)) (w.heap.size+1+1) [.int .i64 c0,.int .i64 c1,.int .i64 c2,.int .i64 c3,.slice a1 n1 k1,.slice a2 n2 k2,.slice a3 n3 k3,.slice a4 n4 k4,.int .i64 (lo+1),.int .i64 st] 30:=by
   have:=blk.new ((w.alloc (.cells [.int .i64 c0,.int .i64 c1,.int .i64 c2,.int .i64 c3,.slice a1 n1 k1,.slice a2 n2 k2,.slice a3 n3 k3,.slice a4 n4 k4,.int .i64 (lo+1),.int .i64 st].toArray 30)).alloc (.cells [.bool e,.int .u32 (i:Int),.bool r,.int .i64 d,.slice ao m c].toArray 37)) [.int .i64 c0,.int .i64 c1,.int .i64 c2,.int .i64 c3,.slice a1 n1 k1,.slice a2 n2 k2,.slice a3 n3 k3,.slice a4 n4 k4,.int .i64 (lo+1),.int .i64 st] 30
   have e:((w.alloc (.cells [.int .i64 c0,.int .i64 c1,.int .i64 c2,.int .i64 c3,.slice a1 n1 k1,.slice a2 n2 k2,.slice a3 n3 k3,.slice a4 n4 k4,.int .i64 (lo+1),.int .i64 st].toArray 30)).alloc (.cells [.bool e,.int .u32 (i:Int),.bool r,.int .i64 d,.slice ao m c].toArray 37)).heap.size=w.heap.size+1+1:=by simp
   rw[e] at this
   exact this
  have hL:=run_loadVar_mid (P:=Tryz.prog) (((w.alloc (.cells [.int .i64 c0,.int .i64 c1,.int .i64 c2,.int .i64 c3,.slice a1 n1 k1,.slice a2 n2 k2,.slice a3 n3 k3,.slice a4 n4 k4,.int .i64 (lo+1),.int .i64 st].toArray 30)).alloc (.cells [.bool e,.int .u32 (i:Int),.bool r,.int .i64 d,.slice ao m c].toArray 37)).alloc (.cells [.int .i64 c0,.int .i64 c1,.int .i64 c2,.int .i64 c3,.slice a1 n1 k1,.slice a2 n2 k2,.slice a3 n3 k3,.slice a4 n4 k4,.int .i64 (lo+1),.int .i64 st].toArray 30)) (w.heap.size+1+1) 0 30 _ _ hF.load Tryz.underlying30 rfl sz41
  refine bodyPost_ret (v:=.agg [.int .i64 c0,.int .i64 c1,.int .i64 c2,.int .i64 c3,.slice a1 n1 k1,.slice a2 n2 k2,.slice a3 n3 k3,.slice a4 n4 k4,.int .i64 (lo+1),.int .i64 st].toArray) (results_cell Tryz.results50 _ (((w.alloc (.cells [.int .i64 c0,.int .i64 c1,.int .i64 c2,.int .i64 c3,.slice a1 n1 k1,.slice a2 n2 k2,.slice a3 n3 k3,.slice a4 n4 k4,.int .i64 (lo+1),.int .i64 st].toArray 30)).alloc (.cells [.bool e,.int .u32 (i:Int),.bool r,.int .i64 d,.slice ao m c].toArray 37)).alloc (.cells [.int .i64 c0,.int .i64 c1,.int .i64 c2,.int .i64 c3,.slice a1 n1 k1,.slice a2 n2 k2,.slice a3 n3 k3,.slice a4 n4 k4,.int .i64 (lo+1),.int .i64 st].toArray 30)) (w.heap.size+1+1) _ rfl hL) rfl ?_
  exact⟨rfl,(((Below.refl _ _).alloc (Nat.le_refl _) _).alloc (by simp) _).alloc (by simp;omega) _⟩
 ·rw[if_neg hl]
  clear H0
  go_enter Tryz.func50,Tryz.ntmps50
  go_wp2_with fail
  have hF:blk (((w.alloc (.cells [.int .i64 c0,.int .i64 c1,.int .i64 c2,.int .i64 c3,.slice a1 n1 k1,.slice a2 n2 k2,.slice a3 n3 k3,.slice a4 n4 k4,.int .i64 lo,.int .i64 st].toArray 30)).alloc (.cells [.bool e,.int .u32 (i:Int),.bool r,.int .i64 d,.slice ao m c].toArray 37)).alloc (.cells [.int .i64 c0,.int .i64 c1,.int .i64 c2,.int .i64 c3,.slice a1 n1 k1,.slice a2 n2 k2,.slice a3 n3 k3,.slice a4 n4 k4,.int .i64 lo,.int .i64 st].toArray 30)) (w.heap.size+1+1) [.int .i64 c0,.int .i64 c1,.int .i64 c2,.int .i64 c3,.slice a1 n1 k1,.slice a2 n2 k2,.slice a3 n3 k3,.slice a4 n4 k4,.int .i64 lo,.int .i64 st] 30:=by
   have:=blk.new ((w.alloc (.cells [.int .i64 c0,.int .i64 c1,.int .i64 c2,.int .i64 c3,.slice a1 n1 k1,.slice a2 n2 k2,.slice a3 n3 k3,.slice a4 n4 k4,.int .i64 lo,.int .i64 st].toArray 30)).alloc (.cells [.bool e,.int .u32 (i:Int),.bool r,.int .i64 d,.slice ao m c].toArray 37)) [.int .i64 c0,.int .i64 c1,.int .i64 c2,.int .i64 c3,.slice a1 n1 k1,.slice a2 n2 k2,.slice a3 n3 k3,.slice a4 n4 k4,.int .i64 lo,.int .i64 st] 30
   have e:((w.alloc (.cells [.int .i64 c0,.int .i64 c1,.int .i64 c2,.int .i64 c3,.slice a1 n1 k1,.slice a2 n2 k2,.slice a3 n3 k3,.slice a4 n4 k4,.int .i64 lo,.int .i64 st].toArray 30)).alloc (.cells [.bool e,.int .u32 (i:Int),.bool r,.int .i64 d,.slice ao m c].toArray 37)).heap.size=w.heap.size+1+1:=by simp
   rw[e] at this
   exact this
  have hL:=run_loadVar_mid (P:=Tryz.prog) (((w.alloc (.cells [.int .i64 c0,.int .i64 c1,.int .i64 c2,.int .i64 c3,.slice a1 n1 k1,.slice a2 n2 k2,.slice a3 n3 k3,.slice a4 n4 k4,.int .i64 lo,.int .i64 st].toArray 30)).alloc (.cells [.bool e,.int .u32 (i:Int),.bool r,.int .i64 d,.slice ao m c].toArray 37)).alloc (.cells [.int .i64 c0,.int .i64 c1,.int .i64 c2,.int .i64 c3,.slice a1 n1 k1,.slice a2 n2 k2,.slice a3 n3 k3,.slice a4 n4 k4,.int .i64 lo,.int .i64 st].toArray 30)) (w.heap.size+1+1) 0 30 _ _ hF.load Tryz.underlying30 rfl sz41
  refine bodyPost_ret (v:=.agg [.int .i64 c0,.int .i64 c1,.int .i64 c2,.int .i64 c3,.slice a1 n1 k1,.slice a2 n2 k2,.slice a3 n3 k3,.slice a4 n4 k4,.int .i64 lo,.int .i64 st].toArray) (results_cell Tryz.results50 _ (((w.alloc (.cells [.int .i64 c0,.int .i64 c1,.int .i64 c2,.int .i64 c3,.slice a1 n1 k1,.slice a2 n2 k2,.slice a3 n3 k3,.slice a4 n4 k4,.int .i64 lo,.int .i64 st].toArray 30)).alloc (.cells [.bool e,.int .u32 (i:Int),.bool r,.int .i64 d,.slice ao m c].toArray 37)).alloc (.cells [.int .i64 c0,.int .i64 c1,.int .i64 c2,.int .i64 c3,.slice a1 n1 k1,.slice a2 n2 k2,.slice a3 n3 k3,.slice a4 n4 k4,.int .i64 lo,.int .i64 st].toArray 30)) (w.heap.size+1+1) _ rfl hL) rfl ?_
  exact⟨rfl,(((Below.refl _ _).alloc (Nat.le_refl _) _).alloc (by simp) _).alloc (by simp;omega) _⟩
set_option maxHeartbeats 4000000 in
set_option maxRecDepth 20000 in
theorem l3say_more (w:World) (c0 c1 c2 c3 lo st:Int) (a1:Option Addr) (n1 k1:Nat) (a2:Option Addr) (n2 k2:Nat) (a3:Option Addr) (n3 k3:Nat) (B g4 n4 k4:Nat) (rs:List (R8 × Nat × Nat)) (x y z:Int) (hq:(n4:Int)<c3) (hn:n4≤1000) (hO:ownG rc8 w B 50 8 g4 k4 rs) (hrl:rs.length=n4) (hB:B≤w.heap.size) :
  Calls Tryz.prog 34 #[.agg [.int .i64 c0,.int .i64 c1,.int .i64 c2,.int .i64 c3,.slice a1 n1 k1,.slice a2 n2 k2,.slice a3 n3 k3,.slice (some ⟨g4,0,none⟩) n4 k4,.int .i64 lo,.int .i64 st].toArray,.int .i64 x,.int .i64 y,.int .i64 z] w fun o w'=>∃ g' k' gd kd,o = .returned (.agg [.int .i64 c0,.int .i64 c1,.int .i64 c2,.int .i64 c3,.slice a1 n1 k1,.slice a2 n2 k2,.slice a3 n3 k3,.slice (some ⟨g',0,none⟩) (n4+1) k',.int .i64 lo,.int .i64 st].toArray)∧ownG rc8 w' B 50 8 g' k' (rs++[(⟨x,y,z,false,0,false,0,[]⟩,gd,kd)])∧(∀ q,q≠g4→q<w.heap.size→w'.heap[q]?=w.heap[q]?)∧(g'=g4∨w.heap.size≤g')∧w.heap.size≤gd∧Below B w w':=by
 have HB0:Hid (Below w.heap.size w ((w.alloc (.cells [.int .i64 c0,.int .i64 c1,.int .i64 c2,.int .i64 c3,.slice a1 n1 k1,.slice a2 n2 k2,.slice a3 n3 k3,.slice (some ⟨g4,0,none⟩) n4 k4,.int .i64 lo,.int .i64 st].toArray 30)).alloc (.cells [.int .i64 0,.int .i64 0,.int .i64 0,.int .i64 0,.slice none 0 0,.slice none 0 0,.slice none 0 0,.slice none 0 0,.int .i64 0,.int .i64 0].toArray 30))):=((Below.refl _ _).alloc (Nat.le_refl _) _).alloc (by simp) _
 have HR0:Hid (blk ((w.alloc (.cells [.int .i64 c0,.int .i64 c1,.int .i64 c2,.int .i64 c3,.slice a1 n1 k1,.slice a2 n2 k2,.slice a3 n3 k3,.slice (some ⟨g4,0,none⟩) n4 k4,.int .i64 lo,.int .i64 st].toArray 30)).alloc (.cells [.int .i64 0,.int .i64 0,.int .i64 0,.int .i64 0,.slice none 0 0,.slice none 0 0,.slice none 0 0,.slice none 0 0,.int .i64 0,.int .i64 0].toArray 30)) (w.heap.size+1) Z10 30):=by
  have:=blk.new (w.alloc (.cells [.int .i64 c0,.int .i64 c1,.int .i64 c2,.int .i64 c3,.slice a1 n1 k1,.slice a2 n2 k2,.slice a3 n3 k3,.slice (some ⟨g4,0,none⟩) n4 k4,.int .i64 lo,.int .i64 st].toArray 30)) Z10 30
  have e:(w.alloc (.cells [.int .i64 c0,.int .i64 c1,.int .i64 c2,.int .i64 c3,.slice a1 n1 k1,.slice a2 n2 k2,.slice a3 n3 k3,.slice (some ⟨g4,0,none⟩) n4 k4,.int .i64 lo,.int .i64 st].toArray 30)).heap.size=w.heap.size+1:=by simp
  rw[e] at this
  exact this
 have HC:Hid (∀ X:World,Below w.heap.size w X→Calls Tryz.prog 50 #[.agg [.int .i64 c0,.int .i64 c1,.int .i64 c2,.int .i64 c3,.slice a1 n1 k1,.slice a2 n2 k2,.slice a3 n3 k3,.slice (some ⟨g4,0,none⟩) n4 k4,.int .i64 lo,.int .i64 st].toArray,.int .i64 x,.int .i64 y,.int .i64 z,frV false 0 false 0 none 0 0] X fun o w'=>∃ g' k' gd kd,o = .returned (.agg [.int .i64 c0,.int .i64 c1,.int .i64 c2,.int .i64 c3,.slice a1 n1 k1,.slice a2 n2 k2,.slice a3 n3 k3,.slice (some ⟨g',0,none⟩) (n4+1) k',.int .i64 lo,.int .i64 st].toArray)∧ownG rc8 w' B 50 8 g' k' (rs++[(⟨x,y,z,false,0,false,0,[]⟩,gd,kd)])∧(∀ q,q≠g4→q<X.heap.size→w'.heap[q]?=X.heap[q]?)∧(g'=g4∨X.heap.size≤g')∧X.heap.size≤gd∧Below B X w'):=fun X hX=>l3post_more X c0 c1 c2 c3 lo st a1 n1 k1 a2 n2 k2 a3 n3 k3 B g4 n4 k4 rs x y z false 0 false 0 none 0 [] hq hn (hO.kept (fun b _ h2=>hX.block b h2) hX.size) hrl (Nat.le_trans hB hX.size) ⟨rfl,Nat.le_refl _,fun q hq=>(by cases hq),fun h=>absurd rfl h⟩ (by simp)
 have HG4:Hid (g4<w.heap.size∧∀ p ∈ rs,rc8.gd p<w.heap.size):=⟨hO.lt.2,fun p hp=>(hO.dat p hp).2.2.2⟩
 have HBB:Hid (B≤w.heap.size):=hB
 clear hO hrl hB hq hn
 go_enter Tryz.func34,Tryz.ntmps34
 go_wp2_with fail
 refine (HC.out _ HB0.out).mono ?_
 rintro o w1 ⟨g',k',gd,kd,rfl,q1,q2,q3,q4,q5⟩
 have hz0:=HR0.out.lt
 have HR1:Hid (blk w1 (w.heap.size+1) Z10 30):=HR0.out.kept (q2 _ (by have:=HG4.out.1;omega) hz0)
 have HQ1:Hid (ownG rc8 w1 B 50 8 g' k' (rs++[(⟨x,y,z,false,0,false,0,[]⟩,gd,kd)])):=q1
 have HQ2:Hid ((∀ q,q≠g4→q<w.heap.size→w1.heap[q]?=w.heap[q]?)∧(g'=g4∨w.heap.size+1<g')∧w.heap.size+1<gd∧Below B w w1):=⟨fun q h1 h2=>(q2 q h1 (Nat.lt_of_lt_of_le h2 HB0.out.size)).trans (HB0.out.block q h2),(by rcases q3 with e | e;(exact Or.inl e);(right;omega)),by omega,(HB0.out.mono HBB.out).trans q5⟩
 clear q1 q2 q3 q4 q5 hz0 HR0 HB0 HC
 go_wp2_with (first
  | (refine wpList_store_mid (P:=Tryz.prog) rfl 30 _ _ rfl (w.heap.size+1) 0 [.int .i64 c0,.int .i64 c1,.int .i64 c2,.int .i64 c3,.slice a1 n1 k1,.slice a2 n2 k2,.slice a3 n3 k3,.slice (some ⟨g',0,none⟩) (n4+1) k',.int .i64 lo,.int .i64 st].toArray rfl rfl (HR1.out.there 0 10 (by simp[Z10])) sz41 (all_oneCell_toArray (by simp[Value.oneCell'])) ?_;generalize hW8:World.setCells _ (w.heap.size+1) 0 _=w8;have HW8:Hid (World.setCells w1 (w.heap.size+1) 0 [.int .i64 c0,.int .i64 c1,.int .i64 c2,.int .i64 c3,.slice a1 n1 k1,.slice a2 n2 k2,.slice a3 n3 k3,.slice (some ⟨g',0,none⟩) (n4+1) k',.int .i64 lo,.int .i64 st]=w8):=hW8;clear hW8))
 have e8:=HW8.out
 have hF:blk w8 (w.heap.size+1) [.int .i64 c0,.int .i64 c1,.int .i64 c2,.int .i64 c3,.slice a1 n1 k1,.slice a2 n2 k2,.slice a3 n3 k3,.slice (some ⟨g',0,none⟩) (n4+1) k',.int .i64 lo,.int .i64 st] 30:=by
  rw[← e8]
  have:=blk.put [] Z10 [] [.int .i64 c0,.int .i64 c1,.int .i64 c2,.int .i64 c3,.slice a1 n1 k1,.slice a2 n2 k2,.slice a3 n3 k3,.slice (some ⟨g',0,none⟩) (n4+1) k',.int .i64 lo,.int .i64 st] (w:=w1) (b:=w.heap.size+1) (T:=30) (by simpa using HR1.out) rfl
  simpa using this
 have hL:=run_loadVar_mid (P:=Tryz.prog) w8 (w.heap.size+1) 0 30 _ _ hF.load Tryz.underlying30 rfl sz41
 refine bodyPost_ret (v:=.agg [.int .i64 c0,.int .i64 c1,.int .i64 c2,.int .i64 c3,.slice a1 n1 k1,.slice a2 n2 k2,.slice a3 n3 k3,.slice (some ⟨g',0,none⟩) (n4+1) k',.int .i64 lo,.int .i64 st].toArray) (results_cell Tryz.results34 _ w8 (w.heap.size+1) _ rfl hL) rfl ?_
 have o8:∀ q,q≠w.heap.size+1→w8.heap[q]?=w1.heap[q]?:=fun q hq=>by rw[← e8];exact setCells_other _ q hq _ _ _
 have z8:w8.heap.size=w1.heap.size:=by rw[← e8];exact setCells_size ..
 have hg4:=HG4.out
 have hq2:=HQ2.out
 refine⟨g',k',gd,kd,rfl,HQ1.out.other o8 ?_ (fun p hp=>?_) (by rw[z8];exact Nat.le_refl _),fun q h1 h2=>(o8 q (by omega)).trans (hq2.1 q h1 h2),?_,by omega,?_⟩
 ·rcases hq2.2.1 with e | e <;> omega
 ·rcases List.mem_append.1 hp with h|h
  ·have:=hg4.2 p h
   omega
  ·rw[List.mem_singleton.1 h]
   show gd≠_
   omega
 ·rcases hq2.2.1 with e|e
  ·exact Or.inl e
  ·right;omega
 ·rw[← e8]
  exact setCells_below (by have:=HBB.out;omega) 0 _ hq2.2.2.2
set_option maxHeartbeats 4000000 in
set_option maxRecDepth 20000 in
theorem l3say_full (w:World) (c0 c1 c2 c3 lo st:Int) (a1:Option Addr) (n1 k1:Nat) (a2:Option Addr) (n2 k2:Nat) (a3:Option Addr) (n3 k3:Nat) (a4:Option Addr) (n4 k4:Nat) (x y z:Int) (hq:c3≤(n4:Int)) (hlo:0≤lo∧lo≤100000) (lo2:Int) (h2:lo2=if lo<100000 then lo+1 else lo) :
  Calls Tryz.prog 34 #[.agg [.int .i64 c0,.int .i64 c1,.int .i64 c2,.int .i64 c3,.slice a1 n1 k1,.slice a2 n2 k2,.slice a3 n3 k3,.slice a4 n4 k4,.int .i64 lo,.int .i64 st].toArray,.int .i64 x,.int .i64 y,.int .i64 z] w fun o w'=>o = .returned (.agg [.int .i64 c0,.int .i64 c1,.int .i64 c2,.int .i64 c3,.slice a1 n1 k1,.slice a2 n2 k2,.slice a3 n3 k3,.slice a4 n4 k4,.int .i64 lo2,.int .i64 st].toArray)∧Below w.heap.size w w':=by
 have HB0:Hid (Below w.heap.size w ((w.alloc (.cells [.int .i64 c0,.int .i64 c1,.int .i64 c2,.int .i64 c3,.slice a1 n1 k1,.slice a2 n2 k2,.slice a3 n3 k3,.slice a4 n4 k4,.int .i64 lo,.int .i64 st].toArray 30)).alloc (.cells [.int .i64 0,.int .i64 0,.int .i64 0,.int .i64 0,.slice none 0 0,.slice none 0 0,.slice none 0 0,.slice none 0 0,.int .i64 0,.int .i64 0].toArray 30))):=((Below.refl _ _).alloc (Nat.le_refl _) _).alloc (by simp) _
 have HR0:Hid (blk ((w.alloc (.cells [.int .i64 c0,.int .i64 c1,.int .i64 c2,.int .i64 c3,.slice a1 n1 k1,.slice a2 n2 k2,.slice a3 n3 k3,.slice a4 n4 k4,.int .i64 lo,.int .i64 st].toArray 30)).alloc (.cells [.int .i64 0,.int .i64 0,.int .i64 0,.int .i64 0,.slice none 0 0,.slice none 0 0,.slice none 0 0,.slice none 0 0,.int .i64 0,.int .i64 0].toArray 30)) (w.heap.size+1) Z10 30):=by
  have:=blk.new (w.alloc (.cells [.int .i64 c0,.int .i64 c1,.int .i64 c2,.int .i64 c3,.slice a1 n1 k1,.slice a2 n2 k2,.slice a3 n3 k3,.slice a4 n4 k4,.int .i64 lo,.int .i64 st].toArray 30)) Z10 30
  have e:(w.alloc (.cells [.int .i64 c0,.int .i64 c1,.int .i64 c2,.int .i64 c3,.slice a1 n1 k1,.slice a2 n2 k2,.slice a3 n3 k3,.slice a4 n4 k4,.int .i64 lo,.int .i64 st].toArray 30)).heap.size=w.heap.size+1:=by simp
  rw[e] at this
  exact this
 have HC:Hid (∀ X:World,Calls Tryz.prog 50 #[.agg [.int .i64 c0,.int .i64 c1,.int .i64 c2,.int .i64 c3,.slice a1 n1 k1,.slice a2 n2 k2,.slice a3 n3 k3,.slice a4 n4 k4,.int .i64 lo,.int .i64 st].toArray,.int .i64 x,.int .i64 y,.int .i64 z,frV false 0 false 0 none 0 0] X fun o w'=>o = .returned (.agg [.int .i64 c0,.int .i64 c1,.int .i64 c2,.int .i64 c3,.slice a1 n1 k1,.slice a2 n2 k2,.slice a3 n3 k3,.slice a4 n4 k4,.int .i64 lo2,.int .i64 st].toArray)∧Below X.heap.size X w'):=fun X=>by
  have:=l3post_full X c0 c1 c2 c3 lo st a1 n1 k1 a2 n2 k2 a3 n3 k3 a4 n4 k4 x y z false 0 false 0 none 0 0 hq hlo
  rw[← h2] at this
  exact this
 clear hq hlo h2
 go_enter Tryz.func34,Tryz.ntmps34
 go_wp2_with fail
 refine (HC.out _).mono ?_
 rintro o w1 ⟨rfl,b1⟩
 have HR1:Hid (blk w1 (w.heap.size+1) Z10 30):=HR0.out.below b1
 have HB1:Hid (Below w.heap.size w w1):=HB0.out.trans (b1.mono HB0.out.size)
 clear b1 HR0 HB0 HC
 go_wp2_with (first
  | (refine wpList_store_mid (P:=Tryz.prog) rfl 30 _ _ rfl (w.heap.size+1) 0 [.int .i64 c0,.int .i64 c1,.int .i64 c2,.int .i64 c3,.slice a1 n1 k1,.slice a2 n2 k2,.slice a3 n3 k3,.slice a4 n4 k4,.int .i64 lo2,.int .i64 st].toArray rfl rfl (HR1.out.there 0 10 (by simp[Z10])) sz41 (all_oneCell_toArray (by simp[Value.oneCell'])) ?_;generalize hW8:World.setCells _ (w.heap.size+1) 0 _=w8;have HW8:Hid (World.setCells w1 (w.heap.size+1) 0 [.int .i64 c0,.int .i64 c1,.int .i64 c2,.int .i64 c3,.slice a1 n1 k1,.slice a2 n2 k2,.slice a3 n3 k3,.slice a4 n4 k4,.int .i64 lo2,.int .i64 st]=w8):=hW8;clear hW8))
 have e8:=HW8.out
 have hF:blk w8 (w.heap.size+1) [.int .i64 c0,.int .i64 c1,.int .i64 c2,.int .i64 c3,.slice a1 n1 k1,.slice a2 n2 k2,.slice a3 n3 k3,.slice a4 n4 k4,.int .i64 lo2,.int .i64 st] 30:=by
  rw[← e8]
  have:=blk.put [] Z10 [] [.int .i64 c0,.int .i64 c1,.int .i64 c2,.int .i64 c3,.slice a1 n1 k1,.slice a2 n2 k2,.slice a3 n3 k3,.slice a4 n4 k4,.int .i64 lo2,.int .i64 st] (w:=w1) (b:=w.heap.size+1) (T:=30) (by simpa using HR1.out) rfl
  simpa using this
 have hL:=run_loadVar_mid (P:=Tryz.prog) w8 (w.heap.size+1) 0 30 _ _ hF.load Tryz.underlying30 rfl sz41
 refine bodyPost_ret (v:=.agg [.int .i64 c0,.int .i64 c1,.int .i64 c2,.int .i64 c3,.slice a1 n1 k1,.slice a2 n2 k2,.slice a3 n3 k3,.slice a4 n4 k4,.int .i64 lo2,.int .i64 st].toArray) (results_cell Tryz.results34 _ w8 (w.heap.size+1) _ rfl hL) rfl ?_
 refine⟨rfl,?_⟩
 rw[← e8]
 exact setCells_below (by omega) 0 _ HB1.out
def quP (c3:Int) (qu:List R8) (e:R8):List R8:=if (qu.length:Int)<c3 then qu++[e] else qu
def loP (c3:Int) (qu:List R8) (lo:Int):Int:=if (qu.length:Int)<c3 then lo else if lo<100000 then lo+1 else lo
def postHo (H:Ho) (e:R8):Ho:={ H with qu:=quP H.c3 H.qu e,lo:=loP H.c3 H.qu H.lo }
def qSl (s:Sl) (g n k:Nat):Sl:={ s with a4:=some ⟨g,0,none⟩,n4:=n,k4:=k }
theorem ownG.holes {w w' V:World} {B T E g gd kd:Nat} {g' k':Nat} {rs:List (R8 × Nat × Nat)} {ev:R8} (h1:ownG rc8 w' B E 8 g' k' (rs++[(ev,gd,kd)])) (hg:g'=g∨w.heap.size≤g') (hgT:g<T) (hall:∀ p ∈ rs,rc8.gd p<T) (hgd:w.heap.size≤gd) (hV:∀ x,B≤x→x<T∨w.heap.size≤x→x<w'.heap.size→V.heap[x]?=w'.heap[x]?) (hz:w'.heap.size≤V.heap.size):ownG rc8 V B E 8 g' k' (rs++[(ev,gd,kd)]):=by
 refine⟨ownsRow_kept h1.own (hV g' h1.lt.1 (by omega) h1.lt.2),fun p hp=>?_⟩
 obtain⟨d1,d2,d3,d4⟩:=h1.dat p hp
 have e:rc8.gd p<T∨w.heap.size≤rc8.gd p:=by
  rcases List.mem_append.1 hp with h|h
  ·exact Or.inl (hall p h)
  ·right
   have:p=(ev,gd,kd):=by simpa using h
   subst this
   exact hgd
 exact⟨d1.other (hV _ d2 e d4),d2,d3,Nat.lt_of_lt_of_le d4 hz⟩
theorem ownG.holes0 {w' V:World} {B T E g k:Nat} {rs:List (R8 × Nat × Nat)} (h1:ownG rc8 w' B E 8 g k rs) (hgT:g<T) (hall:∀ p ∈ rs,rc8.gd p<T) (hV:∀ x,B≤x→x<T→x<w'.heap.size→V.heap[x]?=w'.heap[x]?) (hz:w'.heap.size≤V.heap.size):ownG rc8 V B E 8 g k rs:=by
 refine⟨ownsRow_kept h1.own (hV g h1.lt.1 hgT h1.lt.2),fun p hp=>?_⟩
 obtain⟨d1,d2,d3,d4⟩:=h1.dat p hp
 exact⟨d1.other (hV _ d2 (hall p hp) d4),d2,d3,Nat.lt_of_lt_of_le d4 hz⟩
abbrev ev3 (x y z:Int):R8:=⟨x,y,z,false,0,false,0,[]⟩
theorem l3say_q (w:World) (H:Ho) (s:Sl) (B T g4:Nat) (x y z:Int) (ha:s.a4=some ⟨g4,0,none⟩) (hQ:rowQ8 B T 50 g4 s.n4 s.k4 H.qu w) (hB:B≤w.heap.size) (hn:s.n4≤1000) (hlo:0≤H.lo∧H.lo≤100000) :
  Calls Tryz.prog 34 #[.agg (hoL H s).toArray,.int .i64 x,.int .i64 y,.int .i64 z] w fun o w'=>∃ g' n' k',o = .returned (.agg (hoL (postHo H (ev3 x y z)) (qSl s g' n' k')).toArray)∧(∀ V:World,(∀ x,B≤x→x<T∨w.heap.size≤x→x<w'.heap.size→V.heap[x]?=w'.heap[x]?)→w'.heap.size≤V.heap.size→rowQ8 B V.heap.size 50 g' n' k' (quP H.c3 H.qu (ev3 x y z)) V)∧(∀ q,q≠g4→q<w.heap.size→w'.heap[q]?=w.heap[q]?)∧Below B w w':=by
 obtain⟨rs,ho,hmap,hlen,hgT,hall⟩:=hQ
 have hql:H.qu.length=s.n4:=by rw[← hmap,List.length_map,hlen]
 obtain⟨c0,c1,c2,c3,fs,bx,ff,qu,lo,st⟩:=H
 obtain⟨a1,n1,k1,a2,n2,k2,a3,n3,k3,a4,n4,k4⟩:=s
 simp only[] at ha hlen hql hn hlo hmap ho
 subst ha
 by_cases hq:(n4:Int)<c3
 ·refine (l3say_more w c0 c1 c2 c3 lo st a1 n1 k1 a2 n2 k2 a3 n3 k3 B g4 n4 k4 rs x y z hq hn ho hlen hB).mono ?_
  rintro o w' ⟨g',k',gd,kd,rfl,h1,h2,h3,h4,h5⟩
  have hq':(qu.length:Int)<c3:=by rw[hql];exact hq
  refine⟨g',n4+1,k',?_,fun V hV hz=>?_,h2,h5⟩
  ·simp only[hoL,postHo,qSl,loP,if_pos hq']
  have h1:=h1.holes h3 hgT hall h4 hV hz
  refine⟨_,h1,?_,?_,h1.lt.2,fun p hp=>(h1.dat p hp).2.2.2⟩
  ·simp only[quP,if_pos hq',List.map_append,hmap,List.map_cons,List.map_nil]
  ·simp[hlen]
 ·have hq':¬ (qu.length:Int)<c3:=by rw[hql];exact hq
  refine (l3say_full w c0 c1 c2 c3 lo st a1 n1 k1 a2 n2 k2 a3 n3 k3 (some ⟨g4,0,none⟩) n4 k4 x y z (by omega) hlo (loP c3 qu lo) (by simp only[loP,if_neg hq'])).mono ?_
  rintro o w' ⟨rfl,hb⟩
  refine⟨g4,n4,k4,rfl,fun V hV hz=>?_,fun q _ h=>hb.block q h,hb.mono hB⟩
  have h1:=(ho.below hb).holes0 hgT hall (fun x h1 h2 h3=>hV x h1 (Or.inl h2) h3) hz
  exact⟨rs,h1,by simp only[quP,if_neg hq',hmap],hlen,h1.lt.2,fun p hp=>(h1.dat p hp).2.2.2⟩
def fstB (p:R8→Prop) (bx:List R8) (r:Int):Prop:=(∃ (k:Nat) (h:k<bx.length),p bx[k]∧(∀ j (hj:j<bx.length),j<k→¬ p bx[j])∧r=(k:Int))∨((∀ k (h:k<bx.length),¬ p bx[k])∧r = -1)
theorem fstB.ix {p:R8→Prop} [DecidablePred p] {bx:List R8} {r:Int} (h:fstB p bx r):(r = -1∧bx.findIdx (fun b=>decide (p b))=bx.length)∨(r=(bx.findIdx (fun b=>decide (p b)):Int)∧bx.findIdx (fun b=>decide (p b))<bx.length):=by
 rcases h with⟨k,hk,h1,h2,rfl⟩|⟨h1,rfl⟩
 ·right
  have e:bx.findIdx (fun b=>decide (p b))=k:=by
   rw[List.findIdx_eq hk]
   exact⟨by simpa using h1,fun j hj=>by simpa using h2 j (by omega) hj⟩
  rw[e]
  exact⟨rfl,hk⟩
 ·left
  refine⟨rfl,List.findIdx_eq_length.2 fun b hb=>?_⟩
  obtain⟨j,hj,rfl⟩:=List.getElem_of_mem hb
  simpa using h1 j hj
def tagB (t:Int) (b:R8):Prop:=b.x≠0∧b.y=t
set_option maxHeartbeats 4000000 in
set_option maxRecDepth 20000 in
theorem l3find_any (w:World) (H:Ho) (s:Sl) (t:Int) (h:isR8s w s.a2 s.n2 s.k2 H.bx) (hn:s.n2≤1000) :
  Calls Tryz.prog 35 #[.agg (hoL H s).toArray,.int .i64 t] w fun o w'=>∃ r:Int,o = .returned (.int .i64 r)∧fstB (tagB t) H.bx r∧Below w.heap.size w w':=by
 have H0:Hid (obS w H s (w.alloc (.cells (hoL H s).toArray 30))):=⟨blk.new w _ 30,(Below.refl _ _).alloc (Nat.le_refl _) _⟩
 have hcp:=h.cap
 obtain⟨c0,c1,c2,c3,fs,bx,ff,qu,lo,st⟩:=H
 obtain⟨a1,n1,k1,a2,n2,k2,a3,n3,k3,a4,n4,k4⟩:=s
 simp only[] at h hcp hn ⊢
 have HL:Hid (n2=bx.length):=h.len
 by_cases hl:bx=[]
 ·subst hl
  have hn0:n2=0:=HL.out
  subst hn0
  clear h
  go_enter Tryz.func35,Tryz.ntmps35
  go_wp2_with fail
  go_loopw [5] (fun i wr=>i = .int .i64 0∧obS w ⟨c0,c1,c2,c3,fs,[],ff,qu,lo,st⟩ ⟨a1,n1,k1,a2,0,k2,a3,n3,k3,a4,n4,k4⟩ wr) (fun _ _=>0)
  case atStart=>exact⟨rfl,H0.out⟩
  case round=>
   obtain⟨rfl,hS⟩:=hrel
   have p5:=hS.p.cell 5 _ rfl
   have HS:=hS.b
   go_wp2
   go_ret
   exact⟨-1,rfl,Or.inr ⟨fun k hk=>(by cases hk),rfl⟩,HS⟩
 obtain⟨g,off,rfl,hc⟩:=h.cells hl
 have HC:Hid (∀ j (h:j<bx.length),∃ ao m c,at8 w g (off+j*8) bx[j] ao m c):=hc
 clear hc h hl
 go_enter Tryz.func35,Tryz.ntmps35
 go_wp2_with fail
 go_loopw [5] (fun i wr=>∃ k:Nat,k≤n2∧i = .int .i64 (k:Int)∧(∀ j (hj:j<bx.length),j<k→¬ tagB t bx[j])∧obS w ⟨c0,c1,c2,c3,fs,bx,ff,qu,lo,st⟩ ⟨a1,n1,k1,some ⟨g,off,none⟩,n2,k2,a3,n3,k3,a4,n4,k4⟩ wr) (fun i _=>n2-(intOf i).toNat)
 case atStart=>exact⟨0,Nat.zero_le _,rfl,fun j _ h=>absurd h (Nat.not_lt_zero _),H0.out⟩
 case round=>
  obtain⟨k,hk,rfl,hA,hS⟩:=hrel
  have HA:Hid (∀ j (hj:j<bx.length),j<k→¬ tagB t bx[j]):=hA
  have HS:Hid (obS w ⟨c0,c1,c2,c3,fs,bx,ff,qu,lo,st⟩ ⟨a1,n1,k1,some ⟨g,off,none⟩,n2,k2,a3,n3,k3,a4,n4,k4⟩ wr):=hS
  have x5:=hS.p.cell 5 _ rfl
  clear hA hS
  by_cases hlt:k<n2
  ·have hkl:k<bx.length:=by have:=HL.out;omega
   obtain⟨ao,m,c,hx⟩:=HC.out k hkl
   have u0:=(hx.below HS.out.b).c0
   have u1:=(hx.below HS.out.b).c1
   clear hx
   have HON:Hid (tagB t bx[k]↔(bx[k].x≠0∧bx[k].y=t)):=Iff.rfl
   generalize bx[k].x=x at *
   generalize bx[k].y=y at *
   by_cases h2:x=0
   ·subst h2
    go_wp2_with fail
    go_roundw
    case rel=>
     refine⟨k+1,by omega,by go_num,fun j hj hjk=>?_,HS.out⟩
     by_cases e:j=k
     ·subst e
      intro hh
      exact (HON.out.1 hh).1 rfl
     ·exact HA.out j hj (by omega)
    case measure=>simp[intOf];omega
   ·have h2':(x == 0)=false:=by simpa using h2
    by_cases h3:y=t
    ·subst h3
     go_wp2_with fail
     go_ret
     exact⟨k,rfl,Or.inl ⟨k,hkl,HON.out.2 ⟨h2,by simp⟩,HA.out,rfl⟩,HS.out.b⟩
    ·have h3':(y == t)=false:=by simpa using h3
     go_wp2_with fail
     go_roundw
     case rel=>
      refine⟨k+1,by omega,by go_num,fun j hj hjk=>?_,HS.out⟩
      by_cases e:j=k
      ·subst e
       intro hh
       exact h3 (HON.out.1 hh).2
      ·exact HA.out j hj (by omega)
     case measure=>simp[intOf];omega
  ·have hkn:n2=k:=by omega
   subst hkn
   go_wp2_with fail
   go_ret
   exact⟨-1,rfl,Or.inr ⟨fun j hj=>HA.out j hj (by have:=HL.out;omega),rfl⟩,HS.out.b⟩
abbrev z8:R8:=⟨0,0,0,false,0,false,0,[]⟩
structure bxR (B T g n k:Nat) (bx:List R8) (hs:Nat→Hd) (W:World):Prop where
 len:n=bx.length
 cap:n≤k
 lo:B≤g
 hi:g<T
 row:rowF W g (n*8)
 rng:∀ j (h:j<bx.length),W.rangeAt g (j*8) (x8 (bx[j],hs j))
 dat:∀ j (h:j<bx.length),isBytes W (hs j).1 (hs j).2.1 (hs j).2.2 bx[j].l∧(((hs j).1=none∧(hs j).2.1=0)∨∃ b,(hs j).1=some ⟨b,0,none⟩∧B≤b∧b<T∧b≠g)
theorem isBytes.none0 {W W':World} {a:Option Addr} {n c:Nat} {l:List Nat} (h:isBytes W a n c l) (hn:n=0):isBytes W' a n c l:=⟨h.len,h.cap,h.small,fun hne=>absurd (List.length_pos_iff.2 hne) (by have:=h.len;omega)⟩
theorem bxR.st {B T g n k:Nat} {bx:List R8} {hs:Nat→Hd} {W W':World} (h:bxR B T g n k bx hs W) (he:∀ x,B≤x→x<T→W'.heap[x]?=W.heap[x]?):bxR B T g n k bx hs W':=
 ⟨h.len,h.cap,h.lo,h.hi,h.row.up (he g h.lo h.hi),fun j hj=>rangeAt.up (h.rng j hj) (he g h.lo h.hi),fun j hj=>by
  obtain⟨h1,h2⟩:=h.dat j hj
  refine⟨?_,h2⟩
  rcases h2 with⟨e1,e2⟩|⟨b,e1,e2,e3,_⟩
  ·exact h1.none0 e2
  ·rw[e1] at h1 ⊢
   exact h1.other (he b e2 e3)⟩
theorem x8_at8 {W:World} {g o:Nat} {b:R8} {h:Hd} (hr:W.rangeAt g o (x8 (b,h))) (hd:isBytes W h.1 h.2.1 h.2.2 b.l):at8 W g o b h.1 h.2.1 h.2.2:=
 ⟨hr 0 _ rfl,hr 1 _ rfl,hr 2 _ rfl,hr 3 _ rfl,hr 4 _ rfl,hr 5 _ rfl,hr 6 _ rfl,hr 7 _ rfl,hd⟩
theorem bxR.is {B T g n k:Nat} {bx:List R8} {hs:Nat→Hd} {W:World} (h:bxR B T g n k bx hs W):isR8s W (some ⟨g,0,none⟩) n k bx:=
 ⟨h.len,h.cap,fun _=>⟨g,0,rfl,fun j hj=>⟨_,_,_,by rw[Nat.zero_add];exact x8_at8 (h.rng j hj) (h.dat j hj).1⟩⟩⟩
theorem rowQ8.bxR {B T E g n k:Nat} {bx:List R8} {W:World} (h:rowQ8 B T E g n k bx W):∃ hs,bxR B T g n k bx hs W:=by
 have hi:=h.is
 obtain⟨rs,h2,h3,h4,h5,h6⟩:=h
 have hl:=h2.lt
 obtain⟨g1,c1,e1,q1,q2,q3,q4⟩:=own_slice h2.own (by intro e;cases e)
 rcases ownsRow_split h2.own with⟨e,_⟩|⟨g2,c2,e2,_,_,_,hrf,hrg⟩
 ·cases e
 cases e2
 subst h3
 refine⟨fun j=>(rs.map fun p=>((some ⟨p.2.1,0,none⟩,p.1.l.length,p.2.2):Hd)).getD j (none,0,0),⟨hi.len,hi.cap,hl.1,h5,by rw[← h4];exact hrf,fun j hj=>?_,fun j hj=>?_⟩⟩
 ·have hj':j<rs.length:=by simpa using hj
  have e:x8 ((rs.map (·.1))[j],(rs.map fun p=>((some ⟨p.2.1,0,none⟩,p.1.l.length,p.2.2):Hd)).getD j (none,0,0))=rc8.enc rs[j]:=by
   simp[x8,rc8,List.getD,hj']
  rw[e]
  intro t u hu
  have ht:t<8:=by have:=(List.getElem?_eq_some_iff.mp hu).1;simpa[rc8] using this
  have:=hrg (j*8+t) u (by rw[flat_at rc8.enc 8 (fun _=>rfl) rs j hj' t ht];exact hu)
  rw[Nat.zero_add] at this
  exact this
 ·have hj':j<rs.length:=by simpa using hj
  have hm:=List.getElem_mem hj'
  obtain⟨d1,d2,d3,d4⟩:=h2.dat rs[j] hm
  simp only[List.getElem_map,List.getD,List.getElem?_map,List.getElem?_eq_getElem hj',Option.map_some,Option.getD_some]
  exact⟨d1,Or.inr ⟨_,rfl,d2,h6 _ hm,d3⟩⟩
theorem bxR.put {B T g n k:Nat} {bx:List R8} {hs:Nat→Hd} {W:World} (h:bxR B T g n k bx hs W) (i:Nat) (hi:i<bx.length) (b:R8) (hd:Hd) (hb:isBytes W hd.1 hd.2.1 hd.2.2 b.l) (hw:(hd.1=none∧hd.2.1=0)∨∃ b,hd.1=some ⟨b,0,none⟩∧B≤b∧b<T∧b≠g):bxR B T g n k (bx.set i b) (fun j=>if j=i then hd else hs j) (setRow W g (i*8) (x8 (b,hd))):=by
 have hln:=h.len
 have oth:∀ x,x≠g→(setRow W g (i*8) (x8 (b,hd))).heap[x]?=W.heap[x]?:=fun x hx=>setRow_block g x hx _ _ _
 have dk:∀ (hd':Hd) (l:List Nat),isBytes W hd'.1 hd'.2.1 hd'.2.2 l→((hd'.1=none∧hd'.2.1=0)∨∃ b,hd'.1=some ⟨b,0,none⟩∧B≤b∧b<T∧b≠g)→isBytes (setRow W g (i*8) (x8 (b,hd))) hd'.1 hd'.2.1 hd'.2.2 l:=by
  intro hd' l h1 h2
  rcases h2 with⟨e1,e2⟩|⟨c,e1,e2,e3,e4⟩
  ·exact h1.none0 e2
  ·rw[e1] at h1 ⊢
   exact h1.other (oth c e4)
 refine⟨by rw[List.length_set];exact h.len,h.cap,h.lo,h.hi,h.row.setRow _ _ _ _,fun j hj=>?_,fun j hj=>?_⟩
 ·have hj':j<bx.length:=by simpa using hj
  by_cases e:j=i
  ·subst e
   rw[List.getElem_set_self,if_pos rfl]
   intro t u hu
   have ht:t<(x8 (b,hd)).length:=(List.getElem?_eq_some_iff.mp hu).1
   have ht8:t<8:=by simpa[x8] using ht
   rw[setRow_at g _ _ _ t ht ((h.row (j*8+t) (by omega)).1)]
   rw[List.getElem?_eq_getElem ht] at hu
   exact hu
  ·rw[List.getElem_set_ne (fun x=>e x.symm),if_neg e]
   intro t u hu
   have ht:t<8:=by have:=(List.getElem?_eq_some_iff.mp hu).1;simpa[x8] using this
   rw[setRow_other g _ _ _ _ (by simp[x8];omega)]
   exact h.rng j hj' t u hu
 ·have hj':j<bx.length:=by simpa using hj
  by_cases e:j=i
  ·subst e
   rw[List.getElem_set_self,if_pos rfl]
   exact⟨dk hd b.l hb hw,hw⟩
  ·rw[List.getElem_set_ne (fun x=>e x.symm),if_neg e]
   exact⟨dk _ _ (h.dat j hj').1 (h.dat j hj').2,(h.dat j hj').2⟩
theorem bxR.there {B T g n k:Nat} {bx:List R8} {hs:Nat→Hd} {W:World} (h:bxR B T g n k bx hs W) (i:Nat) (hi:i<bx.length):W.there g (i*8) 8:=fun j hj=>by
 obtain⟨⟨v,hv⟩,hf⟩:=h.row (i*8+j) (by have:=h.len;omega)
 exact⟨by rw[hv];rfl,hf⟩
theorem bxR.setX {B T g n k:Nat} {bx:List R8} {hs:Nat→Hd} {W:World} (h:bxR B T g n k bx hs W) (i:Nat) (hi:i<bx.length) (v:Int):bxR B T g n k (bx.set i { bx[i] with x:=v }) hs (W.setCell ⟨g,i*8,none⟩ (.int .i64 v)):=by
 have oth:∀ x,x≠g→(W.setCell ⟨g,i*8,none⟩ (.int .i64 v)).heap[x]?=W.heap[x]?:=fun x hx=>heap_setCell_other W ⟨g,i*8,none⟩ x _ hx
 refine⟨by rw[List.length_set];exact h.len,h.cap,h.lo,h.hi,h.row.setCell _ _,fun j hj=>?_,fun j hj=>?_⟩
 ·have hj':j<bx.length:=by simpa using hj
  have ot:∀ t,j*8+t≠i*8→(W.setCell ⟨g,i*8,none⟩ (.int .i64 v)).cell? ⟨g,j*8+t,none⟩=W.cell? ⟨g,j*8+t,none⟩:=fun t ht=>World.cell?_setCell_other _ _ _ _ (by intro e;simp at e <;> omega)
  intro t u hu
  have ht:t<8:=by have:=(List.getElem?_eq_some_iff.mp hu).1;simpa[x8] using this
  by_cases e:j=i
  ·subst e
   rw[List.getElem_set_self] at hu
   by_cases et:t=0
   ·subst et
    have e0:u = .int .i64 v:=by simpa[x8] using hu.symm
    subst e0
    obtain⟨⟨w0,hw0⟩,_⟩:=h.row (j*8) (by have:=h.len;omega)
    exact World.cell?_setCell_same _ _ _ hw0
   ·rw[ot t (by omega)]
    refine h.rng j hj' t u ?_
    rw[← hu]
    match t,ht,et with
    | 1,_,_ | 2,_,_ | 3,_,_ | 4,_,_ | 5,_,_ | 6,_,_ | 7,_,_=>rfl
  ·rw[List.getElem_set_ne (fun x=>e x.symm)] at hu
   rw[ot t (by omega)]
   exact h.rng j hj' t u hu
 ·have hj':j<bx.length:=by simpa using hj
  have e:(bx.set i { bx[i] with x:=v })[j].l=bx[j].l:=by
   by_cases e:j=i
   ·subst e
    rw[List.getElem_set_self]
   ·rw[List.getElem_set_ne (fun x=>e x.symm)]
  rw[e]
  obtain⟨h1,h2⟩:=h.dat j hj'
  refine⟨?_,h2⟩
  rcases h2 with⟨e1,e2⟩|⟨b,e1,e2,e3,e4⟩
  ·exact h1.none0 e2
  ·rw[e1] at h1 ⊢
   exact h1.other (oth b e4)
structure spS (B T0 T1 T2:Nat) (H:Ho) (s:Sl) (W:World):Prop where
 f:∃ gf,s.a1=some ⟨gf,0,none⟩∧B≤gf∧gf<T0∧isR3s W (some ⟨gf,0,none⟩) s.n1 s.k1 H.fs
 x:∃ gb hs,s.a2=some ⟨gb,0,none⟩∧bxR T0 T1 gb s.n2 s.k2 H.bx hs W
 r:∃ gq,s.a3=some ⟨gq,0,none⟩∧rowQ5 T1 T2 37 gq s.n3 s.k3 H.ff W
 q:∃ g4,s.a4=some ⟨g4,0,none⟩∧rowQ8 T2 W.heap.size 50 g4 s.n4 s.k4 H.qu W
 o:B≤T0∧T0≤T1∧T1≤T2∧T2≤W.heap.size
theorem spS.is {B T0 T1 T2:Nat} {H:Ho} {s:Sl} {W:World} (h:spS B T0 T1 T2 H s W):isHo W H s:=by
 obtain⟨gf,e1,_,_,h1⟩:=h.f
 obtain⟨gb,hs,e2,h2⟩:=h.x
 obtain⟨gq,e3,h3⟩:=h.r
 obtain⟨g4,e4,h4⟩:=h.q
 exact⟨by rw[e1];exact h1,by rw[e2];exact h2.is,by rw[e3];exact h3.is,by rw[e4];exact h4.is⟩
theorem rowQ8.mono {B T T' E g n k:Nat} {bs:List R8} {W:World} (h:rowQ8 B T E g n k bs W) (hT:T≤T'):rowQ8 B T' E g n k bs W:=by
 obtain⟨rs,h1,h2,h3,h4,h5⟩:=h
 exact⟨rs,h1,h2,h3,by omega,fun p hp=>Nat.lt_of_lt_of_le (h5 p hp) hT⟩
theorem rowQ8.keep {B T E g n k:Nat} {bs:List R8} {W W':World} (h:rowQ8 B T E g n k bs W) (he:∀ x,B≤x→x<T→W'.heap[x]?=W.heap[x]?):rowQ8 B T E g n k bs W':=by
 obtain⟨rs,h1,h2,h3,h4,h5⟩:=h
 refine⟨rs,⟨ownsRow_kept h1.own (he g h1.lt.1 h4),fun p hp=>?_⟩,h2,h3,h4,h5⟩
 obtain⟨d1,d2,d3,d4⟩:=h1.dat p hp
 have e:=he _ d2 (h5 p hp)
 refine⟨d1.other e,d2,d3,?_⟩
 rw[Array.getElem?_eq_getElem d4] at e
 exact lt_of_some e
theorem rowQ5.keep {B T E g n k:Nat} {bs:List R5} {W W':World} (h:rowQ5 B T E g n k bs W) (he:∀ x,B≤x→x<T→W'.heap[x]?=W.heap[x]?):rowQ5 B T E g n k bs W':=by
 obtain⟨rs,h1,h2,h3,h4,h5⟩:=h
 refine⟨rs,⟨ownsRow_kept h1.own (he g h1.lt.1 h4),fun p hp=>?_⟩,h2,h3,h4,h5⟩
 obtain⟨d1,d2,d3,d4⟩:=h1.dat p hp
 have e:=he _ d2 (h5 p hp)
 refine⟨d1.other e,d2,d3,?_⟩
 rw[Array.getElem?_eq_getElem d4] at e
 exact lt_of_some e
theorem spS.st {B T0 T1 T2:Nat} {H:Ho} {s:Sl} {W W':World} (h:spS B T0 T1 T2 H s W) (he:∀ x,B≤x→x<W.heap.size→W'.heap[x]?=W.heap[x]?) (hz:W.heap.size≤W'.heap.size):spS B T0 T1 T2 H s W':=by
 obtain⟨o1,o2,o3,o4⟩:=h.o
 obtain⟨gf,e1,h1a,h1b,h1⟩:=h.f
 obtain⟨gb,hs,e2,h2⟩:=h.x
 obtain⟨gq,e3,h3⟩:=h.r
 obtain⟨g4,e4,h4⟩:=h.q
 exact⟨⟨gf,e1,h1a,h1b,h1.same (he gf h1a (by omega))⟩,⟨gb,hs,e2,h2.st fun x h1 h2=>he x (by omega) (by omega)⟩,⟨gq,e3,h3.keep fun x h1 h2=>he x (by omega) (by omega)⟩,⟨g4,e4,(h4.keep fun x h1 h2=>he x (by omega) h2).mono hz⟩,⟨o1,o2,o3,by omega⟩⟩
theorem spS.below {B T0 T1 T2:Nat} {H:Ho} {s:Sl} {W W':World} (h:spS B T0 T1 T2 H s W) (hb:Below W.heap.size W W'):spS B T0 T1 T2 H s W':=h.st (fun x _ hx=>hb.block x hx) hb.size
theorem spS.post {B T0 T1 T2:Nat} {H:Ho} {s:Sl} {W V:World} {e:R8} {g' n' k':Nat} (h:spS B T0 T1 T2 H s W) (hq:rowQ8 T2 V.heap.size 50 g' n' k' (quP H.c3 H.qu e) V) (he:∀ q,B≤q→q<T2→V.heap[q]?=W.heap[q]?) (hz:W.heap.size≤V.heap.size):spS B T0 T1 T2 (postHo H e) (qSl s g' n' k') V:=by
 obtain⟨o1,o2,o3,o4⟩:=h.o
 obtain⟨gf,e1,h1a,h1b,h1⟩:=h.f
 obtain⟨gb,hs,e2,h2⟩:=h.x
 obtain⟨gq,e3,h3⟩:=h.r
 exact⟨⟨gf,e1,h1a,h1b,h1.same (he gf (by omega) (by omega))⟩,⟨gb,hs,e2,h2.st fun x h1 h2=>he x (by omega) (by omega)⟩,⟨gq,e3,h3.keep fun x h1 h2=>he x (by omega) (by omega)⟩,⟨g',rfl,hq⟩,⟨o1,o2,o3,by omega⟩⟩
theorem spS.box {B T0 T1 T2 gb:Nat} {H:Ho} {s:Sl} {W W':World} {bx:List R8} {hs:Nat→Hd} (h:spS B T0 T1 T2 H s W) (e2:s.a2=some ⟨gb,0,none⟩) (hx:bxR T0 T1 gb s.n2 s.k2 bx hs W') (he:∀ q,q≠gb→W'.heap[q]?=W.heap[q]?) (hz:W'.heap.size=W.heap.size):spS B T0 T1 T2 { H with bx:=bx } s W':=by
 obtain⟨o1,o2,o3,o4⟩:=h.o
 obtain⟨gf,e1,h1a,h1b,h1⟩:=h.f
 obtain⟨gq,e3,h3⟩:=h.r
 obtain⟨g4,e4,h4⟩:=h.q
 have:=hx.lo
 have:=hx.hi
 refine⟨⟨gf,e1,h1a,h1b,h1.same (he gf (by omega))⟩,⟨gb,hs,e2,hx⟩,⟨gq,e3,h3.keep fun x h1 h2=>he x (by omega)⟩,⟨g4,e4,?_⟩,⟨o1,o2,o3,by omega⟩⟩
 rw[hz]
 exact h4.keep fun x h1 h2=>he x (by omega)
end Go.Proofs.YtgkkcpgocbcbaaaGreat
