import Derived.Test.YtaamahohdnbpiaaGreatG28
import Derived.Test.YtaamahohdnbpiaaGreatG27
import Derived.Deep.RegionHeld3
import Derived.Test.YtaamahohdnbpiaaGreatG02
namespace Go.Proofs.YtaamahohdnbpiaaGreat
open Go.RowKit
set_option linter.unusedVariables false
theorem whS.mono {B T B' T':Nat} {W:World} {s:Wh} (h:whS B T W s) (hB:B'≤B) (hT:T≤T'):whS B' T' W s:=
 ⟨h.f,h.fc,⟨by have:=h.fb.1;omega,by have:=h.fb.2;omega⟩,h.x,h.xb.mono hB hT,h.r,h.rb.mono hB hT,h.q,h.qb.mono hB hT,h.m1,h.m2,h.m3,h.m4⟩
theorem toldQ.put {w w3 w4 w8:World} {H:Ho} {s4:Wh} {R:Nat} (hz:w.heap.size≤w3.heap.size) (hR:R<w3.heap.size) (q1:St w3.heap.size w4 (fun W=>isHo W H s4.sl)) (q2:whS w3.heap.size w4.heap.size w4 s4) (oth:∀ x,x≠R→w8.heap[x]?=w4.heap[x]?) (hs:w8.heap.size=w4.heap.size):St w.heap.size w8 (fun W=>isHo W H s4.sl)∧whS w.heap.size w8.heap.size w8 s4:=by
 refine⟨fun W hW=>q1 W (fun x h1 h2=>(hW x (by omega) (by omega)).trans (oth x (by omega))),?_⟩
 rw[hs]
 exact (q2.same (fun x h1 h2=>oth x (by omega))).mono hz (Nat.le_refl _)
theorem vOk (W:World) (H:Ho) (s:Sl) (h:isHo W H s) (hn:H.le 1048576) (hok:okHo H):Calls Tryz.prog 60 #[.agg (hoL H s).toArray] W fun o w'=>o = .returned (.bool true)∧Below W.heap.size W w':=(validHost_any W H s h hn).mono (by rintro o w' ⟨⟨b,rfl,hb⟩,h2⟩;rw[hb.2 hok];exact⟨rfl,h2⟩)
theorem vBad (W:World) (H:Ho) (s:Sl) (h:isHo W H s) (hn:H.le 1048576) (hok:¬ okHo H):Calls Tryz.prog 60 #[.agg (hoL H s).toArray] W fun o w'=>o = .returned (.bool false)∧Below W.heap.size W w':=(validHost_any W H s h hn).mono (by rintro o w' ⟨⟨b,rfl,hb⟩,h2⟩;cases b;exact⟨rfl,h2⟩;exact absurd (hb.1 rfl) hok)
set_option maxHeartbeats 8000000 in
set_option maxRecDepth 20000 in
theorem changed65 (w:World) (H:Ho) (s:Sl) (Bx:Nat) (i:Int) (h:isHo w H s) (hs:slSome s) (hn:H.le 1048576) (yb:w.cell? ⟨Bx,0,none⟩=some (.int .i64 i)) :
  Calls Tryz.prog 56 #[.agg (hoL H s).toArray,.func (.func 65) #[] #[.pointer (some ⟨Bx,0,none⟩)]] w fun o w'=>(okHo H∧toldQ w (takeHo H i) o w')∨(¬ okHo H∧o = .returned (.agg [.int .i64 0,.int .i64 0,.int .i64 0,.int .i64 0,.slice none 0 0,.slice none 0 0,.slice none 0 0,.slice none 0 0,.int .i64 0,.int .i64 0].toArray)∧Below w.heap.size w w'):=by
 have H0:Hid (dtS w H s ((w.alloc (.cells (hoL H s).toArray 35)).alloc (.cells [.int .i64 0,.int .i64 0,.int .i64 0,.int .i64 0,.slice none 0 0,.slice none 0 0,.slice none 0 0,.slice none 0 0,.int .i64 0,.int .i64 0].toArray 35))):=dtS.new w H s
 have HYB:Hid (∀ W,Below w.heap.size w W→W.cell? ⟨Bx,0,none⟩=some (.int .i64 i)):=fun W hW=>(hW.cell (by exact World.block_lt_of_cell? w _ yb)).trans yb
 clear yb;by_cases hok:okHo H
 ·have HV:Hid (∀ W,Below w.heap.size w W→Calls Tryz.prog 60 #[.agg (hoL H s).toArray] W fun o w'=>o = .returned (.bool true)∧Below W.heap.size W w'):=fun W hW=>vOk W H s (h.below hW) hn hok
  have HO:Hid (∀ W,Below w.heap.size w W→Calls Tryz.prog 61 #[.agg (hoL H s).toArray] W fun o w'=>∃ P,o = .returned (.pointer (some ⟨P,0,none⟩))∧Below W.heap.size W w'∧Calls Tryz.prog 65 #[.pointer (some ⟨P,0,none⟩),.pointer (some ⟨Bx,0,none⟩)] w' fun o w2=>o = .returned (.tuple #[])∧Below W.heap.size W w2∧Calls Tryz.prog 118 #[.pointer (some ⟨P,0,none⟩)] w2 (toldQ w2 (takeHo H i))):=fun W hW=>open_take W H s Bx i (h.below hW) hs hok hn (HYB.out W hW)
  have HOK:Hid (okHo H):=hok
  clear h hn hok hs;go_enter Tryz.func56,Tryz.ntmps56
  go_wp2_with (first
   | (refine wpList_load_mid (P:=Tryz.prog) rfl 35 _ rfl w.heap.size 0 rfl (hoL H s) _ H0.out.p.load Tryz.underlying35 rfl (sz41L H s) ?_))
  refine (HV.out _ H0.out.b).mono ?_
  rintro o w1 ⟨rfl,hb1⟩;have H1:Hid (dtS w H s w1):=H0.out.below hb1
  clear H0 hb1;go_wp2_with (first
   | (refine wpList_load_mid (P:=Tryz.prog) rfl 35 _ rfl w.heap.size 0 rfl (hoL H s) _ H1.out.p.load Tryz.underlying35 rfl (sz41L H s) ?_))
  refine (HO.out _ H1.out.b).mono ?_
  rintro o w2 ⟨P,rfl,hb2,hc2⟩;have HC2:Hid (Calls Tryz.prog 65 #[.pointer (some ⟨P,0,none⟩),.pointer (some ⟨Bx,0,none⟩)] w2 fun o w3=>o = .returned (.tuple #[])∧Below w1.heap.size w1 w3∧Calls Tryz.prog 118 #[.pointer (some ⟨P,0,none⟩)] w3 (toldQ w3 (takeHo H i))):=hc2
  clear hc2 hb2;go_wp2_with fail;refine (Calls.mono HC2.out) ?_
  rintro o w3 ⟨rfl,hb3,hc3⟩;have H3:Hid (dtS w H s w3):=H1.out.below hb3
  have HC3:Hid (Calls Tryz.prog 118 #[.pointer (some ⟨P,0,none⟩)] w3 (toldQ w3 (takeHo H i))):=hc3
  clear hc3 hb3 HC2 H1;go_wp2_with fail;refine (Calls.mono HC3.out) ?_
  rintro o w4 ⟨s4,rfl,q1,q2,q3,q4,hb4⟩;have H4:Hid (dtS w H s w4):=H3.out.below hb4
  have HQ:Hid (St w3.heap.size w4 (fun W=>isHo W (takeHo H i) s4.sl)∧whS w3.heap.size w4.heap.size w4 s4∧whD s4∧whE s4):=⟨q1,q2,q3,q4⟩
  clear q1 q2 q3 q4 hb4 HC3;go_wp2_with (first
   | (refine wpList_store_mid (P:=Tryz.prog) rfl 35 (.tmp 4) _ rfl (w.heap.size+1) 0 (hoL (takeHo H i) s4.sl).toArray rfl rfl (H4.out.r.there 0 _ (by rw[List.size_toArray,hoL_len];decide)) (sz41A (takeHo H i) s4.sl) (hoL_one (takeHo H i) s4.sl) ?_;generalize hW8:World.setCells _ (w.heap.size+1) 0 _=w8;have HW8:Hid (_=w8):=hW8;clear hW8))
  have e8:=HW8.out
  have hF:blk w8 (w.heap.size+1) (hoL (takeHo H i) s4.sl) 35:=by
   rw[← e8]
   have:=blk.put [] Z10 [] (hoL (takeHo H i) s4.sl) (w:=w4) (b:=w.heap.size+1) (T:=35) (by simpa using H4.out.r) (by rw[hoL_len];rfl)
   simpa using this
  have hL:=run_loadVar_mid (P:=Tryz.prog) w8 (w.heap.size+1) 0 35 _ _ hF.load Tryz.underlying35 rfl (sz41L (takeHo H i) s4.sl)
  refine bodyPost_ret (v:=.agg (hoL (takeHo H i) s4.sl).toArray) (results_cell Tryz.results56 _ w8 (w.heap.size+1) _ rfl hL) rfl ?_
  have oth:∀ x,x≠w.heap.size+1→w8.heap[x]?=w4.heap[x]?:=fun x hx=>by rw[← e8];exact setCells_other _ x hx _ _ _
  have hsz:w8.heap.size=w4.heap.size:=by rw[← e8];exact setCells_size ..
  have hp:=toldQ.put (w:=w) H3.out.b.size H3.out.r.lt HQ.out.1 HQ.out.2.1 oth hsz
  exact Or.inl ⟨HOK.out,s4,rfl,hp.1,hp.2,HQ.out.2.2.1,HQ.out.2.2.2,by rw[← e8];exact setCells_below (by omega) 0 _ H4.out.b⟩
 ·have HV:Hid (∀ W,Below w.heap.size w W→Calls Tryz.prog 60 #[.agg (hoL H s).toArray] W fun o w'=>o = .returned (.bool false)∧Below W.heap.size W w'):=fun W hW=>vBad W H s (h.below hW) hn hok
  have HOK:Hid (¬ okHo H):=hok
  clear h hn hok hs;go_enter Tryz.func56,Tryz.ntmps56
  go_wp2_with (first
   | (refine wpList_load_mid (P:=Tryz.prog) rfl 35 _ rfl w.heap.size 0 rfl (hoL H s) _ H0.out.p.load Tryz.underlying35 rfl (sz41L H s) ?_))
  refine (HV.out _ H0.out.b).mono ?_
  rintro o w1 ⟨rfl,hb1⟩;have H1:Hid (dtS w H s w1):=H0.out.below hb1
  clear H0 hb1;go_wp2_with (first
   | (refine wpList_store_mid (P:=Tryz.prog) rfl 35 (.tmp 4) _ rfl (w.heap.size+1) 0 [.int .i64 0,.int .i64 0,.int .i64 0,.int .i64 0,.slice none 0 0,.slice none 0 0,.slice none 0 0,.slice none 0 0,.int .i64 0,.int .i64 0].toArray rfl rfl (H1.out.r.there 0 10 (by simp[Z10])) sz41 (all_oneCell_toArray (by simp[Value.oneCell'])) ?_;generalize hW8:World.setCells _ (w.heap.size+1) 0 _=w8;have HW8:Hid (_=w8):=hW8;clear hW8))
  have e8:=HW8.out
  have hF:blk w8 (w.heap.size+1) [.int .i64 0,.int .i64 0,.int .i64 0,.int .i64 0,.slice none 0 0,.slice none 0 0,.slice none 0 0,.slice none 0 0,.int .i64 0,.int .i64 0] 35:=by
   rw[← e8]
   have:=blk.put [] Z10 [] [.int .i64 0,.int .i64 0,.int .i64 0,.int .i64 0,.slice none 0 0,.slice none 0 0,.slice none 0 0,.slice none 0 0,.int .i64 0,.int .i64 0] (w:=w1) (b:=w.heap.size+1) (T:=35) (by simpa using H1.out.r) rfl
   simpa using this
  have hL:=run_loadVar_mid (P:=Tryz.prog) w8 (w.heap.size+1) 0 35 _ _ hF.load Tryz.underlying35 rfl sz41
  refine bodyPost_ret (v:=.agg [.int .i64 0,.int .i64 0,.int .i64 0,.int .i64 0,.slice none 0 0,.slice none 0 0,.slice none 0 0,.slice none 0 0,.int .i64 0,.int .i64 0].toArray) (results_cell Tryz.results56 _ w8 (w.heap.size+1) _ rfl hL) rfl ?_
  exact Or.inr ⟨HOK.out,rfl,by rw[← e8];exact setCells_below (by omega) 0 _ H1.out.b⟩
structure itS (w:World) (H:Ho) (s:Sl) (i:Int) (W:World):Prop where
 p:blk W w.heap.size (hoL H s) 35
 x:blk W (w.heap.size+1) [.int .i64 i] 3
 r:blk W (w.heap.size+1+1) Z10 35
 b:Below w.heap.size w W
theorem itS.below {w:World} {H:Ho} {s:Sl} {i:Int} {W W':World} (h:itS w H s i W) (hb:Below W.heap.size W W'):itS w H s i W':=⟨h.p.below hb,h.x.below hb,h.r.below hb,h.b.trans (hb.mono h.b.size)⟩
theorem itS.new (w:World) (H:Ho) (s:Sl) (i:Int):itS w H s i (((w.alloc (.cells (hoL H s).toArray 35)).alloc (.cells #[.int .i64 i] 3)).alloc (.cells [.int .i64 0,.int .i64 0,.int .i64 0,.int .i64 0,.slice none 0 0,.slice none 0 0,.slice none 0 0,.slice none 0 0,.int .i64 0,.int .i64 0].toArray 35)):=by
 refine⟨((blk.new w _ 35).alloc _).alloc _,?_,?_,(((Below.refl _ _).alloc (Nat.le_refl _) _).alloc (by simp) _).alloc (by simp;omega) _⟩
 ·have:=(blk.new (w.alloc (.cells (hoL H s).toArray 35)) [.int .i64 i] 3).alloc (.cells [.int .i64 0,.int .i64 0,.int .i64 0,.int .i64 0,.slice none 0 0,.slice none 0 0,.slice none 0 0,.slice none 0 0,.int .i64 0,.int .i64 0].toArray 35)
  simpa using this
 ·have:=blk.new ((w.alloc (.cells (hoL H s).toArray 35)).alloc (.cells #[.int .i64 i] 3)) Z10 35
  have e:((w.alloc (.cells (hoL H s).toArray 35)).alloc (.cells #[.int .i64 i] 3)).heap.size=w.heap.size+1+1:=by simp
  rw[e] at this
  exact this
set_option maxHeartbeats 8000000 in
set_option maxRecDepth 20000 in
theorem implTake_any (w:World) (H:Ho) (s:Sl) (i:Int) (h:isHo w H s) (hs:slSome s) (hn:H.le 1048576) :
  Calls Tryz.prog 19 #[.agg (hoL H s).toArray,.int .i64 i] w fun o w'=>(okHo H∧toldQ w (takeHo H i) o w')∨(¬ okHo H∧o = .returned (.agg [.int .i64 0,.int .i64 0,.int .i64 0,.int .i64 0,.slice none 0 0,.slice none 0 0,.slice none 0 0,.slice none 0 0,.int .i64 0,.int .i64 0].toArray)∧Below w.heap.size w w'):=by
 have H0:Hid (itS w H s i (((w.alloc (.cells (hoL H s).toArray 35)).alloc (.cells #[.int .i64 i] 3)).alloc (.cells [.int .i64 0,.int .i64 0,.int .i64 0,.int .i64 0,.slice none 0 0,.slice none 0 0,.slice none 0 0,.slice none 0 0,.int .i64 0,.int .i64 0].toArray 35))):=itS.new w H s i
 have HC:Hid (∀ W,itS w H s i W→Calls Tryz.prog 56 #[.agg (hoL H s).toArray,.func (.func 65) #[] #[.pointer (some ⟨w.heap.size+1,0,none⟩)]] W fun o w'=>(okHo H∧toldQ W (takeHo H i) o w')∨(¬ okHo H∧o = .returned (.agg [.int .i64 0,.int .i64 0,.int .i64 0,.int .i64 0,.slice none 0 0,.slice none 0 0,.slice none 0 0,.slice none 0 0,.int .i64 0,.int .i64 0].toArray)∧Below W.heap.size W w')):=fun W hW=>changed65 W H s (w.heap.size+1) i (h.below hW.b) hs hn (hW.x.cell 0 _ rfl)
 have hmf:∀ (fn:Fn) (first cap:Array Value) (w:World),(Instr.makeFunc fn first cap).run Tryz.prog w = .ok (.func fn first cap) w:=fun _ _ _ _=>rfl
 clear h hn hs;go_enter Tryz.func19,Tryz.ntmps19
 go_wp2_with (first
  | (refine wpList_load_mid (P:=Tryz.prog) rfl 35 _ rfl w.heap.size 0 rfl (hoL H s) _ H0.out.p.load Tryz.underlying35 rfl (sz41L H s) ?_))
 refine (HC.out _ H0.out).mono ?_
 rintro o w1 (⟨hok,s4,rfl,q1,q2,q3,q4,hb4⟩|⟨hok,rfl,hb4⟩)
 ·have H4:Hid (itS w H s i w1):=H0.out.below hb4
  have HQ:Hid (St (((w.alloc (.cells (hoL H s).toArray 35)).alloc (.cells #[.int .i64 i] 3)).alloc (.cells [.int .i64 0,.int .i64 0,.int .i64 0,.int .i64 0,.slice none 0 0,.slice none 0 0,.slice none 0 0,.slice none 0 0,.int .i64 0,.int .i64 0].toArray 35)).heap.size w1 (fun W=>isHo W (takeHo H i) s4.sl)∧whS (((w.alloc (.cells (hoL H s).toArray 35)).alloc (.cells #[.int .i64 i] 3)).alloc (.cells [.int .i64 0,.int .i64 0,.int .i64 0,.int .i64 0,.slice none 0 0,.slice none 0 0,.slice none 0 0,.slice none 0 0,.int .i64 0,.int .i64 0].toArray 35)).heap.size w1.heap.size w1 s4∧whD s4∧whE s4):=⟨q1,q2,q3,q4⟩
  have HOK:Hid (okHo H):=hok
  have HZ:Hid (w.heap.size≤(((w.alloc (.cells (hoL H s).toArray 35)).alloc (.cells #[.int .i64 i] 3)).alloc (.cells [.int .i64 0,.int .i64 0,.int .i64 0,.int .i64 0,.slice none 0 0,.slice none 0 0,.slice none 0 0,.slice none 0 0,.int .i64 0,.int .i64 0].toArray 35)).heap.size∧w.heap.size+1+1<(((w.alloc (.cells (hoL H s).toArray 35)).alloc (.cells #[.int .i64 i] 3)).alloc (.cells [.int .i64 0,.int .i64 0,.int .i64 0,.int .i64 0,.slice none 0 0,.slice none 0 0,.slice none 0 0,.slice none 0 0,.int .i64 0,.int .i64 0].toArray 35)).heap.size):=⟨H0.out.b.size,H0.out.r.lt⟩
  clear q1 q2 q3 q4 hb4 hok HC H0;go_wp2_with (first
   | (refine wpList_store_mid (P:=Tryz.prog) rfl 35 (.tmp 4) _ rfl (w.heap.size+1+1) 0 (hoL (takeHo H i) s4.sl).toArray rfl rfl (H4.out.r.there 0 _ (by rw[List.size_toArray,hoL_len];decide)) (sz41A (takeHo H i) s4.sl) (hoL_one (takeHo H i) s4.sl) ?_;generalize hW8:World.setCells _ (w.heap.size+1+1) 0 _=w8;have HW8:Hid (_=w8):=hW8;clear hW8))
  have e8:=HW8.out
  have hF:blk w8 (w.heap.size+1+1) (hoL (takeHo H i) s4.sl) 35:=by
   rw[← e8]
   have:=blk.put [] Z10 [] (hoL (takeHo H i) s4.sl) (w:=w1) (b:=w.heap.size+1+1) (T:=35) (by simpa using H4.out.r) (by rw[hoL_len];rfl)
   simpa using this
  have hL:=run_loadVar_mid (P:=Tryz.prog) w8 (w.heap.size+1+1) 0 35 _ _ hF.load Tryz.underlying35 rfl (sz41L (takeHo H i) s4.sl)
  refine bodyPost_ret (v:=.agg (hoL (takeHo H i) s4.sl).toArray) (results_cell Tryz.results19 _ w8 (w.heap.size+1+1) _ rfl hL) rfl ?_
  have oth:∀ x,x≠w.heap.size+1+1→w8.heap[x]?=w1.heap[x]?:=fun x hx=>by rw[← e8];exact setCells_other _ x hx _ _ _
  have hsz:w8.heap.size=w1.heap.size:=by rw[← e8];exact setCells_size ..
  have hp:=toldQ.put (w:=w) HZ.out.1 HZ.out.2 HQ.out.1 HQ.out.2.1 oth hsz
  exact Or.inl ⟨HOK.out,s4,rfl,hp.1,hp.2,HQ.out.2.2.1,HQ.out.2.2.2,by rw[← e8];exact setCells_below (by omega) 0 _ H4.out.b⟩
 ·have H4:Hid (itS w H s i w1):=H0.out.below hb4
  have HOK:Hid (¬ okHo H):=hok
  clear hb4 hok HC H0;go_wp2_with (first
   | (refine wpList_store_mid (P:=Tryz.prog) rfl 35 (.tmp 4) _ rfl (w.heap.size+1+1) 0 [.int .i64 0,.int .i64 0,.int .i64 0,.int .i64 0,.slice none 0 0,.slice none 0 0,.slice none 0 0,.slice none 0 0,.int .i64 0,.int .i64 0].toArray rfl rfl (H4.out.r.there 0 10 (by simp[Z10])) sz41 (all_oneCell_toArray (by simp[Value.oneCell'])) ?_;generalize hW8:World.setCells _ (w.heap.size+1+1) 0 _=w8;have HW8:Hid (_=w8):=hW8;clear hW8))
  have e8:=HW8.out
  have hF:blk w8 (w.heap.size+1+1) [.int .i64 0,.int .i64 0,.int .i64 0,.int .i64 0,.slice none 0 0,.slice none 0 0,.slice none 0 0,.slice none 0 0,.int .i64 0,.int .i64 0] 35:=by
   rw[← e8]
   have:=blk.put [] Z10 [] [.int .i64 0,.int .i64 0,.int .i64 0,.int .i64 0,.slice none 0 0,.slice none 0 0,.slice none 0 0,.slice none 0 0,.int .i64 0,.int .i64 0] (w:=w1) (b:=w.heap.size+1+1) (T:=35) (by simpa using H4.out.r) rfl
   simpa using this
  have hL:=run_loadVar_mid (P:=Tryz.prog) w8 (w.heap.size+1+1) 0 35 _ _ hF.load Tryz.underlying35 rfl sz41
  refine bodyPost_ret (v:=.agg [.int .i64 0,.int .i64 0,.int .i64 0,.int .i64 0,.slice none 0 0,.slice none 0 0,.slice none 0 0,.slice none 0 0,.int .i64 0,.int .i64 0].toArray) (results_cell Tryz.results19 _ w8 (w.heap.size+1+1) _ rfl hL) rfl ?_
  exact Or.inr ⟨HOK.out,rfl,by rw[← e8];exact setCells_below (by omega) 0 _ H4.out.b⟩
structure lwS (w:World) (H:Ho) (s:Sl) (T:Ho) (bw:Nat) (sw:Sl) (W:World):Prop where
 p:blk W w.heap.size (hoL H s) 61
 q:blk W bw (hoL T sw) 35
 t:isHo W T sw
 h:isHo W H s
 b:Below w.heap.size w W
theorem lwS.below {w:World} {H:Ho} {s:Sl} {T:Ho} {bw:Nat} {sw:Sl} {W W':World} (h:lwS w H s T bw sw W) (hb:Below W.heap.size W W'):lwS w H s T bw sw W':=⟨h.p.below hb,h.q.below hb,h.t.below hb,h.h.below hb,h.b.trans (hb.mono h.b.size)⟩
structure lwX (w:World) (H:Ho) (s:Sl) (T:Ho) (bw:Nat) (sw:Sl) (w4:World) (T5 bx:Nat) (sx:Wh) (W:World):Prop where
 l:lwS w H s T bw sw W
 x:blk W bx (hoL H sx.sl) 35
 xh:isHo W H sx.sl
 xw:whS w4.heap.size T5 W sx
 z:bw<w4.heap.size∧w.heap.size<w4.heap.size∧w4.heap.size≤T5∧T5≤bx
 b4:Below w4.heap.size w4 W
theorem lwX.below {w:World} {H:Ho} {s:Sl} {T:Ho} {bw:Nat} {sw:Sl} {w4:World} {T5 bx:Nat} {sx:Wh} {W W':World} (h:lwX w H s T bw sw w4 T5 bx sx W) (hb:Below W.heap.size W W'):lwX w H s T bw sw w4 T5 bx sx W':=⟨h.l.below hb,h.x.below hb,h.xh.below hb,h.xw.same (fun x _ hx=>hb.block x (by have:=h.x.lt;have:=h.z;omega)),h.z,h.b4.trans (hb.mono h.b4.size)⟩
structure lwG (w:World) (H:Ho) (s:Sl) (T:Ho) (bw:Nat) (sw:Sl) (w4:World) (bx B6:Nat) (w7:World) (bg:Nat) (sg:Sl) (W:World):Prop where
 l:lwS w H s T bw sw W
 g:blk W bg (hoL T sg) 35
 k:∀ x,B6≤x→x<w7.heap.size→W.heap[x]?=w7.heap[x]?
 z:bx<B6∧B6≤w7.heap.size∧w7.heap.size≤bg
 y:bw<w4.heap.size∧w.heap.size<w4.heap.size∧w4.heap.size≤bx
 b4:Below w4.heap.size w4 W
theorem lwG.below {w:World} {H:Ho} {s:Sl} {T:Ho} {bw:Nat} {sw:Sl} {w4:World} {bx B6:Nat} {w7:World} {bg:Nat} {sg:Sl} {W W':World} (h:lwG w H s T bw sw w4 bx B6 w7 bg sg W) (hb:Below W.heap.size W W'):lwG w H s T bw sw w4 bx B6 w7 bg sg W':=⟨h.l.below hb,h.g.below hb,fun x h1 h2=>(hb.block x (by have:=h.g.lt;have:=h.z;omega)).trans (h.k x h1 h2),h.z,h.y,h.b4.trans (hb.mono h.b4.size)⟩
theorem new_hostS {w:World} (l:List Value) (hl:l.length=10):blk (World.setCells (w.alloc (.cells [.int .i64 0,.int .i64 0,.int .i64 0,.int .i64 0,.slice none 0 0,.slice none 0 0,.slice none 0 0,.slice none 0 0,.int .i64 0,.int .i64 0].toArray 35)) w.heap.size 0 l) w.heap.size l 35∧Below w.heap.size w (World.setCells (w.alloc (.cells [.int .i64 0,.int .i64 0,.int .i64 0,.int .i64 0,.slice none 0 0,.slice none 0 0,.slice none 0 0,.slice none 0 0,.int .i64 0,.int .i64 0].toArray 35)) w.heap.size 0 l):=by
 refine⟨?_,setCells_below (Nat.le_refl _) 0 l ((Below.refl _ _).alloc (Nat.le_refl _) _)⟩
 have:=blk.put [] [.int .i64 0,.int .i64 0,.int .i64 0,.int .i64 0,.slice none 0 0,.slice none 0 0,.slice none 0 0,.slice none 0 0,.int .i64 0,.int .i64 0] [] l (w:=w.alloc (.cells [.int .i64 0,.int .i64 0,.int .i64 0,.int .i64 0,.slice none 0 0,.slice none 0 0,.slice none 0 0,.slice none 0 0,.int .i64 0,.int .i64 0].toArray 35)) (b:=w.heap.size) (T:=35) (by simpa using blk.new w _ 35) (by rw[hl];rfl)
 simpa using this
end Go.Proofs.YtaamahohdnbpiaaGreat
