import Derived.Test.YtaamahohdnbpiaaGreatNP
import Derived.Test.YtaamahohdnbpiaaGreatG40
import Derived.Test.YtaamahohdnbpiaaGreatG36
import Derived.Test.YtaamahohdnbpiaaGreatOA
import Derived.Deep.RegionHeld3
namespace Go.Proofs.YtaamahohdnbpiaaGreat
open Go.RowKit
set_option linter.unusedVariables false
set_option maxHeartbeats 8000000 in
set_option maxRecDepth 20000 in
theorem changed74 (w:World) (H:Ho) (s:Sl) (Bx:Nat) (t:Int) (h:isHo w H s) (hs:slSome s) (hn:H.le 1048576) (yb:w.cell? ⟨Bx,0,none⟩=some (.int .i64 t)) (hwf:(Lit.int .i64 t).wf=true) :
  Calls Tryz.prog 56 #[.agg (hoL H s).toArray,.func (.func 74) #[] #[.pointer (some ⟨Bx,0,none⟩)]] w fun o w'=>(okHo H∧toldQ w (abHo H t) o w')∨(¬ okHo H∧o = .returned (.agg [.int .i64 0,.int .i64 0,.int .i64 0,.int .i64 0,.slice none 0 0,.slice none 0 0,.slice none 0 0,.slice none 0 0,.int .i64 0,.int .i64 0].toArray)∧Below w.heap.size w w'):=by
 have H0:Hid (dtS w H s ((w.alloc (.cells (hoL H s).toArray 35)).alloc (.cells [.int .i64 0,.int .i64 0,.int .i64 0,.int .i64 0,.slice none 0 0,.slice none 0 0,.slice none 0 0,.slice none 0 0,.int .i64 0,.int .i64 0].toArray 35))):=dtS.new w H s
 have HYB:Hid (∀ W,Below w.heap.size w W→W.cell? ⟨Bx,0,none⟩=some (.int .i64 t)):=fun W hW=>(hW.cell (by exact World.block_lt_of_cell? w _ yb)).trans yb
 clear yb;have HWF:Hid ((Lit.int .i64 t).wf=true):=hwf
 clear hwf;by_cases hok:okHo H
 ·have HV:Hid (∀ W,Below w.heap.size w W→Calls Tryz.prog 60 #[.agg (hoL H s).toArray] W fun o w'=>o = .returned (.bool true)∧Below W.heap.size W w'):=fun W hW=>vOk W H s (h.below hW) hn hok
  have HO:Hid (∀ W,Below w.heap.size w W→Calls Tryz.prog 61 #[.agg (hoL H s).toArray] W fun o w'=>∃ P,o = .returned (.pointer (some ⟨P,0,none⟩))∧Below W.heap.size W w'∧Calls Tryz.prog 74 #[.pointer (some ⟨P,0,none⟩),.pointer (some ⟨Bx,0,none⟩)] w' fun o w2=>o = .returned (.tuple #[])∧Below W.heap.size W w2∧Calls Tryz.prog 118 #[.pointer (some ⟨P,0,none⟩)] w2 (toldQ w2 (abHo H t))):=fun W hW=>open_abort W H s Bx t (h.below hW) hs hok hn (HYB.out W hW) HWF.out
  have HOK:Hid (okHo H):=hok
  clear h hn hok hs;go_enter Tryz.func56,Tryz.ntmps56
  go_wp2_with (first
   | (refine wpList_load_mid (P:=Tryz.prog) rfl 35 _ rfl w.heap.size 0 rfl (hoL H s) _ H0.out.p.load Tryz.underlying35 rfl (sz41L H s) ?_))
  refine (HV.out _ H0.out.b).mono ?_
  rintro o w1 ⟨rfl,hb1⟩;have H1:Hid (dtS w H s w1):=H0.out.below hb1
  clear H0 hb1;go_wp2_with (first
   | (refine wpList_load_mid (P:=Tryz.prog) rfl 35 _ rfl w.heap.size 0 rfl (hoL H s) _ H1.out.p.load Tryz.underlying35 rfl (sz41L H s) ?_))
  refine (HO.out _ H1.out.b).mono ?_
  rintro o w2 ⟨P,rfl,hb2,hc2⟩;have HC2:Hid (Calls Tryz.prog 74 #[.pointer (some ⟨P,0,none⟩),.pointer (some ⟨Bx,0,none⟩)] w2 fun o w3=>o = .returned (.tuple #[])∧Below w1.heap.size w1 w3∧Calls Tryz.prog 118 #[.pointer (some ⟨P,0,none⟩)] w3 (toldQ w3 (abHo H t))):=hc2
  clear hc2 hb2;go_wp2_with fail;refine (Calls.mono HC2.out) ?_
  rintro o w3 ⟨rfl,hb3,hc3⟩;have H3:Hid (dtS w H s w3):=H1.out.below hb3
  have HC3:Hid (Calls Tryz.prog 118 #[.pointer (some ⟨P,0,none⟩)] w3 (toldQ w3 (abHo H t))):=hc3
  clear hc3 hb3 HC2 H1;go_wp2_with fail;refine (Calls.mono HC3.out) ?_
  rintro o w4 ⟨s4,rfl,q1,q2,q3,q4,hb4⟩;have H4:Hid (dtS w H s w4):=H3.out.below hb4
  have HQ:Hid (St w3.heap.size w4 (fun W=>isHo W (abHo H t) s4.sl)∧whS w3.heap.size w4.heap.size w4 s4∧whD s4∧whE s4):=⟨q1,q2,q3,q4⟩
  clear q1 q2 q3 q4 hb4 HC3;go_wp2_with (first
   | (refine wpList_store_mid (P:=Tryz.prog) rfl 35 (.tmp 4) _ rfl (w.heap.size+1) 0 (hoL (abHo H t) s4.sl).toArray rfl rfl (H4.out.r.there 0 _ (by rw[List.size_toArray,hoL_len];decide)) (sz41A (abHo H t) s4.sl) (hoL_one (abHo H t) s4.sl) ?_;generalize hW8:World.setCells _ (w.heap.size+1) 0 _=w8;have HW8:Hid (_=w8):=hW8;clear hW8))
  have e8:=HW8.out
  have hF:blk w8 (w.heap.size+1) (hoL (abHo H t) s4.sl) 35:=by
   rw[← e8]
   have:=blk.put [] Z10 [] (hoL (abHo H t) s4.sl) (w:=w4) (b:=w.heap.size+1) (T:=35) (by simpa using H4.out.r) (by rw[hoL_len];rfl)
   simpa using this
  have hL:=run_loadVar_mid (P:=Tryz.prog) w8 (w.heap.size+1) 0 35 _ _ hF.load Tryz.underlying35 rfl (sz41L (abHo H t) s4.sl)
  refine bodyPost_ret (v:=.agg (hoL (abHo H t) s4.sl).toArray) (results_cell Tryz.results56 _ w8 (w.heap.size+1) _ rfl hL) rfl ?_
  have oth:∀ x,x≠w.heap.size+1→w8.heap[x]?=w4.heap[x]?:=fun x hx=>by rw[← e8];exact setCells_other _ x hx _ _ _
  have hsz:w8.heap.size=w4.heap.size:=by rw[← e8];exact setCells_size ..
  have hp:=toldQ.put (w:=w) H3.out.b.size H3.out.r.lt HQ.out.1 HQ.out.2.1 oth hsz
  exact Or.inl ⟨HOK.out,s4,rfl,hp.1,hp.2,HQ.out.2.2.1,HQ.out.2.2.2,by rw[← e8];exact setCells_below (by omega) 0 _ H4.out.b⟩
 ·have HV:Hid (∀ W,Below w.heap.size w W→Calls Tryz.prog 60 #[.agg (hoL H s).toArray] W fun o w'=>o = .returned (.bool false)∧Below W.heap.size W w'):=fun W hW=>vBad W H s (h.below hW) hn hok
  have HOK:Hid (¬ okHo H):=hok
  clear h hn hok hs;go_enter Tryz.func56,Tryz.ntmps56
  go_wp2_with (first
   | (refine wpList_load_mid (P:=Tryz.prog) rfl 35 _ rfl w.heap.size 0 rfl (hoL H s) _ H0.out.p.load Tryz.underlying35 rfl (sz41L H s) ?_))
  refine (HV.out _ H0.out.b).mono ?_
  rintro o w1 ⟨rfl,hb1⟩;have H1:Hid (dtS w H s w1):=H0.out.below hb1
  clear H0 hb1;go_wp2_with (first
   | (refine wpList_store_mid (P:=Tryz.prog) rfl 35 (.tmp 4) _ rfl (w.heap.size+1) 0 [.int .i64 0,.int .i64 0,.int .i64 0,.int .i64 0,.slice none 0 0,.slice none 0 0,.slice none 0 0,.slice none 0 0,.int .i64 0,.int .i64 0].toArray rfl rfl (H1.out.r.there 0 10 (by simp[Z10])) sz41 (all_oneCell_toArray (by simp[Value.oneCell'])) ?_;generalize hW8:World.setCells _ (w.heap.size+1) 0 _=w8;have HW8:Hid (_=w8):=hW8;clear hW8))
  have e8:=HW8.out
  have hF:blk w8 (w.heap.size+1) [.int .i64 0,.int .i64 0,.int .i64 0,.int .i64 0,.slice none 0 0,.slice none 0 0,.slice none 0 0,.slice none 0 0,.int .i64 0,.int .i64 0] 35:=by
   rw[← e8]
   have:=blk.put [] Z10 [] [.int .i64 0,.int .i64 0,.int .i64 0,.int .i64 0,.slice none 0 0,.slice none 0 0,.slice none 0 0,.slice none 0 0,.int .i64 0,.int .i64 0] (w:=w1) (b:=w.heap.size+1) (T:=35) (by simpa using H1.out.r) rfl
   simpa using this
  have hL:=run_loadVar_mid (P:=Tryz.prog) w8 (w.heap.size+1) 0 35 _ _ hF.load Tryz.underlying35 rfl sz41
  refine bodyPost_ret (v:=.agg [.int .i64 0,.int .i64 0,.int .i64 0,.int .i64 0,.slice none 0 0,.slice none 0 0,.slice none 0 0,.slice none 0 0,.int .i64 0,.int .i64 0].toArray) (results_cell Tryz.results56 _ w8 (w.heap.size+1) _ rfl hL) rfl ?_
  exact Or.inr ⟨HOK.out,rfl,by rw[← e8];exact setCells_below (by omega) 0 _ H1.out.b⟩
structure itA (w:World) (H:Ho) (s:Sl) (t:Int) (W:World):Prop where
 p:blk W w.heap.size (hoL H s) 35
 x:blk W (w.heap.size+1) [.int .i64 t] 3
 r:blk W (w.heap.size+1+1) Z10 35
 b:Below w.heap.size w W
theorem itA.below {w:World} {H:Ho} {s:Sl} {t:Int} {W W':World} (h:itA w H s t W) (hb:Below W.heap.size W W'):itA w H s t W':=⟨h.p.below hb,h.x.below hb,h.r.below hb,h.b.trans (hb.mono h.b.size)⟩
theorem itA.new (w:World) (H:Ho) (s:Sl) (t:Int):itA w H s t (((w.alloc (.cells (hoL H s).toArray 35)).alloc (.cells #[.int .i64 t] 3)).alloc (.cells [.int .i64 0,.int .i64 0,.int .i64 0,.int .i64 0,.slice none 0 0,.slice none 0 0,.slice none 0 0,.slice none 0 0,.int .i64 0,.int .i64 0].toArray 35)):=by
 refine⟨((blk.new w _ 35).alloc _).alloc _,?_,?_,(((Below.refl _ _).alloc (Nat.le_refl _) _).alloc (by simp) _).alloc (by simp;omega) _⟩
 ·have:=(blk.new (w.alloc (.cells (hoL H s).toArray 35)) [.int .i64 t] 3).alloc (.cells [.int .i64 0,.int .i64 0,.int .i64 0,.int .i64 0,.slice none 0 0,.slice none 0 0,.slice none 0 0,.slice none 0 0,.int .i64 0,.int .i64 0].toArray 35)
  simpa using this
 ·have:=blk.new ((w.alloc (.cells (hoL H s).toArray 35)).alloc (.cells #[.int .i64 t] 3)) Z10 35
  have e:((w.alloc (.cells (hoL H s).toArray 35)).alloc (.cells #[.int .i64 t] 3)).heap.size=w.heap.size+1+1:=by simp
  rw[e] at this
  exact this
set_option maxHeartbeats 8000000 in
set_option maxRecDepth 20000 in
theorem implAbort_any (w:World) (H:Ho) (s:Sl) (t:Int) (h:isHo w H s) (hs:slSome s) (hn:H.le 1048576) (hwf:(Lit.int .i64 t).wf=true) :
  Calls Tryz.prog 25 #[.agg (hoL H s).toArray,.int .i64 t] w fun o w'=>(okHo H∧toldQ w (abHo H t) o w')∨(¬ okHo H∧o = .returned (.agg [.int .i64 0,.int .i64 0,.int .i64 0,.int .i64 0,.slice none 0 0,.slice none 0 0,.slice none 0 0,.slice none 0 0,.int .i64 0,.int .i64 0].toArray)∧Below w.heap.size w w'):=by
 have H0:Hid (itA w H s t (((w.alloc (.cells (hoL H s).toArray 35)).alloc (.cells #[.int .i64 t] 3)).alloc (.cells [.int .i64 0,.int .i64 0,.int .i64 0,.int .i64 0,.slice none 0 0,.slice none 0 0,.slice none 0 0,.slice none 0 0,.int .i64 0,.int .i64 0].toArray 35))):=itA.new w H s t
 have HC:Hid (∀ W,itA w H s t W→Calls Tryz.prog 56 #[.agg (hoL H s).toArray,.func (.func 74) #[] #[.pointer (some ⟨w.heap.size+1,0,none⟩)]] W fun o w'=>(okHo H∧toldQ W (abHo H t) o w')∨(¬ okHo H∧o = .returned (.agg [.int .i64 0,.int .i64 0,.int .i64 0,.int .i64 0,.slice none 0 0,.slice none 0 0,.slice none 0 0,.slice none 0 0,.int .i64 0,.int .i64 0].toArray)∧Below W.heap.size W w')):=fun W hW=>changed74 W H s (w.heap.size+1) t (h.below hW.b) hs hn (hW.x.cell 0 _ rfl) hwf
 have hmf:∀ (fn:Fn) (first cap:Array Value) (w:World),(Instr.makeFunc fn first cap).run Tryz.prog w = .ok (.func fn first cap) w:=fun _ _ _ _=>rfl
 clear h hn hs;go_enter Tryz.func25,Tryz.ntmps25
 go_wp2_with (first
  | (refine wpList_load_mid (P:=Tryz.prog) rfl 35 _ rfl w.heap.size 0 rfl (hoL H s) _ H0.out.p.load Tryz.underlying35 rfl (sz41L H s) ?_))
 refine (HC.out _ H0.out).mono ?_
 rintro o w1 (⟨hok,s4,rfl,q1,q2,q3,q4,hb4⟩|⟨hok,rfl,hb4⟩)
 ·have H4:Hid (itA w H s t w1):=H0.out.below hb4
  have HQ:Hid (St (((w.alloc (.cells (hoL H s).toArray 35)).alloc (.cells #[.int .i64 t] 3)).alloc (.cells [.int .i64 0,.int .i64 0,.int .i64 0,.int .i64 0,.slice none 0 0,.slice none 0 0,.slice none 0 0,.slice none 0 0,.int .i64 0,.int .i64 0].toArray 35)).heap.size w1 (fun W=>isHo W (abHo H t) s4.sl)∧whS (((w.alloc (.cells (hoL H s).toArray 35)).alloc (.cells #[.int .i64 t] 3)).alloc (.cells [.int .i64 0,.int .i64 0,.int .i64 0,.int .i64 0,.slice none 0 0,.slice none 0 0,.slice none 0 0,.slice none 0 0,.int .i64 0,.int .i64 0].toArray 35)).heap.size w1.heap.size w1 s4∧whD s4∧whE s4):=⟨q1,q2,q3,q4⟩
  have HOK:Hid (okHo H):=hok
  have HZ:Hid (w.heap.size≤(((w.alloc (.cells (hoL H s).toArray 35)).alloc (.cells #[.int .i64 t] 3)).alloc (.cells [.int .i64 0,.int .i64 0,.int .i64 0,.int .i64 0,.slice none 0 0,.slice none 0 0,.slice none 0 0,.slice none 0 0,.int .i64 0,.int .i64 0].toArray 35)).heap.size∧w.heap.size+1+1<(((w.alloc (.cells (hoL H s).toArray 35)).alloc (.cells #[.int .i64 t] 3)).alloc (.cells [.int .i64 0,.int .i64 0,.int .i64 0,.int .i64 0,.slice none 0 0,.slice none 0 0,.slice none 0 0,.slice none 0 0,.int .i64 0,.int .i64 0].toArray 35)).heap.size):=⟨H0.out.b.size,H0.out.r.lt⟩
  clear q1 q2 q3 q4 hb4 hok HC H0;go_wp2_with (first
   | (refine wpList_store_mid (P:=Tryz.prog) rfl 35 (.tmp 4) _ rfl (w.heap.size+1+1) 0 (hoL (abHo H t) s4.sl).toArray rfl rfl (H4.out.r.there 0 _ (by rw[List.size_toArray,hoL_len];decide)) (sz41A (abHo H t) s4.sl) (hoL_one (abHo H t) s4.sl) ?_;generalize hW8:World.setCells _ (w.heap.size+1+1) 0 _=w8;have HW8:Hid (_=w8):=hW8;clear hW8))
  have e8:=HW8.out
  have hF:blk w8 (w.heap.size+1+1) (hoL (abHo H t) s4.sl) 35:=by
   rw[← e8]
   have:=blk.put [] Z10 [] (hoL (abHo H t) s4.sl) (w:=w1) (b:=w.heap.size+1+1) (T:=35) (by simpa using H4.out.r) (by rw[hoL_len];rfl)
   simpa using this
  have hL:=run_loadVar_mid (P:=Tryz.prog) w8 (w.heap.size+1+1) 0 35 _ _ hF.load Tryz.underlying35 rfl (sz41L (abHo H t) s4.sl)
  refine bodyPost_ret (v:=.agg (hoL (abHo H t) s4.sl).toArray) (results_cell Tryz.results25 _ w8 (w.heap.size+1+1) _ rfl hL) rfl ?_
  have oth:∀ x,x≠w.heap.size+1+1→w8.heap[x]?=w1.heap[x]?:=fun x hx=>by rw[← e8];exact setCells_other _ x hx _ _ _
  have hsz:w8.heap.size=w1.heap.size:=by rw[← e8];exact setCells_size ..
  have hp:=toldQ.put (w:=w) HZ.out.1 HZ.out.2 HQ.out.1 HQ.out.2.1 oth hsz
  exact Or.inl ⟨HOK.out,s4,rfl,hp.1,hp.2,HQ.out.2.2.1,HQ.out.2.2.2,by rw[← e8];exact setCells_below (by omega) 0 _ H4.out.b⟩
 ·have H4:Hid (itA w H s t w1):=H0.out.below hb4
  have HOK:Hid (¬ okHo H):=hok
  clear hb4 hok HC H0;go_wp2_with (first
   | (refine wpList_store_mid (P:=Tryz.prog) rfl 35 (.tmp 4) _ rfl (w.heap.size+1+1) 0 [.int .i64 0,.int .i64 0,.int .i64 0,.int .i64 0,.slice none 0 0,.slice none 0 0,.slice none 0 0,.slice none 0 0,.int .i64 0,.int .i64 0].toArray rfl rfl (H4.out.r.there 0 10 (by simp[Z10])) sz41 (all_oneCell_toArray (by simp[Value.oneCell'])) ?_;generalize hW8:World.setCells _ (w.heap.size+1+1) 0 _=w8;have HW8:Hid (_=w8):=hW8;clear hW8))
  have e8:=HW8.out
  have hF:blk w8 (w.heap.size+1+1) [.int .i64 0,.int .i64 0,.int .i64 0,.int .i64 0,.slice none 0 0,.slice none 0 0,.slice none 0 0,.slice none 0 0,.int .i64 0,.int .i64 0] 35:=by
   rw[← e8]
   have:=blk.put [] Z10 [] [.int .i64 0,.int .i64 0,.int .i64 0,.int .i64 0,.slice none 0 0,.slice none 0 0,.slice none 0 0,.slice none 0 0,.int .i64 0,.int .i64 0] (w:=w1) (b:=w.heap.size+1+1) (T:=35) (by simpa using H4.out.r) rfl
   simpa using this
  have hL:=run_loadVar_mid (P:=Tryz.prog) w8 (w.heap.size+1+1) 0 35 _ _ hF.load Tryz.underlying35 rfl sz41
  refine bodyPost_ret (v:=.agg [.int .i64 0,.int .i64 0,.int .i64 0,.int .i64 0,.slice none 0 0,.slice none 0 0,.slice none 0 0,.slice none 0 0,.int .i64 0,.int .i64 0].toArray) (results_cell Tryz.results25 _ w8 (w.heap.size+1+1) _ rfl hL) rfl ?_
  exact Or.inr ⟨HOK.out,rfl,by rw[← e8];exact setCells_below (by omega) 0 _ H4.out.b⟩
end Go.Proofs.YtaamahohdnbpiaaGreat
