import Derived.Test.YtaamahohdnbpiaaGreatG35
import Derived.Test.YtaamahohdnbpiaaGreatG36
namespace Go.Proofs.YtaamahohdnbpiaaGreat
open Go.RowKit
set_option linter.unusedVariables false
def drC (w:World) (Ev:Nat) (T:Ho) (q:List R8) (o:Ending) (w':World):Prop:=∃ (s:Wh) (a:Option Addr) (c:Nat) (he:Nat→Hd) (C:Nat),o = .returned (.agg (hoL T s.sl).toArray)∧w.heap.size≤C∧St C w' (fun W=>isHo W T s.sl)∧whS C w'.heap.size w' s∧whD s∧whE s∧evQ w.heap.size C q a c he w'∧Below Ev w w'∧blk w' Ev [.slice a q.length c] 33∧(∀ x,x≠Ev→x<w.heap.size→w'.heap[x]?=w.heap[x]?)
set_option maxHeartbeats 8000000 in
set_option maxRecDepth 20000 in
theorem changed67 (w:World) (H:Ho) (s:Sl) (Ev:Nat) (h:isHo w H s) (hs:slSome s) (hn:H.le 1048576) (hev:blk w Ev [.slice none 0 0] 33) :
  Calls Tryz.prog 56 #[.agg (hoL H s).toArray,.func (.func 67) #[] #[.pointer (some ⟨Ev,0,none⟩)]] w fun o w'=>(okHo H∧drC w Ev (qHo H []) H.qu o w')∨(¬ okHo H∧o = .returned (.agg [.int .i64 0,.int .i64 0,.int .i64 0,.int .i64 0,.slice none 0 0,.slice none 0 0,.slice none 0 0,.slice none 0 0,.int .i64 0,.int .i64 0].toArray)∧Below w.heap.size w w'):=by
 have H0:Hid (dtS w H s ((w.alloc (.cells (hoL H s).toArray 35)).alloc (.cells [.int .i64 0,.int .i64 0,.int .i64 0,.int .i64 0,.slice none 0 0,.slice none 0 0,.slice none 0 0,.slice none 0 0,.int .i64 0,.int .i64 0].toArray 35))):=dtS.new w H s
 have HEV:Hid (blk w Ev [.slice none 0 0] 33):=hev
 have HEL:Hid (Ev<w.heap.size):=hev.lt
 clear hev;by_cases hok:okHo H
 ·have HV:Hid (∀ W,Below w.heap.size w W→Calls Tryz.prog 60 #[.agg (hoL H s).toArray] W fun o w'=>o = .returned (.bool true)∧Below W.heap.size W w'):=fun W hW=>vOk W H s (h.below hW) hn hok
  have HO:Hid (∀ W,Below w.heap.size w W→Calls Tryz.prog 61 #[.agg (hoL H s).toArray] W fun o w'=>∃ Pp,o = .returned (.pointer (some ⟨Pp,0,none⟩))∧Calls Tryz.prog 67 #[.pointer (some ⟨Pp,0,none⟩),.pointer (some ⟨Ev,0,none⟩)] w' fun o w2=>o = .returned (.tuple #[])∧∃ a c he,evQ W.heap.size w2.heap.size H.qu a c he w2∧Below (W.setCell ⟨Ev,0,none⟩ (.slice a H.qu.length c)).heap.size (W.setCell ⟨Ev,0,none⟩ (.slice a H.qu.length c)) w2∧Calls Tryz.prog 118 #[.pointer (some ⟨Pp,0,none⟩)] w2 (toldQ w2 (qHo H []))):=fun W hW=>open_drain W H s Ev (h.below hW) hs hok hn (HEV.out.below hW)
  have HOK:Hid (okHo H):=hok
  clear h hn hok hs;go_enter Tryz.func56,Tryz.ntmps56
  go_wp2_with (first
   | (refine wpList_load_mid (P:=Tryz.prog) rfl 35 _ rfl w.heap.size 0 rfl (hoL H s) _ H0.out.p.load Tryz.underlying35 rfl (sz41L H s) ?_))
  refine (HV.out _ H0.out.b).mono ?_
  rintro o w1 ⟨rfl,hb1⟩;have H1:Hid (dtS w H s w1):=H0.out.below hb1
  clear H0 hb1;go_wp2_with (first
   | (refine wpList_load_mid (P:=Tryz.prog) rfl 35 _ rfl w.heap.size 0 rfl (hoL H s) _ H1.out.p.load Tryz.underlying35 rfl (sz41L H s) ?_))
  refine (HO.out _ H1.out.b).mono ?_
  rintro o w2 ⟨Pp,rfl,hc2⟩;have HC2:Hid (Calls Tryz.prog 67 #[.pointer (some ⟨Pp,0,none⟩),.pointer (some ⟨Ev,0,none⟩)] w2 fun o w3=>o = .returned (.tuple #[])∧∃ a c he,evQ w1.heap.size w3.heap.size H.qu a c he w3∧Below (w1.setCell ⟨Ev,0,none⟩ (.slice a H.qu.length c)).heap.size (w1.setCell ⟨Ev,0,none⟩ (.slice a H.qu.length c)) w3∧Calls Tryz.prog 118 #[.pointer (some ⟨Pp,0,none⟩)] w3 (toldQ w3 (qHo H []))):=hc2
  clear hc2;go_wp2_with fail;refine (Calls.mono HC2.out) ?_
  rintro o w3 ⟨rfl,a,c,he,hq3,hb3,hc3⟩;have hzs:(w1.setCell ⟨Ev,0,none⟩ (.slice a H.qu.length c)).heap.size=w1.heap.size:=by simp
  rw[hzs] at hb3
  have HX3:Hid (∀ x,x≠Ev→x<w1.heap.size→w3.heap[x]?=w1.heap[x]?):=fun x h1 h2=>(hb3.block x h2).trans (heap_setCell_other _ _ _ _ (by exact h1))
  have HE3:Hid (blk w3 Ev [.slice a H.qu.length c] 33):=by
   have hw1:=H1.out.b.size
   have hel:=HEL.out
   exact ((HEV.out.below H1.out.b).set 0 (.slice a H.qu.length c)).kept (hb3.block Ev (by omega))
  have HB3:Hid (Below Ev w w3):=by
   have hel:=HEL.out
   have hw1:=H1.out.b.size
   exact ((H1.out.b.mono (by omega)).trans ((Below.refl Ev w1).setCell (by exact Nat.le_refl _) _)).trans (hb3.mono (by omega))
  have HQ3:Hid (evQ w1.heap.size w3.heap.size H.qu a c he w3):=hq3
  have HZ3:Hid (w1.heap.size≤w3.heap.size):=by have:=hb3.size;show _≤_;omega
  have HR3:Hid (blk w3 (w.heap.size+1) Z10 35):=H1.out.r.kept (HX3.out _ (by have:=HEL.out;omega) H1.out.r.lt)
  have HC3:Hid (Calls Tryz.prog 118 #[.pointer (some ⟨Pp,0,none⟩)] w3 (toldQ w3 (qHo H []))):=hc3
  clear hc3 hb3 hq3 hzs HC2 HO;go_wp2_with fail;refine (Calls.mono HC3.out) ?_
  rintro o w4 ⟨s4,rfl,q1,q2,q3,q4,hb4⟩;have HB4:Hid (Below w3.heap.size w3 w4):=hb4
  have HR4:Hid (blk w4 (w.heap.size+1) Z10 35):=HR3.out.below hb4
  have HQ:Hid (St w3.heap.size w4 (fun W=>isHo W (qHo H []) s4.sl)∧whS w3.heap.size w4.heap.size w4 s4∧whD s4∧whE s4):=⟨q1,q2,q3,q4⟩
  clear q1 q2 q3 q4 hb4 HC3;go_wp2_with (first
   | (refine wpList_store_mid (P:=Tryz.prog) rfl 35 _ _ rfl (w.heap.size+1) 0 (hoL (qHo H []) s4.sl).toArray rfl rfl (HR4.out.there 0 _ (by rw[List.size_toArray,hoL_len];decide)) (sz41A (qHo H []) s4.sl) (hoL_one (qHo H []) s4.sl) ?_;generalize hW8:World.setCells _ (w.heap.size+1) 0 _=w8;have HW8:Hid (_=w8):=hW8;clear hW8))
  have e8:=HW8.out
  have hF:blk w8 (w.heap.size+1) (hoL (qHo H []) s4.sl) 35:=by
   rw[← e8]
   have:=blk.put [] Z10 [] (hoL (qHo H []) s4.sl) (w:=w4) (b:=w.heap.size+1) (T:=35) (by simpa using HR4.out) (by rw[hoL_len];rfl)
   rw[List.nil_append,List.append_nil] at this
   exact this
  have hL:=run_loadVar_mid (P:=Tryz.prog) w8 (w.heap.size+1) 0 35 _ _ hF.load Tryz.underlying35 rfl (sz41L (qHo H []) s4.sl)
  refine bodyPost_ret (v:=.agg (hoL (qHo H []) s4.sl).toArray) (results_cell Tryz.results56 _ w8 (w.heap.size+1) _ rfl hL) rfl ?_
  have oth:∀ x,x≠w.heap.size+1→w8.heap[x]?=w4.heap[x]?:=fun x hx=>by rw[← e8];exact setCells_other _ x hx _ _ _
  have hsz:w8.heap.size=w4.heap.size:=by rw[← e8];exact setCells_size ..
  have hp:=toldQ.put (w:=w3) (Nat.le_refl _) HR3.out.lt HQ.out.1 HQ.out.2.1 oth hsz
  have hel:=HEL.out
  have hw1:=H1.out.b.size
  have hw1r:=H1.out.r.lt
  have hw3:=HZ3.out
  refine Or.inl ⟨HOK.out,s4,a,c,he,w3.heap.size,rfl,by omega,hp.1,hp.2,HQ.out.2.2.1,HQ.out.2.2.2,(HQ3.out.same (fun x h1 h2=>?_)).mono hw1 (Nat.le_refl _),?_,(HE3.out.below HB4.out).kept (oth _ (by omega)),fun x h1 h2=>?_⟩
  ·rw[oth x (by omega)]
   exact HB4.out.block x h2
  ·rw[← e8]
   exact setCells_below (by omega) 0 _ (HB3.out.trans (HB4.out.mono (by omega)))
  ·rw[oth x (by omega),HB4.out.block x (by omega),HX3.out x h1 (by omega)]
   exact H1.out.b.block x h2
 ·have HV:Hid (∀ W,Below w.heap.size w W→Calls Tryz.prog 60 #[.agg (hoL H s).toArray] W fun o w'=>o = .returned (.bool false)∧Below W.heap.size W w'):=fun W hW=>vBad W H s (h.below hW) hn hok
  have HOK:Hid (¬ okHo H):=hok
  clear h hn hok hs;go_enter Tryz.func56,Tryz.ntmps56
  go_wp2_with (first
   | (refine wpList_load_mid (P:=Tryz.prog) rfl 35 _ rfl w.heap.size 0 rfl (hoL H s) _ H0.out.p.load Tryz.underlying35 rfl (sz41L H s) ?_))
  refine (HV.out _ H0.out.b).mono ?_
  rintro o w1 ⟨rfl,hb1⟩;have H1:Hid (dtS w H s w1):=H0.out.below hb1
  clear H0 hb1;go_wp2_with (first
   | (refine wpList_store_mid (P:=Tryz.prog) rfl 35 _ _ rfl (w.heap.size+1) 0 [.int .i64 0,.int .i64 0,.int .i64 0,.int .i64 0,.slice none 0 0,.slice none 0 0,.slice none 0 0,.slice none 0 0,.int .i64 0,.int .i64 0].toArray rfl rfl (H1.out.r.there 0 10 (by simp[Z10])) sz41 (all_oneCell_toArray (by simp[Value.oneCell'])) ?_;generalize hW8:World.setCells _ (w.heap.size+1) 0 _=w8;have HW8:Hid (_=w8):=hW8;clear hW8))
  have e8:=HW8.out
  have hF:blk w8 (w.heap.size+1) [.int .i64 0,.int .i64 0,.int .i64 0,.int .i64 0,.slice none 0 0,.slice none 0 0,.slice none 0 0,.slice none 0 0,.int .i64 0,.int .i64 0] 35:=by
   rw[← e8]
   have:=blk.put [] Z10 [] [.int .i64 0,.int .i64 0,.int .i64 0,.int .i64 0,.slice none 0 0,.slice none 0 0,.slice none 0 0,.slice none 0 0,.int .i64 0,.int .i64 0] (w:=w1) (b:=w.heap.size+1) (T:=35) (by simpa using H1.out.r) rfl
   simpa using this
  have hL:=run_loadVar_mid (P:=Tryz.prog) w8 (w.heap.size+1) 0 35 _ _ hF.load Tryz.underlying35 rfl sz41
  refine bodyPost_ret (v:=.agg [.int .i64 0,.int .i64 0,.int .i64 0,.int .i64 0,.slice none 0 0,.slice none 0 0,.slice none 0 0,.slice none 0 0,.int .i64 0,.int .i64 0].toArray) (results_cell Tryz.results56 _ w8 (w.heap.size+1) _ rfl hL) rfl ?_
  exact Or.inr ⟨HOK.out,rfl,by rw[← e8];exact setCells_below (by omega) 0 _ H1.out.b⟩
structure dvS (w:World) (H:Ho) (s:Sl) (W:World):Prop where
 p:blk W w.heap.size (hoL H s) 35
 r:blk W (w.heap.size+1) Z10 35
 e:blk W (w.heap.size+1+1) [.slice none 0 0] 33
 b:Below w.heap.size w W
theorem dvS.new (w:World) (H:Ho) (s:Sl):dvS w H s (((w.alloc (.cells (hoL H s).toArray 35)).alloc (.cells [.int .i64 0,.int .i64 0,.int .i64 0,.int .i64 0,.slice none 0 0,.slice none 0 0,.slice none 0 0,.slice none 0 0,.int .i64 0,.int .i64 0].toArray 35)).alloc (.cells #[.slice none 0 0] 33)):=by
 refine⟨((blk.new w _ 35).alloc _).alloc _,?_,?_,(((Below.refl _ _).alloc (Nat.le_refl _) _).alloc (by simp) _).alloc (by simp;omega) _⟩
 ·have:=(blk.new (w.alloc (.cells (hoL H s).toArray 35)) [.int .i64 0,.int .i64 0,.int .i64 0,.int .i64 0,.slice none 0 0,.slice none 0 0,.slice none 0 0,.slice none 0 0,.int .i64 0,.int .i64 0] 35).alloc (.cells #[.slice none 0 0] 33)
  have e:(w.alloc (.cells (hoL H s).toArray 35)).heap.size=w.heap.size+1:=by simp
  rw[e] at this
  exact this
 ·have:=blk.new ((w.alloc (.cells (hoL H s).toArray 35)).alloc (.cells [.int .i64 0,.int .i64 0,.int .i64 0,.int .i64 0,.slice none 0 0,.slice none 0 0,.slice none 0 0,.slice none 0 0,.int .i64 0,.int .i64 0].toArray 35)) [.slice none 0 0] 33
  have e:((w.alloc (.cells (hoL H s).toArray 35)).alloc (.cells [.int .i64 0,.int .i64 0,.int .i64 0,.int .i64 0,.slice none 0 0,.slice none 0 0,.slice none 0 0,.slice none 0 0,.int .i64 0,.int .i64 0].toArray 35)).heap.size=w.heap.size+1+1:=by simp
  rw[e] at this
  exact this
def drD (w:World) (T:Ho) (q:List R8) (o:Ending) (w':World):Prop:=∃ (s:Wh) (a:Option Addr) (c:Nat) (he:Nat→Hd) (C:Nat),o = .returned (.tuple #[.agg (hoL T s.sl).toArray,.slice a q.length c])∧w.heap.size≤C∧C≤w'.heap.size∧St C w' (fun W=>isHo W T s.sl)∧whS C w'.heap.size w' s∧whD s∧whE s∧evQ w.heap.size C q a c he w'∧Below w.heap.size w w'
set_option maxHeartbeats 8000000 in
set_option maxRecDepth 20000 in
theorem implDrain_any (w:World) (H:Ho) (s:Sl) (h:isHo w H s) (hs:slSome s) (hn:H.le 1048576) :
  Calls Tryz.prog 20 #[.agg (hoL H s).toArray] w fun o w'=>(okHo H∧drD w (qHo H []) H.qu o w')∨(¬ okHo H∧o = .returned (.tuple #[.agg [.int .i64 0,.int .i64 0,.int .i64 0,.int .i64 0,.slice none 0 0,.slice none 0 0,.slice none 0 0,.slice none 0 0,.int .i64 0,.int .i64 0].toArray,.slice none 0 0])∧Below w.heap.size w w'):=by
 have H0:Hid (dvS w H s (((w.alloc (.cells (hoL H s).toArray 35)).alloc (.cells [.int .i64 0,.int .i64 0,.int .i64 0,.int .i64 0,.slice none 0 0,.slice none 0 0,.slice none 0 0,.slice none 0 0,.int .i64 0,.int .i64 0].toArray 35)).alloc (.cells #[.slice none 0 0] 33))):=dvS.new w H s
 have HC:Hid (∀ W,dvS w H s W→Calls Tryz.prog 56 #[.agg (hoL H s).toArray,.func (.func 67) #[] #[.pointer (some ⟨w.heap.size+1+1,0,none⟩)]] W fun o w'=>(okHo H∧drC W (w.heap.size+1+1) (qHo H []) H.qu o w')∨(¬ okHo H∧o = .returned (.agg [.int .i64 0,.int .i64 0,.int .i64 0,.int .i64 0,.slice none 0 0,.slice none 0 0,.slice none 0 0,.slice none 0 0,.int .i64 0,.int .i64 0].toArray)∧Below W.heap.size W w')):=fun W hW=>changed67 W H s (w.heap.size+1+1) (h.below hW.b) hs hn hW.e
 have hmf:∀ (fn:Fn) (first cap:Array Value) (w:World),(Instr.makeFunc fn first cap).run Tryz.prog w = .ok (.func fn first cap) w:=fun _ _ _ _=>rfl
 have HZA:Hid ((((w.alloc (.cells (hoL H s).toArray 35)).alloc (.cells [.int .i64 0,.int .i64 0,.int .i64 0,.int .i64 0,.slice none 0 0,.slice none 0 0,.slice none 0 0,.slice none 0 0,.int .i64 0,.int .i64 0].toArray 35)).alloc (.cells #[.slice none 0 0] 33)).heap.size=w.heap.size+1+1+1):=by show _=_;simp
 clear h hn hs;go_enter Tryz.func20,Tryz.ntmps20
 go_wp2_with (first
  | (refine wpList_load_mid (P:=Tryz.prog) rfl 35 _ rfl w.heap.size 0 rfl (hoL H s) _ H0.out.p.load Tryz.underlying35 rfl (sz41L H s) ?_))
 refine (HC.out _ H0.out).mono ?_
 rintro o w1 (⟨hok,s4,a,c,he,C,rfl,hC,q1,q2,q3,q4,q5,hb4,hE,hx⟩|⟨hok,rfl,hb4⟩)
 ·have HOK:Hid (okHo H):=hok
  have HE1:Hid (blk w1 (w.heap.size+1+1) [.slice a H.qu.length c] 33):=hE
  have HR1:Hid (blk w1 (w.heap.size+1) Z10 35):=H0.out.r.kept (hx _ (by omega) H0.out.r.lt)
  have HQ:Hid (w.heap.size+1+1+1≤C∧C≤w1.heap.size∧St C w1 (fun W=>isHo W (qHo H []) s4.sl)∧whS C w1.heap.size w1 s4∧whD s4∧whE s4∧evQ (w.heap.size+1+1+1) C H.qu a c he w1):=⟨by have:=HZA.out;show _≤C;omega,by have:=q2.fb;omega,q1,q2,q3,q4,q5.mono (by rw[HZA.out];exact Nat.le_refl _) (Nat.le_refl _)⟩
  have HB1:Hid (Below w.heap.size w w1):=H0.out.b.trans (hb4.mono (by omega))
  clear hok hC q1 q2 q3 q4 q5 hb4 hE hx HC H0 HZA;have HN1a:Hid (blk (World.setCells (w1.alloc (.cells [.int .i64 0,.int .i64 0,.int .i64 0,.int .i64 0,.slice none 0 0,.slice none 0 0,.slice none 0 0,.slice none 0 0,.int .i64 0,.int .i64 0].toArray 35)) w1.heap.size 0 (hoL (qHo H []) s4.sl)) w1.heap.size (hoL (qHo H []) s4.sl) 35∧Below w1.heap.size w1 (World.setCells (w1.alloc (.cells [.int .i64 0,.int .i64 0,.int .i64 0,.int .i64 0,.slice none 0 0,.slice none 0 0,.slice none 0 0,.slice none 0 0,.int .i64 0,.int .i64 0].toArray 35)) w1.heap.size 0 (hoL (qHo H []) s4.sl))):=new_hostS _ (hoL_len _ _)
  have HN1b:Hid (blk (w1.alloc (.cells [.int .i64 0,.int .i64 0,.int .i64 0,.int .i64 0,.slice none 0 0,.slice none 0 0,.slice none 0 0,.slice none 0 0,.int .i64 0,.int .i64 0].toArray 35)) w1.heap.size [.int .i64 0,.int .i64 0,.int .i64 0,.int .i64 0,.slice none 0 0,.slice none 0 0,.slice none 0 0,.slice none 0 0,.int .i64 0,.int .i64 0] 35):=blk.new w1 _ 35
  go_wp2_with (first
   | (refine wpList_store_mid (P:=Tryz.prog) rfl 35 _ _ rfl w1.heap.size 0 (hoL (qHo H []) s4.sl).toArray rfl rfl (HN1b.out.there 0 _ (by rw[List.size_toArray,hoL_len];decide)) (sz41A _ _) (hoL_one _ _) ?_;generalize hW6:World.setCells (w1.alloc _) w1.heap.size 0 _=w6;have HX6:Hid (blk w6 w1.heap.size (hoL (qHo H []) s4.sl) 35∧Below w1.heap.size w1 w6):=(by rw[← hW6];exact HN1a.out);clear hW6))
  clear HN1a HN1b;refine wp_region_held (S:=fun X=>blk X w1.heap.size (hoL (qHo H []) s4.sl) 35∧blk X (w.heap.size+1+1) [.slice a H.qu.length c] 33) (by kernel_rfl) ?_
  have hbd:Below w6.heap.size w6 (World.drew w6):=(Below.refl _ _).drew
  have HX7:Hid (blk (World.drew w6) w1.heap.size (hoL (qHo H []) s4.sl) 35∧Below w1.heap.size w1 (World.drew w6)):=⟨HX6.out.1.below hbd,HX6.out.2.trans (hbd.mono HX6.out.2.size)⟩
  clear hbd HX6;change wpAnyH Tryz.prog _ _ _ _ _ _ _ (World.drew w6)
  generalize World.drew w6=w7 at *;have HE7:Hid (blk w7 (w.heap.size+1+1) [.slice a H.qu.length c] 33):=HE1.out.below HX7.out.2
  have HR7:Hid (blk w7 (w.heap.size+1) Z10 35):=HR1.out.below HX7.out.2
  have hS:blk w7 w1.heap.size (hoL (qHo H []) s4.sl) 35∧blk w7 (w.heap.size+1+1) [.slice a H.qu.length c] 33:=⟨HX7.out.1,HE7.out⟩
  have HRL:Hid (w.heap.size+1<w1.heap.size):=HR1.out.lt
  refine wT (i:=0) (v:=.agg (hoL (qHo H []) s4.sl).toArray) rfl (by kernel_rfl) (by kernel_rfl) (by kernel_rfl) (fun _ _ _ h=>h) (yieldsIf_load_mid (by rfl) 35 _ rfl w1.heap.size 0 rfl (hoL (qHo H []) s4.sl) _ (fun X h=>h.1.load) Tryz.underlying35 rfl (sz41L _ _)) hS ?_
  simp only[Act.put,aA,aB,aC,aD,aE]
  refine wT (i:=1) (v:=.slice a H.qu.length c) rfl (by kernel_rfl) (by kernel_rfl) (by kernel_rfl) (fun _ _ _ h=>h) (Or.inl ⟨by rfl,?_⟩) hS ?_
  ·intro W hSw;clear hS;have xE:=hSw.2.cell 0 _ rfl
   go_simp
  simp only[Act.put,aA,aB,aC,aD,aE,aF];refine wpAnyH_all (rs:=[2]) (by kernel_rfl) (by simp) ?_
  refine AllReadyH.cons rfl (fun K2 hK2=>?_) AllReadyH.nil
  rw[if_pos (by rfl)]
  refine wp_store_mid 35 _ _ rfl (w.heap.size+1) 0 (hoL (qHo H []) s4.sl).toArray rfl rfl (HR7.out.there 0 _ (by rw[List.size_toArray,hoL_len];decide)) (sz41A _ _) (hoL_one _ _) ?_
  have hS5:blk (w7.setCells (w.heap.size+1) 0 (hoL (qHo H []) s4.sl)) w1.heap.size (hoL (qHo H []) s4.sl) 35∧blk (w7.setCells (w.heap.size+1) 0 (hoL (qHo H []) s4.sl)) (w.heap.size+1+1) [.slice a H.qu.length c] 33:=⟨hS.1.other (by have:=HRL.out;omega) _ _,hS.2.other (by omega) _ _⟩
  refine hK2.out _ _ hS5 (fun hS2=>?_)
  clear hK2 K2 hS hS5;have hS:=hS2
  clear hS2;refine wpAnyH_all (rs:=[3]) (by kernel_rfl) (by simp) ?_
  refine AllReadyH.cons rfl (fun K2 hK2=>?_) AllReadyH.nil
  go_simp;refine hK2.out _ _ hS (fun hS2=>?_)
  clear hK2 K2 hS hS2;refine wpAnyH_done (by kernel_rfl) ?_ _
  generalize hW8:World.setCells w7 (w.heap.size+1) 0 (hoL (qHo H []) s4.sl)=w8
  have HW8:Hid (World.setCells w7 (w.heap.size+1) 0 (hoL (qHo H []) s4.sl)=w8):=hW8
  clear hW8;go_wp2_with fail;have e8:=HW8.out
  have hF:blk w8 (w.heap.size+1) (hoL (qHo H []) s4.sl) 35:=by
   rw[← e8]
   have:=blk.put [] Z10 [] (hoL (qHo H []) s4.sl) (w:=w7) (b:=w.heap.size+1) (T:=35) (by simpa using HR7.out) (by rw[hoL_len];rfl)
   rw[List.nil_append,List.append_nil] at this
   exact this
  have hL:=run_loadVar_mid (P:=Tryz.prog) w8 (w.heap.size+1) 0 35 _ _ hF.load Tryz.underlying35 rfl (sz41L _ _)
  refine bodyPost_ret (results_cell_tmp Tryz.results20 _ w8 (w.heap.size+1) _ rfl hL) rfl ?_
  have oth:∀ x,x≠w.heap.size+1→w8.heap[x]?=w7.heap[x]?:=fun x hx=>by rw[← e8];exact setCells_other _ x hx _ _ _
  have hsz:w8.heap.size=w7.heap.size:=by rw[← e8];exact setCells_size ..
  obtain⟨hc1,hc2,q1,q2,q3,q4,q5⟩:=HQ.out
  have hb7:=HX7.out.2
  have hz7:=hb7.size
  have he7:∀ x,C≤x→x<w1.heap.size→w8.heap[x]?=w1.heap[x]?:=fun x h1 h2=>(oth x (by omega)).trans (hb7.block x h2)
  refine Or.inl ⟨HOK.out,s4,a,c,he,C,rfl,by omega,by omega,fun V hV=>q1 V (fun x h1 h2=>(hV x h1 (by omega)).trans (he7 x h1 h2)),(q2.same he7).mono (Nat.le_refl _) (by omega),q3,q4,(q5.same (fun x h1 h2=>?_)).mono (by omega) (Nat.le_refl _),by rw[← e8];exact setCells_below (by omega) 0 _ (HB1.out.trans (hb7.mono HB1.out.size))⟩
  exact (oth x (by omega)).trans (hb7.block x (by omega))
 ·have HOK:Hid (¬ okHo H):=hok
  have HE1:Hid (blk w1 (w.heap.size+1+1) [.slice none 0 0] 33):=H0.out.e.below hb4
  have HR1:Hid (blk w1 (w.heap.size+1) Z10 35):=H0.out.r.below hb4
  have HB1:Hid (Below w.heap.size w w1):=H0.out.b.trans (hb4.mono H0.out.b.size)
  clear hok hb4 HC H0;have HN1a:Hid (blk (World.setCells (w1.alloc (.cells [.int .i64 0,.int .i64 0,.int .i64 0,.int .i64 0,.slice none 0 0,.slice none 0 0,.slice none 0 0,.slice none 0 0,.int .i64 0,.int .i64 0].toArray 35)) w1.heap.size 0 [.int .i64 0,.int .i64 0,.int .i64 0,.int .i64 0,.slice none 0 0,.slice none 0 0,.slice none 0 0,.slice none 0 0,.int .i64 0,.int .i64 0]) w1.heap.size [.int .i64 0,.int .i64 0,.int .i64 0,.int .i64 0,.slice none 0 0,.slice none 0 0,.slice none 0 0,.slice none 0 0,.int .i64 0,.int .i64 0] 35∧Below w1.heap.size w1 (World.setCells (w1.alloc (.cells [.int .i64 0,.int .i64 0,.int .i64 0,.int .i64 0,.slice none 0 0,.slice none 0 0,.slice none 0 0,.slice none 0 0,.int .i64 0,.int .i64 0].toArray 35)) w1.heap.size 0 [.int .i64 0,.int .i64 0,.int .i64 0,.int .i64 0,.slice none 0 0,.slice none 0 0,.slice none 0 0,.slice none 0 0,.int .i64 0,.int .i64 0])):=new_hostS _ (rfl)
  have HN1b:Hid (blk (w1.alloc (.cells [.int .i64 0,.int .i64 0,.int .i64 0,.int .i64 0,.slice none 0 0,.slice none 0 0,.slice none 0 0,.slice none 0 0,.int .i64 0,.int .i64 0].toArray 35)) w1.heap.size [.int .i64 0,.int .i64 0,.int .i64 0,.int .i64 0,.slice none 0 0,.slice none 0 0,.slice none 0 0,.slice none 0 0,.int .i64 0,.int .i64 0] 35):=blk.new w1 _ 35
  go_wp2_with (first
   | (refine wpList_store_mid (P:=Tryz.prog) rfl 35 _ _ rfl w1.heap.size 0 [.int .i64 0,.int .i64 0,.int .i64 0,.int .i64 0,.slice none 0 0,.slice none 0 0,.slice none 0 0,.slice none 0 0,.int .i64 0,.int .i64 0].toArray rfl rfl (HN1b.out.there 0 _ (by simp)) sz41 (all_oneCell_toArray (by simp[Value.oneCell'])) ?_;generalize hW6:World.setCells (w1.alloc _) w1.heap.size 0 _=w6;have HX6:Hid (blk w6 w1.heap.size [.int .i64 0,.int .i64 0,.int .i64 0,.int .i64 0,.slice none 0 0,.slice none 0 0,.slice none 0 0,.slice none 0 0,.int .i64 0,.int .i64 0] 35∧Below w1.heap.size w1 w6):=(by rw[← hW6];exact HN1a.out);clear hW6))
  clear HN1a HN1b;refine wp_region_held (S:=fun X=>blk X w1.heap.size [.int .i64 0,.int .i64 0,.int .i64 0,.int .i64 0,.slice none 0 0,.slice none 0 0,.slice none 0 0,.slice none 0 0,.int .i64 0,.int .i64 0] 35∧blk X (w.heap.size+1+1) [.slice none 0 0] 33) (by kernel_rfl) ?_
  have hbd:Below w6.heap.size w6 (World.drew w6):=(Below.refl _ _).drew
  have HX7:Hid (blk (World.drew w6) w1.heap.size [.int .i64 0,.int .i64 0,.int .i64 0,.int .i64 0,.slice none 0 0,.slice none 0 0,.slice none 0 0,.slice none 0 0,.int .i64 0,.int .i64 0] 35∧Below w1.heap.size w1 (World.drew w6)):=⟨HX6.out.1.below hbd,HX6.out.2.trans (hbd.mono HX6.out.2.size)⟩
  clear hbd HX6;change wpAnyH Tryz.prog _ _ _ _ _ _ _ (World.drew w6)
  generalize World.drew w6=w7 at *;have HE7:Hid (blk w7 (w.heap.size+1+1) [.slice none 0 0] 33):=HE1.out.below HX7.out.2
  have HR7:Hid (blk w7 (w.heap.size+1) Z10 35):=HR1.out.below HX7.out.2
  have hS:blk w7 w1.heap.size [.int .i64 0,.int .i64 0,.int .i64 0,.int .i64 0,.slice none 0 0,.slice none 0 0,.slice none 0 0,.slice none 0 0,.int .i64 0,.int .i64 0] 35∧blk w7 (w.heap.size+1+1) [.slice none 0 0] 33:=⟨HX7.out.1,HE7.out⟩
  have HRL:Hid (w.heap.size+1<w1.heap.size):=HR1.out.lt
  refine wT (i:=0) (v:=.agg [.int .i64 0,.int .i64 0,.int .i64 0,.int .i64 0,.slice none 0 0,.slice none 0 0,.slice none 0 0,.slice none 0 0,.int .i64 0,.int .i64 0].toArray) rfl (by kernel_rfl) (by kernel_rfl) (by kernel_rfl) (fun _ _ _ h=>h) (yieldsIf_load_mid (by rfl) 35 _ rfl w1.heap.size 0 rfl [.int .i64 0,.int .i64 0,.int .i64 0,.int .i64 0,.slice none 0 0,.slice none 0 0,.slice none 0 0,.slice none 0 0,.int .i64 0,.int .i64 0] _ (fun X h=>h.1.load) Tryz.underlying35 rfl sz41) hS ?_
  simp only[Act.put,aA,aB,aC,aD,aE]
  refine wT (i:=1) (v:=.slice none 0 0) rfl (by kernel_rfl) (by kernel_rfl) (by kernel_rfl) (fun _ _ _ h=>h) (Or.inl ⟨by rfl,?_⟩) hS ?_
  ·intro W hSw;clear hS;have xE:=hSw.2.cell 0 _ rfl
   go_simp
  simp only[Act.put,aA,aB,aC,aD,aE,aF];refine wpAnyH_all (rs:=[2]) (by kernel_rfl) (by simp) ?_
  refine AllReadyH.cons rfl (fun K2 hK2=>?_) AllReadyH.nil
  rw[if_pos (by rfl)]
  refine wp_store_mid 35 _ _ rfl (w.heap.size+1) 0 [.int .i64 0,.int .i64 0,.int .i64 0,.int .i64 0,.slice none 0 0,.slice none 0 0,.slice none 0 0,.slice none 0 0,.int .i64 0,.int .i64 0].toArray rfl rfl (HR7.out.there 0 _ (by simp[Z10])) sz41 (all_oneCell_toArray (by simp[Value.oneCell'])) ?_
  have hS5:blk (w7.setCells (w.heap.size+1) 0 [.int .i64 0,.int .i64 0,.int .i64 0,.int .i64 0,.slice none 0 0,.slice none 0 0,.slice none 0 0,.slice none 0 0,.int .i64 0,.int .i64 0]) w1.heap.size [.int .i64 0,.int .i64 0,.int .i64 0,.int .i64 0,.slice none 0 0,.slice none 0 0,.slice none 0 0,.slice none 0 0,.int .i64 0,.int .i64 0] 35∧blk (w7.setCells (w.heap.size+1) 0 [.int .i64 0,.int .i64 0,.int .i64 0,.int .i64 0,.slice none 0 0,.slice none 0 0,.slice none 0 0,.slice none 0 0,.int .i64 0,.int .i64 0]) (w.heap.size+1+1) [.slice none 0 0] 33:=⟨hS.1.other (by have:=HRL.out;omega) _ _,hS.2.other (by omega) _ _⟩
  refine hK2.out _ _ hS5 (fun hS2=>?_)
  clear hK2 K2 hS hS5;have hS:=hS2
  clear hS2;refine wpAnyH_all (rs:=[3]) (by kernel_rfl) (by simp) ?_
  refine AllReadyH.cons rfl (fun K2 hK2=>?_) AllReadyH.nil
  go_simp;refine hK2.out _ _ hS (fun hS2=>?_)
  clear hK2 K2 hS hS2;refine wpAnyH_done (by kernel_rfl) ?_ _
  generalize hW8:World.setCells w7 (w.heap.size+1) 0 [.int .i64 0,.int .i64 0,.int .i64 0,.int .i64 0,.slice none 0 0,.slice none 0 0,.slice none 0 0,.slice none 0 0,.int .i64 0,.int .i64 0]=w8
  have HW8:Hid (World.setCells w7 (w.heap.size+1) 0 [.int .i64 0,.int .i64 0,.int .i64 0,.int .i64 0,.slice none 0 0,.slice none 0 0,.slice none 0 0,.slice none 0 0,.int .i64 0,.int .i64 0]=w8):=hW8
  clear hW8;go_wp2_with fail;have e8:=HW8.out
  have hF:blk w8 (w.heap.size+1) [.int .i64 0,.int .i64 0,.int .i64 0,.int .i64 0,.slice none 0 0,.slice none 0 0,.slice none 0 0,.slice none 0 0,.int .i64 0,.int .i64 0] 35:=by
   rw[← e8]
   have:=blk.put [] Z10 [] [.int .i64 0,.int .i64 0,.int .i64 0,.int .i64 0,.slice none 0 0,.slice none 0 0,.slice none 0 0,.slice none 0 0,.int .i64 0,.int .i64 0] (w:=w7) (b:=w.heap.size+1) (T:=35) (by simpa using HR7.out) (rfl)
   rw[List.nil_append,List.append_nil] at this
   exact this
  have hL:=run_loadVar_mid (P:=Tryz.prog) w8 (w.heap.size+1) 0 35 _ _ hF.load Tryz.underlying35 rfl sz41
  refine bodyPost_ret (results_cell_tmp Tryz.results20 _ w8 (w.heap.size+1) _ rfl hL) rfl ?_
  have oth:∀ x,x≠w.heap.size+1→w8.heap[x]?=w7.heap[x]?:=fun x hx=>by rw[← e8];exact setCells_other _ x hx _ _ _
  have hsz:w8.heap.size=w7.heap.size:=by rw[← e8];exact setCells_size ..
  exact Or.inr ⟨HOK.out,rfl,by rw[← e8];exact setCells_below (by omega) 0 _ (HB1.out.trans (HX7.out.2.mono HB1.out.size))⟩
end Go.Proofs.YtaamahohdnbpiaaGreat
