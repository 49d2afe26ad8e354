import Derived.Test.YtkfcfigbgmbaiaaGreatG34
import Derived.Test.YtkfcfigbgmbaiaaGreatG43
import Derived.Test.YtkfcfigbgmbaiaaGreatG33
import Derived.Test.YtkfcfigbgmbaiaaGreatG28
namespace Go.Proofs.YtkfcfigbgmbaiaaGreat
open Go.RowKit
set_option linter.unusedVariables false
set_option maxHeartbeats 8000000 in
set_option maxRecDepth 20000 in
theorem act_rst {w0:World} {M:Nat} {G:Lg} {C:Co} {f1 f3:Nat} {hs:Nat→Hd} {nm:Nat} {D:DataW Unit} {W:World} (h:mc w0 M G C f1 f3 hs nm D W) (hof:C.p=7↔C.te=256):Calls Tryz.prog 85 #[.pointer (some ⟨M,0,none⟩),.func (.func 38) #[] #[]] W fun o w'=>o = .returned (.tuple #[])∧mc w0 M G (rstC C) f1 f3 hs nm D w':=by
 have HS:Hid (Calls Tryz.prog 106 #[.pointer (some ⟨M,0,none⟩)] W fun o w'=>o = .returned (.int .i64 (stZ C.te C.re))∧mc w0 M G C f1 f3 hs nm D w'∧Below W.heap.size W w'):=state_any h
 have HR:Hid (∀ X,mc w0 M G C f1 f3 hs nm D X→Calls Tryz.prog 38 #[.pointer (some ⟨M,0,none⟩)] X fun o w'=>o = .returned (.tuple #[])∧mc w0 M G (rstC C) f1 f3 hs nm D w'):=fun X hX=>restart_any hX
 have HS2:Hid (∀ X,mc w0 M G (rstC C) f1 f3 hs nm D X→Calls Tryz.prog 106 #[.pointer (some ⟨M,0,none⟩)] X fun o w'=>o = .returned (.int .i64 (stZ C.te C.re))∧mc w0 M G (rstC C) f1 f3 hs nm D w'):=fun X hX=>(state_any hX).mono (by rintro o w' ⟨rfl,h1,_⟩;exact⟨rfl,h1⟩)
 have HTL:Hid (∀ X,mc w0 M G (rstC C) f1 f3 hs nm D X→Calls Tryz.prog 145 #[.pointer (some ⟨M,0,none⟩),.int .i64 (stZ C.te C.re)] X fun o w'=>o = .returned (.tuple #[])∧mc w0 M G (rstC C) f1 f3 hs nm D w'):=fun X hX=>by
  have:=tell_any hX (stZ C.te C.re)
  have e:tellC (rstC C) (stZ C.te C.re)=rstC C:=if_pos rfl
  rw[e] at this
  exact this
 clear h
 by_cases e:C.te=256
 ·have ez:stZ C.te C.re=2:=by unfold stZ;rw[if_pos e]
  have ep:C.p=7:=hof.2 e
  have d1:(C.p == 7)=true:=by simpa using ep
  have d2:(C.p != 7)=false:=by simpa using ep
  rw[ez] at HS HS2 HTL
  clear hof e ez
  go_enter Tryz.func85,Tryz.ntmps85
  go_wp2_with fail
  refine HS.out.mono ?_
  rintro o w1 ⟨rfl,h1,_⟩
  have H1:Hid (mc w0 M G C f1 f3 hs nm D w1):=h1
  clear h1 HS
  go_wp2_with fail
  refine (HR.out _ H1.out).mono ?_
  rintro o w2 ⟨rfl,h2⟩
  have H2:Hid (mc w0 M G (rstC C) f1 f3 hs nm D w2):=h2
  clear h2 H1 HR
  go_wp2_with fail
  refine (HS2.out _ H2.out).mono ?_
  rintro o w3 ⟨rfl,h3⟩
  have H3:Hid (mc w0 M G (rstC C) f1 f3 hs nm D w3):=h3
  have y3:=h3.m.cell 3 (.int .i64 C.p) rfl
  clear h3 H2 HS2
  go_wp2_with fail
  refine (HTL.out _ H3.out).mono ?_
  rintro o w4 ⟨rfl,h4⟩
  have H4:Hid (mc w0 M G (rstC C) f1 f3 hs nm D w4):=h4
  clear h4 H3 HTL
  go_wp2_with fail
  first | go_end0 | (simp only[Exit.inBlock,Exit.then];refine bodyPost_ret (results_none rfl _ _ _) rfl ?_) | refine bodyPost_ret (results_none rfl _ _ _) rfl ?_
  exact⟨rfl,H4.out⟩
 ·have ez:¬ stZ C.te C.re=2:=by unfold stZ;rw[if_neg e];split <;> omega
  have d1:(stZ C.te C.re == 2)=false:=by simpa using ez
  clear hof e ez
  generalize stZ C.te C.re=z at *
  go_enter Tryz.func85,Tryz.ntmps85
  go_wp2_with fail
  refine HS.out.mono ?_
  rintro o w1 ⟨rfl,h1,_⟩
  have H1:Hid (mc w0 M G C f1 f3 hs nm D w1):=h1
  clear h1 HS
  go_wp2_with fail
  refine (HR.out _ H1.out).mono ?_
  rintro o w2 ⟨rfl,h2⟩
  have H2:Hid (mc w0 M G (rstC C) f1 f3 hs nm D w2):=h2
  clear h2 H1 HR
  go_wp2_with fail
  refine (HS2.out _ H2.out).mono ?_
  rintro o w3 ⟨rfl,h3⟩
  have H3:Hid (mc w0 M G (rstC C) f1 f3 hs nm D w3):=h3
  have y3:=h3.m.cell 3 (.int .i64 C.p) rfl
  clear h3 H2 HS2
  go_wp2_with fail
  refine (HTL.out _ H3.out).mono ?_
  rintro o w4 ⟨rfl,h4⟩
  have H4:Hid (mc w0 M G (rstC C) f1 f3 hs nm D w4):=h4
  clear h4 H3 HTL
  go_wp2_with fail
  first | go_end0 | (simp only[Exit.inBlock,Exit.then];refine bodyPost_ret (results_none rfl _ _ _) rfl ?_) | refine bodyPost_ret (results_none rfl _ _ _) rfl ?_
  exact⟨rfl,H4.out⟩
theorem open_rst (w:World) (C:Co) (s:Sl) (h:isHo w C.ho s) (hs:slSome s) (hok:okCo C) (hm:C.ho.le 1048576) :
  Calls Tryz.prog 84 #[.agg (coL C s).toArray] w fun o w'=>∃ P,o = .returned (.pointer (some ⟨P,0,none⟩))∧Below w.heap.size w w'∧Calls Tryz.prog 85 #[.pointer (some ⟨P,0,none⟩),.func (.func 38) #[] #[]] w' fun o w2=>o = .returned (.tuple #[])∧Below w.heap.size w w2∧Calls Tryz.prog 86 #[.pointer (some ⟨P,0,none⟩)] w2 (toldC w2 (rstC C)):=by
 refine (openCore_gen (R:=fun P w'=>∃ (X:World) (G:Lg) (hd:Nat→Hd),Below w.heap.size w X∧lh X G C.ho 0 0 hd G.n2 (tagsD Unit C.ho.bx G.n2) w'∧P=G.P) ?_ w C s ?_).mono ?_
 ·rintro P W W' ⟨X,G,hd,h1,h2,h3⟩ hb
  exact⟨X,G,hd,h1,h2.below hb,h3⟩
 ·intro W hW
  refine (open_lh W C.ho s (h.below hW) hs hok.h hm).mono ?_
  rintro o w' ⟨G,hd,rfl,h1,_⟩
  exact⟨G.P,rfl,⟨W,G,hd,hW,h1,rfl⟩,h1.b⟩
 rintro o w' ⟨P,w5,rfl,rfl,⟨X,G,hd,h1,h2,rfl⟩,h3⟩
 have hb5:Below w5.heap.size w5 (w5.alloc (.cells (mcL G.P C).toArray 125)):=(Below.refl _ _).alloc (Nat.le_refl _) _
 have hmc:mc X w5.heap.size G C 0 0 hd G.n2 (tagsD Unit C.ho.bx G.n2) (w5.alloc (.cells (mcL G.P C).toArray 125)):=by
  have a1:=h2.p.lt
  have a2:=h2.m.lt
  have a3:=h2.hi
  have a4:=h2.x.hi
  have a5:=h2.b.size
  exact⟨blk.new w5 _ 125,h2.below hb5,⟨by omega,by omega,by omega,by omega,by omega,by omega,by omega⟩⟩
 refine⟨w5.heap.size,rfl,h3.trans (hb5.mono h3.size),?_⟩
 refine (act_rst hmc hok.m.of).mono ?_
 rintro o w2 ⟨rfl,h4⟩
 refine⟨rfl,h1.trans (h4.h.b.mono h1.size),?_⟩
 exact mtold_any w2 w5.heap.size G.P (rstC C) h4.m (fun Y hY=>(h4.h.below hY).told)
structure dcS (w:World) (C:Co) (s:Sl) (W:World):Prop where
 p:blk W w.heap.size (coL C s) 41
 r:blk W (w.heap.size+1) Z21 41
 b:Below w.heap.size w W
theorem dcS.below {w:World} {C:Co} {s:Sl} {W W':World} (h:dcS w C s W) (hb:Below W.heap.size W W'):dcS w C s W':=⟨h.p.below hb,h.r.below hb,h.b.trans (hb.mono h.b.size)⟩
theorem dcS.new (w:World) (C:Co) (s:Sl):dcS w C s ((w.alloc (.cells (coL C s).toArray 41)).alloc (.cells Z21.toArray 41)):=by
 refine⟨(blk.new w _ 41).alloc _,?_,((Below.refl _ _).alloc (Nat.le_refl _) _).alloc (by simp) _⟩
 have:=blk.new (w.alloc (.cells (coL C s).toArray 41)) Z21 41
 simpa using this
set_option maxHeartbeats 8000000 in
set_option maxRecDepth 20000 in
theorem changedRst (w:World) (C:Co) (s:Sl) (h:isHo w C.ho s) (hs:slSome s) (hn:C.ho.le 1048576) :
  Calls Tryz.prog 37 #[.agg (coL C s).toArray,.bool true,.func (.func 38) #[] #[]] w fun o w'=>(okCo C∧toldC w (rstC C) o w')∨(¬ okCo C∧o = .returned (.agg [.int .i64 0,.int .i64 0,.int .i64 0,.bool false,.bool false,.bool false,.bool false,.bool false,.int .i64 0,.int .i64 0,.int .i64 0,.int .i64 0,.int .i64 0,.int .i64 0,.int .i64 0,.slice none 0 0,.slice none 0 0,.slice none 0 0,.slice none 0 0,.int .i64 0,.int .i64 0].toArray)∧Below w.heap.size w w'):=by
 have H0:Hid (dcS w C s ((w.alloc (.cells (coL C s).toArray 41)).alloc (.cells [.int .i64 0,.int .i64 0,.int .i64 0,.bool false,.bool false,.bool false,.bool false,.bool false,.int .i64 0,.int .i64 0,.int .i64 0,.int .i64 0,.int .i64 0,.int .i64 0,.int .i64 0,.slice none 0 0,.slice none 0 0,.slice none 0 0,.slice none 0 0,.int .i64 0,.int .i64 0].toArray 41))):=dcS.new w C s
 by_cases hok:okCo C
 ·have HV:Hid (∀ W,Below w.heap.size w W→Calls Tryz.prog 83 #[.agg (coL C s).toArray] W fun o w'=>o = .returned (.bool true)∧Below W.heap.size W w'):=fun W hW=>vOkC W C s (h.below hW) hn hok
  have HO:Hid (∀ W,Below w.heap.size w W→Calls Tryz.prog 84 #[.agg (coL C s).toArray] W fun o w'=>∃ P,o = .returned (.pointer (some ⟨P,0,none⟩))∧Below W.heap.size W w'∧Calls Tryz.prog 85 #[.pointer (some ⟨P,0,none⟩),.func (.func 38) #[] #[]] w' fun o w2=>o = .returned (.tuple #[])∧Below W.heap.size W w2∧Calls Tryz.prog 86 #[.pointer (some ⟨P,0,none⟩)] w2 (toldC w2 (rstC C))):=fun W hW=>open_rst W C s (h.below hW) hs hok hn
  have HOK:Hid (okCo C):=hok
  clear h hn hok hs
  go_enter Tryz.func37,Tryz.ntmps37
  go_wp2_with (first
   | (refine wpList_load_midG (by first | rfl | (simp[Region.wanted,yielded];done)) 41 _ rfl w.heap.size 0 rfl (coL C s) _ H0.out.p.load Tryz.underlying41 rfl (szC41L C s) ?_))
  refine (HV.out _ H0.out.b).mono ?_
  rintro o w1 ⟨rfl,hb1⟩
  have H1:Hid (dcS w C s w1):=H0.out.below hb1
  clear H0 hb1
  go_wp2_with (first
   | (refine wpList_load_mid (P:=Tryz.prog) rfl 41 _ rfl w.heap.size 0 rfl (coL C s) _ H1.out.p.load Tryz.underlying41 rfl (szC41L C s) ?_))
  refine (HO.out _ H1.out.b).mono ?_
  rintro o w2 ⟨P,rfl,hb2,hc2⟩
  have HC2:Hid (Calls Tryz.prog 85 #[.pointer (some ⟨P,0,none⟩),.func (.func 38) #[] #[]] w2 fun o w3=>o = .returned (.tuple #[])∧Below w1.heap.size w1 w3∧Calls Tryz.prog 86 #[.pointer (some ⟨P,0,none⟩)] w3 (toldC w3 (rstC C))):=hc2
  clear hc2 hb2
  go_wp2_with fail
  refine (Calls.mono HC2.out) ?_
  rintro o w3 ⟨rfl,hb3,hc3⟩
  have H3:Hid (dcS w C s w3):=H1.out.below hb3
  have HC3:Hid (Calls Tryz.prog 86 #[.pointer (some ⟨P,0,none⟩)] w3 (toldC w3 (rstC C))):=hc3
  clear hc3 hb3 HC2 H1
  go_wp2_with fail
  refine (Calls.mono HC3.out) ?_
  rintro o w4 ⟨s4,rfl,q1,q2,q3,q4,hb4⟩
  have H4:Hid (dcS w C s w4):=H3.out.below hb4
  have HQ:Hid (St w3.heap.size w4 (fun W=>isHo W (rstC C).ho s4.sl)∧whS w3.heap.size w4.heap.size w4 s4∧whD s4∧whE s4):=⟨q1,q2,q3,q4⟩
  clear q1 q2 q3 q4 hb4 HC3
  go_wp2_with (first
   | (refine wpList_store_mid (P:=Tryz.prog) rfl 41 _ _ rfl (w.heap.size+1) 0 (coL (rstC C) s4.sl).toArray rfl rfl (H4.out.r.there 0 _ (by rw[List.size_toArray,coL_len];decide)) (szC41A (rstC C) s4.sl) (coL_one (rstC C) s4.sl) ?_;generalize hW8:World.setCells _ (w.heap.size+1) 0 _=w8;have HW8:Hid (_=w8):=hW8;clear hW8))
  have e8:=HW8.out
  have hF:blk w8 (w.heap.size+1) (coL (rstC C) s4.sl) 41:=by
   rw[← e8]
   have:=blk.put [] Z21 [] (coL (rstC C) s4.sl) (w:=w4) (b:=w.heap.size+1) (T:=41) (by simpa using H4.out.r) (by rw[coL_len];rfl)
   simpa using this
  have hL:=run_loadVar_mid (P:=Tryz.prog) w8 (w.heap.size+1) 0 41 _ _ hF.load Tryz.underlying41 rfl (szC41L (rstC C) s4.sl)
  refine bodyPost_ret (v:=.agg (coL (rstC C) s4.sl).toArray) (results_cell Tryz.results37 _ w8 (w.heap.size+1) _ rfl hL) rfl ?_
  have oth:∀ x,x≠w.heap.size+1→w8.heap[x]?=w4.heap[x]?:=fun x hx=>by rw[← e8];exact setCells_other _ x hx _ _ _
  have hsz:w8.heap.size=w4.heap.size:=by rw[← e8];exact setCells_size ..
  have hp:=toldQ.put (w:=w) H3.out.b.size H3.out.r.lt HQ.out.1 HQ.out.2.1 oth hsz
  exact Or.inl ⟨HOK.out,s4,rfl,hp.1,hp.2,HQ.out.2.2.1,HQ.out.2.2.2,by rw[← e8];exact setCells_below (by omega) 0 _ H4.out.b⟩
 ·have HV:Hid (∀ W,Below w.heap.size w W→Calls Tryz.prog 83 #[.agg (coL C s).toArray] W fun o w'=>o = .returned (.bool false)∧Below W.heap.size W w'):=fun W hW=>vBadC W C s (h.below hW) hn hok
  have HOK:Hid (¬ okCo C):=hok
  clear h hn hok hs
  go_enter Tryz.func37,Tryz.ntmps37
  go_wp2_with (first
   | (refine wpList_load_midG (by first | rfl | (simp[Region.wanted,yielded];done)) 41 _ rfl w.heap.size 0 rfl (coL C s) _ H0.out.p.load Tryz.underlying41 rfl (szC41L C s) ?_))
  refine (HV.out _ H0.out.b).mono ?_
  rintro o w1 ⟨rfl,hb1⟩
  have H1:Hid (dcS w C s w1):=H0.out.below hb1
  clear H0 hb1
  go_wp2_with (first
   | (refine wpList_store_mid (P:=Tryz.prog) rfl 41 _ _ rfl (w.heap.size+1) 0 [.int .i64 0,.int .i64 0,.int .i64 0,.bool false,.bool false,.bool false,.bool false,.bool false,.int .i64 0,.int .i64 0,.int .i64 0,.int .i64 0,.int .i64 0,.int .i64 0,.int .i64 0,.slice none 0 0,.slice none 0 0,.slice none 0 0,.slice none 0 0,.int .i64 0,.int .i64 0].toArray rfl rfl (H1.out.r.there 0 21 (by simp[Z21])) szC41 (all_oneCell_toArray (by simp[Value.oneCell'])) ?_;generalize hW8:World.setCells _ (w.heap.size+1) 0 _=w8;have HW8:Hid (_=w8):=hW8;clear hW8))
  have e8:=HW8.out
  have hF:blk w8 (w.heap.size+1) [.int .i64 0,.int .i64 0,.int .i64 0,.bool false,.bool false,.bool false,.bool false,.bool false,.int .i64 0,.int .i64 0,.int .i64 0,.int .i64 0,.int .i64 0,.int .i64 0,.int .i64 0,.slice none 0 0,.slice none 0 0,.slice none 0 0,.slice none 0 0,.int .i64 0,.int .i64 0] 41:=by
   rw[← e8]
   have:=blk.put [] Z21 [] [.int .i64 0,.int .i64 0,.int .i64 0,.bool false,.bool false,.bool false,.bool false,.bool false,.int .i64 0,.int .i64 0,.int .i64 0,.int .i64 0,.int .i64 0,.int .i64 0,.int .i64 0,.slice none 0 0,.slice none 0 0,.slice none 0 0,.slice none 0 0,.int .i64 0,.int .i64 0] (w:=w1) (b:=w.heap.size+1) (T:=41) (by simpa using H1.out.r) rfl
   simpa using this
  have hL:=run_loadVar_mid (P:=Tryz.prog) w8 (w.heap.size+1) 0 41 _ _ hF.load Tryz.underlying41 rfl szC41
  refine bodyPost_ret (v:=.agg [.int .i64 0,.int .i64 0,.int .i64 0,.bool false,.bool false,.bool false,.bool false,.bool false,.int .i64 0,.int .i64 0,.int .i64 0,.int .i64 0,.int .i64 0,.int .i64 0,.int .i64 0,.slice none 0 0,.slice none 0 0,.slice none 0 0,.slice none 0 0,.int .i64 0,.int .i64 0].toArray) (results_cell Tryz.results37 _ w8 (w.heap.size+1) _ rfl hL) rfl ?_
  exact Or.inr ⟨HOK.out,rfl,by rw[← e8];exact setCells_below (by omega) 0 _ H1.out.b⟩
set_option maxHeartbeats 8000000 in
set_option maxRecDepth 20000 in
theorem implRestart_any (w:World) (C:Co) (s:Sl) (h:isHo w C.ho s) (hs:slSome s) (hn:C.ho.le 1048576) :
  Calls Tryz.prog 11 #[.agg (coL C s).toArray] w fun o w'=>(okCo C∧toldC w (rstC C) o w')∨(¬ okCo C∧o = .returned (.agg [.int .i64 0,.int .i64 0,.int .i64 0,.bool false,.bool false,.bool false,.bool false,.bool false,.int .i64 0,.int .i64 0,.int .i64 0,.int .i64 0,.int .i64 0,.int .i64 0,.int .i64 0,.slice none 0 0,.slice none 0 0,.slice none 0 0,.slice none 0 0,.int .i64 0,.int .i64 0].toArray)∧Below w.heap.size w w'):=by
 have H0:Hid (dcS w C s (((w.alloc (.cells (coL C s).toArray 41))).alloc (.cells [.int .i64 0,.int .i64 0,.int .i64 0,.bool false,.bool false,.bool false,.bool false,.bool false,.int .i64 0,.int .i64 0,.int .i64 0,.int .i64 0,.int .i64 0,.int .i64 0,.int .i64 0,.slice none 0 0,.slice none 0 0,.slice none 0 0,.slice none 0 0,.int .i64 0,.int .i64 0].toArray 41))):=dcS.new w C s
 have HC:Hid (∀ W,dcS w C s W→Calls Tryz.prog 37 #[.agg (coL C s).toArray,.bool true,.func (.func 38) #[] #[]] W fun o w'=>(okCo C∧toldC W (rstC C) o w')∨(¬ okCo C∧o = .returned (.agg [.int .i64 0,.int .i64 0,.int .i64 0,.bool false,.bool false,.bool false,.bool false,.bool false,.int .i64 0,.int .i64 0,.int .i64 0,.int .i64 0,.int .i64 0,.int .i64 0,.int .i64 0,.slice none 0 0,.slice none 0 0,.slice none 0 0,.slice none 0 0,.int .i64 0,.int .i64 0].toArray)∧Below W.heap.size W w')):=fun W hW=>changedRst W C s (h.below hW.b) hs hn
 have hmf:∀ (fn:Fn) (first cap:Array Value) (w:World),(Instr.makeFunc fn first cap).run Tryz.prog w = .ok (.func fn first cap) w:=fun _ _ _ _=>rfl
 clear h hn hs
 go_enter Tryz.func11,Tryz.ntmps11
 go_wp2_with (first
  | (refine wpList_load_mid (P:=Tryz.prog) rfl 41 _ rfl w.heap.size 0 rfl (coL C s) _ H0.out.p.load Tryz.underlying41 rfl (szC41L C s) ?_))
 refine (HC.out _ H0.out).mono ?_
 rintro o w1 (⟨hok,s4,rfl,q1,q2,q3,q4,hb4⟩|⟨hok,rfl,hb4⟩)
 ·have H4:Hid (dcS w C s w1):=H0.out.below hb4
  have HQ:Hid (St (((w.alloc (.cells (coL C s).toArray 41))).alloc (.cells [.int .i64 0,.int .i64 0,.int .i64 0,.bool false,.bool false,.bool false,.bool false,.bool false,.int .i64 0,.int .i64 0,.int .i64 0,.int .i64 0,.int .i64 0,.int .i64 0,.int .i64 0,.slice none 0 0,.slice none 0 0,.slice none 0 0,.slice none 0 0,.int .i64 0,.int .i64 0].toArray 41)).heap.size w1 (fun W=>isHo W (rstC C).ho s4.sl)∧whS (((w.alloc (.cells (coL C s).toArray 41))).alloc (.cells [.int .i64 0,.int .i64 0,.int .i64 0,.bool false,.bool false,.bool false,.bool false,.bool false,.int .i64 0,.int .i64 0,.int .i64 0,.int .i64 0,.int .i64 0,.int .i64 0,.int .i64 0,.slice none 0 0,.slice none 0 0,.slice none 0 0,.slice none 0 0,.int .i64 0,.int .i64 0].toArray 41)).heap.size w1.heap.size w1 s4∧whD s4∧whE s4):=⟨q1,q2,q3,q4⟩
  have HOK:Hid (okCo C):=hok
  have HZ:Hid (w.heap.size≤(((w.alloc (.cells (coL C s).toArray 41))).alloc (.cells [.int .i64 0,.int .i64 0,.int .i64 0,.bool false,.bool false,.bool false,.bool false,.bool false,.int .i64 0,.int .i64 0,.int .i64 0,.int .i64 0,.int .i64 0,.int .i64 0,.int .i64 0,.slice none 0 0,.slice none 0 0,.slice none 0 0,.slice none 0 0,.int .i64 0,.int .i64 0].toArray 41)).heap.size∧w.heap.size+1<(((w.alloc (.cells (coL C s).toArray 41))).alloc (.cells [.int .i64 0,.int .i64 0,.int .i64 0,.bool false,.bool false,.bool false,.bool false,.bool false,.int .i64 0,.int .i64 0,.int .i64 0,.int .i64 0,.int .i64 0,.int .i64 0,.int .i64 0,.slice none 0 0,.slice none 0 0,.slice none 0 0,.slice none 0 0,.int .i64 0,.int .i64 0].toArray 41)).heap.size):=⟨H0.out.b.size,H0.out.r.lt⟩
  clear q1 q2 q3 q4 hb4 hok HC H0
  go_wp2_with (first
   | (refine wpList_store_mid (P:=Tryz.prog) rfl 41 _ _ rfl (w.heap.size+1) 0 (coL (rstC C) s4.sl).toArray rfl rfl (H4.out.r.there 0 _ (by rw[List.size_toArray,coL_len];decide)) (szC41A (rstC C) s4.sl) (coL_one (rstC C) s4.sl) ?_;generalize hW8:World.setCells _ (w.heap.size+1) 0 _=w8;have HW8:Hid (_=w8):=hW8;clear hW8))
  have e8:=HW8.out
  have hF:blk w8 (w.heap.size+1) (coL (rstC C) s4.sl) 41:=by
   rw[← e8]
   have:=blk.put [] Z21 [] (coL (rstC C) s4.sl) (w:=w1) (b:=w.heap.size+1) (T:=41) (by simpa using H4.out.r) (by rw[coL_len];rfl)
   simpa using this
  have hL:=run_loadVar_mid (P:=Tryz.prog) w8 (w.heap.size+1) 0 41 _ _ hF.load Tryz.underlying41 rfl (szC41L (rstC C) s4.sl)
  refine bodyPost_ret (v:=.agg (coL (rstC C) s4.sl).toArray) (results_cell Tryz.results11 _ w8 (w.heap.size+1) _ rfl hL) rfl ?_
  have oth:∀ x,x≠w.heap.size+1→w8.heap[x]?=w1.heap[x]?:=fun x hx=>by rw[← e8];exact setCells_other _ x hx _ _ _
  have hsz:w8.heap.size=w1.heap.size:=by rw[← e8];exact setCells_size ..
  have hp:=toldQ.put (w:=w) HZ.out.1 HZ.out.2 HQ.out.1 HQ.out.2.1 oth hsz
  exact Or.inl ⟨HOK.out,s4,rfl,hp.1,hp.2,HQ.out.2.2.1,HQ.out.2.2.2,by rw[← e8];exact setCells_below (by omega) 0 _ H4.out.b⟩
 ·have H4:Hid (dcS w C s w1):=H0.out.below hb4
  have HOK:Hid (¬ okCo C):=hok
  clear hb4 hok HC H0
  go_wp2_with (first
   | (refine wpList_store_mid (P:=Tryz.prog) rfl 41 _ _ rfl (w.heap.size+1) 0 [.int .i64 0,.int .i64 0,.int .i64 0,.bool false,.bool false,.bool false,.bool false,.bool false,.int .i64 0,.int .i64 0,.int .i64 0,.int .i64 0,.int .i64 0,.int .i64 0,.int .i64 0,.slice none 0 0,.slice none 0 0,.slice none 0 0,.slice none 0 0,.int .i64 0,.int .i64 0].toArray rfl rfl (H4.out.r.there 0 21 (by simp[Z21])) szC41 (all_oneCell_toArray (by simp[Value.oneCell'])) ?_;generalize hW8:World.setCells _ (w.heap.size+1) 0 _=w8;have HW8:Hid (_=w8):=hW8;clear hW8))
  have e8:=HW8.out
  have hF:blk w8 (w.heap.size+1) [.int .i64 0,.int .i64 0,.int .i64 0,.bool false,.bool false,.bool false,.bool false,.bool false,.int .i64 0,.int .i64 0,.int .i64 0,.int .i64 0,.int .i64 0,.int .i64 0,.int .i64 0,.slice none 0 0,.slice none 0 0,.slice none 0 0,.slice none 0 0,.int .i64 0,.int .i64 0] 41:=by
   rw[← e8]
   have:=blk.put [] Z21 [] [.int .i64 0,.int .i64 0,.int .i64 0,.bool false,.bool false,.bool false,.bool false,.bool false,.int .i64 0,.int .i64 0,.int .i64 0,.int .i64 0,.int .i64 0,.int .i64 0,.int .i64 0,.slice none 0 0,.slice none 0 0,.slice none 0 0,.slice none 0 0,.int .i64 0,.int .i64 0] (w:=w1) (b:=w.heap.size+1) (T:=41) (by simpa using H4.out.r) rfl
   simpa using this
  have hL:=run_loadVar_mid (P:=Tryz.prog) w8 (w.heap.size+1) 0 41 _ _ hF.load Tryz.underlying41 rfl szC41
  refine bodyPost_ret (v:=.agg [.int .i64 0,.int .i64 0,.int .i64 0,.bool false,.bool false,.bool false,.bool false,.bool false,.int .i64 0,.int .i64 0,.int .i64 0,.int .i64 0,.int .i64 0,.int .i64 0,.int .i64 0,.slice none 0 0,.slice none 0 0,.slice none 0 0,.slice none 0 0,.int .i64 0,.int .i64 0].toArray) (results_cell Tryz.results11 _ w8 (w.heap.size+1) _ rfl hL) rfl ?_
  exact Or.inr ⟨HOK.out,rfl,by rw[← e8];exact setCells_below (by omega) 0 _ H4.out.b⟩
end Go.Proofs.YtkfcfigbgmbaiaaGreat
