import Derived.Test.YtgkkcpgocbcbaaaGreatK32
import Derived.Test.YtgkkcpgocbcbaaaGreatK36
import Derived.Test.YtgkkcpgocbcbaaaGreatK31
import Derived.Test.YtgkkcpgocbcbaaaGreatK23
import Derived.Test.YtgkkcpgocbcbaaaGreatK35
import Derived.Test.YtgkkcpgocbcbaaaGreatK30
import Derived.Deep.DeepCutAuto
namespace Go.Proofs.YtgkkcpgocbcbaaaGreat
open Go.RowKit
set_option linter.unusedVariables false
set_option maxHeartbeats 8000000 in
set_option maxRecDepth 20000 in
theorem act_rst {w0:World} {M:Nat} {G:Lg} {C:Co} {f1 f3:Nat} {hs:Nat→Hd} {nm:Nat} {D:DataW Unit} {W:World} (h:mc w0 M G C f1 f3 hs nm D W) (hof:C.p=7↔C.te=256):Calls Tryz.prog 38 #[.pointer (some ⟨M,0,none⟩),.func (.func 21) #[] #[]] W fun o w'=>o = .returned (.tuple #[])∧mc w0 M G (rstC C) f1 f3 hs nm D w':=by
 have HS:Hid (Calls Tryz.prog 56 #[.pointer (some ⟨M,0,none⟩)] W fun o w'=>o = .returned (.int .i64 (stZ C.te C.re))∧mc w0 M G C f1 f3 hs nm D w'∧Below W.heap.size W w'):=state_any h
 have HR:Hid (∀ X,mc w0 M G C f1 f3 hs nm D X→Calls Tryz.prog 21 #[.pointer (some ⟨M,0,none⟩)] X fun o w'=>o = .returned (.tuple #[])∧mc w0 M G (rstC C) f1 f3 hs nm D w'):=fun X hX=>restart_any hX
 have HS2:Hid (∀ X,mc w0 M G (rstC C) f1 f3 hs nm D X→Calls Tryz.prog 56 #[.pointer (some ⟨M,0,none⟩)] X fun o w'=>o = .returned (.int .i64 (stZ C.te C.re))∧mc w0 M G (rstC C) f1 f3 hs nm D w'):=fun X hX=>(state_any hX).mono (by rintro o w' ⟨rfl,h1,_⟩;exact⟨rfl,h1⟩)
 have HTL:Hid (∀ X,mc w0 M G (rstC C) f1 f3 hs nm D X→Calls Tryz.prog 57 #[.pointer (some ⟨M,0,none⟩),.int .i64 (stZ C.te C.re)] X fun o w'=>o = .returned (.tuple #[])∧mc w0 M G (rstC C) f1 f3 hs nm D w'):=fun X hX=>by
  have:=tell_any hX (stZ C.te C.re)
  have e:tellC (rstC C) (stZ C.te C.re)=rstC C:=if_pos rfl
  rw[e] at this
  exact this
 clear h
 by_cases e:C.te=256
 ·have ez:stZ C.te C.re=2:=by unfold stZ;rw[if_pos e]
  have ep:C.p=7:=hof.2 e
  have d1:(C.p == 7)=true:=by simpa using ep
  have d2:(C.p != 7)=false:=by simpa using ep
  rw[ez] at HS HS2 HTL
  clear hof e ez
  go_enter Tryz.func38,Tryz.ntmps38
  go_wp2_with fail
  refine HS.out.mono ?_
  rintro o w1 ⟨rfl,h1,_⟩
  have H1:Hid (mc w0 M G C f1 f3 hs nm D w1):=h1
  clear h1 HS
  go_wp2_with fail
  refine (HR.out _ H1.out).mono ?_
  rintro o w2 ⟨rfl,h2⟩
  have H2:Hid (mc w0 M G (rstC C) f1 f3 hs nm D w2):=h2
  clear h2 H1 HR
  go_wp2_with fail
  refine (HS2.out _ H2.out).mono ?_
  rintro o w3 ⟨rfl,h3⟩
  have H3:Hid (mc w0 M G (rstC C) f1 f3 hs nm D w3):=h3
  have y3:=h3.m.cell 3 (.int .i64 C.p) rfl
  clear h3 H2 HS2
  go_wp2_with fail
  refine (HTL.out _ H3.out).mono ?_
  rintro o w4 ⟨rfl,h4⟩
  have H4:Hid (mc w0 M G (rstC C) f1 f3 hs nm D w4):=h4
  clear h4 H3 HTL
  go_wp2_with fail
  first | go_end0 | (simp only[Exit.inBlock,Exit.then];refine bodyPost_ret (results_none rfl _ _ _) rfl ?_) | refine bodyPost_ret (results_none rfl _ _ _) rfl ?_
  exact⟨rfl,H4.out⟩
 ·have ez:¬ stZ C.te C.re=2:=by unfold stZ;rw[if_neg e];split <;> omega
  have d1:(stZ C.te C.re == 2)=false:=by simpa using ez
  clear hof e ez
  generalize stZ C.te C.re=z at *
  go_enter Tryz.func38,Tryz.ntmps38
  go_wp2_with fail
  refine HS.out.mono ?_
  rintro o w1 ⟨rfl,h1,_⟩
  have H1:Hid (mc w0 M G C f1 f3 hs nm D w1):=h1
  clear h1 HS
  go_wp2_with fail
  refine (HR.out _ H1.out).mono ?_
  rintro o w2 ⟨rfl,h2⟩
  have H2:Hid (mc w0 M G (rstC C) f1 f3 hs nm D w2):=h2
  clear h2 H1 HR
  go_wp2_with fail
  refine (HS2.out _ H2.out).mono ?_
  rintro o w3 ⟨rfl,h3⟩
  have H3:Hid (mc w0 M G (rstC C) f1 f3 hs nm D w3):=h3
  have y3:=h3.m.cell 3 (.int .i64 C.p) rfl
  clear h3 H2 HS2
  go_wp2_with fail
  refine (HTL.out _ H3.out).mono ?_
  rintro o w4 ⟨rfl,h4⟩
  have H4:Hid (mc w0 M G (rstC C) f1 f3 hs nm D w4):=h4
  clear h4 H3 HTL
  go_wp2_with fail
  first | go_end0 | (simp only[Exit.inBlock,Exit.then];refine bodyPost_ret (results_none rfl _ _ _) rfl ?_) | refine bodyPost_ret (results_none rfl _ _ _) rfl ?_
  exact⟨rfl,H4.out⟩
theorem open_rst (w:World) (C:Co) (s:Sl) (h:isHo w C.ho s) (hs:slSome s) (hok:okCo C) (hm:C.ho.le 1048576) :
  Calls Tryz.prog 37 #[.agg (coL C s).toArray] w fun o w'=>∃ P,o = .returned (.pointer (some ⟨P,0,none⟩))∧Below w.heap.size w w'∧Calls Tryz.prog 38 #[.pointer (some ⟨P,0,none⟩),.func (.func 21) #[] #[]] w' fun o w2=>o = .returned (.tuple #[])∧Below w.heap.size w w2∧Calls Tryz.prog 39 #[.pointer (some ⟨P,0,none⟩)] w2 (toldC w2 (rstC C)):=by
 refine (openCore_gen (R:=fun P w'=>∃ (X:World) (G:Lg) (hd:Nat→Hd),Below w.heap.size w X∧lh X G C.ho 0 0 hd G.n2 (tagsD Unit C.ho.bx G.n2) w'∧P=G.P) ?_ w C s ?_).mono ?_
 ·rintro P W W' ⟨X,G,hd,h1,h2,h3⟩ hb
  exact⟨X,G,hd,h1,h2.below hb,h3⟩
 ·intro W hW
  refine (open_lh W C.ho s (h.below hW) hs hok.h hm).mono ?_
  rintro o w' ⟨G,hd,rfl,h1,_⟩
  exact⟨G.P,rfl,⟨W,G,hd,hW,h1,rfl⟩,h1.b⟩
 rintro o w' ⟨P,w5,rfl,rfl,⟨X,G,hd,h1,h2,rfl⟩,h3⟩
 have hb5:Below w5.heap.size w5 (w5.alloc (.cells (mcL G.P C).toArray 106)):=(Below.refl _ _).alloc (Nat.le_refl _) _
 have hmc:mc X w5.heap.size G C 0 0 hd G.n2 (tagsD Unit C.ho.bx G.n2) (w5.alloc (.cells (mcL G.P C).toArray 106)):=by
  have a1:=h2.p.lt
  have a2:=h2.m.lt
  have a3:=h2.hi
  have a4:=h2.x.hi
  have a5:=h2.b.size
  exact⟨blk.new w5 _ 106,h2.below hb5,⟨by omega,by omega,by omega,by omega,by omega,by omega,by omega⟩⟩
 refine⟨w5.heap.size,rfl,h3.trans (hb5.mono h3.size),?_⟩
 refine (act_rst hmc hok.m.of).mono ?_
 rintro o w2 ⟨rfl,h4⟩
 refine⟨rfl,h1.trans (h4.h.b.mono h1.size),?_⟩
 exact mtold_any w2 w5.heap.size G.P (rstC C) h4.m (fun Y hY=>(h4.h.below hY).told)
structure dcS (w:World) (C:Co) (s:Sl) (W:World):Prop where
 p:blk W w.heap.size (coL C s) 39
 r:blk W (w.heap.size+1) Z21 39
 b:Below w.heap.size w W
theorem dcS.below {w:World} {C:Co} {s:Sl} {W W':World} (h:dcS w C s W) (hb:Below W.heap.size W W'):dcS w C s W':=⟨h.p.below hb,h.r.below hb,h.b.trans (hb.mono h.b.size)⟩
theorem dcS.new (w:World) (C:Co) (s:Sl):dcS w C s ((w.alloc (.cells (coL C s).toArray 39)).alloc (.cells Z21.toArray 39)):=by
 refine⟨(blk.new w _ 39).alloc _,?_,((Below.refl _ _).alloc (Nat.le_refl _) _).alloc (by simp) _⟩
 have:=blk.new (w.alloc (.cells (coL C s).toArray 39)) Z21 39
 simpa using this
set_option maxHeartbeats 8000000 in
set_option maxRecDepth 20000 in
theorem changedRst (w:World) (C:Co) (s:Sl) (h:isHo w C.ho s) (hs:slSome s) (hn:C.ho.le 1048576) :
  Calls Tryz.prog 18 #[.agg (coL C s).toArray,.bool true,.func (.func 21) #[] #[]] w fun o w'=>(okCo C∧toldC w (rstC C) o w')∨(¬ okCo C∧o = .returned (.agg [.int .i64 0,.int .i64 0,.int .i64 0,.bool false,.bool false,.bool false,.bool false,.bool false,.int .i64 0,.int .i64 0,.int .i64 0,.int .i64 0,.int .i64 0,.int .i64 0,.int .i64 0,.slice none 0 0,.slice none 0 0,.slice none 0 0,.slice none 0 0,.int .i64 0,.int .i64 0].toArray)∧Below w.heap.size w w'):=by
 have H0:Hid (dcS w C s ((w.alloc (.cells (coL C s).toArray 39)).alloc (.cells [.int .i64 0,.int .i64 0,.int .i64 0,.bool false,.bool false,.bool false,.bool false,.bool false,.int .i64 0,.int .i64 0,.int .i64 0,.int .i64 0,.int .i64 0,.int .i64 0,.int .i64 0,.slice none 0 0,.slice none 0 0,.slice none 0 0,.slice none 0 0,.int .i64 0,.int .i64 0].toArray 39))):=dcS.new w C s
 by_cases hok:okCo C
 ·have HV:Hid (∀ W,Below w.heap.size w W→Calls Tryz.prog 36 #[.agg (coL C s).toArray] W fun o w'=>o = .returned (.bool true)∧Below W.heap.size W w'):=fun W hW=>vOkC W C s (h.below hW) hn hok
  have HO:Hid (∀ W,Below w.heap.size w W→Calls Tryz.prog 37 #[.agg (coL C s).toArray] W fun o w'=>∃ P,o = .returned (.pointer (some ⟨P,0,none⟩))∧Below W.heap.size W w'∧Calls Tryz.prog 38 #[.pointer (some ⟨P,0,none⟩),.func (.func 21) #[] #[]] w' fun o w2=>o = .returned (.tuple #[])∧Below W.heap.size W w2∧Calls Tryz.prog 39 #[.pointer (some ⟨P,0,none⟩)] w2 (toldC w2 (rstC C))):=fun W hW=>open_rst W C s (h.below hW) hs hok hn
  have HOK:Hid (okCo C):=hok
  clear h hn hok hs
  go_enter Tryz.func18,Tryz.ntmps18
  go_wp2_with (first
   | (refine wpList_load_midG (by first | rfl | (simp[Region.wanted,yielded];done)) 39 _ rfl w.heap.size 0 rfl (coL C s) _ H0.out.p.load Tryz.underlying39 rfl (szC41L C s) ?_))
  refine (HV.out _ H0.out.b).mono ?_
  rintro o w1 ⟨rfl,hb1⟩
  have H1:Hid (dcS w C s w1):=H0.out.below hb1
  clear H0 hb1
  go_wp2_with (first
   | (refine wpList_load_mid (P:=Tryz.prog) rfl 39 _ rfl w.heap.size 0 rfl (coL C s) _ H1.out.p.load Tryz.underlying39 rfl (szC41L C s) ?_))
  refine (HO.out _ H1.out.b).mono ?_
  rintro o w2 ⟨P,rfl,hb2,hc2⟩
  have HC2:Hid (Calls Tryz.prog 38 #[.pointer (some ⟨P,0,none⟩),.func (.func 21) #[] #[]] w2 fun o w3=>o = .returned (.tuple #[])∧Below w1.heap.size w1 w3∧Calls Tryz.prog 39 #[.pointer (some ⟨P,0,none⟩)] w3 (toldC w3 (rstC C))):=hc2
  clear hc2 hb2
  go_wp2_with fail
  refine (Calls.mono HC2.out) ?_
  rintro o w3 ⟨rfl,hb3,hc3⟩
  have H3:Hid (dcS w C s w3):=H1.out.below hb3
  have HC3:Hid (Calls Tryz.prog 39 #[.pointer (some ⟨P,0,none⟩)] w3 (toldC w3 (rstC C))):=hc3
  clear hc3 hb3 HC2 H1
  go_wp2_with fail
  refine (Calls.mono HC3.out) ?_
  rintro o w4 ⟨s4,rfl,q1,q2,q3,q4,hb4⟩
  have H4:Hid (dcS w C s w4):=H3.out.below hb4
  have HQ:Hid (St w3.heap.size w4 (fun W=>isHo W (rstC C).ho s4.sl)∧whS w3.heap.size w4.heap.size w4 s4∧whD s4∧whE s4):=⟨q1,q2,q3,q4⟩
  clear q1 q2 q3 q4 hb4 HC3
  go_wp2_with (first
   | (refine wpList_store_mid (P:=Tryz.prog) rfl 39 _ _ rfl (w.heap.size+1) 0 (coL (rstC C) s4.sl).toArray rfl rfl (H4.out.r.there 0 _ (by rw[List.size_toArray,coL_len];decide)) (szC41A (rstC C) s4.sl) (coL_one (rstC C) s4.sl) ?_;generalize hW8:World.setCells _ (w.heap.size+1) 0 _=w8;have HW8:Hid (_=w8):=hW8;clear hW8))
  have e8:=HW8.out
  have hF:blk w8 (w.heap.size+1) (coL (rstC C) s4.sl) 39:=by
   rw[← e8]
   have:=blk.put [] Z21 [] (coL (rstC C) s4.sl) (w:=w4) (b:=w.heap.size+1) (T:=39) (by simpa using H4.out.r) (by rw[coL_len];rfl)
   simpa using this
  have hL:=run_loadVar_mid (P:=Tryz.prog) w8 (w.heap.size+1) 0 39 _ _ hF.load Tryz.underlying39 rfl (szC41L (rstC C) s4.sl)
  refine bodyPost_ret (v:=.agg (coL (rstC C) s4.sl).toArray) (results_cell Tryz.results18 _ w8 (w.heap.size+1) _ rfl hL) rfl ?_
  have oth:∀ x,x≠w.heap.size+1→w8.heap[x]?=w4.heap[x]?:=fun x hx=>by rw[← e8];exact setCells_other _ x hx _ _ _
  have hsz:w8.heap.size=w4.heap.size:=by rw[← e8];exact setCells_size ..
  have hp:=toldQ.put (w:=w) H3.out.b.size H3.out.r.lt HQ.out.1 HQ.out.2.1 oth hsz
  exact Or.inl ⟨HOK.out,s4,rfl,hp.1,hp.2,HQ.out.2.2.1,HQ.out.2.2.2,by rw[← e8];exact setCells_below (by omega) 0 _ H4.out.b⟩
 ·have HV:Hid (∀ W,Below w.heap.size w W→Calls Tryz.prog 36 #[.agg (coL C s).toArray] W fun o w'=>o = .returned (.bool false)∧Below W.heap.size W w'):=fun W hW=>vBadC W C s (h.below hW) hn hok
  have HOK:Hid (¬ okCo C):=hok
  clear h hn hok hs
  go_enter Tryz.func18,Tryz.ntmps18
  go_wp2_with (first
   | (refine wpList_load_midG (by first | rfl | (simp[Region.wanted,yielded];done)) 39 _ rfl w.heap.size 0 rfl (coL C s) _ H0.out.p.load Tryz.underlying39 rfl (szC41L C s) ?_))
  refine (HV.out _ H0.out.b).mono ?_
  rintro o w1 ⟨rfl,hb1⟩
  have H1:Hid (dcS w C s w1):=H0.out.below hb1
  clear H0 hb1
  go_wp2_with (first
   | (refine wpList_store_mid (P:=Tryz.prog) rfl 39 _ _ rfl (w.heap.size+1) 0 [.int .i64 0,.int .i64 0,.int .i64 0,.bool false,.bool false,.bool false,.bool false,.bool false,.int .i64 0,.int .i64 0,.int .i64 0,.int .i64 0,.int .i64 0,.int .i64 0,.int .i64 0,.slice none 0 0,.slice none 0 0,.slice none 0 0,.slice none 0 0,.int .i64 0,.int .i64 0].toArray rfl rfl (H1.out.r.there 0 21 (by simp[Z21])) szC41 (all_oneCell_toArray (by simp[Value.oneCell'])) ?_;generalize hW8:World.setCells _ (w.heap.size+1) 0 _=w8;have HW8:Hid (_=w8):=hW8;clear hW8))
  have e8:=HW8.out
  have hF:blk w8 (w.heap.size+1) [.int .i64 0,.int .i64 0,.int .i64 0,.bool false,.bool false,.bool false,.bool false,.bool false,.int .i64 0,.int .i64 0,.int .i64 0,.int .i64 0,.int .i64 0,.int .i64 0,.int .i64 0,.slice none 0 0,.slice none 0 0,.slice none 0 0,.slice none 0 0,.int .i64 0,.int .i64 0] 39:=by
   rw[← e8]
   have:=blk.put [] Z21 [] [.int .i64 0,.int .i64 0,.int .i64 0,.bool false,.bool false,.bool false,.bool false,.bool false,.int .i64 0,.int .i64 0,.int .i64 0,.int .i64 0,.int .i64 0,.int .i64 0,.int .i64 0,.slice none 0 0,.slice none 0 0,.slice none 0 0,.slice none 0 0,.int .i64 0,.int .i64 0] (w:=w1) (b:=w.heap.size+1) (T:=39) (by simpa using H1.out.r) rfl
   simpa using this
  have hL:=run_loadVar_mid (P:=Tryz.prog) w8 (w.heap.size+1) 0 39 _ _ hF.load Tryz.underlying39 rfl szC41
  refine bodyPost_ret (v:=.agg [.int .i64 0,.int .i64 0,.int .i64 0,.bool false,.bool false,.bool false,.bool false,.bool false,.int .i64 0,.int .i64 0,.int .i64 0,.int .i64 0,.int .i64 0,.int .i64 0,.int .i64 0,.slice none 0 0,.slice none 0 0,.slice none 0 0,.slice none 0 0,.int .i64 0,.int .i64 0].toArray) (results_cell Tryz.results18 _ w8 (w.heap.size+1) _ rfl hL) rfl ?_
  exact Or.inr ⟨HOK.out,rfl,by rw[← e8];exact setCells_below (by omega) 0 _ H1.out.b⟩
set_option maxHeartbeats 8000000 in
set_option maxRecDepth 20000 in
theorem implRestart_any (w:World) (C:Co) (s:Sl) (h:isHo w C.ho s) (hs:slSome s) (hn:C.ho.le 1048576) :
  Calls Tryz.prog 8 #[.agg (coL C s).toArray] w fun o w'=>(okCo C∧toldC w (rstC C) o w')∨(¬ okCo C∧o = .returned (.agg [.int .i64 0,.int .i64 0,.int .i64 0,.bool false,.bool false,.bool false,.bool false,.bool false,.int .i64 0,.int .i64 0,.int .i64 0,.int .i64 0,.int .i64 0,.int .i64 0,.int .i64 0,.slice none 0 0,.slice none 0 0,.slice none 0 0,.slice none 0 0,.int .i64 0,.int .i64 0].toArray)∧Below w.heap.size w w'):=by
 have H0:Hid (dcS w C s (((w.alloc (.cells (coL C s).toArray 39))).alloc (.cells [.int .i64 0,.int .i64 0,.int .i64 0,.bool false,.bool false,.bool false,.bool false,.bool false,.int .i64 0,.int .i64 0,.int .i64 0,.int .i64 0,.int .i64 0,.int .i64 0,.int .i64 0,.slice none 0 0,.slice none 0 0,.slice none 0 0,.slice none 0 0,.int .i64 0,.int .i64 0].toArray 39))):=dcS.new w C s
 have HC:Hid (∀ W,dcS w C s W→Calls Tryz.prog 18 #[.agg (coL C s).toArray,.bool true,.func (.func 21) #[] #[]] W fun o w'=>(okCo C∧toldC W (rstC C) o w')∨(¬ okCo C∧o = .returned (.agg [.int .i64 0,.int .i64 0,.int .i64 0,.bool false,.bool false,.bool false,.bool false,.bool false,.int .i64 0,.int .i64 0,.int .i64 0,.int .i64 0,.int .i64 0,.int .i64 0,.int .i64 0,.slice none 0 0,.slice none 0 0,.slice none 0 0,.slice none 0 0,.int .i64 0,.int .i64 0].toArray)∧Below W.heap.size W w')):=fun W hW=>changedRst W C s (h.below hW.b) hs hn
 have hmf:∀ (fn:Fn) (first cap:Array Value) (w:World),(Instr.makeFunc fn first cap).run Tryz.prog w = .ok (.func fn first cap) w:=fun _ _ _ _=>rfl
 clear h hn hs
 go_enter Tryz.func8,Tryz.ntmps8
 go_wp2_with (first
  | (refine wpList_load_mid (P:=Tryz.prog) rfl 39 _ rfl w.heap.size 0 rfl (coL C s) _ H0.out.p.load Tryz.underlying39 rfl (szC41L C s) ?_))
 refine (HC.out _ H0.out).mono ?_
 rintro o w1 (⟨hok,s4,rfl,q1,q2,q3,q4,hb4⟩|⟨hok,rfl,hb4⟩)
 ·have H4:Hid (dcS w C s w1):=H0.out.below hb4
  have HQ:Hid (St (((w.alloc (.cells (coL C s).toArray 39))).alloc (.cells [.int .i64 0,.int .i64 0,.int .i64 0,.bool false,.bool false,.bool false,.bool false,.bool false,.int .i64 0,.int .i64 0,.int .i64 0,.int .i64 0,.int .i64 0,.int .i64 0,.int .i64 0,.slice none 0 0,.slice none 0 0,.slice none 0 0,.slice none 0 0,.int .i64 0,.int .i64 0].toArray 39)).heap.size w1 (fun W=>isHo W (rstC C).ho s4.sl)∧whS (((w.alloc (.cells (coL C s).toArray 39))).alloc (.cells [.int .i64 0,.int .i64 0,.int .i64 0,.bool false,.bool false,.bool false,.bool false,.bool false,.int .i64 0,.int .i64 0,.int .i64 0,.int .i64 0,.int .i64 0,.int .i64 0,.int .i64 0,.slice none 0 0,.slice none 0 0,.slice none 0 0,.slice none 0 0,.int .i64 0,.int .i64 0].toArray 39)).heap.size w1.heap.size w1 s4∧whD s4∧whE s4):=⟨q1,q2,q3,q4⟩
  have HOK:Hid (okCo C):=hok
  have HZ:Hid (w.heap.size≤(((w.alloc (.cells (coL C s).toArray 39))).alloc (.cells [.int .i64 0,.int .i64 0,.int .i64 0,.bool false,.bool false,.bool false,.bool false,.bool false,.int .i64 0,.int .i64 0,.int .i64 0,.int .i64 0,.int .i64 0,.int .i64 0,.int .i64 0,.slice none 0 0,.slice none 0 0,.slice none 0 0,.slice none 0 0,.int .i64 0,.int .i64 0].toArray 39)).heap.size∧w.heap.size+1<(((w.alloc (.cells (coL C s).toArray 39))).alloc (.cells [.int .i64 0,.int .i64 0,.int .i64 0,.bool false,.bool false,.bool false,.bool false,.bool false,.int .i64 0,.int .i64 0,.int .i64 0,.int .i64 0,.int .i64 0,.int .i64 0,.int .i64 0,.slice none 0 0,.slice none 0 0,.slice none 0 0,.slice none 0 0,.int .i64 0,.int .i64 0].toArray 39)).heap.size):=⟨H0.out.b.size,H0.out.r.lt⟩
  clear q1 q2 q3 q4 hb4 hok HC H0
  go_wp2_with (first
   | (refine wpList_store_mid (P:=Tryz.prog) rfl 39 _ _ rfl (w.heap.size+1) 0 (coL (rstC C) s4.sl).toArray rfl rfl (H4.out.r.there 0 _ (by rw[List.size_toArray,coL_len];decide)) (szC41A (rstC C) s4.sl) (coL_one (rstC C) s4.sl) ?_;generalize hW8:World.setCells _ (w.heap.size+1) 0 _=w8;have HW8:Hid (_=w8):=hW8;clear hW8))
  have e8:=HW8.out
  have hF:blk w8 (w.heap.size+1) (coL (rstC C) s4.sl) 39:=by
   rw[← e8]
   have:=blk.put [] Z21 [] (coL (rstC C) s4.sl) (w:=w1) (b:=w.heap.size+1) (T:=39) (by simpa using H4.out.r) (by rw[coL_len];rfl)
   simpa using this
  have hL:=run_loadVar_mid (P:=Tryz.prog) w8 (w.heap.size+1) 0 39 _ _ hF.load Tryz.underlying39 rfl (szC41L (rstC C) s4.sl)
  refine bodyPost_ret (v:=.agg (coL (rstC C) s4.sl).toArray) (results_cell Tryz.results8 _ w8 (w.heap.size+1) _ rfl hL) rfl ?_
  have oth:∀ x,x≠w.heap.size+1→w8.heap[x]?=w1.heap[x]?:=fun x hx=>by rw[← e8];exact setCells_other _ x hx _ _ _
  have hsz:w8.heap.size=w1.heap.size:=by rw[← e8];exact setCells_size ..
  have hp:=toldQ.put (w:=w) HZ.out.1 HZ.out.2 HQ.out.1 HQ.out.2.1 oth hsz
  exact Or.inl ⟨HOK.out,s4,rfl,hp.1,hp.2,HQ.out.2.2.1,HQ.out.2.2.2,by rw[← e8];exact setCells_below (by omega) 0 _ H4.out.b⟩
 ·have H4:Hid (dcS w C s w1):=H0.out.below hb4
  have HOK:Hid (¬ okCo C):=hok
  clear hb4 hok HC H0
  go_wp2_with (first
   | (refine wpList_store_mid (P:=Tryz.prog) rfl 39 _ _ rfl (w.heap.size+1) 0 [.int .i64 0,.int .i64 0,.int .i64 0,.bool false,.bool false,.bool false,.bool false,.bool false,.int .i64 0,.int .i64 0,.int .i64 0,.int .i64 0,.int .i64 0,.int .i64 0,.int .i64 0,.slice none 0 0,.slice none 0 0,.slice none 0 0,.slice none 0 0,.int .i64 0,.int .i64 0].toArray rfl rfl (H4.out.r.there 0 21 (by simp[Z21])) szC41 (all_oneCell_toArray (by simp[Value.oneCell'])) ?_;generalize hW8:World.setCells _ (w.heap.size+1) 0 _=w8;have HW8:Hid (_=w8):=hW8;clear hW8))
  have e8:=HW8.out
  have hF:blk w8 (w.heap.size+1) [.int .i64 0,.int .i64 0,.int .i64 0,.bool false,.bool false,.bool false,.bool false,.bool false,.int .i64 0,.int .i64 0,.int .i64 0,.int .i64 0,.int .i64 0,.int .i64 0,.int .i64 0,.slice none 0 0,.slice none 0 0,.slice none 0 0,.slice none 0 0,.int .i64 0,.int .i64 0] 39:=by
   rw[← e8]
   have:=blk.put [] Z21 [] [.int .i64 0,.int .i64 0,.int .i64 0,.bool false,.bool false,.bool false,.bool false,.bool false,.int .i64 0,.int .i64 0,.int .i64 0,.int .i64 0,.int .i64 0,.int .i64 0,.int .i64 0,.slice none 0 0,.slice none 0 0,.slice none 0 0,.slice none 0 0,.int .i64 0,.int .i64 0] (w:=w1) (b:=w.heap.size+1) (T:=39) (by simpa using H4.out.r) rfl
   simpa using this
  have hL:=run_loadVar_mid (P:=Tryz.prog) w8 (w.heap.size+1) 0 39 _ _ hF.load Tryz.underlying39 rfl szC41
  refine bodyPost_ret (v:=.agg [.int .i64 0,.int .i64 0,.int .i64 0,.bool false,.bool false,.bool false,.bool false,.bool false,.int .i64 0,.int .i64 0,.int .i64 0,.int .i64 0,.int .i64 0,.int .i64 0,.int .i64 0,.slice none 0 0,.slice none 0 0,.slice none 0 0,.slice none 0 0,.int .i64 0,.int .i64 0].toArray) (results_cell Tryz.results8 _ w8 (w.heap.size+1) _ rfl hL) rfl ?_
  exact Or.inr ⟨HOK.out,rfl,by rw[← e8];exact setCells_below (by omega) 0 _ H4.out.b⟩
set_option maxHeartbeats 8000000 in
set_option maxRecDepth 20000 in
theorem changed_gen (w:World) (C R:Co) (s:Sl) (fv:Value) (h:isHo w C.ho s) (hn:C.ho.le 1048576) (ho:okCo C→∀ W,Below w.heap.size w W→Calls Tryz.prog 37 #[.agg (coL C s).toArray] W fun o w'=>∃ P,o = .returned (.pointer (some ⟨P,0,none⟩))∧Below W.heap.size W w'∧Calls Tryz.prog 38 #[.pointer (some ⟨P,0,none⟩),fv] w' fun o w2=>o = .returned (.tuple #[])∧Below W.heap.size W w2∧Calls Tryz.prog 39 #[.pointer (some ⟨P,0,none⟩)] w2 (toldC w2 R)) :
  Calls Tryz.prog 18 #[.agg (coL C s).toArray,.bool true,fv] w fun o w'=>(okCo C∧toldC w (R) o w')∨(¬ okCo C∧o = .returned (.agg [.int .i64 0,.int .i64 0,.int .i64 0,.bool false,.bool false,.bool false,.bool false,.bool false,.int .i64 0,.int .i64 0,.int .i64 0,.int .i64 0,.int .i64 0,.int .i64 0,.int .i64 0,.slice none 0 0,.slice none 0 0,.slice none 0 0,.slice none 0 0,.int .i64 0,.int .i64 0].toArray)∧Below w.heap.size w w'):=by
 have H0:Hid (dcS w C s ((w.alloc (.cells (coL C s).toArray 39)).alloc (.cells [.int .i64 0,.int .i64 0,.int .i64 0,.bool false,.bool false,.bool false,.bool false,.bool false,.int .i64 0,.int .i64 0,.int .i64 0,.int .i64 0,.int .i64 0,.int .i64 0,.int .i64 0,.slice none 0 0,.slice none 0 0,.slice none 0 0,.slice none 0 0,.int .i64 0,.int .i64 0].toArray 39))):=dcS.new w C s
 by_cases hok:okCo C
 ·have HV:Hid (∀ W,Below w.heap.size w W→Calls Tryz.prog 36 #[.agg (coL C s).toArray] W fun o w'=>o = .returned (.bool true)∧Below W.heap.size W w'):=fun W hW=>vOkC W C s (h.below hW) hn hok
  have HO:Hid (∀ W,Below w.heap.size w W→Calls Tryz.prog 37 #[.agg (coL C s).toArray] W fun o w'=>∃ P,o = .returned (.pointer (some ⟨P,0,none⟩))∧Below W.heap.size W w'∧Calls Tryz.prog 38 #[.pointer (some ⟨P,0,none⟩),fv] w' fun o w2=>o = .returned (.tuple #[])∧Below W.heap.size W w2∧Calls Tryz.prog 39 #[.pointer (some ⟨P,0,none⟩)] w2 (toldC w2 (R))):=ho hok
  have HOK:Hid (okCo C):=hok
  clear h hn hok ho
  go_enter Tryz.func18,Tryz.ntmps18
  go_wp2_with (first
   | (refine wpList_load_midG (by first | rfl | (simp[Region.wanted,yielded];done)) 39 _ rfl w.heap.size 0 rfl (coL C s) _ H0.out.p.load Tryz.underlying39 rfl (szC41L C s) ?_))
  refine (HV.out _ H0.out.b).mono ?_
  rintro o w1 ⟨rfl,hb1⟩
  have H1:Hid (dcS w C s w1):=H0.out.below hb1
  clear H0 hb1
  go_wp2_with (first
   | (refine wpList_load_mid (P:=Tryz.prog) rfl 39 _ rfl w.heap.size 0 rfl (coL C s) _ H1.out.p.load Tryz.underlying39 rfl (szC41L C s) ?_))
  refine (HO.out _ H1.out.b).mono ?_
  rintro o w2 ⟨P,rfl,hb2,hc2⟩
  have HC2:Hid (Calls Tryz.prog 38 #[.pointer (some ⟨P,0,none⟩),fv] w2 fun o w3=>o = .returned (.tuple #[])∧Below w1.heap.size w1 w3∧Calls Tryz.prog 39 #[.pointer (some ⟨P,0,none⟩)] w3 (toldC w3 (R))):=hc2
  clear hc2 hb2
  go_wp2_with fail
  refine (Calls.mono HC2.out) ?_
  rintro o w3 ⟨rfl,hb3,hc3⟩
  have H3:Hid (dcS w C s w3):=H1.out.below hb3
  have HC3:Hid (Calls Tryz.prog 39 #[.pointer (some ⟨P,0,none⟩)] w3 (toldC w3 (R))):=hc3
  clear hc3 hb3 HC2 H1
  go_wp2_with fail
  refine (Calls.mono HC3.out) ?_
  rintro o w4 ⟨s4,rfl,q1,q2,q3,q4,hb4⟩
  have H4:Hid (dcS w C s w4):=H3.out.below hb4
  have HQ:Hid (St w3.heap.size w4 (fun W=>isHo W (R).ho s4.sl)∧whS w3.heap.size w4.heap.size w4 s4∧whD s4∧whE s4):=⟨q1,q2,q3,q4⟩
  clear q1 q2 q3 q4 hb4 HC3
  go_wp2_with (first
   | (refine wpList_store_mid (P:=Tryz.prog) rfl 39 _ _ rfl (w.heap.size+1) 0 (coL (R) s4.sl).toArray rfl rfl (H4.out.r.there 0 _ (by rw[List.size_toArray,coL_len];decide)) (szC41A (R) s4.sl) (coL_one (R) s4.sl) ?_;generalize hW8:World.setCells _ (w.heap.size+1) 0 _=w8;have HW8:Hid (_=w8):=hW8;clear hW8))
  have e8:=HW8.out
  have hF:blk w8 (w.heap.size+1) (coL (R) s4.sl) 39:=by
   rw[← e8]
   have:=blk.put [] Z21 [] (coL (R) s4.sl) (w:=w4) (b:=w.heap.size+1) (T:=39) (by simpa using H4.out.r) (by rw[coL_len];rfl)
   simpa using this
  have hL:=run_loadVar_mid (P:=Tryz.prog) w8 (w.heap.size+1) 0 39 _ _ hF.load Tryz.underlying39 rfl (szC41L (R) s4.sl)
  refine bodyPost_ret (v:=.agg (coL (R) s4.sl).toArray) (results_cell Tryz.results18 _ w8 (w.heap.size+1) _ rfl hL) rfl ?_
  have oth:∀ x,x≠w.heap.size+1→w8.heap[x]?=w4.heap[x]?:=fun x hx=>by rw[← e8];exact setCells_other _ x hx _ _ _
  have hsz:w8.heap.size=w4.heap.size:=by rw[← e8];exact setCells_size ..
  have hp:=toldQ.put (w:=w) H3.out.b.size H3.out.r.lt HQ.out.1 HQ.out.2.1 oth hsz
  exact Or.inl ⟨HOK.out,s4,rfl,hp.1,hp.2,HQ.out.2.2.1,HQ.out.2.2.2,by rw[← e8];exact setCells_below (by omega) 0 _ H4.out.b⟩
 ·have HV:Hid (∀ W,Below w.heap.size w W→Calls Tryz.prog 36 #[.agg (coL C s).toArray] W fun o w'=>o = .returned (.bool false)∧Below W.heap.size W w'):=fun W hW=>vBadC W C s (h.below hW) hn hok
  have HOK:Hid (¬ okCo C):=hok
  clear h hn hok ho
  go_enter Tryz.func18,Tryz.ntmps18
  go_wp2_with (first
   | (refine wpList_load_midG (by first | rfl | (simp[Region.wanted,yielded];done)) 39 _ rfl w.heap.size 0 rfl (coL C s) _ H0.out.p.load Tryz.underlying39 rfl (szC41L C s) ?_))
  refine (HV.out _ H0.out.b).mono ?_
  rintro o w1 ⟨rfl,hb1⟩
  have H1:Hid (dcS w C s w1):=H0.out.below hb1
  clear H0 hb1
  go_wp2_with (first
   | (refine wpList_store_mid (P:=Tryz.prog) rfl 39 _ _ rfl (w.heap.size+1) 0 [.int .i64 0,.int .i64 0,.int .i64 0,.bool false,.bool false,.bool false,.bool false,.bool false,.int .i64 0,.int .i64 0,.int .i64 0,.int .i64 0,.int .i64 0,.int .i64 0,.int .i64 0,.slice none 0 0,.slice none 0 0,.slice none 0 0,.slice none 0 0,.int .i64 0,.int .i64 0].toArray rfl rfl (H1.out.r.there 0 21 (by simp[Z21])) szC41 (all_oneCell_toArray (by simp[Value.oneCell'])) ?_;generalize hW8:World.setCells _ (w.heap.size+1) 0 _=w8;have HW8:Hid (_=w8):=hW8;clear hW8))
  have e8:=HW8.out
  have hF:blk w8 (w.heap.size+1) [.int .i64 0,.int .i64 0,.int .i64 0,.bool false,.bool false,.bool false,.bool false,.bool false,.int .i64 0,.int .i64 0,.int .i64 0,.int .i64 0,.int .i64 0,.int .i64 0,.int .i64 0,.slice none 0 0,.slice none 0 0,.slice none 0 0,.slice none 0 0,.int .i64 0,.int .i64 0] 39:=by
   rw[← e8]
   have:=blk.put [] Z21 [] [.int .i64 0,.int .i64 0,.int .i64 0,.bool false,.bool false,.bool false,.bool false,.bool false,.int .i64 0,.int .i64 0,.int .i64 0,.int .i64 0,.int .i64 0,.int .i64 0,.int .i64 0,.slice none 0 0,.slice none 0 0,.slice none 0 0,.slice none 0 0,.int .i64 0,.int .i64 0] (w:=w1) (b:=w.heap.size+1) (T:=39) (by simpa using H1.out.r) rfl
   simpa using this
  have hL:=run_loadVar_mid (P:=Tryz.prog) w8 (w.heap.size+1) 0 39 _ _ hF.load Tryz.underlying39 rfl szC41
  refine bodyPost_ret (v:=.agg [.int .i64 0,.int .i64 0,.int .i64 0,.bool false,.bool false,.bool false,.bool false,.bool false,.int .i64 0,.int .i64 0,.int .i64 0,.int .i64 0,.int .i64 0,.int .i64 0,.int .i64 0,.slice none 0 0,.slice none 0 0,.slice none 0 0,.slice none 0 0,.int .i64 0,.int .i64 0].toArray) (results_cell Tryz.results18 _ w8 (w.heap.size+1) _ rfl hL) rfl ?_
  exact Or.inr ⟨HOK.out,rfl,by rw[← e8];exact setCells_below (by omega) 0 _ H1.out.b⟩
set_option maxHeartbeats 8000000 in
set_option maxRecDepth 20000 in
theorem changed_no (w:World) (C:Co) (s:Sl) (fv:Value):Calls Tryz.prog 18 #[.agg (coL C s).toArray,.bool false,fv] w fun o w'=>o = .returned (.agg [.int .i64 0,.int .i64 0,.int .i64 0,.bool false,.bool false,.bool false,.bool false,.bool false,.int .i64 0,.int .i64 0,.int .i64 0,.int .i64 0,.int .i64 0,.int .i64 0,.int .i64 0,.slice none 0 0,.slice none 0 0,.slice none 0 0,.slice none 0 0,.int .i64 0,.int .i64 0].toArray)∧Below w.heap.size w w':=by
 have H1:Hid (dcS w C s ((w.alloc (.cells (coL C s).toArray 39)).alloc (.cells [.int .i64 0,.int .i64 0,.int .i64 0,.bool false,.bool false,.bool false,.bool false,.bool false,.int .i64 0,.int .i64 0,.int .i64 0,.int .i64 0,.int .i64 0,.int .i64 0,.int .i64 0,.slice none 0 0,.slice none 0 0,.slice none 0 0,.slice none 0 0,.int .i64 0,.int .i64 0].toArray 39))):=dcS.new w C s
 go_enter Tryz.func18,Tryz.ntmps18
 go_wp2_with (first
  | (refine wpList_store_mid (P:=Tryz.prog) rfl 39 _ _ rfl (w.heap.size+1) 0 [.int .i64 0,.int .i64 0,.int .i64 0,.bool false,.bool false,.bool false,.bool false,.bool false,.int .i64 0,.int .i64 0,.int .i64 0,.int .i64 0,.int .i64 0,.int .i64 0,.int .i64 0,.slice none 0 0,.slice none 0 0,.slice none 0 0,.slice none 0 0,.int .i64 0,.int .i64 0].toArray rfl rfl (H1.out.r.there 0 21 (by simp[Z21])) szC41 (all_oneCell_toArray (by simp[Value.oneCell'])) ?_;generalize hW8:World.setCells _ (w.heap.size+1) 0 _=w8;have HW8:Hid (_=w8):=hW8;clear hW8))
 have e8:=HW8.out
 have hF:blk w8 (w.heap.size+1) [.int .i64 0,.int .i64 0,.int .i64 0,.bool false,.bool false,.bool false,.bool false,.bool false,.int .i64 0,.int .i64 0,.int .i64 0,.int .i64 0,.int .i64 0,.int .i64 0,.int .i64 0,.slice none 0 0,.slice none 0 0,.slice none 0 0,.slice none 0 0,.int .i64 0,.int .i64 0] 39:=by
  rw[← e8]
  have:=blk.put [] Z21 [] [.int .i64 0,.int .i64 0,.int .i64 0,.bool false,.bool false,.bool false,.bool false,.bool false,.int .i64 0,.int .i64 0,.int .i64 0,.int .i64 0,.int .i64 0,.int .i64 0,.int .i64 0,.slice none 0 0,.slice none 0 0,.slice none 0 0,.slice none 0 0,.int .i64 0,.int .i64 0] (w:=((w.alloc (.cells (coL C s).toArray 39)).alloc (.cells [.int .i64 0,.int .i64 0,.int .i64 0,.bool false,.bool false,.bool false,.bool false,.bool false,.int .i64 0,.int .i64 0,.int .i64 0,.int .i64 0,.int .i64 0,.int .i64 0,.int .i64 0,.slice none 0 0,.slice none 0 0,.slice none 0 0,.slice none 0 0,.int .i64 0,.int .i64 0].toArray 39))) (b:=w.heap.size+1) (T:=39) (by simpa using H1.out.r) rfl
  simpa using this
 have hL:=run_loadVar_mid (P:=Tryz.prog) w8 (w.heap.size+1) 0 39 _ _ hF.load Tryz.underlying39 rfl szC41
 refine bodyPost_ret (v:=.agg [.int .i64 0,.int .i64 0,.int .i64 0,.bool false,.bool false,.bool false,.bool false,.bool false,.int .i64 0,.int .i64 0,.int .i64 0,.int .i64 0,.int .i64 0,.int .i64 0,.int .i64 0,.slice none 0 0,.slice none 0 0,.slice none 0 0,.slice none 0 0,.int .i64 0,.int .i64 0].toArray) (results_cell Tryz.results18 _ w8 (w.heap.size+1) _ rfl hL) rfl ?_
 exact⟨rfl,by rw[← e8];exact setCells_below (by omega) 0 _ H1.out.b⟩
theorem blk.core {w:World} {b:Nat} {l:List Value} (h:blk w b l 39) (hl:l.length=21) (C:Co) (s:Sl):blk (w.setCells b 0 (coL C s)) b (coL C s) 39:=by
 have:=blk.put [] l [] (coL C s) (w:=w) (b:=b) (T:=39) (by simpa using h) (by rw[hl,coL_len])
 simpa using this
def zCo:Co:=⟨0,0,0,false,false,false,false,false,0,0,0,zHo⟩
structure itF (w:World) (C:Co) (s:Sl) (k:Int) (W:World):Prop where
 p:blk W w.heap.size (coL C s) 39
 x:blk W (w.heap.size+1) [.int .i64 k] 3
 r:blk W (w.heap.size+2) Z21 39
 b:Below w.heap.size w W
theorem itF.below {w:World} {C:Co} {s:Sl} {k:Int} {W W':World} (h:itF w C s k W) (hb:Below W.heap.size W W'):itF w C s k W':=⟨h.p.below hb,h.x.below hb,h.r.below hb,h.b.trans (hb.mono h.b.size)⟩
theorem itF.new (w:World) (C:Co) (s:Sl) (k:Int):itF w C s k (((w.alloc (.cells (coL C s).toArray 39)).alloc (.cells #[.int .i64 k] 3)).alloc (.cells #[.int .i64 0,.int .i64 0,.int .i64 0,.bool false,.bool false,.bool false,.bool false,.bool false,.int .i64 0,.int .i64 0,.int .i64 0,.int .i64 0,.int .i64 0,.int .i64 0,.int .i64 0,.slice none 0 0,.slice none 0 0,.slice none 0 0,.slice none 0 0,.int .i64 0,.int .i64 0] 39)):=by
 refine⟨((blk.new w _ 39).alloc _).alloc _,?_,?_,(((Below.refl _ _).alloc (Nat.le_refl _) _).alloc (by simp) _).alloc (by simp;omega) _⟩
 ·have:=(blk.new (w.alloc (.cells (coL C s).toArray 39)) [.int .i64 k] 3).alloc (.cells #[.int .i64 0,.int .i64 0,.int .i64 0,.bool false,.bool false,.bool false,.bool false,.bool false,.int .i64 0,.int .i64 0,.int .i64 0,.int .i64 0,.int .i64 0,.int .i64 0,.int .i64 0,.slice none 0 0,.slice none 0 0,.slice none 0 0,.slice none 0 0,.int .i64 0,.int .i64 0] 39)
  simpa using this
 ·have:=blk.new ((w.alloc (.cells (coL C s).toArray 39)).alloc (.cells #[.int .i64 k] 3)) Z21 39
  have t2:blk (((w.alloc (.cells (coL C s).toArray 39)).alloc (.cells #[.int .i64 k] 3)).alloc (.cells Z21.toArray 39)) (w.heap.size+2) Z21 39:=by simpa using this
  exact t2
def k41 (T:Nat) (w w':World):Prop:=∀ q L,T≤q→blk w q L 39→blk w' q L 39
theorem k41.trans {T:Nat} {w w' w'':World} (h:k41 T w w') (h':k41 T w' w''):k41 T w w'':=fun q L hq hb=>h' q L hq (h q L hq hb)
theorem k41.below {T:Nat} {w w':World} (h:Below w.heap.size w w'):k41 T w w':=fun q L _ hb=>hb.below h
theorem coL_nb (C:Co) (s:Sl) (j:Int):Value.int .u8 j ∉ coL C s:=by
 unfold coL
 simp
theorem rowQ8.neT {B T g n k:Nat} {bs:List R8} {W:World} (h:rowQ8 B T 50 g n k bs W) {x:Nat} {L:List Value} (hx:blk W x L 39):g≠x:=by
 obtain⟨rs,ho,_⟩:=h
 rcases ho.own.2 with⟨e,_⟩|⟨g1,cap,cur,hv',hb,hgg,_⟩
 ·cases e
 cases hv'
 rintro rfl
 unfold blk at hx
 rw[hgg] at hx
 injection hx with hx
 injection hx with _ hx _
 exact absurd hx (by decide)
theorem isBytes.farL {W V:World} {a:Option Addr} {n cap:Nat} {l:List Nat} (h:isBytes W a n cap l) {x:Nat} {L:List Value} {ty:TypeId} (hx:blk W x L ty) (hL:∀ j,Value.int .u8 j ∉ L) (hV:∀ q,q≠x→V.heap[q]?=W.heap[q]?):isBytes V a n cap l:=by
 refine⟨h.len,h.cap,h.small,fun hne=>?_⟩
 obtain⟨g,off,e,hc⟩:=h.cells hne
 refine⟨g,off,e,fun j hj=>?_⟩
 have hcj:=hc j hj
 have hg:g≠x:=by
  rintro rfl
  refine hL (l[j]:Int) ?_
  unfold blk at hx
  unfold World.cell? at hcj
  rw[hx] at hcj
  simp at hcj
  exact List.mem_of_getElem? hcj
 unfold World.cell? at hcj ⊢
 rw[hV g hg]
 exact hcj
theorem rowQ8.vars {B T g n k:Nat} {bs:List R8} {W V:World} (h:rowQ8 B T 50 g n k bs W) {x:Nat} {L:List Value} (hx:blk W x L 39) (hL:∀ j,Value.int .u8 j ∉ L) (hV:∀ q,q≠x→V.heap[q]?=W.heap[q]?) (hz:V.heap.size=W.heap.size):rowQ8 B T 50 g n k bs V:=by
 have hg:=h.neT hx
 obtain⟨rs,ho,hm,hn,hgT,hall⟩:=h
 refine⟨rs,⟨ownsRow_kept ho.own (hV g hg),fun p hp=>?_⟩,hm,hn,hgT,hall⟩
 obtain⟨d1,d2,d3,d4⟩:=ho.dat p hp
 exact⟨d1.farL hx hL hV,d2,d3,by omega⟩
theorem spS.vars {B T0 T1 T2:Nat} {H:Ho} {s:Sl} {W V:World} (h:spS B T0 T1 T2 H s W) {x:Nat} {L:List Value} (hx:blk W x L 39) (hT:T2≤x) (hL:∀ j,Value.int .u8 j ∉ L) (hV:∀ q,q≠x→V.heap[q]?=W.heap[q]?) (hz:V.heap.size=W.heap.size):spS B T0 T1 T2 H s V:=by
 obtain⟨o1,o2,o3,o4⟩:=h.o
 obtain⟨gf,e1,h1a,h1b,h1⟩:=h.f
 obtain⟨gb,hs,e2,h2⟩:=h.x
 obtain⟨gq,e3,h3⟩:=h.r
 obtain⟨g4,e4,h4⟩:=h.q
 refine⟨⟨gf,e1,h1a,h1b,h1.same (hV gf (by omega))⟩,⟨gb,hs,e2,h2.st fun q h1 h2=>hV q (by omega)⟩,⟨gq,e3,h3.keep fun q h1 h2=>hV q (by omega)⟩,⟨g4,e4,?_⟩,⟨o1,o2,o3,by omega⟩⟩
 rw[hz]
 exact h4.vars hx hL hV hz
theorem spS.n2 {B T0 T1 T2:Nat} {H:Ho} {s:Sl} {W:World} (h:spS B T0 T1 T2 H s W):s.n2=H.bx.length:=by
 obtain⟨gb,hs,_,h2⟩:=h.x
 exact h2.len
theorem spS.n4 {B T0 T1 T2:Nat} {H:Ho} {s:Sl} {W:World} (h:spS B T0 T1 T2 H s W):s.n4=H.qu.length:=by
 obtain⟨g4,_,h4⟩:=h.q
 exact h4.is.len
structure bdQ (n:Nat) (H:Ho):Prop where
 q:H.qu.length≤n
 lo:0≤H.lo∧H.lo≤100000
theorem bdQ.post {n:Nat} {H:Ho} (h:bdQ n H) (e:R8):bdQ (n+1) (postHo H e):=by
 refine⟨?_,?_⟩
 ·show (quP H.c3 H.qu e).length≤n+1
  have:=h.q
  unfold quP
  split
  ·rw[List.length_append,List.length_singleton];omega
  ·omega
 ·show 0≤loP H.c3 H.qu H.lo∧loP H.c3 H.qu H.lo≤100000
  have:=h.lo
  unfold loP
  split
  ·exact h.lo
  ·split
   ·omega
   ·exact h.lo
theorem bdQ.up {n:Nat} {H:Ho} (h:bdQ n H) {m:Nat} (hm:n≤m):bdQ m H:=⟨Nat.le_trans h.q hm,h.lo⟩
theorem bdQ.rel {n:Nat} {H:Ho} (h:bdQ n H) (sent:Bool):bdQ (n+1) (relHo H sent):=by
 have hf:∀ k,bdQ n (freeHo H k):=fun k=>⟨h.q,h.lo⟩
 unfold relHo
 split
 ·split
  ·exact (hf _).post _
  ·split
   ·exact (hf _).post _
   ·rw[stHo_yes (by assumption)]
    exact⟨Nat.le_succ_of_le h.q,h.lo⟩
 ·exact h.up (Nat.le_succ _)
theorem okHo.bd {H:Ho} (h:okHo H):bdQ 900 H:=by
 have h1:=of_decide_eq_true h.cf
 have h2:=h.nq
 exact⟨by omega,h.l0,h.l1⟩
structure vS (w:World) (B T0 T1 T2:Nat) (C:Co) (s0:Sl) (H:Ho) (s:Sl) (W:World):Prop where
 p:blk W w.heap.size (coL C s0) 39
 r:blk W (w.heap.size+1) Z21 39
 sp:spS B T0 T1 T2 H s W
 b:Below B w W
 k:k41 T2 w W
 o:T2≤w.heap.size∧B≤w.heap.size
theorem vS.new {w:World} {B T0 T1 T2:Nat} {C:Co} {s:Sl} (h:spS B T0 T1 T2 C.ho s w):vS w B T0 T1 T2 C s C.ho s ((w.alloc (.cells (coL C s).toArray 39)).alloc (.cells Z21.toArray 39)):=by
 have hd:=dcS.new w C s
 have ho:=h.o
 exact⟨hd.p,hd.r,h.below hd.b,hd.b.mono (by omega),k41.below hd.b,by omega,by omega⟩
theorem vS.call {w:World} {B T0 T1 T2:Nat} {C:Co} {s0:Sl} {H:Ho} {s:Sl} {W w':World} (h:vS w B T0 T1 T2 C s0 H s W) {H':Ho} {s':Sl} (hs:spS B T0 T1 T2 H' s' w') (hk:k41 T2 W w') (hb:Below B W w'):vS w B T0 T1 T2 C s0 H' s' w':=
 ⟨hk _ _ h.o.1 h.p,hk _ _ (by have:=h.o;omega) h.r,hs,h.b.trans hb,h.k.trans hk,h.o⟩
theorem vS.below {w:World} {B T0 T1 T2:Nat} {C:Co} {s0:Sl} {H:Ho} {s:Sl} {W w':World} (h:vS w B T0 T1 T2 C s0 H s W) (hb:Below W.heap.size W w'):vS w B T0 T1 T2 C s0 H s w':=
 h.call (h.sp.below hb) (k41.below hb) (hb.mono (by have:=h.b.size;have:=h.o;omega))
theorem vS.other {w:World} {B T0 T1 T2:Nat} {C:Co} {s0:Sl} {H:Ho} {s:Sl} {W V:World} (h:vS w B T0 T1 T2 C s0 H s W) {C':Co} {s1:Sl} (hp:blk V w.heap.size (coL C' s1) 39) (hV:∀ q,q≠w.heap.size→V.heap[q]?=W.heap[q]?) (hz:V.heap.size=W.heap.size) (hb:Below B w V):vS w B T0 T1 T2 C' s1 H s V:=
 ⟨hp,h.r.kept (hV _ (by omega)),h.sp.vars h.p h.o.1 (coL_nb C s0) hV hz,hb,fun q L hq hb=>(h.k q L hq hb).kept (hV q (by have:=hb.lt;omega)),h.o⟩
theorem vS.put {w:World} {B T0 T1 T2:Nat} {C:Co} {s0:Sl} {H:Ho} {s:Sl} {W:World} (h:vS w B T0 T1 T2 C s0 H s W) (C':Co) (s1:Sl):vS w B T0 T1 T2 C' s1 H s (W.setCells w.heap.size 0 (coL C' s1)):=
 h.other (h.p.core rfl C' s1) (fun q hq=>setCells_other _ q hq _ _ _) (setCells_size ..) (setCells_below h.o.2 0 _ h.b)
theorem vS.set {w:World} {B T0 T1 T2:Nat} {C:Co} {s0:Sl} {H:Ho} {s:Sl} {W:World} (h:vS w B T0 T1 T2 C s0 H s W) (i:Nat) (v:Value) (C':Co) (e:(coL C s0).set i v=coL C' s0):vS w B T0 T1 T2 C' s0 H s (W.setCell ⟨w.heap.size,i,none⟩ v):=
 h.other (by rw[← e];exact h.p.set i v) (fun q hq=>heap_setCell_other W ⟨w.heap.size,i,none⟩ q _ hq) (by simp) (h.b.setCell (by exact h.o.2) _)
theorem okCo.lo {C:Co} (h:okCo C):0≤C.ho.lo∧C.ho.lo≤100000:=⟨h.h.l0,h.h.l1⟩
theorem ltB (x y:Int):∃ b:Bool,decide (x<y)=b∧Hid (b=true↔x<y):=⟨_,rfl,by show _↔_;simp⟩
end Go.Proofs.YtgkkcpgocbcbaaaGreat
