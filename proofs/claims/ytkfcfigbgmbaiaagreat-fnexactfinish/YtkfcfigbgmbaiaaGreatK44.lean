import Derived.Test.YtkfcfigbgmbaiaaGreatK36
import Derived.Test.YtkfcfigbgmbaiaaGreatK43
import Derived.Test.YtkfcfigbgmbaiaaGreatK32
import Derived.Test.YtkfcfigbgmbaiaaGreatK27
import Derived.Test.YtkfcfigbgmbaiaaGreatK37
import Derived.Test.YtkfcfigbgmbaiaaGreatK31
import Derived.Deep.DeepCutAuto
namespace Go.Proofs.YtkfcfigbgmbaiaaGreat
open Go.RowKit
set_option linter.unusedVariables false
structure dcS (w:World) (C:Co) (s:Sl) (W:World):Prop where
 p:blk W w.heap.size (coL C s) 41
 r:blk W (w.heap.size+1) Z21 41
 b:Below w.heap.size w W
theorem dcS.below {w:World} {C:Co} {s:Sl} {W W':World} (h:dcS w C s W) (hb:Below W.heap.size W W'):dcS w C s W':=⟨h.p.below hb,h.r.below hb,h.b.trans (hb.mono h.b.size)⟩
theorem dcS.new (w:World) (C:Co) (s:Sl):dcS w C s ((w.alloc (.cells (coL C s).toArray 41)).alloc (.cells Z21.toArray 41)):=by
 refine⟨(blk.new w _ 41).alloc _,?_,((Below.refl _ _).alloc (Nat.le_refl _) _).alloc (by simp) _⟩
 have:=blk.new (w.alloc (.cells (coL C s).toArray 41)) Z21 41
 simpa using this
set_option maxHeartbeats 16000000
set_option maxRecDepth 20000 in
theorem changed_gen (w:World) (C R:Co) (s:Sl) (fv:Value) (h:isHo w C.ho s) (hn:C.ho.le 1048576) (ho:okCo C→∀ W,Below w.heap.size w W→Calls Tryz.prog 84 #[.agg (coL C s).toArray] W fun o w'=>∃ P,o = .returned (.pointer (some ⟨P,0,none⟩))∧Below W.heap.size W w'∧Calls Tryz.prog 85 #[.pointer (some ⟨P,0,none⟩),fv] w' fun o w2=>o = .returned (.tuple #[])∧Below W.heap.size W w2∧Calls Tryz.prog 86 #[.pointer (some ⟨P,0,none⟩)] w2 (toldC w2 R)) :
  Calls Tryz.prog 37 #[.agg (coL C s).toArray,.bool true,fv] w fun o w'=>(okCo C∧toldC w (R) o w')∨(¬ okCo C∧o = .returned (.agg [.int .i64 0,.int .i64 0,.int .i64 0,.bool false,.bool false,.bool false,.bool false,.bool false,.int .i64 0,.int .i64 0,.int .i64 0,.int .i64 0,.int .i64 0,.int .i64 0,.int .i64 0,.slice none 0 0,.slice none 0 0,.slice none 0 0,.slice none 0 0,.int .i64 0,.int .i64 0].toArray)∧Below w.heap.size w w'):=by
 have H0:Hid (dcS w C s ((w.alloc (.cells (coL C s).toArray 41)).alloc (.cells [.int .i64 0,.int .i64 0,.int .i64 0,.bool false,.bool false,.bool false,.bool false,.bool false,.int .i64 0,.int .i64 0,.int .i64 0,.int .i64 0,.int .i64 0,.int .i64 0,.int .i64 0,.slice none 0 0,.slice none 0 0,.slice none 0 0,.slice none 0 0,.int .i64 0,.int .i64 0].toArray 41))):=dcS.new w C s
 by_cases hok:okCo C
 ·have HV:Hid (∀ W,Below w.heap.size w W→Calls Tryz.prog 83 #[.agg (coL C s).toArray] W fun o w'=>o = .returned (.bool true)∧Below W.heap.size W w'):=fun W hW=>vOkC W C s (h.below hW) hn hok
  have HO:Hid (∀ W,Below w.heap.size w W→Calls Tryz.prog 84 #[.agg (coL C s).toArray] W fun o w'=>∃ P,o = .returned (.pointer (some ⟨P,0,none⟩))∧Below W.heap.size W w'∧Calls Tryz.prog 85 #[.pointer (some ⟨P,0,none⟩),fv] w' fun o w2=>o = .returned (.tuple #[])∧Below W.heap.size W w2∧Calls Tryz.prog 86 #[.pointer (some ⟨P,0,none⟩)] w2 (toldC w2 (R))):=ho hok
  have HOK:Hid (okCo C):=hok
  clear h hn hok ho;go_enter Tryz.func37,Tryz.ntmps37
  go_wp2_with (first
   | (refine wpList_load_midG (by first | rfl | (simp[Region.wanted,yielded];done)) 41 _ rfl w.heap.size 0 rfl (coL C s) _ H0.out.p.load Tryz.underlying41 rfl (szC41L C s) ?_))
  refine (HV.out _ H0.out.b).mono ?_
  rintro o w1 ⟨rfl,hb1⟩;have H1:Hid (dcS w C s w1):=H0.out.below hb1
  clear H0 hb1;go_wp2_with (first
   | (refine wpList_load_mid (P:=Tryz.prog) rfl 41 _ rfl w.heap.size 0 rfl (coL C s) _ H1.out.p.load Tryz.underlying41 rfl (szC41L C s) ?_))
  refine (HO.out _ H1.out.b).mono ?_
  rintro o w2 ⟨P,rfl,hb2,hc2⟩;have HC2:Hid (Calls Tryz.prog 85 #[.pointer (some ⟨P,0,none⟩),fv] w2 fun o w3=>o = .returned (.tuple #[])∧Below w1.heap.size w1 w3∧Calls Tryz.prog 86 #[.pointer (some ⟨P,0,none⟩)] w3 (toldC w3 (R))):=hc2
  clear hc2 hb2;go_wp2_with fail;refine (Calls.mono HC2.out) ?_
  rintro o w3 ⟨rfl,hb3,hc3⟩;have H3:Hid (dcS w C s w3):=H1.out.below hb3
  have HC3:Hid (Calls Tryz.prog 86 #[.pointer (some ⟨P,0,none⟩)] w3 (toldC w3 (R))):=hc3
  clear hc3 hb3 HC2 H1;go_wp2_with fail;refine (Calls.mono HC3.out) ?_
  rintro o w4 ⟨s4,rfl,q1,q2,q3,q4,hb4⟩;have H4:Hid (dcS w C s w4):=H3.out.below hb4
  have HQ:Hid (St w3.heap.size w4 (fun W=>isHo W (R).ho s4.sl)∧whS w3.heap.size w4.heap.size w4 s4∧whD s4∧whE s4):=⟨q1,q2,q3,q4⟩
  clear q1 q2 q3 q4 hb4 HC3;go_wp2_with (first
   | (refine wpList_store_mid (P:=Tryz.prog) rfl 41 _ _ rfl (w.heap.size+1) 0 (coL (R) s4.sl).toArray rfl rfl (H4.out.r.there 0 _ (by rw[List.size_toArray,coL_len];decide)) (szC41A (R) s4.sl) (coL_one (R) s4.sl) ?_;generalize hW8:World.setCells _ (w.heap.size+1) 0 _=w8;have HW8:Hid (_=w8):=hW8;clear hW8))
  have e8:=HW8.out
  have hF:blk w8 (w.heap.size+1) (coL (R) s4.sl) 41:=by
   rw[← e8]
   have:=blk.put [] Z21 [] (coL (R) s4.sl) (w:=w4) (b:=w.heap.size+1) (T:=41) (by simpa using H4.out.r) (by rw[coL_len];rfl)
   simpa using this
  have hL:=run_loadVar_mid (P:=Tryz.prog) w8 (w.heap.size+1) 0 41 _ _ hF.load Tryz.underlying41 rfl (szC41L (R) s4.sl)
  refine bodyPost_ret (v:=.agg (coL (R) s4.sl).toArray) (results_cell Tryz.results37 _ w8 (w.heap.size+1) _ rfl hL) rfl ?_
  have oth:∀ x,x≠w.heap.size+1→w8.heap[x]?=w4.heap[x]?:=fun x hx=>by rw[← e8];exact setCells_other _ x hx _ _ _
  have hsz:w8.heap.size=w4.heap.size:=by rw[← e8];exact setCells_size ..
  have hp:=toldQ.put (w:=w) H3.out.b.size H3.out.r.lt HQ.out.1 HQ.out.2.1 oth hsz
  exact Or.inl ⟨HOK.out,s4,rfl,hp.1,hp.2,HQ.out.2.2.1,HQ.out.2.2.2,by rw[← e8];exact setCells_below (by omega) 0 _ H4.out.b⟩
 ·have HV:Hid (∀ W,Below w.heap.size w W→Calls Tryz.prog 83 #[.agg (coL C s).toArray] W fun o w'=>o = .returned (.bool false)∧Below W.heap.size W w'):=fun W hW=>vBadC W C s (h.below hW) hn hok
  have HOK:Hid (¬ okCo C):=hok
  clear h hn hok ho;go_enter Tryz.func37,Tryz.ntmps37
  go_wp2_with (first
   | (refine wpList_load_midG (by first | rfl | (simp[Region.wanted,yielded];done)) 41 _ rfl w.heap.size 0 rfl (coL C s) _ H0.out.p.load Tryz.underlying41 rfl (szC41L C s) ?_))
  refine (HV.out _ H0.out.b).mono ?_
  rintro o w1 ⟨rfl,hb1⟩;have H1:Hid (dcS w C s w1):=H0.out.below hb1
  clear H0 hb1;go_wp2_with (first
   | (refine wpList_store_mid (P:=Tryz.prog) rfl 41 _ _ rfl (w.heap.size+1) 0 [.int .i64 0,.int .i64 0,.int .i64 0,.bool false,.bool false,.bool false,.bool false,.bool false,.int .i64 0,.int .i64 0,.int .i64 0,.int .i64 0,.int .i64 0,.int .i64 0,.int .i64 0,.slice none 0 0,.slice none 0 0,.slice none 0 0,.slice none 0 0,.int .i64 0,.int .i64 0].toArray rfl rfl (H1.out.r.there 0 21 (by simp[Z21])) szC41 (all_oneCell_toArray (by simp[Value.oneCell'])) ?_;generalize hW8:World.setCells _ (w.heap.size+1) 0 _=w8;have HW8:Hid (_=w8):=hW8;clear hW8))
  have e8:=HW8.out
  have hF:blk w8 (w.heap.size+1) [.int .i64 0,.int .i64 0,.int .i64 0,.bool false,.bool false,.bool false,.bool false,.bool false,.int .i64 0,.int .i64 0,.int .i64 0,.int .i64 0,.int .i64 0,.int .i64 0,.int .i64 0,.slice none 0 0,.slice none 0 0,.slice none 0 0,.slice none 0 0,.int .i64 0,.int .i64 0] 41:=by
   rw[← e8]
   have:=blk.put [] Z21 [] [.int .i64 0,.int .i64 0,.int .i64 0,.bool false,.bool false,.bool false,.bool false,.bool false,.int .i64 0,.int .i64 0,.int .i64 0,.int .i64 0,.int .i64 0,.int .i64 0,.int .i64 0,.slice none 0 0,.slice none 0 0,.slice none 0 0,.slice none 0 0,.int .i64 0,.int .i64 0] (w:=w1) (b:=w.heap.size+1) (T:=41) (by simpa using H1.out.r) rfl
   simpa using this
  have hL:=run_loadVar_mid (P:=Tryz.prog) w8 (w.heap.size+1) 0 41 _ _ hF.load Tryz.underlying41 rfl szC41
  refine bodyPost_ret (v:=.agg [.int .i64 0,.int .i64 0,.int .i64 0,.bool false,.bool false,.bool false,.bool false,.bool false,.int .i64 0,.int .i64 0,.int .i64 0,.int .i64 0,.int .i64 0,.int .i64 0,.int .i64 0,.slice none 0 0,.slice none 0 0,.slice none 0 0,.slice none 0 0,.int .i64 0,.int .i64 0].toArray) (results_cell Tryz.results37 _ w8 (w.heap.size+1) _ rfl hL) rfl ?_
  exact Or.inr ⟨HOK.out,rfl,by rw[← e8];exact setCells_below (by omega) 0 _ H1.out.b⟩
set_option maxRecDepth 20000 in
theorem changed_no (w:World) (C:Co) (s:Sl) (fv:Value):Calls Tryz.prog 37 #[.agg (coL C s).toArray,.bool false,fv] w fun o w'=>o = .returned (.agg [.int .i64 0,.int .i64 0,.int .i64 0,.bool false,.bool false,.bool false,.bool false,.bool false,.int .i64 0,.int .i64 0,.int .i64 0,.int .i64 0,.int .i64 0,.int .i64 0,.int .i64 0,.slice none 0 0,.slice none 0 0,.slice none 0 0,.slice none 0 0,.int .i64 0,.int .i64 0].toArray)∧Below w.heap.size w w':=by
 have H1:Hid (dcS w C s ((w.alloc (.cells (coL C s).toArray 41)).alloc (.cells [.int .i64 0,.int .i64 0,.int .i64 0,.bool false,.bool false,.bool false,.bool false,.bool false,.int .i64 0,.int .i64 0,.int .i64 0,.int .i64 0,.int .i64 0,.int .i64 0,.int .i64 0,.slice none 0 0,.slice none 0 0,.slice none 0 0,.slice none 0 0,.int .i64 0,.int .i64 0].toArray 41))):=dcS.new w C s
 go_enter Tryz.func37,Tryz.ntmps37
 go_wp2_with (first
  | (refine wpList_store_mid (P:=Tryz.prog) rfl 41 _ _ rfl (w.heap.size+1) 0 [.int .i64 0,.int .i64 0,.int .i64 0,.bool false,.bool false,.bool false,.bool false,.bool false,.int .i64 0,.int .i64 0,.int .i64 0,.int .i64 0,.int .i64 0,.int .i64 0,.int .i64 0,.slice none 0 0,.slice none 0 0,.slice none 0 0,.slice none 0 0,.int .i64 0,.int .i64 0].toArray rfl rfl (H1.out.r.there 0 21 (by simp[Z21])) szC41 (all_oneCell_toArray (by simp[Value.oneCell'])) ?_;generalize hW8:World.setCells _ (w.heap.size+1) 0 _=w8;have HW8:Hid (_=w8):=hW8;clear hW8))
 have e8:=HW8.out
 have hF:blk w8 (w.heap.size+1) [.int .i64 0,.int .i64 0,.int .i64 0,.bool false,.bool false,.bool false,.bool false,.bool false,.int .i64 0,.int .i64 0,.int .i64 0,.int .i64 0,.int .i64 0,.int .i64 0,.int .i64 0,.slice none 0 0,.slice none 0 0,.slice none 0 0,.slice none 0 0,.int .i64 0,.int .i64 0] 41:=by
  rw[← e8]
  have:=blk.put [] Z21 [] [.int .i64 0,.int .i64 0,.int .i64 0,.bool false,.bool false,.bool false,.bool false,.bool false,.int .i64 0,.int .i64 0,.int .i64 0,.int .i64 0,.int .i64 0,.int .i64 0,.int .i64 0,.slice none 0 0,.slice none 0 0,.slice none 0 0,.slice none 0 0,.int .i64 0,.int .i64 0] (w:=((w.alloc (.cells (coL C s).toArray 41)).alloc (.cells [.int .i64 0,.int .i64 0,.int .i64 0,.bool false,.bool false,.bool false,.bool false,.bool false,.int .i64 0,.int .i64 0,.int .i64 0,.int .i64 0,.int .i64 0,.int .i64 0,.int .i64 0,.slice none 0 0,.slice none 0 0,.slice none 0 0,.slice none 0 0,.int .i64 0,.int .i64 0].toArray 41))) (b:=w.heap.size+1) (T:=41) (by simpa using H1.out.r) rfl
  simpa using this
 have hL:=run_loadVar_mid (P:=Tryz.prog) w8 (w.heap.size+1) 0 41 _ _ hF.load Tryz.underlying41 rfl szC41
 refine bodyPost_ret (v:=.agg [.int .i64 0,.int .i64 0,.int .i64 0,.bool false,.bool false,.bool false,.bool false,.bool false,.int .i64 0,.int .i64 0,.int .i64 0,.int .i64 0,.int .i64 0,.int .i64 0,.int .i64 0,.slice none 0 0,.slice none 0 0,.slice none 0 0,.slice none 0 0,.int .i64 0,.int .i64 0].toArray) (results_cell Tryz.results37 _ w8 (w.heap.size+1) _ rfl hL) rfl ?_
 exact⟨rfl,by rw[← e8];exact setCells_below (by omega) 0 _ H1.out.b⟩
theorem blk.host {w:World} {b:Nat} {C:Co} {s:Sl} (h:blk w b (coL C s) 41) (H:Ho) (s':Sl):blk (w.setCells b 11 (hoL H s')) b (coL { C with ho:=H } s') 41:=by
 have h':blk w b (coM C++hoL C.ho s++[]) 41:=by rw[List.append_nil,← coL_M];exact h
 have:=blk.put (coM C) (hoL C.ho s) [] (hoL H s') h' rfl
 rw[List.append_nil] at this
 exact this
theorem sz39A (H:Ho) (s:Sl):(Tryz.prog.info? 39).map (·.size)=some (hoL H s).toArray.size:=sz39h H s
theorem blk.core {w:World} {b:Nat} {l:List Value} (h:blk w b l 41) (hl:l.length=21) (C:Co) (s:Sl):blk (w.setCells b 0 (coL C s)) b (coL C s) 41:=by
 have:=blk.put [] l [] (coL C s) (w:=w) (b:=b) (T:=41) (by simpa using h) (by rw[hl,coL_len])
 simpa using this
set_option maxRecDepth 20000 in
theorem l4say_q (w:World) (C:Co) (s:Sl) (B T g4:Nat) (x y z:Int) (ha:s.a4=some ⟨g4,0,none⟩) (hQ:rowQ8 B T 67 g4 s.n4 s.k4 C.ho.qu w) (hB:B≤T) (hT:T≤w.heap.size) (hn:s.n4≤1000) (hlo:0≤C.ho.lo∧C.ho.lo≤100000) :
  Calls Tryz.prog 77 #[.agg (coL C s).toArray,.int .i64 x,.int .i64 y,.int .i64 z] w fun o w'=>∃ g' n' k',o = .returned (.agg (coL { C with ho:=postHo C.ho (ev3 x y z) } (qSl s g' n' k')).toArray)∧(∀ V:World,(∀ x,B≤x→x<T∨w.heap.size≤x→x<w'.heap.size→V.heap[x]?=w'.heap[x]?)→w'.heap.size≤V.heap.size→rowQ8 B V.heap.size 67 g' n' k' (quP C.ho.c3 C.ho.qu (ev3 x y z)) V)∧(∀ q,q≠g4→q<w.heap.size→w'.heap[q]?=w.heap[q]?)∧Below B w w':=by
 have H0:Hid (dcS w C s ((w.alloc (.cells (coL C s).toArray 41)).alloc (.cells Z21.toArray 41))):=dcS.new w C s
 have HG4:Hid (g4<T):=by obtain⟨rs,_,_,_,h4,_⟩:=hQ;exact h4
 have HSY:Hid (∀ W,Below w.heap.size w W→Calls Tryz.prog 137 #[.agg (hoL C.ho s).toArray,.int .i64 x,.int .i64 y,.int .i64 z] W fun o w'=>∃ g' n' k',o = .returned (.agg (hoL (postHo C.ho (ev3 x y z)) (qSl s g' n' k')).toArray)∧(∀ V:World,(∀ x,B≤x→x<T∨W.heap.size≤x→x<w'.heap.size→V.heap[x]?=w'.heap[x]?)→w'.heap.size≤V.heap.size→rowQ8 B V.heap.size 67 g' n' k' (quP C.ho.c3 C.ho.qu (ev3 x y z)) V)∧(∀ q,q≠g4→q<W.heap.size→w'.heap[q]?=W.heap[q]?)∧Below B W w'):=fun W hW=>l3say_q W C.ho s B T g4 x y z ha (hQ.keep fun q h1 h2=>hW.block q (by omega)) (by have:=hW.size;omega) hn hlo
 have HBT:Hid (B≤T∧T≤w.heap.size):=⟨hB,hT⟩
 clear ha hQ hB hT hn hlo;go_enter Tryz.func77,Tryz.ntmps77
 go_wp2_with (first
  | (refine wpList_load_mid (P:=Tryz.prog) rfl 39 (.tmp 9) rfl w.heap.size 11 rfl (hoL C.ho s) _ H0.out.p.hostAt Tryz.underlying39 rfl (sz39h C.ho s) ?_))
 refine (HSY.out _ H0.out.b).mono ?_
 rintro o w2 ⟨g',n',k',rfl,q1,q2,q3⟩;have HQ1:Hid (∀ V:World,(∀ x,B≤x→x<T∨w.heap.size+2≤x→x<w2.heap.size→V.heap[x]?=w2.heap[x]?)→w2.heap.size≤V.heap.size→rowQ8 B V.heap.size 67 g' n' k' (quP C.ho.c3 C.ho.qu (ev3 x y z)) V):=by
  intro V h1 h2;refine q1 V (fun q h3 h4 h5=>h1 q h3 ?_ h5) h2
  simpa using h4
 have H2:Hid (blk w2 w.heap.size (coL C s) 41∧blk w2 (w.heap.size+1) Z21 41):=⟨H0.out.p.kept (q2 _ (by have:=HG4.out;have:=HBT.out;omega) H0.out.p.lt),H0.out.r.kept (q2 _ (by have:=HG4.out;have:=HBT.out;omega) H0.out.r.lt)⟩
 have HK2:Hid (∀ q,q≠g4→q<w.heap.size→w2.heap[q]?=w.heap[q]?):=fun q h1 h2=>(q2 q h1 (Nat.lt_of_lt_of_le h2 H0.out.b.size)).trans (H0.out.b.block q h2)
 have HB2:Hid (Below B w w2∧w.heap.size+2≤w2.heap.size):=⟨(H0.out.b.mono (by have:=HBT.out;omega)).trans q3,by have:=H0.out.r.lt;have:=q3.size;omega⟩
 clear q1 q2 q3 H0 HSY;go_wp2_with (first
  | (refine wpList_store_mid (P:=Tryz.prog) rfl 39 (.tmp 15) (.tmp 14) rfl w.heap.size 11 (hoL (postHo C.ho (ev3 x y z)) (qSl s g' n' k')).toArray rfl rfl (H2.out.1.there 11 _ (by rw[List.size_toArray,hoL_len,coL_len];decide)) (sz39A _ _) (hoL_one _ _) ?_;generalize hW3:World.setCells w2 w.heap.size 11 _=w3;have H3:Hid (blk w3 w.heap.size (coL { C with ho:=postHo C.ho (ev3 x y z) } (qSl s g' n' k')) 41∧blk w3 (w.heap.size+1) Z21 41∧(∀ q,q≠w.heap.size→w3.heap[q]?=w2.heap[q]?)∧w3.heap.size=w2.heap.size∧Below B w w3):=(by rw[← hW3];exact⟨H2.out.1.host _ _,H2.out.2.kept (setCells_other _ _ (by omega) _ _ _),fun q hq=>setCells_other _ q hq _ _ _,setCells_size ..,setCells_below (by have:=HBT.out;omega) 11 _ HB2.out.1⟩);clear hW3)
  | (refine wpList_load_mid (P:=Tryz.prog) rfl 41 (.tmp 4) rfl w.heap.size 0 rfl (coL { C with ho:=postHo C.ho (ev3 x y z) } (qSl s g' n' k')) _ H3.out.1.load Tryz.underlying41 rfl (szC41L _ _) ?_)
  | (refine wpList_store_mid (P:=Tryz.prog) rfl 41 (.tmp 8) (.tmp 16) rfl (w.heap.size+1) 0 (coL { C with ho:=postHo C.ho (ev3 x y z) } (qSl s g' n' k')).toArray rfl rfl (H3.out.2.1.there 0 _ (by rw[List.size_toArray,coL_len];decide)) (szC41A _ _) (coL_one _ _) ?_;generalize hW4:World.setCells w3 (w.heap.size+1) 0 _=w4;have H4:Hid (blk w4 (w.heap.size+1) (coL { C with ho:=postHo C.ho (ev3 x y z) } (qSl s g' n' k')) 41∧(∀ q,q≠w.heap.size→q≠w.heap.size+1→w4.heap[q]?=w2.heap[q]?)∧w4.heap.size=w2.heap.size∧Below B w w4):=(by rw[← hW4];exact⟨H3.out.2.1.core rfl _ _,fun q h1 h2=>(setCells_other _ q h2 _ _ _).trans (H3.out.2.2.1 q h1),(setCells_size ..).trans H3.out.2.2.2.1,setCells_below (by have:=HBT.out;omega) 0 _ H3.out.2.2.2.2⟩);clear hW4))
 have hL:=run_loadVar_mid (P:=Tryz.prog) w4 (w.heap.size+1) 0 41 _ _ H4.out.1.load Tryz.underlying41 rfl (szC41L _ _)
 refine bodyPost_ret (v:=.agg (coL { C with ho:=postHo C.ho (ev3 x y z) } (qSl s g' n' k')).toArray) (results_cell Tryz.results77 _ w4 (w.heap.size+1) _ rfl hL) rfl ?_
 have hz:=H4.out.2.2.1
 have hz2:=HB2.out.2
 have hbt:=HBT.out
 refine⟨g',n',k',rfl,fun V h1 h2=>HQ1.out V (fun q h3 h4 h5=>(h1 q h3 (by omega) (by omega)).trans (H4.out.2.1 q (by omega) (by omega))) (by omega),fun q h1 h2=>(H4.out.2.1 q (by omega) (by omega)).trans (HK2.out q h1 h2),H4.out.2.2.2⟩
theorem spS.lower {B B' T0 T1 T2:Nat} {H:Ho} {s:Sl} {W:World} (h:spS B T0 T1 T2 H s W) (hb:B'≤B):spS B' T0 T1 T2 H s W:=by
 obtain⟨⟨gf,e1,h1a,h1b,h1⟩,hx,hr,hq,o1,o2,o3,o4⟩:=h
 exact⟨⟨gf,e1,by omega,h1b,h1⟩,hx,hr,hq,by omega,o2,o3,o4⟩
set_option maxRecDepth 20000 in
theorem l4copy_any (w:World) (C:Co) (s:Sl) (h:isHo w C.ho s) (hn:C.ho.le 1048576):Calls Tryz.prog 35 #[.agg (coL C s).toArray] w fun o w'=>∃ s' T0 T1 T2,o = .returned (.agg (coL C s').toArray)∧spS (w.heap.size+2) T0 T1 T2 C.ho s' w'∧s'.n2=C.ho.bx.length∧s'.n4=C.ho.qu.length∧Below w.heap.size w w':=by
 have H0:Hid (dcS w C s ((w.alloc (.cells (coL C s).toArray 41)).alloc (.cells Z21.toArray 41))):=dcS.new w C s
 have HCP:Hid (∀ W,Below w.heap.size w W→Calls Tryz.prog 67 #[.agg (hoL C.ho s).toArray] W fun o w'=>∃ s' T0 T1 T2,o = .returned (.agg (hoL C.ho s').toArray)∧spS (W.heap.size+3) T0 T1 T2 C.ho s' w'∧s'.n2=C.ho.bx.length∧s'.n4=C.ho.qu.length∧Below W.heap.size W w'):=fun W hW=>copyS W C.ho s (h.below hW) hn
 have HEC:Hid ({ C with ho:=C.ho }=C):=rfl
 clear h hn;go_enter Tryz.func35,Tryz.ntmps35
 go_wp2_with (first
  | (refine wpList_load_mid (P:=Tryz.prog) rfl 39 (.tmp 3) rfl w.heap.size 11 rfl (hoL C.ho s) _ H0.out.p.hostAt Tryz.underlying39 rfl (sz39h C.ho s) ?_))
 refine (HCP.out _ H0.out.b).mono ?_
 rintro o w2 ⟨s',T0,T1,T2,rfl,q1,q2,q3,q4⟩;have H2:Hid (blk w2 w.heap.size (coL C s) 41∧blk w2 (w.heap.size+1) Z21 41∧Below w.heap.size w w2):=⟨(H0.out.below q4).p,(H0.out.below q4).r,(H0.out.below q4).b⟩
 have HSP:Hid (spS (w.heap.size+2+3) T0 T1 T2 C.ho s' w2∧s'.n2=C.ho.bx.length∧s'.n4=C.ho.qu.length):=⟨by simpa using q1,q2,q3⟩
 clear q1 q2 q3 q4 H0 HCP;go_wp2_with (first
  | (refine wpList_store_mid (P:=Tryz.prog) rfl 39 (.tmp 6) (.tmp 5) rfl w.heap.size 11 (hoL C.ho s').toArray rfl rfl (H2.out.1.there 11 _ (by rw[List.size_toArray,hoL_len,coL_len];decide)) (sz39A _ _) (hoL_one _ _) ?_;generalize hW3:World.setCells w2 w.heap.size 11 _=w3;have H3:Hid (blk w3 w.heap.size (coL C s') 41∧blk w3 (w.heap.size+1) Z21 41∧(∀ q,q≠w.heap.size→w3.heap[q]?=w2.heap[q]?)∧w3.heap.size=w2.heap.size∧Below w.heap.size w w3):=(by rw[← hW3];exact⟨H2.out.1.host C.ho s',H2.out.2.1.kept (setCells_other _ _ (by omega) _ _ _),fun q hq=>setCells_other _ q hq _ _ _,setCells_size ..,setCells_below (Nat.le_refl _) 11 _ H2.out.2.2⟩);clear hW3)
  | (refine wpList_load_mid (P:=Tryz.prog) rfl 41 (.tmp 1) rfl w.heap.size 0 rfl (coL C s') _ H3.out.1.load Tryz.underlying41 rfl (szC41L _ _) ?_)
  | (refine wpList_store_mid (P:=Tryz.prog) rfl 41 (.tmp 2) (.tmp 7) rfl (w.heap.size+1) 0 (coL C s').toArray rfl rfl (H3.out.2.1.there 0 _ (by rw[List.size_toArray,coL_len];decide)) (szC41A _ _) (coL_one _ _) ?_;generalize hW4:World.setCells w3 (w.heap.size+1) 0 _=w4;have H4:Hid (blk w4 (w.heap.size+1) (coL C s') 41∧(∀ q,q≠w.heap.size→q≠w.heap.size+1→w4.heap[q]?=w2.heap[q]?)∧w4.heap.size=w2.heap.size∧Below w.heap.size w w4):=(by rw[← hW4];exact⟨H3.out.2.1.core rfl _ _,fun q h1 h2=>(setCells_other _ q h2 _ _ _).trans (H3.out.2.2.1 q h1),(setCells_size ..).trans H3.out.2.2.2.1,setCells_below (by omega) 0 _ H3.out.2.2.2.2⟩);clear hW4))
 have hL:=run_loadVar_mid (P:=Tryz.prog) w4 (w.heap.size+1) 0 41 _ _ H4.out.1.load Tryz.underlying41 rfl (szC41L _ _)
 refine bodyPost_ret (v:=.agg (coL C s').toArray) (results_cell Tryz.results35 _ w4 (w.heap.size+1) _ rfl hL) rfl ?_
 have hsp:=HSP.out.1.st (W':=w4) (fun q h1 h2=>H4.out.2.1 q (by omega) (by omega)) (by have:=H4.out.2.2.1;omega)
 exact⟨s',T0,T1,T2,rfl,hsp.lower (by omega),HSP.out.2.1,HSP.out.2.2,H4.out.2.2.2⟩
def zCo:Co:=⟨0,0,0,false,false,false,false,false,0,0,0,zHo⟩
def okRelC (C R T:Co):Prop:=(okCo C∧T=R)∨(¬ okCo C∧T=zCo)
theorem okRelC.yes {C R T:Co} (h:okRelC C R T) (hok:okCo C):T=R:=by
 rcases h with⟨_,e⟩|⟨h,_⟩
 ·exact e
 ·exact absurd hok h
theorem okRelC.no {C R T:Co} (h:okRelC C R T) (hok:¬ okCo C):T=zCo:=by
 rcases h with⟨h,_⟩|⟨_,e⟩
 ·exact absurd h hok
 ·exact e
structure itF (w:World) (C:Co) (s:Sl) (k:Int) (W:World):Prop where
 p:blk W w.heap.size (coL C s) 41
 x:blk W (w.heap.size+1) [.int .i64 k] 3
 r:blk W (w.heap.size+2) Z21 41
 b:Below w.heap.size w W
theorem itF.below {w:World} {C:Co} {s:Sl} {k:Int} {W W':World} (h:itF w C s k W) (hb:Below W.heap.size W W'):itF w C s k W':=⟨h.p.below hb,h.x.below hb,h.r.below hb,h.b.trans (hb.mono h.b.size)⟩
theorem itF.new (w:World) (C:Co) (s:Sl) (k:Int):itF w C s k (((w.alloc (.cells (coL C s).toArray 41)).alloc (.cells #[.int .i64 k] 3)).alloc (.cells #[.int .i64 0,.int .i64 0,.int .i64 0,.bool false,.bool false,.bool false,.bool false,.bool false,.int .i64 0,.int .i64 0,.int .i64 0,.int .i64 0,.int .i64 0,.int .i64 0,.int .i64 0,.slice none 0 0,.slice none 0 0,.slice none 0 0,.slice none 0 0,.int .i64 0,.int .i64 0] 41)):=by
 refine⟨((blk.new w _ 41).alloc _).alloc _,?_,?_,(((Below.refl _ _).alloc (Nat.le_refl _) _).alloc (by simp) _).alloc (by simp;omega) _⟩
 ·have:=(blk.new (w.alloc (.cells (coL C s).toArray 41)) [.int .i64 k] 3).alloc (.cells #[.int .i64 0,.int .i64 0,.int .i64 0,.bool false,.bool false,.bool false,.bool false,.bool false,.int .i64 0,.int .i64 0,.int .i64 0,.int .i64 0,.int .i64 0,.int .i64 0,.int .i64 0,.slice none 0 0,.slice none 0 0,.slice none 0 0,.slice none 0 0,.int .i64 0,.int .i64 0] 41)
  simpa using this
 ·have:=blk.new ((w.alloc (.cells (coL C s).toArray 41)).alloc (.cells #[.int .i64 k] 3)) Z21 41
  have t2:blk (((w.alloc (.cells (coL C s).toArray 41)).alloc (.cells #[.int .i64 k] 3)).alloc (.cells Z21.toArray 41)) (w.heap.size+2) Z21 41:=by simpa using this
  exact t2
set_option maxRecDepth 20000 in
theorem specES_any (w:World) (C:Co) (s:Sl):Calls Tryz.prog 27 #[.agg (coL C s).toArray] w fun o w'=>o = .returned (.int .i64 (esZ C.p C.te C.re))∧Below w.heap.size w w':=by
 show Calls Tryz.prog 27 #[coV C s] w _
 obtain⟨p,ct,lv,wk,ov,ow,tx,ak,rn,te,re,⟨c0,c1,c2,c3,fs,bx,ff,qu,lo,st⟩⟩:=C
 obtain⟨a1,n1,k1,a2,n2,k2,a3,n3,k3,a4,n4,k4⟩:=s
 go_enter Tryz.func27,Tryz.ntmps27
 go_wp2_with (first | (go_at_call 62;refine (l4state_any _ _ _ _).mono ?_;rintro o w1 ⟨rfl,rfl⟩))
 go_ret;exact⟨rfl,(Below.refl _ _).alloc (Nat.le_refl _) _⟩
set_option maxRecDepth 20000 in
theorem l4tell_no (w:World) (C:Co) (s:Sl) (old:Int) (e:esZ C.p C.te C.re=old):Calls Tryz.prog 104 #[.agg (coL C s).toArray,.int .i64 old] w fun o w'=>o = .returned (.agg (coL C s).toArray)∧Below w.heap.size w w':=by
 have H0:Hid (dcS w C s ((w.alloc (.cells (coL C s).toArray 41)).alloc (.cells [.int .i64 0,.int .i64 0,.int .i64 0,.bool false,.bool false,.bool false,.bool false,.bool false,.int .i64 0,.int .i64 0,.int .i64 0,.int .i64 0,.int .i64 0,.int .i64 0,.int .i64 0,.slice none 0 0,.slice none 0 0,.slice none 0 0,.slice none 0 0,.int .i64 0,.int .i64 0].toArray 41))):=dcS.new w C s
 have HES:Hid (∀ W,Calls Tryz.prog 27 #[.agg (coL C s).toArray] W fun o w'=>o = .returned (.int .i64 old)∧Below W.heap.size W w'):=fun W=>by rw[← e];exact specES_any W C s
 clear e;go_enter Tryz.func104,Tryz.ntmps104
 go_wp2_with (first
  | (refine wpList_load_mid (P:=Tryz.prog) rfl 41 (.tmp 2) rfl w.heap.size 0 rfl (coL C s) _ H0.out.p.load Tryz.underlying41 rfl (szC41L C s) ?_))
 refine (HES.out _).mono ?_
 rintro o w1 ⟨rfl,hb1⟩;have H1:Hid (dcS w C s w1):=H0.out.below hb1
 clear H0 hb1 HES;go_wp2_with (first
  | (refine wpList_load_mid (P:=Tryz.prog) rfl 41 (.tmp 2) rfl w.heap.size 0 rfl (coL C s) _ H1.out.p.load Tryz.underlying41 rfl (szC41L C s) ?_)
  | (refine wpList_store_mid (P:=Tryz.prog) rfl 41 (.tmp 4) (.tmp 14) rfl (w.heap.size+1) 0 (coL C s).toArray rfl rfl (H1.out.r.there 0 _ (by rw[List.size_toArray,coL_len];decide)) (szC41A _ _) (coL_one _ _) ?_;generalize hW8:World.setCells _ (w.heap.size+1) 0 _=w8;have HW8:Hid (_=w8):=hW8;clear hW8))
 have e8:=HW8.out
 have hF:blk w8 (w.heap.size+1) (coL C s) 41:=by
  rw[← e8]
  exact H1.out.r.core rfl _ _
 have hL:=run_loadVar_mid (P:=Tryz.prog) w8 (w.heap.size+1) 0 41 _ _ hF.load Tryz.underlying41 rfl (szC41L _ _)
 refine bodyPost_ret (v:=.agg (coL C s).toArray) (results_cell Tryz.results104 _ w8 (w.heap.size+1) _ rfl hL) rfl ?_
 exact⟨rfl,by rw[← e8];exact setCells_below (by omega) 0 _ H1.out.b⟩
set_option maxRecDepth 20000 in
theorem l4tell_q (w:World) (C:Co) (s:Sl) (B T g4:Nat) (old:Int) (e:¬ esZ C.p C.te C.re=old) (ha:s.a4=some ⟨g4,0,none⟩) (hQ:rowQ8 B T 67 g4 s.n4 s.k4 C.ho.qu w) (hB:B≤T) (hT:T≤w.heap.size) (hn:s.n4≤1000) (hlo:0≤C.ho.lo∧C.ho.lo≤100000) :
  Calls Tryz.prog 104 #[.agg (coL C s).toArray,.int .i64 old] w fun o w'=>∃ g' n' k',o = .returned (.agg (coL { C with ho:=postHo C.ho (ev3 10 (esZ C.p C.te C.re) 0) } (qSl s g' n' k')).toArray)∧(∀ V:World,(∀ x,B≤x→x<T∨w.heap.size≤x→x<w'.heap.size→V.heap[x]?=w'.heap[x]?)→w'.heap.size≤V.heap.size→rowQ8 B V.heap.size 67 g' n' k' (quP C.ho.c3 C.ho.qu (ev3 10 (esZ C.p C.te C.re) 0)) V)∧(∀ q,q≠g4→q<w.heap.size→w'.heap[q]?=w.heap[q]?)∧Below B w w':=by
 have H0:Hid (dcS w C s ((w.alloc (.cells (coL C s).toArray 41)).alloc (.cells [.int .i64 0,.int .i64 0,.int .i64 0,.bool false,.bool false,.bool false,.bool false,.bool false,.int .i64 0,.int .i64 0,.int .i64 0,.int .i64 0,.int .i64 0,.int .i64 0,.int .i64 0,.slice none 0 0,.slice none 0 0,.slice none 0 0,.slice none 0 0,.int .i64 0,.int .i64 0].toArray 41))):=dcS.new w C s
 have HG4:Hid (g4<T):=by obtain⟨rs,_,_,_,h4,_⟩:=hQ;exact h4
 have HBT:Hid (B≤T∧T≤w.heap.size):=⟨hB,hT⟩
 have HES:Hid (∀ W,Calls Tryz.prog 27 #[.agg (coL C s).toArray] W fun o w'=>o = .returned (.int .i64 (esZ C.p C.te C.re))∧Below W.heap.size W w'):=fun W=>specES_any W C s
 have HSY:Hid (∀ W,Below w.heap.size w W→Calls Tryz.prog 77 #[.agg (coL C s).toArray,.int .i64 10,.int .i64 (esZ C.p C.te C.re),.int .i64 0] W fun o w'=>∃ g' n' k',o = .returned (.agg (coL { C with ho:=postHo C.ho (ev3 10 (esZ C.p C.te C.re) 0) } (qSl s g' n' k')).toArray)∧(∀ V:World,(∀ x,B≤x→x<T∨W.heap.size≤x→x<w'.heap.size→V.heap[x]?=w'.heap[x]?)→w'.heap.size≤V.heap.size→rowQ8 B V.heap.size 67 g' n' k' (quP C.ho.c3 C.ho.qu (ev3 10 (esZ C.p C.te C.re) 0)) V)∧(∀ q,q≠g4→q<W.heap.size→w'.heap[q]?=W.heap[q]?)∧Below B W w'):=fun W hW=>l4say_q W C s B T g4 10 (esZ C.p C.te C.re) 0 ha (hQ.keep fun q h1 h2=>hW.block q (by omega)) hB (by have:=hW.size;omega) hn hlo
 clear ha hQ hB hT hn hlo;generalize esZ C.p C.te C.re=es at *;have d1:(es == old)=false:=by simpa using e
 have d2:(es != old)=true:=by simpa using e
 clear e;go_enter Tryz.func104,Tryz.ntmps104
 go_wp2_with (first
  | (refine wpList_load_mid (P:=Tryz.prog) rfl 41 (.tmp 2) rfl w.heap.size 0 rfl (coL C s) _ H0.out.p.load Tryz.underlying41 rfl (szC41L C s) ?_))
 refine (HES.out _).mono ?_
 rintro o w1 ⟨rfl,hb1⟩;have H1:Hid (dcS w C s w1):=H0.out.below hb1
 clear H0 hb1 HES;go_wp2_with (first
  | (refine wpList_load_mid (P:=Tryz.prog) rfl 41 (.tmp 2) rfl w.heap.size 0 rfl (coL C s) _ H1.out.p.load Tryz.underlying41 rfl (szC41L C s) ?_))
 refine (HSY.out _ H1.out.b).mono ?_
 rintro o w2 ⟨g',n',k',rfl,q1,q2,q3⟩;have HQ1:Hid (∀ V:World,(∀ x,B≤x→x<T∨w1.heap.size≤x→x<w2.heap.size→V.heap[x]?=w2.heap[x]?)→w2.heap.size≤V.heap.size→rowQ8 B V.heap.size 67 g' n' k' (quP C.ho.c3 C.ho.qu (ev3 10 es 0)) V):=q1
 have H2:Hid (blk w2 (w.heap.size+1) Z21 41∧w.heap.size+1<w1.heap.size∧w1.heap.size≤w2.heap.size):=⟨H1.out.r.kept (q2 _ (by have:=HG4.out;have:=HBT.out;omega) H1.out.r.lt),H1.out.r.lt,q3.size⟩
 have HK2:Hid (∀ q,q≠g4→q<w.heap.size→w2.heap[q]?=w.heap[q]?):=fun q h1 h2=>(q2 q h1 (Nat.lt_of_lt_of_le h2 H1.out.b.size)).trans (H1.out.b.block q h2)
 have HB2:Hid (Below B w w2):=(H1.out.b.mono (by have:=HBT.out;omega)).trans q3
 clear q1 q2 q3 H1 HSY;go_wp2_with (first
  | (refine wpList_store_mid (P:=Tryz.prog) rfl 41 (.tmp 4) (.tmp 13) rfl (w.heap.size+1) 0 (coL { C with ho:=postHo C.ho (ev3 10 es 0) } (qSl s g' n' k')).toArray rfl rfl (H2.out.1.there 0 _ (by rw[List.size_toArray,coL_len];decide)) (szC41A _ _) (coL_one _ _) ?_;generalize hW4:World.setCells w2 (w.heap.size+1) 0 _=w4;have H4:Hid (blk w4 (w.heap.size+1) (coL { C with ho:=postHo C.ho (ev3 10 es 0) } (qSl s g' n' k')) 41∧(∀ q,q≠w.heap.size+1→w4.heap[q]?=w2.heap[q]?)∧w4.heap.size=w2.heap.size∧Below B w w4):=(by rw[← hW4];exact⟨H2.out.1.core rfl _ _,fun q h1=>setCells_other _ q h1 _ _ _,setCells_size ..,setCells_below (by have:=HBT.out;omega) 0 _ HB2.out⟩);clear hW4))
 have hL:=run_loadVar_mid (P:=Tryz.prog) w4 (w.heap.size+1) 0 41 _ _ H4.out.1.load Tryz.underlying41 rfl (szC41L _ _)
 refine bodyPost_ret (v:=.agg (coL { C with ho:=postHo C.ho (ev3 10 es 0) } (qSl s g' n' k')).toArray) (results_cell Tryz.results104 _ w4 (w.heap.size+1) _ rfl hL) rfl ?_
 have hz:=H4.out.2.2.1
 have hz2:=H2.out.2
 have hbt:=HBT.out
 refine⟨g',n',k',rfl,fun V h1 h2=>HQ1.out V (fun q h3 h4 h5=>(h1 q h3 (by omega) (by omega)).trans (H4.out.2.1 q (by omega))) (by omega),fun q h1 h2=>(H4.out.2.1 q (by omega)).trans (HK2.out q h1 h2),H4.out.2.2.2⟩
def k41 (T:Nat) (w w':World):Prop:=∀ q L,T≤q→blk w q L 41→blk w' q L 41
theorem k41.trans {T:Nat} {w w' w'':World} (h:k41 T w w') (h':k41 T w' w''):k41 T w w'':=fun q L hq hb=>h' q L hq (h q L hq hb)
theorem k41.below {T:Nat} {w w':World} (h:Below w.heap.size w w'):k41 T w w':=fun q L _ hb=>hb.below h
theorem coL_nb (C:Co) (s:Sl) (j:Int):Value.int .u8 j ∉ coL C s:=by
 unfold coL
 simp
theorem Z21_nb (j:Int):Value.int .u8 j ∉ Z21:=by
 unfold Z21
 simp
theorem rowQ8.neT {B T g n k:Nat} {bs:List R8} {W:World} (h:rowQ8 B T 67 g n k bs W) {x:Nat} {L:List Value} (hx:blk W x L 41):g≠x:=by
 obtain⟨rs,ho,_⟩:=h
 rcases ho.own.2 with⟨e,_⟩|⟨g1,cap,cur,hv',hb,hgg,_⟩
 ·cases e
 cases hv'
 rintro rfl
 unfold blk at hx
 rw[hgg] at hx
 injection hx with hx
 injection hx with _ hx _
 exact absurd hx (by decide)
theorem isBytes.farL {W V:World} {a:Option Addr} {n cap:Nat} {l:List Nat} (h:isBytes W a n cap l) {x:Nat} {L:List Value} {ty:TypeId} (hx:blk W x L ty) (hL:∀ j,Value.int .u8 j ∉ L) (hV:∀ q,q≠x→V.heap[q]?=W.heap[q]?):isBytes V a n cap l:=by
 refine⟨h.len,h.cap,h.small,fun hne=>?_⟩
 obtain⟨g,off,e,hc⟩:=h.cells hne
 refine⟨g,off,e,fun j hj=>?_⟩
 have hcj:=hc j hj
 have hg:g≠x:=by
  rintro rfl
  refine hL (l[j]:Int) ?_
  unfold blk at hx
  unfold World.cell? at hcj
  rw[hx] at hcj
  simp at hcj
  exact List.mem_of_getElem? hcj
 unfold World.cell? at hcj ⊢
 rw[hV g hg]
 exact hcj
theorem rowQ8.vars {B T g n k:Nat} {bs:List R8} {W V:World} (h:rowQ8 B T 67 g n k bs W) {x:Nat} {L:List Value} (hx:blk W x L 41) (hL:∀ j,Value.int .u8 j ∉ L) (hV:∀ q,q≠x→V.heap[q]?=W.heap[q]?) (hz:V.heap.size=W.heap.size):rowQ8 B T 67 g n k bs V:=by
 have hg:=h.neT hx
 obtain⟨rs,ho,hm,hn,hgT,hall⟩:=h
 refine⟨rs,⟨ownsRow_kept ho.own (hV g hg),fun p hp=>?_⟩,hm,hn,hgT,hall⟩
 obtain⟨d1,d2,d3,d4⟩:=ho.dat p hp
 exact⟨d1.farL hx hL hV,d2,d3,by omega⟩
theorem spS.vars {B T0 T1 T2:Nat} {H:Ho} {s:Sl} {W V:World} (h:spS B T0 T1 T2 H s W) {x:Nat} {L:List Value} (hx:blk W x L 41) (hT:T2≤x) (hL:∀ j,Value.int .u8 j ∉ L) (hV:∀ q,q≠x→V.heap[q]?=W.heap[q]?) (hz:V.heap.size=W.heap.size):spS B T0 T1 T2 H s V:=by
 obtain⟨o1,o2,o3,o4⟩:=h.o
 obtain⟨gf,e1,h1a,h1b,h1⟩:=h.f
 obtain⟨gb,hs,e2,h2⟩:=h.x
 obtain⟨gq,e3,h3⟩:=h.r
 obtain⟨g4,e4,h4⟩:=h.q
 refine⟨⟨gf,e1,h1a,h1b,h1.same (hV gf (by omega))⟩,⟨gb,hs,e2,h2.st fun q h1 h2=>hV q (by omega)⟩,⟨gq,e3,h3.keep fun q h1 h2=>hV q (by omega)⟩,⟨g4,e4,?_⟩,⟨o1,o2,o3,by omega⟩⟩
 rw[hz]
 exact h4.vars hx hL hV hz
theorem spS.n2 {B T0 T1 T2:Nat} {H:Ho} {s:Sl} {W:World} (h:spS B T0 T1 T2 H s W):s.n2=H.bx.length:=by
 obtain⟨gb,hs,_,h2⟩:=h.x
 exact h2.len
theorem spS.n4 {B T0 T1 T2:Nat} {H:Ho} {s:Sl} {W:World} (h:spS B T0 T1 T2 H s W):s.n4=H.qu.length:=by
 obtain⟨g4,_,h4⟩:=h.q
 exact h4.is.len
structure bdQ (n:Nat) (H:Ho):Prop where
 q:H.qu.length≤n
 lo:0≤H.lo∧H.lo≤100000
theorem bdQ.post {n:Nat} {H:Ho} (h:bdQ n H) (e:R8):bdQ (n+1) (postHo H e):=by
 refine⟨?_,?_⟩
 ·show (quP H.c3 H.qu e).length≤n+1
  have:=h.q
  unfold quP
  split
  ·rw[List.length_append,List.length_singleton];omega
  ·omega
 ·show 0≤loP H.c3 H.qu H.lo∧loP H.c3 H.qu H.lo≤100000
  have:=h.lo
  unfold loP
  split
  ·exact h.lo
  ·split
   ·omega
   ·exact h.lo
theorem bdQ.up {n:Nat} {H:Ho} (h:bdQ n H) {m:Nat} (hm:n≤m):bdQ m H:=⟨Nat.le_trans h.q hm,h.lo⟩
theorem bdQ.rel {n:Nat} {H:Ho} (h:bdQ n H) (sent:Bool):bdQ (n+1) (relHo H sent):=by
 have hf:∀ k,bdQ n (freeHo H k):=fun k=>⟨h.q,h.lo⟩
 unfold relHo
 split
 ·split
  ·exact (hf _).post _
  ·split
   ·exact (hf _).post _
   ·rw[stHo_yes (by assumption)]
    exact⟨Nat.le_succ_of_le h.q,h.lo⟩
 ·exact h.up (Nat.le_succ _)
theorem okHo.bd {H:Ho} (h:okHo H):bdQ 900 H:=by
 have h1:=of_decide_eq_true h.cf
 have h2:=h.nq
 exact⟨by omega,h.l0,h.l1⟩
theorem l4say_c (W:World) (C:Co) (s:Sl) (B T0 T1 T2:Nat) (x y z:Int) (h:spS B T0 T1 T2 C.ho s W) (hb:bdQ 1000 C.ho) :
  Calls Tryz.prog 77 #[.agg (coL C s).toArray,.int .i64 x,.int .i64 y,.int .i64 z] W fun o w'=>∃ s',o = .returned (.agg (coL { C with ho:=postHo C.ho (ev3 x y z) } s').toArray)∧spS B T0 T1 T2 (postHo C.ho (ev3 x y z)) s' w'∧k41 T2 W w'∧Below B W w':=by
 obtain⟨g4,ha,hQ⟩:=h.q
 have ho:=h.o
 refine (l4say_q W C s T2 W.heap.size g4 x y z ha hQ ho.2.2.2 (Nat.le_refl _) (by rw[h.n4];exact hb.q) hb.lo).mono ?_
 rintro o w' ⟨g',n',k',rfl,q1,q2,q3⟩;have hg:=hQ.glt
 exact⟨qSl s g' n' k',rfl,h.post (q1 w' (fun _ _ _ _=>rfl) (Nat.le_refl _)) (fun q h1 h2=>q2 q (by omega) (by omega)) q3.size,fun q L hq hb=>hb.kept (q2 q (fun e=>hQ.neT hb e.symm) hb.lt),q3.mono (by omega)⟩
theorem l3rel_c (W:World) (H:Ho) (s:Sl) (sent:Bool) (B T0 T1 T2:Nat) (h:spS B T0 T1 T2 H s W) (hb:bdQ 1000 H) (hn2:H.bx.length≤1000) (hsm:∀ j (h:j<H.bx.length),H.bx[j].l.length≤1048576) :
  Calls Tryz.prog 102 #[.agg (hoL H s).toArray,.bool sent] W fun o w'=>∃ s',o = .returned (.agg (hoL (relHo H sent) s').toArray)∧spS B T0 T1 T2 (relHo H sent) s' w'∧k41 T2 W w'∧Below B W w':=by
 obtain⟨g4,ha,hQ⟩:=h.q
 have ho:=h.o
 refine (l3doRelease_fr B T0 T1 T2 W H s sent h (by rw[h.n2];exact hn2) (by rw[h.n4];exact hb.q) hb.lo hsm).mono ?_
 rintro o w' ⟨s',rfl,q1,q2,q3⟩;exact⟨s',rfl,q1,fun q L hq hb=>hb.kept (q3 q (by omega) hb.lt (fun e=>by rw[ha] at e;exact hQ.neT hb (by cases e;rfl))),q2⟩
def tlC (C:Co) (old:Int):Co:=if esZ C.p C.te C.re=old then C else { C with ho:=postHo C.ho (ev3 10 (esZ C.p C.te C.re) 0) }
structure vS (w:World) (B T0 T1 T2:Nat) (C:Co) (s0:Sl) (H:Ho) (s:Sl) (W:World):Prop where
 p:blk W w.heap.size (coL C s0) 41
 r:blk W (w.heap.size+1) Z21 41
 sp:spS B T0 T1 T2 H s W
 b:Below B w W
 k:k41 T2 w W
 o:T2≤w.heap.size∧B≤w.heap.size
theorem vS.new {w:World} {B T0 T1 T2:Nat} {C:Co} {s:Sl} (h:spS B T0 T1 T2 C.ho s w):vS w B T0 T1 T2 C s C.ho s ((w.alloc (.cells (coL C s).toArray 41)).alloc (.cells Z21.toArray 41)):=by
 have hd:=dcS.new w C s
 have ho:=h.o
 exact⟨hd.p,hd.r,h.below hd.b,hd.b.mono (by omega),k41.below hd.b,by omega,by omega⟩
theorem vS.call {w:World} {B T0 T1 T2:Nat} {C:Co} {s0:Sl} {H:Ho} {s:Sl} {W w':World} (h:vS w B T0 T1 T2 C s0 H s W) {H':Ho} {s':Sl} (hs:spS B T0 T1 T2 H' s' w') (hk:k41 T2 W w') (hb:Below B W w'):vS w B T0 T1 T2 C s0 H' s' w':=
 ⟨hk _ _ h.o.1 h.p,hk _ _ (by have:=h.o;omega) h.r,hs,h.b.trans hb,h.k.trans hk,h.o⟩
theorem vS.below {w:World} {B T0 T1 T2:Nat} {C:Co} {s0:Sl} {H:Ho} {s:Sl} {W w':World} (h:vS w B T0 T1 T2 C s0 H s W) (hb:Below W.heap.size W w'):vS w B T0 T1 T2 C s0 H s w':=
 h.call (h.sp.below hb) (k41.below hb) (hb.mono (by have:=h.b.size;have:=h.o;omega))
theorem vS.other {w:World} {B T0 T1 T2:Nat} {C:Co} {s0:Sl} {H:Ho} {s:Sl} {W V:World} (h:vS w B T0 T1 T2 C s0 H s W) {C':Co} {s1:Sl} (hp:blk V w.heap.size (coL C' s1) 41) (hV:∀ q,q≠w.heap.size→V.heap[q]?=W.heap[q]?) (hz:V.heap.size=W.heap.size) (hb:Below B w V):vS w B T0 T1 T2 C' s1 H s V:=
 ⟨hp,h.r.kept (hV _ (by omega)),h.sp.vars h.p h.o.1 (coL_nb C s0) hV hz,hb,fun q L hq hb=>(h.k q L hq hb).kept (hV q (by have:=hb.lt;omega)),h.o⟩
theorem vS.put {w:World} {B T0 T1 T2:Nat} {C:Co} {s0:Sl} {H:Ho} {s:Sl} {W:World} (h:vS w B T0 T1 T2 C s0 H s W) (C':Co) (s1:Sl):vS w B T0 T1 T2 C' s1 H s (W.setCells w.heap.size 0 (coL C' s1)):=
 h.other (h.p.core rfl C' s1) (fun q hq=>setCells_other _ q hq _ _ _) (setCells_size ..) (setCells_below h.o.2 0 _ h.b)
theorem vS.host {w:World} {B T0 T1 T2:Nat} {C:Co} {s0:Sl} {H:Ho} {s:Sl} {W:World} (h:vS w B T0 T1 T2 C s0 H s W) (H':Ho) (s1:Sl):vS w B T0 T1 T2 { C with ho:=H' } s1 H s (W.setCells w.heap.size 11 (hoL H' s1)):=
 h.other (h.p.host H' s1) (fun q hq=>setCells_other _ q hq _ _ _) (setCells_size ..) (setCells_below h.o.2 11 _ h.b)
theorem vS.set {w:World} {B T0 T1 T2:Nat} {C:Co} {s0:Sl} {H:Ho} {s:Sl} {W:World} (h:vS w B T0 T1 T2 C s0 H s W) (i:Nat) (v:Value) (C':Co) (e:(coL C s0).set i v=coL C' s0):vS w B T0 T1 T2 C' s0 H s (W.setCell ⟨w.heap.size,i,none⟩ v):=
 h.other (by rw[← e];exact h.p.set i v) (fun q hq=>heap_setCell_other W ⟨w.heap.size,i,none⟩ q _ hq) (by simp) (h.b.setCell (by exact h.o.2) _)
theorem vS.ret {w:World} {B T0 T1 T2:Nat} {C:Co} {s0:Sl} {H:Ho} {s:Sl} {W:World} (h:vS w B T0 T1 T2 C s0 H s W) (C':Co) (s1:Sl):blk (W.setCells (w.heap.size+1) 0 (coL C' s1)) (w.heap.size+1) (coL C' s1) 41∧spS B T0 T1 T2 H s (W.setCells (w.heap.size+1) 0 (coL C' s1))∧k41 T2 w (W.setCells (w.heap.size+1) 0 (coL C' s1))∧Below B w (W.setCells (w.heap.size+1) 0 (coL C' s1)):=by
 have ho:=h.o
 have hV:∀ q,q≠w.heap.size+1→(W.setCells (w.heap.size+1) 0 (coL C' s1)).heap[q]?=W.heap[q]?:=fun q hq=>setCells_other _ q hq _ _ _
 exact⟨h.r.core rfl C' s1,h.sp.vars h.r (by omega) Z21_nb hV (setCells_size ..),fun q L hq hb=>(h.k q L hq hb).kept (hV q (by have:=hb.lt;omega)),setCells_below (by omega) 0 _ h.b⟩
theorem hidS {w:World} {B T0 T1 T2:Nat} {C:Co} {s0:Sl} {H:Ho} {s:Sl} {W V:World} (e:W=V) (h:vS w B T0 T1 T2 C s0 H s W):Hid (vS w B T0 T1 T2 C s0 H s V):=by rw[← e];exact h
theorem hidR {w:World} {B T0 T1 T2:Nat} {H:Ho} {s:Sl} {L:List Value} {W V:World} (e:W=V) (h:blk W (w.heap.size+1) L 41∧spS B T0 T1 T2 H s W∧k41 T2 w W∧Below B w W):Hid (blk V (w.heap.size+1) L 41∧spS B T0 T1 T2 H s V∧k41 T2 w V∧Below B w V):=by rw[← e];exact h
theorem okCo.lo {C:Co} (h:okCo C):0≤C.ho.lo∧C.ho.lo≤100000:=⟨h.h.l0,h.h.l1⟩
end Go.Proofs.YtkfcfigbgmbaiaaGreat
