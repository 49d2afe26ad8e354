import Derived.Test.YtkfcfigbgmbaiaaGreatDE
import Derived.Test.YtkfcfigbgmbaiaaGreatNP
namespace Go.Proofs.YtkfcfigbgmbaiaaGreat
open Go.RowKit
set_option linter.unusedVariables false
theorem blk.host {w:World} {b:Nat} {C:Co} {s:Sl} (h:blk w b (coL C s) 41) (H:Ho) (s':Sl):blk (w.setCells b 11 (hoL H s')) b (coL { C with ho:=H } s') 41:=by
 have h':blk w b (coM C++hoL C.ho s++[]) 41:=by rw[List.append_nil,← coL_M];exact h
 have:=blk.put (coM C) (hoL C.ho s) [] (hoL H s') h' rfl
 rw[List.append_nil] at this
 exact this
theorem sz39A (H:Ho) (s:Sl):(Tryz.prog.info? 39).map (·.size)=some (hoL H s).toArray.size:=sz39h H s
theorem blk.core {w:World} {b:Nat} {l:List Value} (h:blk w b l 41) (hl:l.length=21) (C:Co) (s:Sl):blk (w.setCells b 0 (coL C s)) b (coL C s) 41:=by
 have:=blk.put [] l [] (coL C s) (w:=w) (b:=b) (T:=41) (by simpa using h) (by rw[hl,coL_len])
 simpa using this
set_option maxHeartbeats 8000000 in
set_option maxRecDepth 20000 in
theorem l4say_q (w:World) (C:Co) (s:Sl) (B T g4:Nat) (x y z:Int) (ha:s.a4=some ⟨g4,0,none⟩) (hQ:rowQ8 B T 67 g4 s.n4 s.k4 C.ho.qu w) (hB:B≤T) (hT:T≤w.heap.size) (hn:s.n4≤1000) (hlo:0≤C.ho.lo∧C.ho.lo≤100000) :
  Calls Tryz.prog 77 #[.agg (coL C s).toArray,.int .i64 x,.int .i64 y,.int .i64 z] w fun o w'=>∃ g' n' k',o = .returned (.agg (coL { C with ho:=postHo C.ho (ev3 x y z) } (qSl s g' n' k')).toArray)∧(∀ V:World,(∀ x,B≤x→x<T∨w.heap.size≤x→x<w'.heap.size→V.heap[x]?=w'.heap[x]?)→w'.heap.size≤V.heap.size→rowQ8 B V.heap.size 67 g' n' k' (quP C.ho.c3 C.ho.qu (ev3 x y z)) V)∧(∀ q,q≠g4→q<w.heap.size→w'.heap[q]?=w.heap[q]?)∧Below B w w':=by
 have H0:Hid (dcS w C s ((w.alloc (.cells (coL C s).toArray 41)).alloc (.cells Z21.toArray 41))):=dcS.new w C s
 have HG4:Hid (g4<T):=by obtain⟨rs,_,_,_,h4,_⟩:=hQ;exact h4
 have HSY:Hid (∀ W,Below w.heap.size w W→Calls Tryz.prog 137 #[.agg (hoL C.ho s).toArray,.int .i64 x,.int .i64 y,.int .i64 z] W fun o w'=>∃ g' n' k',o = .returned (.agg (hoL (postHo C.ho (ev3 x y z)) (qSl s g' n' k')).toArray)∧(∀ V:World,(∀ x,B≤x→x<T∨W.heap.size≤x→x<w'.heap.size→V.heap[x]?=w'.heap[x]?)→w'.heap.size≤V.heap.size→rowQ8 B V.heap.size 67 g' n' k' (quP C.ho.c3 C.ho.qu (ev3 x y z)) V)∧(∀ q,q≠g4→q<W.heap.size→w'.heap[q]?=W.heap[q]?)∧Below B W w'):=fun W hW=>l3say_q W C.ho s B T g4 x y z ha (hQ.keep fun q h1 h2=>hW.block q (by omega)) (by have:=hW.size;omega) hn hlo
 have HBT:Hid (B≤T∧T≤w.heap.size):=⟨hB,hT⟩
 clear ha hQ hB hT hn hlo
 go_enter Tryz.func77,Tryz.ntmps77
 go_wp2_with (first
  | (refine wpList_load_mid (P:=Tryz.prog) rfl 39 (.tmp 9) rfl w.heap.size 11 rfl (hoL C.ho s) _ H0.out.p.hostAt Tryz.underlying39 rfl (sz39h C.ho s) ?_))
 refine (HSY.out _ H0.out.b).mono ?_
 rintro o w2 ⟨g',n',k',rfl,q1,q2,q3⟩
 have HQ1:Hid (∀ V:World,(∀ x,B≤x→x<T∨w.heap.size+2≤x→x<w2.heap.size→V.heap[x]?=w2.heap[x]?)→w2.heap.size≤V.heap.size→rowQ8 B V.heap.size 67 g' n' k' (quP C.ho.c3 C.ho.qu (ev3 x y z)) V):=by
  intro V h1 h2
  refine q1 V (fun q h3 h4 h5=>h1 q h3 ?_ h5) h2
  simpa using h4
 have H2:Hid (blk w2 w.heap.size (coL C s) 41∧blk w2 (w.heap.size+1) Z21 41):=⟨H0.out.p.kept (q2 _ (by have:=HG4.out;have:=HBT.out;omega) H0.out.p.lt),H0.out.r.kept (q2 _ (by have:=HG4.out;have:=HBT.out;omega) H0.out.r.lt)⟩
 have HK2:Hid (∀ q,q≠g4→q<w.heap.size→w2.heap[q]?=w.heap[q]?):=fun q h1 h2=>(q2 q h1 (Nat.lt_of_lt_of_le h2 H0.out.b.size)).trans (H0.out.b.block q h2)
 have HB2:Hid (Below B w w2∧w.heap.size+2≤w2.heap.size):=⟨(H0.out.b.mono (by have:=HBT.out;omega)).trans q3,by have:=H0.out.r.lt;have:=q3.size;omega⟩
 clear q1 q2 q3 H0 HSY
 go_wp2_with (first
  | (refine wpList_store_mid (P:=Tryz.prog) rfl 39 (.tmp 15) (.tmp 14) rfl w.heap.size 11 (hoL (postHo C.ho (ev3 x y z)) (qSl s g' n' k')).toArray rfl rfl (H2.out.1.there 11 _ (by rw[List.size_toArray,hoL_len,coL_len];decide)) (sz39A _ _) (hoL_one _ _) ?_;generalize hW3:World.setCells w2 w.heap.size 11 _=w3;have H3:Hid (blk w3 w.heap.size (coL { C with ho:=postHo C.ho (ev3 x y z) } (qSl s g' n' k')) 41∧blk w3 (w.heap.size+1) Z21 41∧(∀ q,q≠w.heap.size→w3.heap[q]?=w2.heap[q]?)∧w3.heap.size=w2.heap.size∧Below B w w3):=(by rw[← hW3];exact⟨H2.out.1.host _ _,H2.out.2.kept (setCells_other _ _ (by omega) _ _ _),fun q hq=>setCells_other _ q hq _ _ _,setCells_size ..,setCells_below (by have:=HBT.out;omega) 11 _ HB2.out.1⟩);clear hW3)
  | (refine wpList_load_mid (P:=Tryz.prog) rfl 41 (.tmp 4) rfl w.heap.size 0 rfl (coL { C with ho:=postHo C.ho (ev3 x y z) } (qSl s g' n' k')) _ H3.out.1.load Tryz.underlying41 rfl (szC41L _ _) ?_)
  | (refine wpList_store_mid (P:=Tryz.prog) rfl 41 (.tmp 8) (.tmp 16) rfl (w.heap.size+1) 0 (coL { C with ho:=postHo C.ho (ev3 x y z) } (qSl s g' n' k')).toArray rfl rfl (H3.out.2.1.there 0 _ (by rw[List.size_toArray,coL_len];decide)) (szC41A _ _) (coL_one _ _) ?_;generalize hW4:World.setCells w3 (w.heap.size+1) 0 _=w4;have H4:Hid (blk w4 (w.heap.size+1) (coL { C with ho:=postHo C.ho (ev3 x y z) } (qSl s g' n' k')) 41∧(∀ q,q≠w.heap.size→q≠w.heap.size+1→w4.heap[q]?=w2.heap[q]?)∧w4.heap.size=w2.heap.size∧Below B w w4):=(by rw[← hW4];exact⟨H3.out.2.1.core rfl _ _,fun q h1 h2=>(setCells_other _ q h2 _ _ _).trans (H3.out.2.2.1 q h1),(setCells_size ..).trans H3.out.2.2.2.1,setCells_below (by have:=HBT.out;omega) 0 _ H3.out.2.2.2.2⟩);clear hW4))
 have hL:=run_loadVar_mid (P:=Tryz.prog) w4 (w.heap.size+1) 0 41 _ _ H4.out.1.load Tryz.underlying41 rfl (szC41L _ _)
 refine bodyPost_ret (v:=.agg (coL { C with ho:=postHo C.ho (ev3 x y z) } (qSl s g' n' k')).toArray) (results_cell Tryz.results77 _ w4 (w.heap.size+1) _ rfl hL) rfl ?_
 have hz:=H4.out.2.2.1
 have hz2:=HB2.out.2
 have hbt:=HBT.out
 refine⟨g',n',k',rfl,fun V h1 h2=>HQ1.out V (fun q h3 h4 h5=>(h1 q h3 (by omega) (by omega)).trans (H4.out.2.1 q (by omega) (by omega))) (by omega),fun q h1 h2=>(H4.out.2.1 q (by omega) (by omega)).trans (HK2.out q h1 h2),H4.out.2.2.2⟩
theorem spS.lower {B B' T0 T1 T2:Nat} {H:Ho} {s:Sl} {W:World} (h:spS B T0 T1 T2 H s W) (hb:B'≤B):spS B' T0 T1 T2 H s W:=by
 obtain⟨⟨gf,e1,h1a,h1b,h1⟩,hx,hr,hq,o1,o2,o3,o4⟩:=h
 exact⟨⟨gf,e1,by omega,h1b,h1⟩,hx,hr,hq,by omega,o2,o3,o4⟩
set_option maxHeartbeats 8000000 in
set_option maxRecDepth 20000 in
theorem l4copy_any (w:World) (C:Co) (s:Sl) (h:isHo w C.ho s) (hn:C.ho.le 1048576):Calls Tryz.prog 35 #[.agg (coL C s).toArray] w fun o w'=>∃ s' T0 T1 T2,o = .returned (.agg (coL C s').toArray)∧spS (w.heap.size+2) T0 T1 T2 C.ho s' w'∧s'.n2=C.ho.bx.length∧s'.n4=C.ho.qu.length∧Below w.heap.size w w':=by
 have H0:Hid (dcS w C s ((w.alloc (.cells (coL C s).toArray 41)).alloc (.cells Z21.toArray 41))):=dcS.new w C s
 have HCP:Hid (∀ W,Below w.heap.size w W→Calls Tryz.prog 67 #[.agg (hoL C.ho s).toArray] W fun o w'=>∃ s' T0 T1 T2,o = .returned (.agg (hoL C.ho s').toArray)∧spS (W.heap.size+3) T0 T1 T2 C.ho s' w'∧s'.n2=C.ho.bx.length∧s'.n4=C.ho.qu.length∧Below W.heap.size W w'):=fun W hW=>copyS W C.ho s (h.below hW) hn
 have HEC:Hid ({ C with ho:=C.ho }=C):=rfl
 clear h hn
 go_enter Tryz.func35,Tryz.ntmps35
 go_wp2_with (first
  | (refine wpList_load_mid (P:=Tryz.prog) rfl 39 (.tmp 3) rfl w.heap.size 11 rfl (hoL C.ho s) _ H0.out.p.hostAt Tryz.underlying39 rfl (sz39h C.ho s) ?_))
 refine (HCP.out _ H0.out.b).mono ?_
 rintro o w2 ⟨s',T0,T1,T2,rfl,q1,q2,q3,q4⟩
 have H2:Hid (blk w2 w.heap.size (coL C s) 41∧blk w2 (w.heap.size+1) Z21 41∧Below w.heap.size w w2):=⟨(H0.out.below q4).p,(H0.out.below q4).r,(H0.out.below q4).b⟩
 have HSP:Hid (spS (w.heap.size+2+3) T0 T1 T2 C.ho s' w2∧s'.n2=C.ho.bx.length∧s'.n4=C.ho.qu.length):=⟨by simpa using q1,q2,q3⟩
 clear q1 q2 q3 q4 H0 HCP
 go_wp2_with (first
  | (refine wpList_store_mid (P:=Tryz.prog) rfl 39 (.tmp 6) (.tmp 5) rfl w.heap.size 11 (hoL C.ho s').toArray rfl rfl (H2.out.1.there 11 _ (by rw[List.size_toArray,hoL_len,coL_len];decide)) (sz39A _ _) (hoL_one _ _) ?_;generalize hW3:World.setCells w2 w.heap.size 11 _=w3;have H3:Hid (blk w3 w.heap.size (coL C s') 41∧blk w3 (w.heap.size+1) Z21 41∧(∀ q,q≠w.heap.size→w3.heap[q]?=w2.heap[q]?)∧w3.heap.size=w2.heap.size∧Below w.heap.size w w3):=(by rw[← hW3];exact⟨H2.out.1.host C.ho s',H2.out.2.1.kept (setCells_other _ _ (by omega) _ _ _),fun q hq=>setCells_other _ q hq _ _ _,setCells_size ..,setCells_below (Nat.le_refl _) 11 _ H2.out.2.2⟩);clear hW3)
  | (refine wpList_load_mid (P:=Tryz.prog) rfl 41 (.tmp 1) rfl w.heap.size 0 rfl (coL C s') _ H3.out.1.load Tryz.underlying41 rfl (szC41L _ _) ?_)
  | (refine wpList_store_mid (P:=Tryz.prog) rfl 41 (.tmp 2) (.tmp 7) rfl (w.heap.size+1) 0 (coL C s').toArray rfl rfl (H3.out.2.1.there 0 _ (by rw[List.size_toArray,coL_len];decide)) (szC41A _ _) (coL_one _ _) ?_;generalize hW4:World.setCells w3 (w.heap.size+1) 0 _=w4;have H4:Hid (blk w4 (w.heap.size+1) (coL C s') 41∧(∀ q,q≠w.heap.size→q≠w.heap.size+1→w4.heap[q]?=w2.heap[q]?)∧w4.heap.size=w2.heap.size∧Below w.heap.size w w4):=(by rw[← hW4];exact⟨H3.out.2.1.core rfl _ _,fun q h1 h2=>(setCells_other _ q h2 _ _ _).trans (H3.out.2.2.1 q h1),(setCells_size ..).trans H3.out.2.2.2.1,setCells_below (by omega) 0 _ H3.out.2.2.2.2⟩);clear hW4))
 have hL:=run_loadVar_mid (P:=Tryz.prog) w4 (w.heap.size+1) 0 41 _ _ H4.out.1.load Tryz.underlying41 rfl (szC41L _ _)
 refine bodyPost_ret (v:=.agg (coL C s').toArray) (results_cell Tryz.results35 _ w4 (w.heap.size+1) _ rfl hL) rfl ?_
 have hsp:=HSP.out.1.st (W':=w4) (fun q h1 h2=>H4.out.2.1 q (by omega) (by omega)) (by have:=H4.out.2.2.1;omega)
 exact⟨s',T0,T1,T2,rfl,hsp.lower (by omega),HSP.out.2.1,HSP.out.2.2,H4.out.2.2.2⟩
def zCo:Co:=⟨0,0,0,false,false,false,false,false,0,0,0,zHo⟩
def okRelC (C R T:Co):Prop:=(okCo C∧T=R)∨(¬ okCo C∧T=zCo)
theorem okRelC_ex (C R:Co):∃ T,okRelC C R T:=by
 rcases Classical.em (okCo C) with h|h
 ·exact⟨_,Or.inl ⟨h,rfl⟩⟩
 ·exact⟨_,Or.inr ⟨h,rfl⟩⟩
theorem okRelC.yes {C R T:Co} (h:okRelC C R T) (hok:okCo C):T=R:=by
 rcases h with⟨_,e⟩|⟨h,_⟩
 ·exact e
 ·exact absurd hok h
theorem okRelC.no {C R T:Co} (h:okRelC C R T) (hok:¬ okCo C):T=zCo:=by
 rcases h with⟨h,_⟩|⟨_,e⟩
 ·exact absurd h hok
 ·exact e
set_option maxHeartbeats 8000000 in
set_option maxRecDepth 20000 in
theorem dr_yes (w:World) (C:Co) (s:Sl) (B T0 T1 T2:Nat) (h:spS B T0 T1 T2 C.ho s w) (hn:s.n4≤1000) (hlo:0≤C.ho.lo∧C.ho.lo≤100000) (ep:(C.p == 7)=true) (ea:C.ak=false) (hR:rstC C = { { C with ak:=true } with ho:=postHo C.ho (ev3 11 1 0) }) :
  Calls Tryz.prog 34 #[.agg (coL C s).toArray] w fun o w'=>∃ s',o = .returned (.agg (coL (rstC C) s').toArray)∧spS B T0 T1 T2 (rstC C).ho s' w'∧Below B w w':=by
 have H0:Hid (dcS w C s ((w.alloc (.cells (coL C s).toArray 41)).alloc (.cells #[.int .i64 0,.int .i64 0,.int .i64 0,.bool false,.bool false,.bool false,.bool false,.bool false,.int .i64 0,.int .i64 0,.int .i64 0,.int .i64 0,.int .i64 0,.int .i64 0,.int .i64 0,.slice none 0 0,.slice none 0 0,.slice none 0 0,.slice none 0 0,.int .i64 0,.int .i64 0] 41))):=dcS.new w C s
 obtain⟨C1,e1⟩ : ∃ C1:Co,C1 = { C with ak:=true }:=⟨_,rfl⟩
 obtain⟨g4,ha,hQ⟩:=h.q
 have ho:=h.o
 have hg4:g4<w.heap.size∧T2≤g4:=by obtain⟨rs,h1,_,_,h4,_⟩:=hQ;exact⟨h4,h1.lt.1⟩
 have HG4:Hid (g4<w.heap.size∧T2≤g4∧B≤T2∧T2≤w.heap.size):=⟨hg4.1,hg4.2,by omega,ho.2.2.2⟩
 have HSY:Hid (∀ W,Below w.heap.size w W→Calls Tryz.prog 77 #[.agg (coL C1 s).toArray,.int .i64 11,.int .i64 1,.int .i64 0] W fun o w'=>∃ g' n' k',o = .returned (.agg (coL { C1 with ho:=postHo C1.ho (ev3 11 1 0) } (qSl s g' n' k')).toArray)∧(∀ V:World,(∀ x,T2≤x→x<w.heap.size∨W.heap.size≤x→x<w'.heap.size→V.heap[x]?=w'.heap[x]?)→w'.heap.size≤V.heap.size→rowQ8 T2 V.heap.size 67 g' n' k' (quP C.ho.c3 C.ho.qu (ev3 11 1 0)) V)∧(∀ q,q≠g4→q<W.heap.size→w'.heap[q]?=W.heap[q]?)∧Below T2 W w'):=fun W hW=>by
  have:=l4say_q W C1 s T2 w.heap.size g4 11 1 0 ha (by rw[e1];exact hQ.keep fun q h1 h2=>hW.block q h2) ho.2.2.2 hW.size hn (by rw[e1];exact hlo)
  rw[e1] at this ⊢
  exact this
 have HSP:Hid (spS B T0 T1 T2 C.ho s w):=h
 have HE:Hid (rstC C = { C1 with ho:=postHo C1.ho (ev3 11 1 0) }∧(rstC C).ho=postHo C.ho (ev3 11 1 0)):=by rw[hR,e1];exact⟨rfl,rfl⟩
 have y0:=H0.out.p.cell 0 (.int .i64 C.p) rfl
 have y7:=H0.out.p.cell 7 (.bool C.ak) rfl
 rw[ea] at y7
 generalize hW0:((w.alloc (.cells (coL C s).toArray 41)).alloc (.cells #[.int .i64 0,.int .i64 0,.int .i64 0,.bool false,.bool false,.bool false,.bool false,.bool false,.int .i64 0,.int .i64 0,.int .i64 0,.int .i64 0,.int .i64 0,.int .i64 0,.int .i64 0,.slice none 0 0,.slice none 0 0,.slice none 0 0,.slice none 0 0,.int .i64 0,.int .i64 0] 41))=W0 at *
 have hS1:blk (W0.setCell ⟨w.heap.size,7,none⟩ (.bool true)) w.heap.size (coL C1 s) 41∧blk (W0.setCell ⟨w.heap.size,7,none⟩ (.bool true)) (w.heap.size+1) Z21 41∧Below w.heap.size w (W0.setCell ⟨w.heap.size,7,none⟩ (.bool true)):=⟨by rw[e1];exact H0.out.p.set 7 (.bool true),H0.out.r.setOther (by omega) 7 _,H0.out.b.setCell (Nat.le_refl _) _⟩
 have f7:=H0.out.p.free 7
 clear h ha hQ ho hg4 hR e1 hn hlo H0
 go_enter Tryz.func34,Tryz.ntmps34
 go_wp2_with (first
  | (refine wpList_load_mid (P:=Tryz.prog) rfl 41 (.tmp 1) rfl w.heap.size 0 rfl (coL C1 s) _ hS1.1.load Tryz.underlying41 rfl (szC41L _ _) ?_))
 generalize hW1:W0.setCell ⟨w.heap.size,7,none⟩ (.bool true)=W1 at *
 clear hW1 hW0 y0 y7 f7
 refine (HSY.out _ hS1.2.2).mono ?_
 rintro o w2 ⟨g',n',k',rfl,q1,q2,q3⟩
 have H2:Hid (blk w2 (w.heap.size+1) Z21 41∧w.heap.size+2≤w2.heap.size∧W1.heap.size≤w2.heap.size):=⟨hS1.2.1.kept (q2 _ (by have:=HG4.out;omega) hS1.2.1.lt),by have:=hS1.2.1.lt;have:=q3.size;omega,q3.size⟩
 have HQ1:Hid (∀ V:World,(∀ x,T2≤x→x<w.heap.size∨W1.heap.size≤x→x<w2.heap.size→V.heap[x]?=w2.heap[x]?)→w2.heap.size≤V.heap.size→rowQ8 T2 V.heap.size 67 g' n' k' (quP C.ho.c3 C.ho.qu (ev3 11 1 0)) V):=q1
 have HK2:Hid (∀ q,q≠g4→q<w.heap.size→w2.heap[q]?=w.heap[q]?):=fun q h1 h2=>(q2 q h1 (Nat.lt_of_lt_of_le h2 hS1.2.2.size)).trans (hS1.2.2.block q h2)
 have HB2:Hid (Below B w w2):=(hS1.2.2.mono (by have:=HG4.out;omega)).trans (q3.mono (by have:=HG4.out;omega))
 have HZ1:Hid (w.heap.size+1<W1.heap.size):=hS1.2.1.lt
 clear q1 q2 q3 hS1 HSY
 go_wp2_with (first
  | (refine wpList_store_mid (P:=Tryz.prog) rfl 41 (.tmp 2) (.tmp 13) rfl (w.heap.size+1) 0 (coL { C1 with ho:=postHo C1.ho (ev3 11 1 0) } (qSl s g' n' k')).toArray rfl rfl (H2.out.1.there 0 _ (by rw[List.size_toArray,coL_len];decide)) (szC41A _ _) (coL_one _ _) ?_;generalize hW4:World.setCells w2 (w.heap.size+1) 0 _=w4;have H4:Hid (blk w4 (w.heap.size+1) (coL { C1 with ho:=postHo C1.ho (ev3 11 1 0) } (qSl s g' n' k')) 41∧(∀ q,q≠w.heap.size+1→w4.heap[q]?=w2.heap[q]?)∧w4.heap.size=w2.heap.size∧Below B w w4):=(by rw[← hW4];exact⟨H2.out.1.core rfl _ _,fun q h1=>setCells_other _ q h1 _ _ _,setCells_size ..,setCells_below (by have:=HG4.out;omega) 0 _ HB2.out⟩);clear hW4))
 have hL:=run_loadVar_mid (P:=Tryz.prog) w4 (w.heap.size+1) 0 41 _ _ H4.out.1.load Tryz.underlying41 rfl (szC41L _ _)
 refine bodyPost_ret (v:=.agg (coL { C1 with ho:=postHo C1.ho (ev3 11 1 0) } (qSl s g' n' k')).toArray) (results_cell Tryz.results34 _ w4 (w.heap.size+1) _ rfl hL) rfl ?_
 have hz:=H4.out.2.2.1
 have hz2:=H2.out.2.1
 have hz3:=HZ1.out
 have hg:=HG4.out
 have hq:=HQ1.out w4 (fun q h1 h2 h3=>H4.out.2.1 q (by omega)) (by omega)
 have hsp:=HSP.out.post (V:=w4) hq (fun q h1 h2=>(H4.out.2.1 q (by omega)).trans (HK2.out q (by omega) (by omega))) (by omega)
 exact⟨qSl s g' n' k',by rw[HE.out.1],by rw[HE.out.2];exact hsp,H4.out.2.2.2⟩
set_option maxHeartbeats 8000000 in
set_option maxRecDepth 20000 in
theorem dr_old (w:World) (C:Co) (s:Sl) (B T0 T1 T2:Nat) (h:spS B T0 T1 T2 C.ho s w) (hn:s.n4≤1000) (hlo:0≤C.ho.lo∧C.ho.lo≤100000) (ep:(C.p == 7)=true) (ea:C.ak=true) (hR:rstC C = { C with ho:=postHo C.ho (ev3 11 0 0) }) :
  Calls Tryz.prog 34 #[.agg (coL C s).toArray] w fun o w'=>∃ s',o = .returned (.agg (coL (rstC C) s').toArray)∧spS B T0 T1 T2 (rstC C).ho s' w'∧Below B w w':=by
 have H0:Hid (dcS w C s ((w.alloc (.cells (coL C s).toArray 41)).alloc (.cells #[.int .i64 0,.int .i64 0,.int .i64 0,.bool false,.bool false,.bool false,.bool false,.bool false,.int .i64 0,.int .i64 0,.int .i64 0,.int .i64 0,.int .i64 0,.int .i64 0,.int .i64 0,.slice none 0 0,.slice none 0 0,.slice none 0 0,.slice none 0 0,.int .i64 0,.int .i64 0] 41))):=dcS.new w C s
 obtain⟨C1,e1⟩ : ∃ C1:Co,C1=C:=⟨_,rfl⟩
 obtain⟨g4,ha,hQ⟩:=h.q
 have ho:=h.o
 have hg4:g4<w.heap.size∧T2≤g4:=by obtain⟨rs,h1,_,_,h4,_⟩:=hQ;exact⟨h4,h1.lt.1⟩
 have HG4:Hid (g4<w.heap.size∧T2≤g4∧B≤T2∧T2≤w.heap.size):=⟨hg4.1,hg4.2,by omega,ho.2.2.2⟩
 have HSY:Hid (∀ W,Below w.heap.size w W→Calls Tryz.prog 77 #[.agg (coL C1 s).toArray,.int .i64 11,.int .i64 0,.int .i64 0] W fun o w'=>∃ g' n' k',o = .returned (.agg (coL { C1 with ho:=postHo C1.ho (ev3 11 0 0) } (qSl s g' n' k')).toArray)∧(∀ V:World,(∀ x,T2≤x→x<w.heap.size∨W.heap.size≤x→x<w'.heap.size→V.heap[x]?=w'.heap[x]?)→w'.heap.size≤V.heap.size→rowQ8 T2 V.heap.size 67 g' n' k' (quP C.ho.c3 C.ho.qu (ev3 11 0 0)) V)∧(∀ q,q≠g4→q<W.heap.size→w'.heap[q]?=W.heap[q]?)∧Below T2 W w'):=fun W hW=>by
  have:=l4say_q W C1 s T2 w.heap.size g4 11 0 0 ha (by rw[e1];exact hQ.keep fun q h1 h2=>hW.block q h2) ho.2.2.2 hW.size hn (by rw[e1];exact hlo)
  rw[e1] at this ⊢
  exact this
 have HSP:Hid (spS B T0 T1 T2 C.ho s w):=h
 have HE:Hid (rstC C = { C1 with ho:=postHo C1.ho (ev3 11 0 0) }∧(rstC C).ho=postHo C.ho (ev3 11 0 0)):=by rw[hR,e1];exact⟨rfl,rfl⟩
 have y0:=H0.out.p.cell 0 (.int .i64 C.p) rfl
 have y7:=H0.out.p.cell 7 (.bool C.ak) rfl
 rw[ea] at y7
 generalize hW0:((w.alloc (.cells (coL C s).toArray 41)).alloc (.cells #[.int .i64 0,.int .i64 0,.int .i64 0,.bool false,.bool false,.bool false,.bool false,.bool false,.int .i64 0,.int .i64 0,.int .i64 0,.int .i64 0,.int .i64 0,.int .i64 0,.int .i64 0,.slice none 0 0,.slice none 0 0,.slice none 0 0,.slice none 0 0,.int .i64 0,.int .i64 0] 41))=W0 at *
 have hS1:blk W0 w.heap.size (coL C1 s) 41∧blk W0 (w.heap.size+1) Z21 41∧Below w.heap.size w W0:=⟨by rw[e1];exact H0.out.p,H0.out.r,H0.out.b⟩
 clear h ha hQ ho hg4 hR e1 hn hlo H0
 go_enter Tryz.func34,Tryz.ntmps34
 go_wp2_with (first
  | (refine wpList_load_mid (P:=Tryz.prog) rfl 41 (.tmp 1) rfl w.heap.size 0 rfl (coL C1 s) _ hS1.1.load Tryz.underlying41 rfl (szC41L _ _) ?_))
 generalize hW1:W0=W1 at *
 clear hW1 hW0 y0 y7
 refine (HSY.out _ hS1.2.2).mono ?_
 rintro o w2 ⟨g',n',k',rfl,q1,q2,q3⟩
 have H2:Hid (blk w2 (w.heap.size+1) Z21 41∧w.heap.size+2≤w2.heap.size∧W1.heap.size≤w2.heap.size):=⟨hS1.2.1.kept (q2 _ (by have:=HG4.out;omega) hS1.2.1.lt),by have:=hS1.2.1.lt;have:=q3.size;omega,q3.size⟩
 have HQ1:Hid (∀ V:World,(∀ x,T2≤x→x<w.heap.size∨W1.heap.size≤x→x<w2.heap.size→V.heap[x]?=w2.heap[x]?)→w2.heap.size≤V.heap.size→rowQ8 T2 V.heap.size 67 g' n' k' (quP C.ho.c3 C.ho.qu (ev3 11 0 0)) V):=q1
 have HK2:Hid (∀ q,q≠g4→q<w.heap.size→w2.heap[q]?=w.heap[q]?):=fun q h1 h2=>(q2 q h1 (Nat.lt_of_lt_of_le h2 hS1.2.2.size)).trans (hS1.2.2.block q h2)
 have HB2:Hid (Below B w w2):=(hS1.2.2.mono (by have:=HG4.out;omega)).trans (q3.mono (by have:=HG4.out;omega))
 have HZ1:Hid (w.heap.size+1<W1.heap.size):=hS1.2.1.lt
 clear q1 q2 q3 hS1 HSY
 go_wp2_with (first
  | (refine wpList_store_mid (P:=Tryz.prog) rfl 41 (.tmp 2) (.tmp 15) rfl (w.heap.size+1) 0 (coL { C1 with ho:=postHo C1.ho (ev3 11 0 0) } (qSl s g' n' k')).toArray rfl rfl (H2.out.1.there 0 _ (by rw[List.size_toArray,coL_len];decide)) (szC41A _ _) (coL_one _ _) ?_;generalize hW4:World.setCells w2 (w.heap.size+1) 0 _=w4;have H4:Hid (blk w4 (w.heap.size+1) (coL { C1 with ho:=postHo C1.ho (ev3 11 0 0) } (qSl s g' n' k')) 41∧(∀ q,q≠w.heap.size+1→w4.heap[q]?=w2.heap[q]?)∧w4.heap.size=w2.heap.size∧Below B w w4):=(by rw[← hW4];exact⟨H2.out.1.core rfl _ _,fun q h1=>setCells_other _ q h1 _ _ _,setCells_size ..,setCells_below (by have:=HG4.out;omega) 0 _ HB2.out⟩);clear hW4))
 have hL:=run_loadVar_mid (P:=Tryz.prog) w4 (w.heap.size+1) 0 41 _ _ H4.out.1.load Tryz.underlying41 rfl (szC41L _ _)
 refine bodyPost_ret (v:=.agg (coL { C1 with ho:=postHo C1.ho (ev3 11 0 0) } (qSl s g' n' k')).toArray) (results_cell Tryz.results34 _ w4 (w.heap.size+1) _ rfl hL) rfl ?_
 have hz:=H4.out.2.2.1
 have hz2:=H2.out.2.1
 have hz3:=HZ1.out
 have hg:=HG4.out
 have hq:=HQ1.out w4 (fun q h1 h2 h3=>H4.out.2.1 q (by omega)) (by omega)
 have hsp:=HSP.out.post (V:=w4) hq (fun q h1 h2=>(H4.out.2.1 q (by omega)).trans (HK2.out q (by omega) (by omega))) (by omega)
 exact⟨qSl s g' n' k',by rw[HE.out.1],by rw[HE.out.2];exact hsp,H4.out.2.2.2⟩
set_option maxHeartbeats 8000000 in
set_option maxRecDepth 20000 in
theorem dr_no (w:World) (C:Co) (s:Sl) (B T0 T1 T2:Nat) (h:spS B T0 T1 T2 C.ho s w) (hn:s.n4≤1000) (hlo:0≤C.ho.lo∧C.ho.lo≤100000) (ep:(C.p == 7)=false) (hR:rstC C = { C with ho:=postHo C.ho (ev3 11 0 0) }) :
  Calls Tryz.prog 34 #[.agg (coL C s).toArray] w fun o w'=>∃ s',o = .returned (.agg (coL (rstC C) s').toArray)∧spS B T0 T1 T2 (rstC C).ho s' w'∧Below B w w':=by
 have H0:Hid (dcS w C s ((w.alloc (.cells (coL C s).toArray 41)).alloc (.cells #[.int .i64 0,.int .i64 0,.int .i64 0,.bool false,.bool false,.bool false,.bool false,.bool false,.int .i64 0,.int .i64 0,.int .i64 0,.int .i64 0,.int .i64 0,.int .i64 0,.int .i64 0,.slice none 0 0,.slice none 0 0,.slice none 0 0,.slice none 0 0,.int .i64 0,.int .i64 0] 41))):=dcS.new w C s
 obtain⟨C1,e1⟩ : ∃ C1:Co,C1=C:=⟨_,rfl⟩
 obtain⟨g4,ha,hQ⟩:=h.q
 have ho:=h.o
 have hg4:g4<w.heap.size∧T2≤g4:=by obtain⟨rs,h1,_,_,h4,_⟩:=hQ;exact⟨h4,h1.lt.1⟩
 have HG4:Hid (g4<w.heap.size∧T2≤g4∧B≤T2∧T2≤w.heap.size):=⟨hg4.1,hg4.2,by omega,ho.2.2.2⟩
 have HSY:Hid (∀ W,Below w.heap.size w W→Calls Tryz.prog 77 #[.agg (coL C1 s).toArray,.int .i64 11,.int .i64 0,.int .i64 0] W fun o w'=>∃ g' n' k',o = .returned (.agg (coL { C1 with ho:=postHo C1.ho (ev3 11 0 0) } (qSl s g' n' k')).toArray)∧(∀ V:World,(∀ x,T2≤x→x<w.heap.size∨W.heap.size≤x→x<w'.heap.size→V.heap[x]?=w'.heap[x]?)→w'.heap.size≤V.heap.size→rowQ8 T2 V.heap.size 67 g' n' k' (quP C.ho.c3 C.ho.qu (ev3 11 0 0)) V)∧(∀ q,q≠g4→q<W.heap.size→w'.heap[q]?=W.heap[q]?)∧Below T2 W w'):=fun W hW=>by
  have:=l4say_q W C1 s T2 w.heap.size g4 11 0 0 ha (by rw[e1];exact hQ.keep fun q h1 h2=>hW.block q h2) ho.2.2.2 hW.size hn (by rw[e1];exact hlo)
  rw[e1] at this ⊢
  exact this
 have HSP:Hid (spS B T0 T1 T2 C.ho s w):=h
 have HE:Hid (rstC C = { C1 with ho:=postHo C1.ho (ev3 11 0 0) }∧(rstC C).ho=postHo C.ho (ev3 11 0 0)):=by rw[hR,e1];exact⟨rfl,rfl⟩
 have y0:=H0.out.p.cell 0 (.int .i64 C.p) rfl
 have y7:=H0.out.p.cell 7 (.bool C.ak) rfl
 generalize hW0:((w.alloc (.cells (coL C s).toArray 41)).alloc (.cells #[.int .i64 0,.int .i64 0,.int .i64 0,.bool false,.bool false,.bool false,.bool false,.bool false,.int .i64 0,.int .i64 0,.int .i64 0,.int .i64 0,.int .i64 0,.int .i64 0,.int .i64 0,.slice none 0 0,.slice none 0 0,.slice none 0 0,.slice none 0 0,.int .i64 0,.int .i64 0] 41))=W0 at *
 have hS1:blk W0 w.heap.size (coL C1 s) 41∧blk W0 (w.heap.size+1) Z21 41∧Below w.heap.size w W0:=⟨by rw[e1];exact H0.out.p,H0.out.r,H0.out.b⟩
 clear h ha hQ ho hg4 hR e1 hn hlo H0
 go_enter Tryz.func34,Tryz.ntmps34
 go_wp2_with (first
  | (refine wpList_load_mid (P:=Tryz.prog) rfl 41 (.tmp 1) rfl w.heap.size 0 rfl (coL C1 s) _ hS1.1.load Tryz.underlying41 rfl (szC41L _ _) ?_))
 generalize hW1:W0=W1 at *
 clear hW1 hW0 y0 y7
 refine (HSY.out _ hS1.2.2).mono ?_
 rintro o w2 ⟨g',n',k',rfl,q1,q2,q3⟩
 have H2:Hid (blk w2 (w.heap.size+1) Z21 41∧w.heap.size+2≤w2.heap.size∧W1.heap.size≤w2.heap.size):=⟨hS1.2.1.kept (q2 _ (by have:=HG4.out;omega) hS1.2.1.lt),by have:=hS1.2.1.lt;have:=q3.size;omega,q3.size⟩
 have HQ1:Hid (∀ V:World,(∀ x,T2≤x→x<w.heap.size∨W1.heap.size≤x→x<w2.heap.size→V.heap[x]?=w2.heap[x]?)→w2.heap.size≤V.heap.size→rowQ8 T2 V.heap.size 67 g' n' k' (quP C.ho.c3 C.ho.qu (ev3 11 0 0)) V):=q1
 have HK2:Hid (∀ q,q≠g4→q<w.heap.size→w2.heap[q]?=w.heap[q]?):=fun q h1 h2=>(q2 q h1 (Nat.lt_of_lt_of_le h2 hS1.2.2.size)).trans (hS1.2.2.block q h2)
 have HB2:Hid (Below B w w2):=(hS1.2.2.mono (by have:=HG4.out;omega)).trans (q3.mono (by have:=HG4.out;omega))
 have HZ1:Hid (w.heap.size+1<W1.heap.size):=hS1.2.1.lt
 clear q1 q2 q3 hS1 HSY
 go_wp2_with (first
  | (refine wpList_store_mid (P:=Tryz.prog) rfl 41 (.tmp 2) (.tmp 15) rfl (w.heap.size+1) 0 (coL { C1 with ho:=postHo C1.ho (ev3 11 0 0) } (qSl s g' n' k')).toArray rfl rfl (H2.out.1.there 0 _ (by rw[List.size_toArray,coL_len];decide)) (szC41A _ _) (coL_one _ _) ?_;generalize hW4:World.setCells w2 (w.heap.size+1) 0 _=w4;have H4:Hid (blk w4 (w.heap.size+1) (coL { C1 with ho:=postHo C1.ho (ev3 11 0 0) } (qSl s g' n' k')) 41∧(∀ q,q≠w.heap.size+1→w4.heap[q]?=w2.heap[q]?)∧w4.heap.size=w2.heap.size∧Below B w w4):=(by rw[← hW4];exact⟨H2.out.1.core rfl _ _,fun q h1=>setCells_other _ q h1 _ _ _,setCells_size ..,setCells_below (by have:=HG4.out;omega) 0 _ HB2.out⟩);clear hW4))
 have hL:=run_loadVar_mid (P:=Tryz.prog) w4 (w.heap.size+1) 0 41 _ _ H4.out.1.load Tryz.underlying41 rfl (szC41L _ _)
 refine bodyPost_ret (v:=.agg (coL { C1 with ho:=postHo C1.ho (ev3 11 0 0) } (qSl s g' n' k')).toArray) (results_cell Tryz.results34 _ w4 (w.heap.size+1) _ rfl hL) rfl ?_
 have hz:=H4.out.2.2.1
 have hz2:=H2.out.2.1
 have hz3:=HZ1.out
 have hg:=HG4.out
 have hq:=HQ1.out w4 (fun q h1 h2 h3=>H4.out.2.1 q (by omega)) (by omega)
 have hsp:=HSP.out.post (V:=w4) hq (fun q h1 h2=>(H4.out.2.1 q (by omega)).trans (HK2.out q (by omega) (by omega))) (by omega)
 exact⟨qSl s g' n' k',by rw[HE.out.1],by rw[HE.out.2];exact hsp,H4.out.2.2.2⟩
theorem l4doRestart_any (w:World) (C:Co) (s:Sl) (B T0 T1 T2:Nat) (h:spS B T0 T1 T2 C.ho s w) (hn:s.n4≤1000) (hlo:0≤C.ho.lo∧C.ho.lo≤100000) :
  Calls Tryz.prog 34 #[.agg (coL C s).toArray] w fun o w'=>∃ s',o = .returned (.agg (coL (rstC C) s').toArray)∧spS B T0 T1 T2 (rstC C).ho s' w'∧Below B w w':=by
 by_cases hp:(C.p == 7)=true
 ·cases ha:C.ak
  ·exact dr_yes w C s B T0 T1 T2 h hn hlo hp ha (by simp[rstC,rstT,hp,ha])
  ·exact dr_old w C s B T0 T1 T2 h hn hlo hp ha (by
    unfold rstC rstT
    rw[hp,ha]
    obtain⟨p,ct,lv,wk,ov,ow,tx,ak,rn,te,re,H⟩:=C
    simp only[] at ha
    subst ha
    rfl)
 ·have hp':(C.p == 7)=false:=by simpa using hp
  exact dr_no w C s B T0 T1 T2 h hn hlo hp' (by
   unfold rstC rstT
   rw[hp']
   obtain⟨p,ct,lv,wk,ov,ow,tx,ak,rn,te,re,H⟩:=C
   cases ak <;> rfl)
theorem okCo.lo {C:Co} (h:okCo C):0≤C.ho.lo∧C.ho.lo≤100000:=⟨h.h.l0,h.h.l1⟩
set_option maxHeartbeats 8000000 in
set_option maxRecDepth 20000 in
theorem specRestart_any (w:World) (C:Co) (s:Sl) (T:Co) (hR:okRelC C (rstC C) T) (h:isHo w C.ho s) (hn:C.ho.le 1048576) :
  Calls Tryz.prog 9 #[.agg (coL C s).toArray] w fun o w'=>∃ s',o = .returned (.agg (coL T s').toArray)∧isHo w' T.ho s'∧Below w.heap.size w w':=by
 have H0:Hid (dcS w C s ((w.alloc (.cells (coL C s).toArray 41)).alloc (.cells [.int .i64 0,.int .i64 0,.int .i64 0,.bool false,.bool false,.bool false,.bool false,.bool false,.int .i64 0,.int .i64 0,.int .i64 0,.int .i64 0,.int .i64 0,.int .i64 0,.int .i64 0,.slice none 0 0,.slice none 0 0,.slice none 0 0,.slice none 0 0,.int .i64 0,.int .i64 0].toArray 41))):=dcS.new w C s
 have HR:Hid (okRelC C (rstC C) T):=hR
 clear hR
 by_cases hok:okCo C
 ·have HV:Hid (∀ W,Below w.heap.size w W→Calls Tryz.prog 33 #[.agg (coL C s).toArray] W fun o w'=>o = .returned (.bool true)∧Below W.heap.size W w'):=fun W hW=>okLC W C s (h.below hW) hn hok
  have HC:Hid (∀ W,Below w.heap.size w W→Calls Tryz.prog 35 #[.agg (coL C s).toArray] W fun o w'=>∃ s' T0 T1 T2,o = .returned (.agg (coL C s').toArray)∧spS (W.heap.size+2) T0 T1 T2 C.ho s' w'∧s'.n2=C.ho.bx.length∧s'.n4=C.ho.qu.length∧Below W.heap.size W w'):=fun W hW=>l4copy_any W C s (h.below hW) hn
  have HOK:Hid (okCo C):=hok
  clear h hn hok
  go_enter Tryz.func9,Tryz.ntmps9
  go_wp2_with (first
   | (refine wpList_load_mid (P:=Tryz.prog) rfl 41 (.tmp 1) rfl w.heap.size 0 rfl (coL C s) _ H0.out.p.load Tryz.underlying41 rfl (szC41L C s) ?_))
  refine (HV.out _ H0.out.b).mono ?_
  rintro o w1 ⟨rfl,hb1⟩
  have H1:Hid (dcS w C s w1):=H0.out.below hb1
  clear H0 hb1
  go_wp2_with (first
   | (refine wpList_load_mid (P:=Tryz.prog) rfl 41 (.tmp 1) rfl w.heap.size 0 rfl (coL C s) _ H1.out.p.load Tryz.underlying41 rfl (szC41L C s) ?_))
  refine (HC.out _ H1.out.b).mono ?_
  rintro o w2 ⟨s2,T0,T1,T2,rfl,e4,e2,e3,hb2⟩
  have hn4:s2.n4≤1000:=by rw[e3];exact HOK.out.h.n4
  have HD:Hid (Calls Tryz.prog 34 #[.agg (coL C s2).toArray] w2 fun o w'=>∃ s',o = .returned (.agg (coL (rstC C) s').toArray)∧spS (w1.heap.size+2) T0 T1 T2 (rstC C).ho s' w'∧Below (w1.heap.size+2) w2 w'):=l4doRestart_any w2 C s2 (w1.heap.size+2) T0 T1 T2 e4 hn4 HOK.out.lo
  have H2:Hid (dcS w C s w2):=H1.out.below hb2
  have HZ2:Hid (w.heap.size+1<w1.heap.size):=H1.out.r.lt
  clear e2 e3 e4 hb2 hn4 H1 HC HV
  go_wp2_with fail
  refine HD.out.mono ?_
  rintro o w3 ⟨s3,rfl,q1,q2⟩
  have H3:Hid (blk w3 (w.heap.size+1) Z21 41):=H2.out.r.kept (q2.block _ (by have:=HZ2.out;omega))
  have HB3:Hid (Below w.heap.size w w3):=H2.out.b.trans (q2.mono (by have:=HZ2.out;omega))
  have HST:Hid (spS (w1.heap.size+2) T0 T1 T2 (rstC C).ho s3 w3):=q1
  clear q1 q2 H2 HD
  go_wp2_with (first
   | (refine wpList_store_mid (P:=Tryz.prog) rfl 41 (.tmp 2) (.tmp 9) rfl (w.heap.size+1) 0 (coL (rstC C) s3).toArray rfl rfl (H3.out.there 0 _ (by rw[List.size_toArray,coL_len];decide)) (szC41A (rstC C) s3) (coL_one (rstC C) s3) ?_;generalize hW8:World.setCells _ (w.heap.size+1) 0 _=w8;have HW8:Hid (_=w8):=hW8;clear hW8))
  have e8:=HW8.out
  have hF:blk w8 (w.heap.size+1) (coL (rstC C) s3) 41:=by
   rw[← e8]
   exact H3.out.core rfl _ _
  have hL:=run_loadVar_mid (P:=Tryz.prog) w8 (w.heap.size+1) 0 41 _ _ hF.load Tryz.underlying41 rfl (szC41L (rstC C) s3)
  refine bodyPost_ret (v:=.agg (coL (rstC C) s3).toArray) (results_cell Tryz.results9 _ w8 (w.heap.size+1) _ rfl hL) rfl ?_
  have hR:=HR.out.yes HOK.out
  subst hR
  refine⟨s3,rfl,(HST.out.st (fun x h1 h2=>?_) ?_).is,?_⟩
  ·rw[← e8]
   exact setCells_other _ x (by have:=HZ2.out;omega) _ _ _
  ·rw[← e8,setCells_size]
   exact Nat.le_refl _
  ·rw[← e8]
   exact setCells_below (by omega) 0 _ HB3.out
 ·have HV:Hid (∀ W,Below w.heap.size w W→Calls Tryz.prog 33 #[.agg (coL C s).toArray] W fun o w'=>o = .returned (.bool false)∧Below W.heap.size W w'):=fun W hW=>badLC W C s (h.below hW) hn hok
  have HOK:Hid (¬ okCo C):=hok
  clear h hn hok
  go_enter Tryz.func9,Tryz.ntmps9
  go_wp2_with (first
   | (refine wpList_load_mid (P:=Tryz.prog) rfl 41 (.tmp 1) rfl w.heap.size 0 rfl (coL C s) _ H0.out.p.load Tryz.underlying41 rfl (szC41L C s) ?_))
  refine (HV.out _ H0.out.b).mono ?_
  rintro o w1 ⟨rfl,hb1⟩
  have H1:Hid (dcS w C s w1):=H0.out.below hb1
  clear H0 hb1
  go_wp2_with (first
   | (refine wpList_store_mid (P:=Tryz.prog) rfl 41 (.tmp 2) (.tmp 6) rfl (w.heap.size+1) 0 [.int .i64 0,.int .i64 0,.int .i64 0,.bool false,.bool false,.bool false,.bool false,.bool false,.int .i64 0,.int .i64 0,.int .i64 0,.int .i64 0,.int .i64 0,.int .i64 0,.int .i64 0,.slice none 0 0,.slice none 0 0,.slice none 0 0,.slice none 0 0,.int .i64 0,.int .i64 0].toArray rfl rfl (H1.out.r.there 0 21 (by simp[Z21])) szC41 (all_oneCell_toArray (by simp[Value.oneCell'])) ?_;generalize hW8:World.setCells _ (w.heap.size+1) 0 _=w8;have HW8:Hid (_=w8):=hW8;clear hW8))
  have e8:=HW8.out
  have hF:blk w8 (w.heap.size+1) (coL zCo zSl) 41:=by
   rw[← e8]
   exact H1.out.r.core rfl zCo zSl
  have hL:=run_loadVar_mid (P:=Tryz.prog) w8 (w.heap.size+1) 0 41 _ _ hF.load Tryz.underlying41 rfl (szC41L zCo zSl)
  refine bodyPost_ret (v:=.agg (coL zCo zSl).toArray) (results_cell Tryz.results9 _ w8 (w.heap.size+1) _ rfl hL) rfl ?_
  have hR:=HR.out.no HOK.out
  subst hR
  refine⟨zSl,rfl,zHo_is _,?_⟩
  rw[← e8]
  exact setCells_below (by omega) 0 _ H1.out.b
end Go.Proofs.YtkfcfigbgmbaiaaGreat
