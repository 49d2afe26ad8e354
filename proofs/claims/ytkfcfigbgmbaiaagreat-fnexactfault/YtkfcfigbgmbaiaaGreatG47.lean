import Derived.Test.YtkfcfigbgmbaiaaGreatG45
import Derived.Test.YtkfcfigbgmbaiaaGreatNP
namespace Go.Proofs.YtkfcfigbgmbaiaaGreat
open Go.RowKit
set_option linter.unusedVariables false
theorem blk.host {w:World} {b:Nat} {C:Co} {s:Sl} (h:blk w b (coL C s) 41) (H:Ho) (s':Sl):blk (w.setCells b 11 (hoL H s')) b (coL { C with ho:=H } s') 41:=by
 have h':blk w b (coM C++hoL C.ho s++[]) 41:=by rw[List.append_nil,← coL_M];exact h
 have:=blk.put (coM C) (hoL C.ho s) [] (hoL H s') h' rfl
 rw[List.append_nil] at this
 exact this
theorem sz39A (H:Ho) (s:Sl):(Tryz.prog.info? 39).map (·.size)=some (hoL H s).toArray.size:=sz39h H s
theorem blk.core {w:World} {b:Nat} {l:List Value} (h:blk w b l 41) (hl:l.length=21) (C:Co) (s:Sl):blk (w.setCells b 0 (coL C s)) b (coL C s) 41:=by
 have:=blk.put [] l [] (coL C s) (w:=w) (b:=b) (T:=41) (by simpa using h) (by rw[hl,coL_len])
 simpa using this
set_option maxHeartbeats 8000000 in
set_option maxRecDepth 20000 in
theorem l4say_q (w:World) (C:Co) (s:Sl) (B T g4:Nat) (x y z:Int) (ha:s.a4=some ⟨g4,0,none⟩) (hQ:rowQ8 B T 67 g4 s.n4 s.k4 C.ho.qu w) (hB:B≤T) (hT:T≤w.heap.size) (hn:s.n4≤1000) (hlo:0≤C.ho.lo∧C.ho.lo≤100000) :
  Calls Tryz.prog 77 #[.agg (coL C s).toArray,.int .i64 x,.int .i64 y,.int .i64 z] w fun o w'=>∃ g' n' k',o = .returned (.agg (coL { C with ho:=postHo C.ho (ev3 x y z) } (qSl s g' n' k')).toArray)∧(∀ V:World,(∀ x,B≤x→x<T∨w.heap.size≤x→x<w'.heap.size→V.heap[x]?=w'.heap[x]?)→w'.heap.size≤V.heap.size→rowQ8 B V.heap.size 67 g' n' k' (quP C.ho.c3 C.ho.qu (ev3 x y z)) V)∧(∀ q,q≠g4→q<w.heap.size→w'.heap[q]?=w.heap[q]?)∧Below B w w':=by
 have H0:Hid (dcS w C s ((w.alloc (.cells (coL C s).toArray 41)).alloc (.cells Z21.toArray 41))):=dcS.new w C s
 have HG4:Hid (g4<T):=by obtain⟨rs,_,_,_,h4,_⟩:=hQ;exact h4
 have HSY:Hid (∀ W,Below w.heap.size w W→Calls Tryz.prog 137 #[.agg (hoL C.ho s).toArray,.int .i64 x,.int .i64 y,.int .i64 z] W fun o w'=>∃ g' n' k',o = .returned (.agg (hoL (postHo C.ho (ev3 x y z)) (qSl s g' n' k')).toArray)∧(∀ V:World,(∀ x,B≤x→x<T∨W.heap.size≤x→x<w'.heap.size→V.heap[x]?=w'.heap[x]?)→w'.heap.size≤V.heap.size→rowQ8 B V.heap.size 67 g' n' k' (quP C.ho.c3 C.ho.qu (ev3 x y z)) V)∧(∀ q,q≠g4→q<W.heap.size→w'.heap[q]?=W.heap[q]?)∧Below B W w'):=fun W hW=>l3say_q W C.ho s B T g4 x y z ha (hQ.keep fun q h1 h2=>hW.block q (by omega)) (by have:=hW.size;omega) hn hlo
 have HBT:Hid (B≤T∧T≤w.heap.size):=⟨hB,hT⟩
 clear ha hQ hB hT hn hlo;go_enter Tryz.func77,Tryz.ntmps77
 go_wp2_with (first
  | (refine wpList_load_mid (P:=Tryz.prog) rfl 39 (.tmp 9) rfl w.heap.size 11 rfl (hoL C.ho s) _ H0.out.p.hostAt Tryz.underlying39 rfl (sz39h C.ho s) ?_))
 refine (HSY.out _ H0.out.b).mono ?_
 rintro o w2 ⟨g',n',k',rfl,q1,q2,q3⟩;have HQ1:Hid (∀ V:World,(∀ x,B≤x→x<T∨w.heap.size+2≤x→x<w2.heap.size→V.heap[x]?=w2.heap[x]?)→w2.heap.size≤V.heap.size→rowQ8 B V.heap.size 67 g' n' k' (quP C.ho.c3 C.ho.qu (ev3 x y z)) V):=by
  intro V h1 h2;refine q1 V (fun q h3 h4 h5=>h1 q h3 ?_ h5) h2
  simpa using h4
 have H2:Hid (blk w2 w.heap.size (coL C s) 41∧blk w2 (w.heap.size+1) Z21 41):=⟨H0.out.p.kept (q2 _ (by have:=HG4.out;have:=HBT.out;omega) H0.out.p.lt),H0.out.r.kept (q2 _ (by have:=HG4.out;have:=HBT.out;omega) H0.out.r.lt)⟩
 have HK2:Hid (∀ q,q≠g4→q<w.heap.size→w2.heap[q]?=w.heap[q]?):=fun q h1 h2=>(q2 q h1 (Nat.lt_of_lt_of_le h2 H0.out.b.size)).trans (H0.out.b.block q h2)
 have HB2:Hid (Below B w w2∧w.heap.size+2≤w2.heap.size):=⟨(H0.out.b.mono (by have:=HBT.out;omega)).trans q3,by have:=H0.out.r.lt;have:=q3.size;omega⟩
 clear q1 q2 q3 H0 HSY;go_wp2_with (first
  | (refine wpList_store_mid (P:=Tryz.prog) rfl 39 (.tmp 15) (.tmp 14) rfl w.heap.size 11 (hoL (postHo C.ho (ev3 x y z)) (qSl s g' n' k')).toArray rfl rfl (H2.out.1.there 11 _ (by rw[List.size_toArray,hoL_len,coL_len];decide)) (sz39A _ _) (hoL_one _ _) ?_;generalize hW3:World.setCells w2 w.heap.size 11 _=w3;have H3:Hid (blk w3 w.heap.size (coL { C with ho:=postHo C.ho (ev3 x y z) } (qSl s g' n' k')) 41∧blk w3 (w.heap.size+1) Z21 41∧(∀ q,q≠w.heap.size→w3.heap[q]?=w2.heap[q]?)∧w3.heap.size=w2.heap.size∧Below B w w3):=(by rw[← hW3];exact⟨H2.out.1.host _ _,H2.out.2.kept (setCells_other _ _ (by omega) _ _ _),fun q hq=>setCells_other _ q hq _ _ _,setCells_size ..,setCells_below (by have:=HBT.out;omega) 11 _ HB2.out.1⟩);clear hW3)
  | (refine wpList_load_mid (P:=Tryz.prog) rfl 41 (.tmp 4) rfl w.heap.size 0 rfl (coL { C with ho:=postHo C.ho (ev3 x y z) } (qSl s g' n' k')) _ H3.out.1.load Tryz.underlying41 rfl (szC41L _ _) ?_)
  | (refine wpList_store_mid (P:=Tryz.prog) rfl 41 (.tmp 8) (.tmp 16) rfl (w.heap.size+1) 0 (coL { C with ho:=postHo C.ho (ev3 x y z) } (qSl s g' n' k')).toArray rfl rfl (H3.out.2.1.there 0 _ (by rw[List.size_toArray,coL_len];decide)) (szC41A _ _) (coL_one _ _) ?_;generalize hW4:World.setCells w3 (w.heap.size+1) 0 _=w4;have H4:Hid (blk w4 (w.heap.size+1) (coL { C with ho:=postHo C.ho (ev3 x y z) } (qSl s g' n' k')) 41∧(∀ q,q≠w.heap.size→q≠w.heap.size+1→w4.heap[q]?=w2.heap[q]?)∧w4.heap.size=w2.heap.size∧Below B w w4):=(by rw[← hW4];exact⟨H3.out.2.1.core rfl _ _,fun q h1 h2=>(setCells_other _ q h2 _ _ _).trans (H3.out.2.2.1 q h1),(setCells_size ..).trans H3.out.2.2.2.1,setCells_below (by have:=HBT.out;omega) 0 _ H3.out.2.2.2.2⟩);clear hW4))
 have hL:=run_loadVar_mid (P:=Tryz.prog) w4 (w.heap.size+1) 0 41 _ _ H4.out.1.load Tryz.underlying41 rfl (szC41L _ _)
 refine bodyPost_ret (v:=.agg (coL { C with ho:=postHo C.ho (ev3 x y z) } (qSl s g' n' k')).toArray) (results_cell Tryz.results77 _ w4 (w.heap.size+1) _ rfl hL) rfl ?_
 have hz:=H4.out.2.2.1
 have hz2:=HB2.out.2
 have hbt:=HBT.out
 refine⟨g',n',k',rfl,fun V h1 h2=>HQ1.out V (fun q h3 h4 h5=>(h1 q h3 (by omega) (by omega)).trans (H4.out.2.1 q (by omega) (by omega))) (by omega),fun q h1 h2=>(H4.out.2.1 q (by omega) (by omega)).trans (HK2.out q h1 h2),H4.out.2.2.2⟩
theorem spS.lower {B B' T0 T1 T2:Nat} {H:Ho} {s:Sl} {W:World} (h:spS B T0 T1 T2 H s W) (hb:B'≤B):spS B' T0 T1 T2 H s W:=by
 obtain⟨⟨gf,e1,h1a,h1b,h1⟩,hx,hr,hq,o1,o2,o3,o4⟩:=h
 exact⟨⟨gf,e1,by omega,h1b,h1⟩,hx,hr,hq,by omega,o2,o3,o4⟩
set_option maxHeartbeats 8000000 in
set_option maxRecDepth 20000 in
theorem l4copy_any (w:World) (C:Co) (s:Sl) (h:isHo w C.ho s) (hn:C.ho.le 1048576):Calls Tryz.prog 35 #[.agg (coL C s).toArray] w fun o w'=>∃ s' T0 T1 T2,o = .returned (.agg (coL C s').toArray)∧spS (w.heap.size+2) T0 T1 T2 C.ho s' w'∧s'.n2=C.ho.bx.length∧s'.n4=C.ho.qu.length∧Below w.heap.size w w':=by
 have H0:Hid (dcS w C s ((w.alloc (.cells (coL C s).toArray 41)).alloc (.cells Z21.toArray 41))):=dcS.new w C s
 have HCP:Hid (∀ W,Below w.heap.size w W→Calls Tryz.prog 67 #[.agg (hoL C.ho s).toArray] W fun o w'=>∃ s' T0 T1 T2,o = .returned (.agg (hoL C.ho s').toArray)∧spS (W.heap.size+3) T0 T1 T2 C.ho s' w'∧s'.n2=C.ho.bx.length∧s'.n4=C.ho.qu.length∧Below W.heap.size W w'):=fun W hW=>copyS W C.ho s (h.below hW) hn
 have HEC:Hid ({ C with ho:=C.ho }=C):=rfl
 clear h hn;go_enter Tryz.func35,Tryz.ntmps35
 go_wp2_with (first
  | (refine wpList_load_mid (P:=Tryz.prog) rfl 39 (.tmp 3) rfl w.heap.size 11 rfl (hoL C.ho s) _ H0.out.p.hostAt Tryz.underlying39 rfl (sz39h C.ho s) ?_))
 refine (HCP.out _ H0.out.b).mono ?_
 rintro o w2 ⟨s',T0,T1,T2,rfl,q1,q2,q3,q4⟩;have H2:Hid (blk w2 w.heap.size (coL C s) 41∧blk w2 (w.heap.size+1) Z21 41∧Below w.heap.size w w2):=⟨(H0.out.below q4).p,(H0.out.below q4).r,(H0.out.below q4).b⟩
 have HSP:Hid (spS (w.heap.size+2+3) T0 T1 T2 C.ho s' w2∧s'.n2=C.ho.bx.length∧s'.n4=C.ho.qu.length):=⟨by simpa using q1,q2,q3⟩
 clear q1 q2 q3 q4 H0 HCP;go_wp2_with (first
  | (refine wpList_store_mid (P:=Tryz.prog) rfl 39 (.tmp 6) (.tmp 5) rfl w.heap.size 11 (hoL C.ho s').toArray rfl rfl (H2.out.1.there 11 _ (by rw[List.size_toArray,hoL_len,coL_len];decide)) (sz39A _ _) (hoL_one _ _) ?_;generalize hW3:World.setCells w2 w.heap.size 11 _=w3;have H3:Hid (blk w3 w.heap.size (coL C s') 41∧blk w3 (w.heap.size+1) Z21 41∧(∀ q,q≠w.heap.size→w3.heap[q]?=w2.heap[q]?)∧w3.heap.size=w2.heap.size∧Below w.heap.size w w3):=(by rw[← hW3];exact⟨H2.out.1.host C.ho s',H2.out.2.1.kept (setCells_other _ _ (by omega) _ _ _),fun q hq=>setCells_other _ q hq _ _ _,setCells_size ..,setCells_below (Nat.le_refl _) 11 _ H2.out.2.2⟩);clear hW3)
  | (refine wpList_load_mid (P:=Tryz.prog) rfl 41 (.tmp 1) rfl w.heap.size 0 rfl (coL C s') _ H3.out.1.load Tryz.underlying41 rfl (szC41L _ _) ?_)
  | (refine wpList_store_mid (P:=Tryz.prog) rfl 41 (.tmp 2) (.tmp 7) rfl (w.heap.size+1) 0 (coL C s').toArray rfl rfl (H3.out.2.1.there 0 _ (by rw[List.size_toArray,coL_len];decide)) (szC41A _ _) (coL_one _ _) ?_;generalize hW4:World.setCells w3 (w.heap.size+1) 0 _=w4;have H4:Hid (blk w4 (w.heap.size+1) (coL C s') 41∧(∀ q,q≠w.heap.size→q≠w.heap.size+1→w4.heap[q]?=w2.heap[q]?)∧w4.heap.size=w2.heap.size∧Below w.heap.size w w4):=(by rw[← hW4];exact⟨H3.out.2.1.core rfl _ _,fun q h1 h2=>(setCells_other _ q h2 _ _ _).trans (H3.out.2.2.1 q h1),(setCells_size ..).trans H3.out.2.2.2.1,setCells_below (by omega) 0 _ H3.out.2.2.2.2⟩);clear hW4))
 have hL:=run_loadVar_mid (P:=Tryz.prog) w4 (w.heap.size+1) 0 41 _ _ H4.out.1.load Tryz.underlying41 rfl (szC41L _ _)
 refine bodyPost_ret (v:=.agg (coL C s').toArray) (results_cell Tryz.results35 _ w4 (w.heap.size+1) _ rfl hL) rfl ?_
 have hsp:=HSP.out.1.st (W':=w4) (fun q h1 h2=>H4.out.2.1 q (by omega) (by omega)) (by have:=H4.out.2.2.1;omega)
 exact⟨s',T0,T1,T2,rfl,hsp.lower (by omega),HSP.out.2.1,HSP.out.2.2,H4.out.2.2.2⟩
def zCo:Co:=⟨0,0,0,false,false,false,false,false,0,0,0,zHo⟩
def okRelC (C R T:Co):Prop:=(okCo C∧T=R)∨(¬ okCo C∧T=zCo)
theorem okRelC.yes {C R T:Co} (h:okRelC C R T) (hok:okCo C):T=R:=by
 rcases h with⟨_,e⟩|⟨h,_⟩
 ·exact e
 ·exact absurd hok h
theorem okRelC.no {C R T:Co} (h:okRelC C R T) (hok:¬ okCo C):T=zCo:=by
 rcases h with⟨h,_⟩|⟨_,e⟩
 ·exact absurd h hok
 ·exact e
structure itF (w:World) (C:Co) (s:Sl) (k:Int) (W:World):Prop where
 p:blk W w.heap.size (coL C s) 41
 x:blk W (w.heap.size+1) [.int .i64 k] 3
 r:blk W (w.heap.size+2) Z21 41
 b:Below w.heap.size w W
theorem itF.below {w:World} {C:Co} {s:Sl} {k:Int} {W W':World} (h:itF w C s k W) (hb:Below W.heap.size W W'):itF w C s k W':=⟨h.p.below hb,h.x.below hb,h.r.below hb,h.b.trans (hb.mono h.b.size)⟩
theorem itF.new (w:World) (C:Co) (s:Sl) (k:Int):itF w C s k (((w.alloc (.cells (coL C s).toArray 41)).alloc (.cells #[.int .i64 k] 3)).alloc (.cells #[.int .i64 0,.int .i64 0,.int .i64 0,.bool false,.bool false,.bool false,.bool false,.bool false,.int .i64 0,.int .i64 0,.int .i64 0,.int .i64 0,.int .i64 0,.int .i64 0,.int .i64 0,.slice none 0 0,.slice none 0 0,.slice none 0 0,.slice none 0 0,.int .i64 0,.int .i64 0] 41)):=by
 refine⟨((blk.new w _ 41).alloc _).alloc _,?_,?_,(((Below.refl _ _).alloc (Nat.le_refl _) _).alloc (by simp) _).alloc (by simp;omega) _⟩
 ·have:=(blk.new (w.alloc (.cells (coL C s).toArray 41)) [.int .i64 k] 3).alloc (.cells #[.int .i64 0,.int .i64 0,.int .i64 0,.bool false,.bool false,.bool false,.bool false,.bool false,.int .i64 0,.int .i64 0,.int .i64 0,.int .i64 0,.int .i64 0,.int .i64 0,.int .i64 0,.slice none 0 0,.slice none 0 0,.slice none 0 0,.slice none 0 0,.int .i64 0,.int .i64 0] 41)
  simpa using this
 ·have:=blk.new ((w.alloc (.cells (coL C s).toArray 41)).alloc (.cells #[.int .i64 k] 3)) Z21 41
  have t2:blk (((w.alloc (.cells (coL C s).toArray 41)).alloc (.cells #[.int .i64 k] 3)).alloc (.cells Z21.toArray 41)) (w.heap.size+2) Z21 41:=by simpa using this
  exact t2
def fltS (C:Co) (k:Int):Prop:=(C.p=1∨C.p=2∨C.p=4)∧(1≤k∧k≤6)
def okFa (C:Co) (k:Int):Prop:=okCo C∧fltS C k
set_option maxHeartbeats 8000000 in
set_option maxRecDepth 20000 in
theorem implFault_any (w:World) (C:Co) (s:Sl) (k:Int) (h:isHo w C.ho s) (hs:slSome s) (hn:C.ho.le 1048576) :
  Calls Tryz.prog 16 #[.agg (coL C s).toArray,.int .i64 k] w fun o w'=>(okFa C k∧toldC w (actC C (fltC C k)) o w')∨(¬ okFa C k∧o = .returned (.agg [.int .i64 0,.int .i64 0,.int .i64 0,.bool false,.bool false,.bool false,.bool false,.bool false,.int .i64 0,.int .i64 0,.int .i64 0,.int .i64 0,.int .i64 0,.int .i64 0,.int .i64 0,.slice none 0 0,.slice none 0 0,.slice none 0 0,.slice none 0 0,.int .i64 0,.int .i64 0].toArray)∧Below w.heap.size w w'):=by
 have H0:Hid (itF w C s k (((w.alloc (.cells (coL C s).toArray 41)).alloc (.cells #[.int .i64 k] 3)).alloc (.cells #[.int .i64 0,.int .i64 0,.int .i64 0,.bool false,.bool false,.bool false,.bool false,.bool false,.int .i64 0,.int .i64 0,.int .i64 0,.int .i64 0,.int .i64 0,.int .i64 0,.int .i64 0,.slice none 0 0,.slice none 0 0,.slice none 0 0,.slice none 0 0,.int .i64 0,.int .i64 0] 41))):=itF.new w C s k
 have HIR:Hid (∀ W v l m,Calls Tryz.prog 43 #[.int .i64 v,.int .i64 l,.int .i64 m] W fun o w'=>o = .returned (.bool (decide (l≤v∧v≤m)))∧W=w'):=inRange_any
 have y0:=H0.out.p.cell 0 (.int .i64 C.p) rfl
 have x0:=H0.out.x.cell 0 (.int .i64 k) rfl
 generalize hW0:(((w.alloc (.cells (coL C s).toArray 41)).alloc (.cells #[.int .i64 k] 3)).alloc (.cells #[.int .i64 0,.int .i64 0,.int .i64 0,.bool false,.bool false,.bool false,.bool false,.bool false,.int .i64 0,.int .i64 0,.int .i64 0,.int .i64 0,.int .i64 0,.int .i64 0,.int .i64 0,.slice none 0 0,.slice none 0 0,.slice none 0 0,.slice none 0 0,.int .i64 0,.int .i64 0] 41))=W0 at *;have HCY:Hid (Calls Tryz.prog 37 #[.agg (coL C s).toArray,.bool true,.func (.func 44) #[] #[.pointer (some ⟨w.heap.size+1,0,none⟩)]] W0 fun o w'=>(okCo C∧toldC W0 (actC C (fltC C k)) o w')∨(¬ okCo C∧o = .returned (.agg [.int .i64 0,.int .i64 0,.int .i64 0,.bool false,.bool false,.bool false,.bool false,.bool false,.int .i64 0,.int .i64 0,.int .i64 0,.int .i64 0,.int .i64 0,.int .i64 0,.int .i64 0,.slice none 0 0,.slice none 0 0,.slice none 0 0,.slice none 0 0,.int .i64 0,.int .i64 0].toArray)∧Below W0.heap.size W0 w')):=changed_gen W0 C (actC C (fltC C k)) s _ (h.below H0.out.b) hn (fun hok X hX=>open_flt X C s ((h.below H0.out.b).below hX) hs hok hn (w.heap.size+1) k ((hX.cell (by exact H0.out.x.lt)).trans (H0.out.x.cell 0 _ rfl)))
 have hmf:∀ (fn:Fn) (first cap:Array Value) (w:World),(Instr.makeFunc fn first cap).run Tryz.prog w = .ok (.func fn first cap) w:=fun _ _ _ _=>rfl
 clear h hn hs;by_cases hp1:C.p=1
 ·have d1:(C.p == 1)=true:=by simpa using hp1
  by_cases hk:1≤k∧k≤6
  ·have dk:decide (1≤k∧k≤6)=true:=by simpa using hk
   have HSW:Hid (fltS C k):=⟨by omega,hk⟩
   clear hk hp1;go_enter Tryz.func16,Tryz.ntmps16
   go_wp2_with (first
    | (go_at_call 43;refine (HIR.out _ _ _ _).mono ?_;rintro o w2 ⟨rfl,rfl⟩)
    | (refine wpList_load_mid (P:=Tryz.prog) rfl 41 (.tmp 2) rfl w.heap.size 0 rfl (coL C s) _ H0.out.p.load Tryz.underlying41 rfl (szC41L C s) ?_))
   refine (HCY.out).mono ?_
   rintro o w1 (⟨hok,s4,rfl,q1,q2,q3,q4,hb4⟩|⟨hok,rfl,hb4⟩)
   ·have H4:Hid (itF w C s k w1):=H0.out.below hb4
    have HQ:Hid (St W0.heap.size w1 (fun W=>isHo W (actC C (fltC C k)).ho s4.sl)∧whS W0.heap.size w1.heap.size w1 s4∧whD s4∧whE s4):=⟨q1,q2,q3,q4⟩
    have HOK:Hid (okCo C):=hok
    have HZ:Hid (w.heap.size≤W0.heap.size∧w.heap.size+2<W0.heap.size):=⟨H0.out.b.size,H0.out.r.lt⟩
    clear q1 q2 q3 q4 hb4 hok HCY y0 x0 hW0;go_wp2_with (first
     | (refine wpList_store_mid (P:=Tryz.prog) rfl 41 (.tmp 4) (.tmp 28) rfl (w.heap.size+2) 0 (coL (actC C (fltC C k)) s4.sl).toArray rfl rfl (H4.out.r.there 0 _ (by rw[List.size_toArray,coL_len];decide)) (szC41A _ _) (coL_one _ _) ?_;generalize hW8:World.setCells w1 (w.heap.size+2) 0 _=w8;have HW8:Hid (_=w8):=hW8;clear hW8))
    have e8:=HW8.out
    have hF:blk w8 (w.heap.size+2) (coL (actC C (fltC C k)) s4.sl) 41:=by
     rw[← e8]
     exact H4.out.r.core rfl _ _
    have hL:=run_loadVar_mid (P:=Tryz.prog) w8 (w.heap.size+2) 0 41 _ _ hF.load Tryz.underlying41 rfl (szC41L _ _)
    refine bodyPost_ret (v:=.agg (coL (actC C (fltC C k)) s4.sl).toArray) (results_cell Tryz.results16 _ w8 (w.heap.size+2) _ rfl hL) rfl ?_
    have oth:∀ x,x≠w.heap.size+2→w8.heap[x]?=w1.heap[x]?:=fun x hx=>by rw[← e8];exact setCells_other _ x hx _ _ _
    have hsz:w8.heap.size=w1.heap.size:=by rw[← e8];exact setCells_size ..
    have hp:=toldQ.put (w:=w) HZ.out.1 HZ.out.2 HQ.out.1 HQ.out.2.1 oth hsz
    exact Or.inl ⟨⟨HOK.out,HSW.out⟩,s4,rfl,hp.1,hp.2,HQ.out.2.2.1,HQ.out.2.2.2,by rw[← e8];exact setCells_below (by omega) 0 _ H4.out.b⟩
   ·have H4:Hid (itF w C s k w1):=H0.out.below hb4
    have HOK:Hid (¬ okFa C k):=fun x=>hok x.1
    clear hb4 hok HCY y0 x0 hW0;go_wp2_with (first
     | (refine wpList_store_mid (P:=Tryz.prog) rfl 41 (.tmp 4) (.tmp 28) rfl (w.heap.size+2) 0 [.int .i64 0,.int .i64 0,.int .i64 0,.bool false,.bool false,.bool false,.bool false,.bool false,.int .i64 0,.int .i64 0,.int .i64 0,.int .i64 0,.int .i64 0,.int .i64 0,.int .i64 0,.slice none 0 0,.slice none 0 0,.slice none 0 0,.slice none 0 0,.int .i64 0,.int .i64 0].toArray rfl rfl (H4.out.r.there 0 21 (by simp[Z21])) szC41 (all_oneCell_toArray (by simp[Value.oneCell'])) ?_;generalize hW8:World.setCells w1 (w.heap.size+2) 0 _=w8;have HW8:Hid (_=w8):=hW8;clear hW8))
    have e8:=HW8.out
    have hF:blk w8 (w.heap.size+2) [.int .i64 0,.int .i64 0,.int .i64 0,.bool false,.bool false,.bool false,.bool false,.bool false,.int .i64 0,.int .i64 0,.int .i64 0,.int .i64 0,.int .i64 0,.int .i64 0,.int .i64 0,.slice none 0 0,.slice none 0 0,.slice none 0 0,.slice none 0 0,.int .i64 0,.int .i64 0] 41:=by
     rw[← e8]
     exact H4.out.r.core rfl zCo zSl
    have hL:=run_loadVar_mid (P:=Tryz.prog) w8 (w.heap.size+2) 0 41 _ _ hF.load Tryz.underlying41 rfl szC41
    refine bodyPost_ret (v:=.agg [.int .i64 0,.int .i64 0,.int .i64 0,.bool false,.bool false,.bool false,.bool false,.bool false,.int .i64 0,.int .i64 0,.int .i64 0,.int .i64 0,.int .i64 0,.int .i64 0,.int .i64 0,.slice none 0 0,.slice none 0 0,.slice none 0 0,.slice none 0 0,.int .i64 0,.int .i64 0].toArray) (results_cell Tryz.results16 _ w8 (w.heap.size+2) _ rfl hL) rfl ?_
    exact Or.inr ⟨HOK.out,rfl,by rw[← e8];exact setCells_below (by omega) 0 _ H4.out.b⟩
  ·have dk:decide (1≤k∧k≤6)=false:=by simpa using hk
   have HOK:Hid (¬ okFa C k):=fun x=>hk x.2.2
   clear hk hp1 HCY;go_enter Tryz.func16,Tryz.ntmps16
   go_wp2_with (first
    | (go_at_call 43;refine (HIR.out _ _ _ _).mono ?_;rintro o w2 ⟨rfl,rfl⟩)
    | (refine wpList_load_mid (P:=Tryz.prog) rfl 41 (.tmp 2) rfl w.heap.size 0 rfl (coL C s) _ H0.out.p.load Tryz.underlying41 rfl (szC41L C s) ?_))
   refine (changed_no W0 C s _).mono ?_
   rintro o w1 ⟨rfl,hb4⟩;have H4:Hid (itF w C s k w1):=H0.out.below hb4
   clear hb4 y0 x0 hW0;go_wp2_with (first
    | (refine wpList_store_mid (P:=Tryz.prog) rfl 41 (.tmp 4) (.tmp 28) rfl (w.heap.size+2) 0 [.int .i64 0,.int .i64 0,.int .i64 0,.bool false,.bool false,.bool false,.bool false,.bool false,.int .i64 0,.int .i64 0,.int .i64 0,.int .i64 0,.int .i64 0,.int .i64 0,.int .i64 0,.slice none 0 0,.slice none 0 0,.slice none 0 0,.slice none 0 0,.int .i64 0,.int .i64 0].toArray rfl rfl (H4.out.r.there 0 21 (by simp[Z21])) szC41 (all_oneCell_toArray (by simp[Value.oneCell'])) ?_;generalize hW8:World.setCells w1 (w.heap.size+2) 0 _=w8;have HW8:Hid (_=w8):=hW8;clear hW8))
   have e8:=HW8.out
   have hF:blk w8 (w.heap.size+2) [.int .i64 0,.int .i64 0,.int .i64 0,.bool false,.bool false,.bool false,.bool false,.bool false,.int .i64 0,.int .i64 0,.int .i64 0,.int .i64 0,.int .i64 0,.int .i64 0,.int .i64 0,.slice none 0 0,.slice none 0 0,.slice none 0 0,.slice none 0 0,.int .i64 0,.int .i64 0] 41:=by
    rw[← e8]
    exact H4.out.r.core rfl zCo zSl
   have hL:=run_loadVar_mid (P:=Tryz.prog) w8 (w.heap.size+2) 0 41 _ _ hF.load Tryz.underlying41 rfl szC41
   refine bodyPost_ret (v:=.agg [.int .i64 0,.int .i64 0,.int .i64 0,.bool false,.bool false,.bool false,.bool false,.bool false,.int .i64 0,.int .i64 0,.int .i64 0,.int .i64 0,.int .i64 0,.int .i64 0,.int .i64 0,.slice none 0 0,.slice none 0 0,.slice none 0 0,.slice none 0 0,.int .i64 0,.int .i64 0].toArray) (results_cell Tryz.results16 _ w8 (w.heap.size+2) _ rfl hL) rfl ?_
   exact Or.inr ⟨HOK.out,rfl,by rw[← e8];exact setCells_below (by omega) 0 _ H4.out.b⟩
 have d1:(C.p == 1)=false:=by simpa using hp1
 by_cases hp2:C.p=2
 ·have d2:(C.p == 2)=true:=by simpa using hp2
  by_cases hk:1≤k∧k≤6
  ·have dk:decide (1≤k∧k≤6)=true:=by simpa using hk
   have HSW:Hid (fltS C k):=⟨by omega,hk⟩
   clear hk hp2;go_enter Tryz.func16,Tryz.ntmps16
   go_wp2_with (first
    | (go_at_call 43;refine (HIR.out _ _ _ _).mono ?_;rintro o w2 ⟨rfl,rfl⟩)
    | (refine wpList_load_mid (P:=Tryz.prog) rfl 41 (.tmp 2) rfl w.heap.size 0 rfl (coL C s) _ H0.out.p.load Tryz.underlying41 rfl (szC41L C s) ?_))
   refine (HCY.out).mono ?_
   rintro o w1 (⟨hok,s4,rfl,q1,q2,q3,q4,hb4⟩|⟨hok,rfl,hb4⟩)
   ·have H4:Hid (itF w C s k w1):=H0.out.below hb4
    have HQ:Hid (St W0.heap.size w1 (fun W=>isHo W (actC C (fltC C k)).ho s4.sl)∧whS W0.heap.size w1.heap.size w1 s4∧whD s4∧whE s4):=⟨q1,q2,q3,q4⟩
    have HOK:Hid (okCo C):=hok
    have HZ:Hid (w.heap.size≤W0.heap.size∧w.heap.size+2<W0.heap.size):=⟨H0.out.b.size,H0.out.r.lt⟩
    clear q1 q2 q3 q4 hb4 hok HCY y0 x0 hW0;go_wp2_with (first
     | (refine wpList_store_mid (P:=Tryz.prog) rfl 41 (.tmp 4) (.tmp 28) rfl (w.heap.size+2) 0 (coL (actC C (fltC C k)) s4.sl).toArray rfl rfl (H4.out.r.there 0 _ (by rw[List.size_toArray,coL_len];decide)) (szC41A _ _) (coL_one _ _) ?_;generalize hW8:World.setCells w1 (w.heap.size+2) 0 _=w8;have HW8:Hid (_=w8):=hW8;clear hW8))
    have e8:=HW8.out
    have hF:blk w8 (w.heap.size+2) (coL (actC C (fltC C k)) s4.sl) 41:=by
     rw[← e8]
     exact H4.out.r.core rfl _ _
    have hL:=run_loadVar_mid (P:=Tryz.prog) w8 (w.heap.size+2) 0 41 _ _ hF.load Tryz.underlying41 rfl (szC41L _ _)
    refine bodyPost_ret (v:=.agg (coL (actC C (fltC C k)) s4.sl).toArray) (results_cell Tryz.results16 _ w8 (w.heap.size+2) _ rfl hL) rfl ?_
    have oth:∀ x,x≠w.heap.size+2→w8.heap[x]?=w1.heap[x]?:=fun x hx=>by rw[← e8];exact setCells_other _ x hx _ _ _
    have hsz:w8.heap.size=w1.heap.size:=by rw[← e8];exact setCells_size ..
    have hp:=toldQ.put (w:=w) HZ.out.1 HZ.out.2 HQ.out.1 HQ.out.2.1 oth hsz
    exact Or.inl ⟨⟨HOK.out,HSW.out⟩,s4,rfl,hp.1,hp.2,HQ.out.2.2.1,HQ.out.2.2.2,by rw[← e8];exact setCells_below (by omega) 0 _ H4.out.b⟩
   ·have H4:Hid (itF w C s k w1):=H0.out.below hb4
    have HOK:Hid (¬ okFa C k):=fun x=>hok x.1
    clear hb4 hok HCY y0 x0 hW0;go_wp2_with (first
     | (refine wpList_store_mid (P:=Tryz.prog) rfl 41 (.tmp 4) (.tmp 28) rfl (w.heap.size+2) 0 [.int .i64 0,.int .i64 0,.int .i64 0,.bool false,.bool false,.bool false,.bool false,.bool false,.int .i64 0,.int .i64 0,.int .i64 0,.int .i64 0,.int .i64 0,.int .i64 0,.int .i64 0,.slice none 0 0,.slice none 0 0,.slice none 0 0,.slice none 0 0,.int .i64 0,.int .i64 0].toArray rfl rfl (H4.out.r.there 0 21 (by simp[Z21])) szC41 (all_oneCell_toArray (by simp[Value.oneCell'])) ?_;generalize hW8:World.setCells w1 (w.heap.size+2) 0 _=w8;have HW8:Hid (_=w8):=hW8;clear hW8))
    have e8:=HW8.out
    have hF:blk w8 (w.heap.size+2) [.int .i64 0,.int .i64 0,.int .i64 0,.bool false,.bool false,.bool false,.bool false,.bool false,.int .i64 0,.int .i64 0,.int .i64 0,.int .i64 0,.int .i64 0,.int .i64 0,.int .i64 0,.slice none 0 0,.slice none 0 0,.slice none 0 0,.slice none 0 0,.int .i64 0,.int .i64 0] 41:=by
     rw[← e8]
     exact H4.out.r.core rfl zCo zSl
    have hL:=run_loadVar_mid (P:=Tryz.prog) w8 (w.heap.size+2) 0 41 _ _ hF.load Tryz.underlying41 rfl szC41
    refine bodyPost_ret (v:=.agg [.int .i64 0,.int .i64 0,.int .i64 0,.bool false,.bool false,.bool false,.bool false,.bool false,.int .i64 0,.int .i64 0,.int .i64 0,.int .i64 0,.int .i64 0,.int .i64 0,.int .i64 0,.slice none 0 0,.slice none 0 0,.slice none 0 0,.slice none 0 0,.int .i64 0,.int .i64 0].toArray) (results_cell Tryz.results16 _ w8 (w.heap.size+2) _ rfl hL) rfl ?_
    exact Or.inr ⟨HOK.out,rfl,by rw[← e8];exact setCells_below (by omega) 0 _ H4.out.b⟩
  ·have dk:decide (1≤k∧k≤6)=false:=by simpa using hk
   have HOK:Hid (¬ okFa C k):=fun x=>hk x.2.2
   clear hk hp2 HCY;go_enter Tryz.func16,Tryz.ntmps16
   go_wp2_with (first
    | (go_at_call 43;refine (HIR.out _ _ _ _).mono ?_;rintro o w2 ⟨rfl,rfl⟩)
    | (refine wpList_load_mid (P:=Tryz.prog) rfl 41 (.tmp 2) rfl w.heap.size 0 rfl (coL C s) _ H0.out.p.load Tryz.underlying41 rfl (szC41L C s) ?_))
   refine (changed_no W0 C s _).mono ?_
   rintro o w1 ⟨rfl,hb4⟩;have H4:Hid (itF w C s k w1):=H0.out.below hb4
   clear hb4 y0 x0 hW0;go_wp2_with (first
    | (refine wpList_store_mid (P:=Tryz.prog) rfl 41 (.tmp 4) (.tmp 28) rfl (w.heap.size+2) 0 [.int .i64 0,.int .i64 0,.int .i64 0,.bool false,.bool false,.bool false,.bool false,.bool false,.int .i64 0,.int .i64 0,.int .i64 0,.int .i64 0,.int .i64 0,.int .i64 0,.int .i64 0,.slice none 0 0,.slice none 0 0,.slice none 0 0,.slice none 0 0,.int .i64 0,.int .i64 0].toArray rfl rfl (H4.out.r.there 0 21 (by simp[Z21])) szC41 (all_oneCell_toArray (by simp[Value.oneCell'])) ?_;generalize hW8:World.setCells w1 (w.heap.size+2) 0 _=w8;have HW8:Hid (_=w8):=hW8;clear hW8))
   have e8:=HW8.out
   have hF:blk w8 (w.heap.size+2) [.int .i64 0,.int .i64 0,.int .i64 0,.bool false,.bool false,.bool false,.bool false,.bool false,.int .i64 0,.int .i64 0,.int .i64 0,.int .i64 0,.int .i64 0,.int .i64 0,.int .i64 0,.slice none 0 0,.slice none 0 0,.slice none 0 0,.slice none 0 0,.int .i64 0,.int .i64 0] 41:=by
    rw[← e8]
    exact H4.out.r.core rfl zCo zSl
   have hL:=run_loadVar_mid (P:=Tryz.prog) w8 (w.heap.size+2) 0 41 _ _ hF.load Tryz.underlying41 rfl szC41
   refine bodyPost_ret (v:=.agg [.int .i64 0,.int .i64 0,.int .i64 0,.bool false,.bool false,.bool false,.bool false,.bool false,.int .i64 0,.int .i64 0,.int .i64 0,.int .i64 0,.int .i64 0,.int .i64 0,.int .i64 0,.slice none 0 0,.slice none 0 0,.slice none 0 0,.slice none 0 0,.int .i64 0,.int .i64 0].toArray) (results_cell Tryz.results16 _ w8 (w.heap.size+2) _ rfl hL) rfl ?_
   exact Or.inr ⟨HOK.out,rfl,by rw[← e8];exact setCells_below (by omega) 0 _ H4.out.b⟩
 have d2:(C.p == 2)=false:=by simpa using hp2
 by_cases hp4:C.p=4
 ·have d4:(C.p == 4)=true:=by simpa using hp4
  by_cases hk:1≤k∧k≤6
  ·have dk:decide (1≤k∧k≤6)=true:=by simpa using hk
   have HSW:Hid (fltS C k):=⟨by omega,hk⟩
   clear hk hp4;go_enter Tryz.func16,Tryz.ntmps16
   go_wp2_with (first
    | (go_at_call 43;refine (HIR.out _ _ _ _).mono ?_;rintro o w2 ⟨rfl,rfl⟩)
    | (refine wpList_load_mid (P:=Tryz.prog) rfl 41 (.tmp 2) rfl w.heap.size 0 rfl (coL C s) _ H0.out.p.load Tryz.underlying41 rfl (szC41L C s) ?_))
   refine (HCY.out).mono ?_
   rintro o w1 (⟨hok,s4,rfl,q1,q2,q3,q4,hb4⟩|⟨hok,rfl,hb4⟩)
   ·have H4:Hid (itF w C s k w1):=H0.out.below hb4
    have HQ:Hid (St W0.heap.size w1 (fun W=>isHo W (actC C (fltC C k)).ho s4.sl)∧whS W0.heap.size w1.heap.size w1 s4∧whD s4∧whE s4):=⟨q1,q2,q3,q4⟩
    have HOK:Hid (okCo C):=hok
    have HZ:Hid (w.heap.size≤W0.heap.size∧w.heap.size+2<W0.heap.size):=⟨H0.out.b.size,H0.out.r.lt⟩
    clear q1 q2 q3 q4 hb4 hok HCY y0 x0 hW0;go_wp2_with (first
     | (refine wpList_store_mid (P:=Tryz.prog) rfl 41 (.tmp 4) (.tmp 28) rfl (w.heap.size+2) 0 (coL (actC C (fltC C k)) s4.sl).toArray rfl rfl (H4.out.r.there 0 _ (by rw[List.size_toArray,coL_len];decide)) (szC41A _ _) (coL_one _ _) ?_;generalize hW8:World.setCells w1 (w.heap.size+2) 0 _=w8;have HW8:Hid (_=w8):=hW8;clear hW8))
    have e8:=HW8.out
    have hF:blk w8 (w.heap.size+2) (coL (actC C (fltC C k)) s4.sl) 41:=by
     rw[← e8]
     exact H4.out.r.core rfl _ _
    have hL:=run_loadVar_mid (P:=Tryz.prog) w8 (w.heap.size+2) 0 41 _ _ hF.load Tryz.underlying41 rfl (szC41L _ _)
    refine bodyPost_ret (v:=.agg (coL (actC C (fltC C k)) s4.sl).toArray) (results_cell Tryz.results16 _ w8 (w.heap.size+2) _ rfl hL) rfl ?_
    have oth:∀ x,x≠w.heap.size+2→w8.heap[x]?=w1.heap[x]?:=fun x hx=>by rw[← e8];exact setCells_other _ x hx _ _ _
    have hsz:w8.heap.size=w1.heap.size:=by rw[← e8];exact setCells_size ..
    have hp:=toldQ.put (w:=w) HZ.out.1 HZ.out.2 HQ.out.1 HQ.out.2.1 oth hsz
    exact Or.inl ⟨⟨HOK.out,HSW.out⟩,s4,rfl,hp.1,hp.2,HQ.out.2.2.1,HQ.out.2.2.2,by rw[← e8];exact setCells_below (by omega) 0 _ H4.out.b⟩
   ·have H4:Hid (itF w C s k w1):=H0.out.below hb4
    have HOK:Hid (¬ okFa C k):=fun x=>hok x.1
    clear hb4 hok HCY y0 x0 hW0;go_wp2_with (first
     | (refine wpList_store_mid (P:=Tryz.prog) rfl 41 (.tmp 4) (.tmp 28) rfl (w.heap.size+2) 0 [.int .i64 0,.int .i64 0,.int .i64 0,.bool false,.bool false,.bool false,.bool false,.bool false,.int .i64 0,.int .i64 0,.int .i64 0,.int .i64 0,.int .i64 0,.int .i64 0,.int .i64 0,.slice none 0 0,.slice none 0 0,.slice none 0 0,.slice none 0 0,.int .i64 0,.int .i64 0].toArray rfl rfl (H4.out.r.there 0 21 (by simp[Z21])) szC41 (all_oneCell_toArray (by simp[Value.oneCell'])) ?_;generalize hW8:World.setCells w1 (w.heap.size+2) 0 _=w8;have HW8:Hid (_=w8):=hW8;clear hW8))
    have e8:=HW8.out
    have hF:blk w8 (w.heap.size+2) [.int .i64 0,.int .i64 0,.int .i64 0,.bool false,.bool false,.bool false,.bool false,.bool false,.int .i64 0,.int .i64 0,.int .i64 0,.int .i64 0,.int .i64 0,.int .i64 0,.int .i64 0,.slice none 0 0,.slice none 0 0,.slice none 0 0,.slice none 0 0,.int .i64 0,.int .i64 0] 41:=by
     rw[← e8]
     exact H4.out.r.core rfl zCo zSl
    have hL:=run_loadVar_mid (P:=Tryz.prog) w8 (w.heap.size+2) 0 41 _ _ hF.load Tryz.underlying41 rfl szC41
    refine bodyPost_ret (v:=.agg [.int .i64 0,.int .i64 0,.int .i64 0,.bool false,.bool false,.bool false,.bool false,.bool false,.int .i64 0,.int .i64 0,.int .i64 0,.int .i64 0,.int .i64 0,.int .i64 0,.int .i64 0,.slice none 0 0,.slice none 0 0,.slice none 0 0,.slice none 0 0,.int .i64 0,.int .i64 0].toArray) (results_cell Tryz.results16 _ w8 (w.heap.size+2) _ rfl hL) rfl ?_
    exact Or.inr ⟨HOK.out,rfl,by rw[← e8];exact setCells_below (by omega) 0 _ H4.out.b⟩
  ·have dk:decide (1≤k∧k≤6)=false:=by simpa using hk
   have HOK:Hid (¬ okFa C k):=fun x=>hk x.2.2
   clear hk hp4 HCY;go_enter Tryz.func16,Tryz.ntmps16
   go_wp2_with (first
    | (go_at_call 43;refine (HIR.out _ _ _ _).mono ?_;rintro o w2 ⟨rfl,rfl⟩)
    | (refine wpList_load_mid (P:=Tryz.prog) rfl 41 (.tmp 2) rfl w.heap.size 0 rfl (coL C s) _ H0.out.p.load Tryz.underlying41 rfl (szC41L C s) ?_))
   refine (changed_no W0 C s _).mono ?_
   rintro o w1 ⟨rfl,hb4⟩;have H4:Hid (itF w C s k w1):=H0.out.below hb4
   clear hb4 y0 x0 hW0;go_wp2_with (first
    | (refine wpList_store_mid (P:=Tryz.prog) rfl 41 (.tmp 4) (.tmp 28) rfl (w.heap.size+2) 0 [.int .i64 0,.int .i64 0,.int .i64 0,.bool false,.bool false,.bool false,.bool false,.bool false,.int .i64 0,.int .i64 0,.int .i64 0,.int .i64 0,.int .i64 0,.int .i64 0,.int .i64 0,.slice none 0 0,.slice none 0 0,.slice none 0 0,.slice none 0 0,.int .i64 0,.int .i64 0].toArray rfl rfl (H4.out.r.there 0 21 (by simp[Z21])) szC41 (all_oneCell_toArray (by simp[Value.oneCell'])) ?_;generalize hW8:World.setCells w1 (w.heap.size+2) 0 _=w8;have HW8:Hid (_=w8):=hW8;clear hW8))
   have e8:=HW8.out
   have hF:blk w8 (w.heap.size+2) [.int .i64 0,.int .i64 0,.int .i64 0,.bool false,.bool false,.bool false,.bool false,.bool false,.int .i64 0,.int .i64 0,.int .i64 0,.int .i64 0,.int .i64 0,.int .i64 0,.int .i64 0,.slice none 0 0,.slice none 0 0,.slice none 0 0,.slice none 0 0,.int .i64 0,.int .i64 0] 41:=by
    rw[← e8]
    exact H4.out.r.core rfl zCo zSl
   have hL:=run_loadVar_mid (P:=Tryz.prog) w8 (w.heap.size+2) 0 41 _ _ hF.load Tryz.underlying41 rfl szC41
   refine bodyPost_ret (v:=.agg [.int .i64 0,.int .i64 0,.int .i64 0,.bool false,.bool false,.bool false,.bool false,.bool false,.int .i64 0,.int .i64 0,.int .i64 0,.int .i64 0,.int .i64 0,.int .i64 0,.int .i64 0,.slice none 0 0,.slice none 0 0,.slice none 0 0,.slice none 0 0,.int .i64 0,.int .i64 0].toArray) (results_cell Tryz.results16 _ w8 (w.heap.size+2) _ rfl hL) rfl ?_
   exact Or.inr ⟨HOK.out,rfl,by rw[← e8];exact setCells_below (by omega) 0 _ H4.out.b⟩
 have d4:(C.p == 4)=false:=by simpa using hp4
 have HOK:Hid (¬ okFa C k):=fun x=>by have:=x.2.1;omega
 clear hp1 hp2 hp4 HCY;go_enter Tryz.func16,Tryz.ntmps16
 go_wp2_with (first
  | (go_at_call 43;refine (HIR.out _ _ _ _).mono ?_;rintro o w2 ⟨rfl,rfl⟩)
  | (refine wpList_load_mid (P:=Tryz.prog) rfl 41 (.tmp 2) rfl w.heap.size 0 rfl (coL C s) _ H0.out.p.load Tryz.underlying41 rfl (szC41L C s) ?_))
 refine (changed_no W0 C s _).mono ?_
 rintro o w1 ⟨rfl,hb4⟩;have H4:Hid (itF w C s k w1):=H0.out.below hb4
 clear hb4 y0 x0 hW0;go_wp2_with (first
  | (refine wpList_store_mid (P:=Tryz.prog) rfl 41 (.tmp 4) (.tmp 28) rfl (w.heap.size+2) 0 [.int .i64 0,.int .i64 0,.int .i64 0,.bool false,.bool false,.bool false,.bool false,.bool false,.int .i64 0,.int .i64 0,.int .i64 0,.int .i64 0,.int .i64 0,.int .i64 0,.int .i64 0,.slice none 0 0,.slice none 0 0,.slice none 0 0,.slice none 0 0,.int .i64 0,.int .i64 0].toArray rfl rfl (H4.out.r.there 0 21 (by simp[Z21])) szC41 (all_oneCell_toArray (by simp[Value.oneCell'])) ?_;generalize hW8:World.setCells w1 (w.heap.size+2) 0 _=w8;have HW8:Hid (_=w8):=hW8;clear hW8))
 have e8:=HW8.out
 have hF:blk w8 (w.heap.size+2) [.int .i64 0,.int .i64 0,.int .i64 0,.bool false,.bool false,.bool false,.bool false,.bool false,.int .i64 0,.int .i64 0,.int .i64 0,.int .i64 0,.int .i64 0,.int .i64 0,.int .i64 0,.slice none 0 0,.slice none 0 0,.slice none 0 0,.slice none 0 0,.int .i64 0,.int .i64 0] 41:=by
  rw[← e8]
  exact H4.out.r.core rfl zCo zSl
 have hL:=run_loadVar_mid (P:=Tryz.prog) w8 (w.heap.size+2) 0 41 _ _ hF.load Tryz.underlying41 rfl szC41
 refine bodyPost_ret (v:=.agg [.int .i64 0,.int .i64 0,.int .i64 0,.bool false,.bool false,.bool false,.bool false,.bool false,.int .i64 0,.int .i64 0,.int .i64 0,.int .i64 0,.int .i64 0,.int .i64 0,.int .i64 0,.slice none 0 0,.slice none 0 0,.slice none 0 0,.slice none 0 0,.int .i64 0,.int .i64 0].toArray) (results_cell Tryz.results16 _ w8 (w.heap.size+2) _ rfl hL) rfl ?_
 exact Or.inr ⟨HOK.out,rfl,by rw[← e8];exact setCells_below (by omega) 0 _ H4.out.b⟩
def addS (C:Co) (n:Int):Co:=if (addC C C.tx n).te=256 then offC (addC C C.tx n) else addC C C.tx n
set_option maxHeartbeats 8000000 in
set_option maxRecDepth 20000 in
theorem l4add_any (w:World) (C:Co) (s:Sl) (n:Int) (hn:0≤n∧n≤8) (ht:0≤C.te∧C.te<256) (hr:0≤C.re∧C.re≤255) :
  Calls Tryz.prog 103 #[.agg (coL C s).toArray,.int .i64 n] w fun o w'=>o = .returned (.agg (coL (addS C n) s).toArray)∧Below w.heap.size w w':=by
 have hd:dcS w C s ((w.alloc (.cells (coL C s).toArray 41)).alloc (.cells #[.int .i64 0,.int .i64 0,.int .i64 0,.bool false,.bool false,.bool false,.bool false,.bool false,.int .i64 0,.int .i64 0,.int .i64 0,.int .i64 0,.int .i64 0,.int .i64 0,.int .i64 0,.slice none 0 0,.slice none 0 0,.slice none 0 0,.slice none 0 0,.int .i64 0,.int .i64 0] 41)):=dcS.new w C s
 have H0:Hid (blk ((w.alloc (.cells (coL C s).toArray 41)).alloc (.cells #[.int .i64 0,.int .i64 0,.int .i64 0,.bool false,.bool false,.bool false,.bool false,.bool false,.int .i64 0,.int .i64 0,.int .i64 0,.int .i64 0,.int .i64 0,.int .i64 0,.int .i64 0,.slice none 0 0,.slice none 0 0,.slice none 0 0,.slice none 0 0,.int .i64 0,.int .i64 0] 41)) w.heap.size (coL C s) 41∧blk ((w.alloc (.cells (coL C s).toArray 41)).alloc (.cells #[.int .i64 0,.int .i64 0,.int .i64 0,.bool false,.bool false,.bool false,.bool false,.bool false,.int .i64 0,.int .i64 0,.int .i64 0,.int .i64 0,.int .i64 0,.int .i64 0,.int .i64 0,.slice none 0 0,.slice none 0 0,.slice none 0 0,.slice none 0 0,.int .i64 0,.int .i64 0] 41)) (w.heap.size+1) Z21 41∧Below w.heap.size w ((w.alloc (.cells (coL C s).toArray 41)).alloc (.cells #[.int .i64 0,.int .i64 0,.int .i64 0,.bool false,.bool false,.bool false,.bool false,.bool false,.int .i64 0,.int .i64 0,.int .i64 0,.int .i64 0,.int .i64 0,.int .i64 0,.int .i64 0,.slice none 0 0,.slice none 0 0,.slice none 0 0,.slice none 0 0,.int .i64 0,.int .i64 0] 41))):=⟨hd.p,hd.r,hd.b⟩
 have y6:=hd.p.cell 6 (.bool C.tx) rfl
 have y9:=hd.p.cell 9 (.int .i64 C.te) rfl
 have y10:=hd.p.cell 10 (.int .i64 C.re) rfl
 have g9:=hd.p.free 9
 have g10:=hd.p.free 10
 clear hd;generalize hW0:((w.alloc (.cells (coL C s).toArray 41)).alloc (.cells #[.int .i64 0,.int .i64 0,.int .i64 0,.bool false,.bool false,.bool false,.bool false,.bool false,.int .i64 0,.int .i64 0,.int .i64 0,.int .i64 0,.int .i64 0,.int .i64 0,.int .i64 0,.slice none 0 0,.slice none 0 0,.slice none 0 0,.slice none 0 0,.int .i64 0,.int .i64 0] 41))=W0 at *;by_cases dx:C.tx=true
 ·rw[dx] at y6
  have hw:IntKind.i64.wrap (C.te+n)=C.te+n:=by rw[IntKind.wrap_i64];omega
  have HA:Hid (addC C C.tx n = { C with te:=if 256≤C.te+n then 256 else C.te+n }):=by show addC C C.tx n=_;unfold addC;rw[if_pos dx]
  have H1:Hid (blk (W0.setCell ⟨w.heap.size,9,none⟩ (.int .i64 (C.te+n))) w.heap.size (coL { C with te:=C.te+n } s) 41∧blk (W0.setCell ⟨w.heap.size,9,none⟩ (.int .i64 (C.te+n))) (w.heap.size+1) Z21 41∧Below w.heap.size w (W0.setCell ⟨w.heap.size,9,none⟩ (.int .i64 (C.te+n)))):=⟨H0.out.1.set 9 (.int .i64 (C.te+n)),H0.out.2.1.setOther (by omega) 9 _,H0.out.2.2.setCell (Nat.le_refl _) _⟩
  have u9:=H1.out.1.cell 9 (.int .i64 (C.te+n)) rfl
  have u10:=H1.out.1.cell 10 (.int .i64 C.re) rfl
  by_cases hb:256≤C.te+n
  ·have db:decide (256≤C.te+n)=true:=by simpa using hb
   have HE:Hid (addS C n=offC { C with te:=256 }):=by show addS C n=_;unfold addS;rw[HA.out,if_pos hb];rw[if_pos rfl]
   clear dx hn ht hr hb HA H0;have q11:=H1.out.1.cell 11 (.int .i64 C.ho.c0) rfl
   have q12:=H1.out.1.cell 12 (.int .i64 C.ho.c1) rfl
   have q13:=H1.out.1.cell 13 (.int .i64 C.ho.c2) rfl
   have q14:=H1.out.1.cell 14 (.int .i64 C.ho.c3) rfl
   have q15:=H1.out.1.cell 15 (.slice s.a1 s.n1 s.k1) rfl
   have q16:=H1.out.1.cell 16 (.slice s.a2 s.n2 s.k2) rfl
   have q17:=H1.out.1.cell 17 (.slice s.a3 s.n3 s.k3) rfl
   have q18:=H1.out.1.cell 18 (.slice s.a4 s.n4 s.k4) rfl
   have q19:=H1.out.1.cell 19 (.int .i64 C.ho.lo) rfl
   have q20:=H1.out.1.cell 20 (.int .i64 C.ho.st) rfl
   go_enter Tryz.func103,Tryz.ntmps103
   go_wp2_with (first
    | (refine wpList_store_mid (P:=Tryz.prog) rfl 41 (.tmp 4) (.tmp 28) rfl (w.heap.size+1) 0 (coL (offC { C with te:=256 }) s).toArray rfl rfl (H1.out.2.1.there 0 _ (by rw[List.size_toArray,coL_len];decide)) (szC41A _ _) (coL_one _ _) ?_;generalize hW8:World.setCells _ (w.heap.size+1) 0 _=w8;have HW8:Hid (_=w8):=hW8;clear hW8))
   have e8:=HW8.out
   have hF:blk w8 (w.heap.size+1) (coL (offC { C with te:=256 }) s) 41:=by
    rw[← e8]
    exact H1.out.2.1.core rfl _ _
   have hL:=run_loadVar_mid (P:=Tryz.prog) w8 (w.heap.size+1) 0 41 _ _ hF.load Tryz.underlying41 rfl (szC41L _ _)
   refine bodyPost_ret (v:=.agg (coL (offC { C with te:=256 }) s).toArray) (results_cell Tryz.results103 _ w8 (w.heap.size+1) _ rfl hL) rfl ?_
   exact⟨by rw[HE.out],by rw[← e8];exact setCells_below (by omega) 0 _ H1.out.2.2⟩
  ·have db:decide (256≤C.te+n)=false:=by simpa using hb
   have HE:Hid (addS C n = { C with te:=C.te+n }):=by show addS C n=_;unfold addS;rw[HA.out,if_neg hb];rw[if_neg (by show ¬ C.te+n=256;omega)]
   clear dx hn ht hr hb HA H0;go_enter Tryz.func103,Tryz.ntmps103
   go_wp2_with (first
    | (refine wpList_load_mid (P:=Tryz.prog) rfl 41 (.tmp 2) rfl w.heap.size 0 rfl (coL { C with te:=C.te+n } s) _ H1.out.1.load Tryz.underlying41 rfl (szC41L _ _) ?_)
    | (refine wpList_store_mid (P:=Tryz.prog) rfl 41 (.tmp 4) (.tmp 29) rfl (w.heap.size+1) 0 (coL { C with te:=C.te+n } s).toArray rfl rfl (H1.out.2.1.there 0 _ (by rw[List.size_toArray,coL_len];decide)) (szC41A _ _) (coL_one _ _) ?_;generalize hW8:World.setCells _ (w.heap.size+1) 0 _=w8;have HW8:Hid (_=w8):=hW8;clear hW8))
   have e8:=HW8.out
   have hF:blk w8 (w.heap.size+1) (coL { C with te:=C.te+n } s) 41:=by
    rw[← e8]
    exact H1.out.2.1.core rfl _ _
   have hL:=run_loadVar_mid (P:=Tryz.prog) w8 (w.heap.size+1) 0 41 _ _ hF.load Tryz.underlying41 rfl (szC41L _ _)
   refine bodyPost_ret (v:=.agg (coL { C with te:=C.te+n } s).toArray) (results_cell Tryz.results103 _ w8 (w.heap.size+1) _ rfl hL) rfl ?_
   exact⟨by rw[HE.out],by rw[← e8];exact setCells_below (by omega) 0 _ H1.out.2.2⟩
 ·have dx':C.tx=false:=by simpa using dx
  rw[dx'] at y6
  have hw:IntKind.i64.wrap (C.re+n)=C.re+n:=by rw[IntKind.wrap_i64];omega
  have HA:Hid (addC C C.tx n = { C with re:=min (C.re+n) 255 }):=by show addC C C.tx n=_;unfold addC;rw[if_neg dx]
  have dt:decide (256≤C.te)=false:=by simp;omega
  have hte:¬ C.te=256:=by omega
  have H1:Hid (blk (W0.setCell ⟨w.heap.size,10,none⟩ (.int .i64 (C.re+n))) w.heap.size (coL { C with re:=C.re+n } s) 41∧blk (W0.setCell ⟨w.heap.size,10,none⟩ (.int .i64 (C.re+n))) (w.heap.size+1) Z21 41∧Below w.heap.size w (W0.setCell ⟨w.heap.size,10,none⟩ (.int .i64 (C.re+n)))):=⟨H0.out.1.set 10 (.int .i64 (C.re+n)),H0.out.2.1.setOther (by omega) 10 _,H0.out.2.2.setCell (Nat.le_refl _) _⟩
  have u9:=H1.out.1.cell 9 (.int .i64 C.te) rfl
  have u10:=H1.out.1.cell 10 (.int .i64 (C.re+n)) rfl
  have k10:=H1.out.1.free 10
  by_cases hb:255<C.re+n
  ·have db:decide (255<C.re+n)=true:=by simpa using hb
   have H2:Hid (blk ((W0.setCell ⟨w.heap.size,10,none⟩ (.int .i64 (C.re+n))).setCell ⟨w.heap.size,10,none⟩ (.int .i64 255)) w.heap.size (coL { C with re:=255 } s) 41∧blk ((W0.setCell ⟨w.heap.size,10,none⟩ (.int .i64 (C.re+n))).setCell ⟨w.heap.size,10,none⟩ (.int .i64 255)) (w.heap.size+1) Z21 41∧Below w.heap.size w ((W0.setCell ⟨w.heap.size,10,none⟩ (.int .i64 (C.re+n))).setCell ⟨w.heap.size,10,none⟩ (.int .i64 255))):=⟨H1.out.1.set 10 (.int .i64 255),H1.out.2.1.setOther (by omega) 10 _,H1.out.2.2.setCell (Nat.le_refl _) _⟩
   have v9:=H2.out.1.cell 9 (.int .i64 C.te) rfl
   have HE:Hid (addS C n = { C with re:=255 }):=by show addS C n=_;unfold addS;rw[HA.out,if_neg hte,Int.min_eq_right (by omega)]
   clear dx dx' hn ht hr hb HA H0 hte;go_enter Tryz.func103,Tryz.ntmps103
   go_wp2_with (first
    | (refine wpList_load_mid (P:=Tryz.prog) rfl 41 (.tmp 2) rfl w.heap.size 0 rfl (coL { C with re:=255 } s) _ H2.out.1.load Tryz.underlying41 rfl (szC41L _ _) ?_)
    | (refine wpList_store_mid (P:=Tryz.prog) rfl 41 (.tmp 4) (.tmp 29) rfl (w.heap.size+1) 0 (coL { C with re:=255 } s).toArray rfl rfl (H2.out.2.1.there 0 _ (by rw[List.size_toArray,coL_len];decide)) (szC41A _ _) (coL_one _ _) ?_;generalize hW8:World.setCells _ (w.heap.size+1) 0 _=w8;have HW8:Hid (_=w8):=hW8;clear hW8))
   have e8:=HW8.out
   have hF:blk w8 (w.heap.size+1) (coL { C with re:=255 } s) 41:=by
    rw[← e8]
    exact H2.out.2.1.core rfl _ _
   have hL:=run_loadVar_mid (P:=Tryz.prog) w8 (w.heap.size+1) 0 41 _ _ hF.load Tryz.underlying41 rfl (szC41L _ _)
   refine bodyPost_ret (v:=.agg (coL { C with re:=255 } s).toArray) (results_cell Tryz.results103 _ w8 (w.heap.size+1) _ rfl hL) rfl ?_
   exact⟨by rw[HE.out],by rw[← e8];exact setCells_below (by omega) 0 _ H2.out.2.2⟩
  ·have db:decide (255<C.re+n)=false:=by simpa using hb
   have HE:Hid (addS C n = { C with re:=C.re+n }):=by show addS C n=_;unfold addS;rw[HA.out,if_neg hte,Int.min_eq_left (by omega)]
   clear dx dx' hn ht hr hb HA H0 hte;go_enter Tryz.func103,Tryz.ntmps103
   go_wp2_with (first
    | (refine wpList_load_mid (P:=Tryz.prog) rfl 41 (.tmp 2) rfl w.heap.size 0 rfl (coL { C with re:=C.re+n } s) _ H1.out.1.load Tryz.underlying41 rfl (szC41L _ _) ?_)
    | (refine wpList_store_mid (P:=Tryz.prog) rfl 41 (.tmp 4) (.tmp 29) rfl (w.heap.size+1) 0 (coL { C with re:=C.re+n } s).toArray rfl rfl (H1.out.2.1.there 0 _ (by rw[List.size_toArray,coL_len];decide)) (szC41A _ _) (coL_one _ _) ?_;generalize hW8:World.setCells _ (w.heap.size+1) 0 _=w8;have HW8:Hid (_=w8):=hW8;clear hW8))
   have e8:=HW8.out
   have hF:blk w8 (w.heap.size+1) (coL { C with re:=C.re+n } s) 41:=by
    rw[← e8]
    exact H1.out.2.1.core rfl _ _
   have hL:=run_loadVar_mid (P:=Tryz.prog) w8 (w.heap.size+1) 0 41 _ _ hF.load Tryz.underlying41 rfl (szC41L _ _)
   refine bodyPost_ret (v:=.agg (coL { C with re:=C.re+n } s).toArray) (results_cell Tryz.results103 _ w8 (w.heap.size+1) _ rfl hL) rfl ?_
   exact⟨by rw[HE.out],by rw[← e8];exact setCells_below (by omega) 0 _ H1.out.2.2⟩
set_option maxRecDepth 20000 in
theorem specES_any (w:World) (C:Co) (s:Sl):Calls Tryz.prog 27 #[.agg (coL C s).toArray] w fun o w'=>o = .returned (.int .i64 (esZ C.p C.te C.re))∧Below w.heap.size w w':=by
 show Calls Tryz.prog 27 #[coV C s] w _
 obtain⟨p,ct,lv,wk,ov,ow,tx,ak,rn,te,re,⟨c0,c1,c2,c3,fs,bx,ff,qu,lo,st⟩⟩:=C
 obtain⟨a1,n1,k1,a2,n2,k2,a3,n3,k3,a4,n4,k4⟩:=s
 go_enter Tryz.func27,Tryz.ntmps27
 go_wp2_with (first | (go_at_call 62;refine (l4state_any _ _ _ _).mono ?_;rintro o w1 ⟨rfl,rfl⟩))
 go_ret;exact⟨rfl,(Below.refl _ _).alloc (Nat.le_refl _) _⟩
set_option maxHeartbeats 8000000 in
set_option maxRecDepth 20000 in
theorem l4tell_no (w:World) (C:Co) (s:Sl) (old:Int) (e:esZ C.p C.te C.re=old):Calls Tryz.prog 104 #[.agg (coL C s).toArray,.int .i64 old] w fun o w'=>o = .returned (.agg (coL C s).toArray)∧Below w.heap.size w w':=by
 have H0:Hid (dcS w C s ((w.alloc (.cells (coL C s).toArray 41)).alloc (.cells [.int .i64 0,.int .i64 0,.int .i64 0,.bool false,.bool false,.bool false,.bool false,.bool false,.int .i64 0,.int .i64 0,.int .i64 0,.int .i64 0,.int .i64 0,.int .i64 0,.int .i64 0,.slice none 0 0,.slice none 0 0,.slice none 0 0,.slice none 0 0,.int .i64 0,.int .i64 0].toArray 41))):=dcS.new w C s
 have HES:Hid (∀ W,Calls Tryz.prog 27 #[.agg (coL C s).toArray] W fun o w'=>o = .returned (.int .i64 old)∧Below W.heap.size W w'):=fun W=>by rw[← e];exact specES_any W C s
 clear e;go_enter Tryz.func104,Tryz.ntmps104
 go_wp2_with (first
  | (refine wpList_load_mid (P:=Tryz.prog) rfl 41 (.tmp 2) rfl w.heap.size 0 rfl (coL C s) _ H0.out.p.load Tryz.underlying41 rfl (szC41L C s) ?_))
 refine (HES.out _).mono ?_
 rintro o w1 ⟨rfl,hb1⟩;have H1:Hid (dcS w C s w1):=H0.out.below hb1
 clear H0 hb1 HES;go_wp2_with (first
  | (refine wpList_load_mid (P:=Tryz.prog) rfl 41 (.tmp 2) rfl w.heap.size 0 rfl (coL C s) _ H1.out.p.load Tryz.underlying41 rfl (szC41L C s) ?_)
  | (refine wpList_store_mid (P:=Tryz.prog) rfl 41 (.tmp 4) (.tmp 14) rfl (w.heap.size+1) 0 (coL C s).toArray rfl rfl (H1.out.r.there 0 _ (by rw[List.size_toArray,coL_len];decide)) (szC41A _ _) (coL_one _ _) ?_;generalize hW8:World.setCells _ (w.heap.size+1) 0 _=w8;have HW8:Hid (_=w8):=hW8;clear hW8))
 have e8:=HW8.out
 have hF:blk w8 (w.heap.size+1) (coL C s) 41:=by
  rw[← e8]
  exact H1.out.r.core rfl _ _
 have hL:=run_loadVar_mid (P:=Tryz.prog) w8 (w.heap.size+1) 0 41 _ _ hF.load Tryz.underlying41 rfl (szC41L _ _)
 refine bodyPost_ret (v:=.agg (coL C s).toArray) (results_cell Tryz.results104 _ w8 (w.heap.size+1) _ rfl hL) rfl ?_
 exact⟨rfl,by rw[← e8];exact setCells_below (by omega) 0 _ H1.out.b⟩
set_option maxHeartbeats 8000000 in
set_option maxRecDepth 20000 in
theorem l4tell_q (w:World) (C:Co) (s:Sl) (B T g4:Nat) (old:Int) (e:¬ esZ C.p C.te C.re=old) (ha:s.a4=some ⟨g4,0,none⟩) (hQ:rowQ8 B T 67 g4 s.n4 s.k4 C.ho.qu w) (hB:B≤T) (hT:T≤w.heap.size) (hn:s.n4≤1000) (hlo:0≤C.ho.lo∧C.ho.lo≤100000) :
  Calls Tryz.prog 104 #[.agg (coL C s).toArray,.int .i64 old] w fun o w'=>∃ g' n' k',o = .returned (.agg (coL { C with ho:=postHo C.ho (ev3 10 (esZ C.p C.te C.re) 0) } (qSl s g' n' k')).toArray)∧(∀ V:World,(∀ x,B≤x→x<T∨w.heap.size≤x→x<w'.heap.size→V.heap[x]?=w'.heap[x]?)→w'.heap.size≤V.heap.size→rowQ8 B V.heap.size 67 g' n' k' (quP C.ho.c3 C.ho.qu (ev3 10 (esZ C.p C.te C.re) 0)) V)∧(∀ q,q≠g4→q<w.heap.size→w'.heap[q]?=w.heap[q]?)∧Below B w w':=by
 have H0:Hid (dcS w C s ((w.alloc (.cells (coL C s).toArray 41)).alloc (.cells [.int .i64 0,.int .i64 0,.int .i64 0,.bool false,.bool false,.bool false,.bool false,.bool false,.int .i64 0,.int .i64 0,.int .i64 0,.int .i64 0,.int .i64 0,.int .i64 0,.int .i64 0,.slice none 0 0,.slice none 0 0,.slice none 0 0,.slice none 0 0,.int .i64 0,.int .i64 0].toArray 41))):=dcS.new w C s
 have HG4:Hid (g4<T):=by obtain⟨rs,_,_,_,h4,_⟩:=hQ;exact h4
 have HBT:Hid (B≤T∧T≤w.heap.size):=⟨hB,hT⟩
 have HES:Hid (∀ W,Calls Tryz.prog 27 #[.agg (coL C s).toArray] W fun o w'=>o = .returned (.int .i64 (esZ C.p C.te C.re))∧Below W.heap.size W w'):=fun W=>specES_any W C s
 have HSY:Hid (∀ W,Below w.heap.size w W→Calls Tryz.prog 77 #[.agg (coL C s).toArray,.int .i64 10,.int .i64 (esZ C.p C.te C.re),.int .i64 0] W fun o w'=>∃ g' n' k',o = .returned (.agg (coL { C with ho:=postHo C.ho (ev3 10 (esZ C.p C.te C.re) 0) } (qSl s g' n' k')).toArray)∧(∀ V:World,(∀ x,B≤x→x<T∨W.heap.size≤x→x<w'.heap.size→V.heap[x]?=w'.heap[x]?)→w'.heap.size≤V.heap.size→rowQ8 B V.heap.size 67 g' n' k' (quP C.ho.c3 C.ho.qu (ev3 10 (esZ C.p C.te C.re) 0)) V)∧(∀ q,q≠g4→q<W.heap.size→w'.heap[q]?=W.heap[q]?)∧Below B W w'):=fun W hW=>l4say_q W C s B T g4 10 (esZ C.p C.te C.re) 0 ha (hQ.keep fun q h1 h2=>hW.block q (by omega)) hB (by have:=hW.size;omega) hn hlo
 clear ha hQ hB hT hn hlo;generalize esZ C.p C.te C.re=es at *;have d1:(es == old)=false:=by simpa using e
 have d2:(es != old)=true:=by simpa using e
 clear e;go_enter Tryz.func104,Tryz.ntmps104
 go_wp2_with (first
  | (refine wpList_load_mid (P:=Tryz.prog) rfl 41 (.tmp 2) rfl w.heap.size 0 rfl (coL C s) _ H0.out.p.load Tryz.underlying41 rfl (szC41L C s) ?_))
 refine (HES.out _).mono ?_
 rintro o w1 ⟨rfl,hb1⟩;have H1:Hid (dcS w C s w1):=H0.out.below hb1
 clear H0 hb1 HES;go_wp2_with (first
  | (refine wpList_load_mid (P:=Tryz.prog) rfl 41 (.tmp 2) rfl w.heap.size 0 rfl (coL C s) _ H1.out.p.load Tryz.underlying41 rfl (szC41L C s) ?_))
 refine (HSY.out _ H1.out.b).mono ?_
 rintro o w2 ⟨g',n',k',rfl,q1,q2,q3⟩;have HQ1:Hid (∀ V:World,(∀ x,B≤x→x<T∨w1.heap.size≤x→x<w2.heap.size→V.heap[x]?=w2.heap[x]?)→w2.heap.size≤V.heap.size→rowQ8 B V.heap.size 67 g' n' k' (quP C.ho.c3 C.ho.qu (ev3 10 es 0)) V):=q1
 have H2:Hid (blk w2 (w.heap.size+1) Z21 41∧w.heap.size+1<w1.heap.size∧w1.heap.size≤w2.heap.size):=⟨H1.out.r.kept (q2 _ (by have:=HG4.out;have:=HBT.out;omega) H1.out.r.lt),H1.out.r.lt,q3.size⟩
 have HK2:Hid (∀ q,q≠g4→q<w.heap.size→w2.heap[q]?=w.heap[q]?):=fun q h1 h2=>(q2 q h1 (Nat.lt_of_lt_of_le h2 H1.out.b.size)).trans (H1.out.b.block q h2)
 have HB2:Hid (Below B w w2):=(H1.out.b.mono (by have:=HBT.out;omega)).trans q3
 clear q1 q2 q3 H1 HSY;go_wp2_with (first
  | (refine wpList_store_mid (P:=Tryz.prog) rfl 41 (.tmp 4) (.tmp 13) rfl (w.heap.size+1) 0 (coL { C with ho:=postHo C.ho (ev3 10 es 0) } (qSl s g' n' k')).toArray rfl rfl (H2.out.1.there 0 _ (by rw[List.size_toArray,coL_len];decide)) (szC41A _ _) (coL_one _ _) ?_;generalize hW4:World.setCells w2 (w.heap.size+1) 0 _=w4;have H4:Hid (blk w4 (w.heap.size+1) (coL { C with ho:=postHo C.ho (ev3 10 es 0) } (qSl s g' n' k')) 41∧(∀ q,q≠w.heap.size+1→w4.heap[q]?=w2.heap[q]?)∧w4.heap.size=w2.heap.size∧Below B w w4):=(by rw[← hW4];exact⟨H2.out.1.core rfl _ _,fun q h1=>setCells_other _ q h1 _ _ _,setCells_size ..,setCells_below (by have:=HBT.out;omega) 0 _ HB2.out⟩);clear hW4))
 have hL:=run_loadVar_mid (P:=Tryz.prog) w4 (w.heap.size+1) 0 41 _ _ H4.out.1.load Tryz.underlying41 rfl (szC41L _ _)
 refine bodyPost_ret (v:=.agg (coL { C with ho:=postHo C.ho (ev3 10 es 0) } (qSl s g' n' k')).toArray) (results_cell Tryz.results104 _ w4 (w.heap.size+1) _ rfl hL) rfl ?_
 have hz:=H4.out.2.2.1
 have hz2:=H2.out.2
 have hbt:=HBT.out
 refine⟨g',n',k',rfl,fun V h1 h2=>HQ1.out V (fun q h3 h4 h5=>(h1 q h3 (by omega) (by omega)).trans (H4.out.2.1 q (by omega))) (by omega),fun q h1 h2=>(H4.out.2.1 q (by omega)).trans (HK2.out q h1 h2),H4.out.2.2.2⟩
end Go.Proofs.YtkfcfigbgmbaiaaGreat
