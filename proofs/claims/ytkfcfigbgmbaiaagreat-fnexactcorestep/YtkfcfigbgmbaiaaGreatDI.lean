import Derived.Test.YtkfcfigbgmbaiaaGreatG43
import Derived.Test.YtkfcfigbgmbaiaaGreatG48
import Derived.Test.YtkfcfigbgmbaiaaGreatHX
namespace Go.Proofs.YtkfcfigbgmbaiaaGreat
open Go.RowKit
set_option linter.unusedVariables false
set_option maxHeartbeats 16000000
theorem one21 (p ct lv:Int) (wk ov ow tx ak:Bool) (rn te re c0 c1 c2 c3:Int) (b1:Option Addr) (m1 l1:Nat) (b2:Option Addr) (m2 l2:Nat) (b3:Option Addr) (m3 l3:Nat) (b4:Option Addr) (m4 l4:Nat) (lo st:Int):(#[.int .i64 p,.int .i64 ct,.int .i64 lv,.bool wk,.bool ov,.bool ow,.bool tx,.bool ak,.int .i64 rn,.int .i64 te,.int .i64 re,.int .i64 c0,.int .i64 c1,.int .i64 c2,.int .i64 c3,.slice b1 m1 l1,.slice b2 m2 l2,.slice b3 m3 l3,.slice b4 m4 l4,.int .i64 lo,.int .i64 st]:Array Value).all (·.oneCell')=true:=
 all_oneCell_toArray (by simp[Value.oneCell'])
theorem heap_two (w:World) (C A B:Obj):(((w.alloc C).alloc A).alloc B).heap[w.heap.size+1]?=some A:=by
 rw[Below.heap_alloc _ _ _ (by simp)]
 have:=heap_alloc_new (w.alloc C) A
 simpa using this
theorem heap_three (w:World) (C A B:Obj):(((w.alloc C).alloc A).alloc B).heap[w.heap.size+1+1]?=some B:=by
 have:=heap_alloc_new ((w.alloc C).alloc A) B
 simpa using this
theorem core_a {p ct lv:Int} {wk ov ow tx ak:Bool} {rn te re c0 c1 c2 c3:Int} {b1:Option Addr} {m1 l1:Nat} {b2:Option Addr} {m2 l2:Nat} {b3:Option Addr} {m3 l3:Nat} {b4:Option Addr} {m4 l4:Nat} {lo st:Int} {w2 w3:World} {b:Nat} (h:w2.heap[b]?=some (.cells [.int .i64 p,.int .i64 ct,.int .i64 lv,.bool wk,.bool ov,.bool ow,.bool tx,.bool ak,.int .i64 rn,.int .i64 te,.int .i64 re,.int .i64 0,.int .i64 0,.int .i64 0,.int .i64 0,.slice none 0 0,.slice none 0 0,.slice none 0 0,.slice none 0 0,.int .i64 0,.int .i64 0].toArray 41)) (e:World.setCells w2 b 11 [.int .i64 c0,.int .i64 c1,.int .i64 c2,.int .i64 c3,.slice b1 m1 l1,.slice b2 m2 l2,.slice b3 m3 l3,.slice b4 m4 l4,.int .i64 lo,.int .i64 st]=w3):w3.heap[b]?=some (.cells [.int .i64 p,.int .i64 ct,.int .i64 lv,.bool wk,.bool ov,.bool ow,.bool tx,.bool ak,.int .i64 rn,.int .i64 te,.int .i64 re,.int .i64 c0,.int .i64 c1,.int .i64 c2,.int .i64 c3,.slice b1 m1 l1,.slice b2 m2 l2,.slice b3 m3 l3,.slice b4 m4 l4,.int .i64 lo,.int .i64 st].toArray 41):=by
 subst e;exact setCells_block b 41 [.int .i64 c0,.int .i64 c1,.int .i64 c2,.int .i64 c3,.slice b1 m1 l1,.slice b2 m2 l2,.slice b3 m3 l3,.slice b4 m4 l4,.int .i64 lo,.int .i64 st] zX [.int .i64 p,.int .i64 ct,.int .i64 lv,.bool wk,.bool ov,.bool ow,.bool tx,.bool ak,.int .i64 rn,.int .i64 te,.int .i64 re] [] w2 rfl h
theorem core_r {w2 w3:World} {b b':Nat} {l:Array Value} {vs:List Value} {o:Nat} (h:w2.heap[b]?=some (.cells l 41)) (e:World.setCells w2 b' o vs=w3) (hb:b≠b':=by omega):w3.heap[b]?=some (.cells l 41):=by
 subst e;exact (setCells_other b' b hb vs w2 o).trans h
theorem core_f {p ct lv:Int} {wk ov ow tx ak:Bool} {rn te re c0 c1 c2 c3:Int} {b1:Option Addr} {m1 l1:Nat} {b2:Option Addr} {m2 l2:Nat} {b3:Option Addr} {m3 l3:Nat} {b4:Option Addr} {m4 l4:Nat} {lo st:Int} {w3 w4:World} {b:Nat} (h:w3.heap[b]?=some (.cells [.int .i64 0,.int .i64 0,.int .i64 0,.bool false,.bool false,.bool false,.bool false,.bool false,.int .i64 0,.int .i64 0,.int .i64 0,.int .i64 0,.int .i64 0,.int .i64 0,.int .i64 0,.slice none 0 0,.slice none 0 0,.slice none 0 0,.slice none 0 0,.int .i64 0,.int .i64 0].toArray 41)) (e:World.setCells w3 b 0 [.int .i64 p,.int .i64 ct,.int .i64 lv,.bool wk,.bool ov,.bool ow,.bool tx,.bool ak,.int .i64 rn,.int .i64 te,.int .i64 re,.int .i64 c0,.int .i64 c1,.int .i64 c2,.int .i64 c3,.slice b1 m1 l1,.slice b2 m2 l2,.slice b3 m3 l3,.slice b4 m4 l4,.int .i64 lo,.int .i64 st]=w4):w4.heap[b]?=some (.cells [.int .i64 p,.int .i64 ct,.int .i64 lv,.bool wk,.bool ov,.bool ow,.bool tx,.bool ak,.int .i64 rn,.int .i64 te,.int .i64 re,.int .i64 c0,.int .i64 c1,.int .i64 c2,.int .i64 c3,.slice b1 m1 l1,.slice b2 m2 l2,.slice b3 m3 l3,.slice b4 m4 l4,.int .i64 lo,.int .i64 st].toArray 41):=by
 subst e;exact setCells_block b 41 [.int .i64 p,.int .i64 ct,.int .i64 lv,.bool wk,.bool ov,.bool ow,.bool tx,.bool ak,.int .i64 rn,.int .i64 te,.int .i64 re,.int .i64 c0,.int .i64 c1,.int .i64 c2,.int .i64 c3,.slice b1 m1 l1,.slice b2 m2 l2,.slice b3 m3 l3,.slice b4 m4 l4,.int .i64 lo,.int .i64 st] [.int .i64 0,.int .i64 0,.int .i64 0,.bool false,.bool false,.bool false,.bool false,.bool false,.int .i64 0,.int .i64 0,.int .i64 0,.int .i64 0,.int .i64 0,.int .i64 0,.int .i64 0,.slice none 0 0,.slice none 0 0,.slice none 0 0,.slice none 0 0,.int .i64 0,.int .i64 0] [] [] w3 rfl h
theorem results_mem10 (tmps:Array Value) (w:World) (b:Nat) (V:Value) (h2:tmps.getD 2 undef = .pointer (some ⟨b,0,none⟩)) (hL:(loadVar 41 ⟨b,0,none⟩).run Tryz.prog w = .ok V w):(results Tryz.f10 tmps).run Tryz.prog w = .ok V w:=by
 simp only[Array.getD_eq_getD_getElem?] at h2
 simp[results,Tryz.results10,h2,asAddr,hL]
set_option maxRecDepth 40000 in
theorem toCoWh (w:World) (C:Co) (s:Sl) (h:isHo w C.ho s) (hn:C.ho.le 1048576) :
  Calls Tryz.prog 10 #[.agg (coL C s).toArray] w fun o w'=>∃ s':Wh,o = .returned (.agg (coL C s'.sl).toArray)∧St w.heap.size w' (fun W=>isHo W C.ho s'.sl)∧whS w.heap.size w'.heap.size w' s'∧whD s'∧slSome s'.sl∧Below w.heap.size w w':=by
 have HC:Hid (∀ X,Below w.heap.size w X→w.heap.size+3≤X.heap.size→Calls Tryz.prog 36 #[hoV C.ho s] X fun o w'=>∃ s':Wh,o = .returned (hoV C.ho s'.sl)∧(St (w.heap.size+3) w' (fun W=>isHo W C.ho s'.sl)∧whS (w.heap.size+3) w'.heap.size w' s'∧whD s'∧slSome s'.sl)∧Below w.heap.size w w'∧Below X.heap.size X w'):=by
  intro X hX hz;rw[hoV_L]
  refine (toWh X C.ho s (h.below hX) hn).mono ?_
  rintro o w' ⟨s',rfl,h1,h2,h3,h4,h5⟩;exact⟨s',by rw[hoV_L],⟨h1.mono hz,h2.mono hz (Nat.le_refl _),h3,h4⟩,hX.trans (h5.mono hX.size),h5⟩
 clear h hn;show Calls Tryz.prog 10 #[coV C s] w _
 obtain⟨p,ct,lv,wk,ov,ow,tx,ak,rn,te,re,⟨c0,c1,c2,c3,fs,bx,ff,qu,lo,st⟩⟩:=C
 obtain⟨a1,n1,k1,a2,n2,k2,a3,n3,k3,a4,n4,k4⟩:=s
 go_enter Tryz.func10,Tryz.ntmps10
 go_wp2_with (first | (go_at_call 36;refine (HC.out _ (by (repeat refine Below.setCell ?_ (by simp;try omega) _);exact (((Below.refl _ _).alloc (Nat.le_refl _) _).alloc (by simp) _).alloc (by simp;omega) _) (by simp)).mono ?_;rintro o w2 ⟨s',rfl,S2,B2,K2⟩;have HO2:Hid (w2.heap[w.heap.size+1+1]?=some (.cells [.int .i64 p,.int .i64 ct,.int .i64 lv,.bool wk,.bool ov,.bool ow,.bool tx,.bool ak,.int .i64 rn,.int .i64 te,.int .i64 re,.int .i64 0,.int .i64 0,.int .i64 0,.int .i64 0,.slice none 0 0,.slice none 0 0,.slice none 0 0,.slice none 0 0,.int .i64 0,.int .i64 0].toArray 41)):=(K2.block (w.heap.size+1+1) (by simp)).trans (heap_three w _ _ _);have HR2:Hid (w2.heap[w.heap.size+1]?=some (.cells [.int .i64 0,.int .i64 0,.int .i64 0,.bool false,.bool false,.bool false,.bool false,.bool false,.int .i64 0,.int .i64 0,.int .i64 0,.int .i64 0,.int .i64 0,.int .i64 0,.int .i64 0,.slice none 0 0,.slice none 0 0,.slice none 0 0,.slice none 0 0,.int .i64 0,.int .i64 0].toArray 41)):=(K2.block (w.heap.size+1) (by simp)).trans (heap_two w _ _ _);have HS:Hid _:=S2;have HB:Hid _:=B2;clear S2 B2 K2) | (refine wpList_store_mid (P:=Tryz.prog) rfl 39 (.tmp 40) (.tmp 39) rfl (w.heap.size+1+1) 11 #[.int .i64 c0,.int .i64 c1,.int .i64 c2,.int .i64 c3,.slice s'.sl.a1 s'.sl.n1 s'.sl.k1,.slice s'.sl.a2 s'.sl.n2 s'.sl.k2,.slice s'.sl.a3 s'.sl.n3 s'.sl.k3,.slice s'.sl.a4 s'.sl.n4 s'.sl.k4,.int .i64 lo,.int .i64 st] rfl rfl (there_block HO2.out 11 10 (by simp)) sz41 (one10 _ _ _ _ _ _ _ _ _ _ _ _ _ _ _ _ _ _) ?_;generalize hW3:World.setCells w2 (w.heap.size+1+1) 11 _=w3;have HW3:Hid (World.setCells w2 (w.heap.size+1+1) 11 [.int .i64 c0,.int .i64 c1,.int .i64 c2,.int .i64 c3,.slice s'.sl.a1 s'.sl.n1 s'.sl.k1,.slice s'.sl.a2 s'.sl.n2 s'.sl.k2,.slice s'.sl.a3 s'.sl.n3 s'.sl.k3,.slice s'.sl.a4 s'.sl.n4 s'.sl.k4,.int .i64 lo,.int .i64 st]=w3):=hW3;clear hW3) | (refine wpList_load_mid (P:=Tryz.prog) rfl 41 (.tmp 3) rfl (w.heap.size+1+1) 0 rfl [.int .i64 p,.int .i64 ct,.int .i64 lv,.bool wk,.bool ov,.bool ow,.bool tx,.bool ak,.int .i64 rn,.int .i64 te,.int .i64 re,.int .i64 c0,.int .i64 c1,.int .i64 c2,.int .i64 c3,.slice s'.sl.a1 s'.sl.n1 s'.sl.k1,.slice s'.sl.a2 s'.sl.n2 s'.sl.k2,.slice s'.sl.a3 s'.sl.n3 s'.sl.k3,.slice s'.sl.a4 s'.sl.n4 s'.sl.k4,.int .i64 lo,.int .i64 st] _ (range_block (core_a HO2.out HW3.out)) Tryz.underlying41 rfl szC41 ?_) | (refine wpList_store_mid (P:=Tryz.prog) rfl 41 (.tmp 2) (.tmp 41) rfl (w.heap.size+1) 0 #[.int .i64 p,.int .i64 ct,.int .i64 lv,.bool wk,.bool ov,.bool ow,.bool tx,.bool ak,.int .i64 rn,.int .i64 te,.int .i64 re,.int .i64 c0,.int .i64 c1,.int .i64 c2,.int .i64 c3,.slice s'.sl.a1 s'.sl.n1 s'.sl.k1,.slice s'.sl.a2 s'.sl.n2 s'.sl.k2,.slice s'.sl.a3 s'.sl.n3 s'.sl.k3,.slice s'.sl.a4 s'.sl.n4 s'.sl.k4,.int .i64 lo,.int .i64 st] rfl rfl (there_block (core_r HR2.out HW3.out) 0 21 (by simp)) szC41 (one21 _ _ _ _ _ _ _ _ _ _ _ _ _ _ _ _ _ _ _ _ _ _ _ _ _ _ _ _ _) ?_;generalize hW4:World.setCells w3 (w.heap.size+1) 0 _=w4;have HW4:Hid (World.setCells w3 (w.heap.size+1) 0 [.int .i64 p,.int .i64 ct,.int .i64 lv,.bool wk,.bool ov,.bool ow,.bool tx,.bool ak,.int .i64 rn,.int .i64 te,.int .i64 re,.int .i64 c0,.int .i64 c1,.int .i64 c2,.int .i64 c3,.slice s'.sl.a1 s'.sl.n1 s'.sl.k1,.slice s'.sl.a2 s'.sl.n2 s'.sl.k2,.slice s'.sl.a3 s'.sl.n3 s'.sl.k3,.slice s'.sl.a4 s'.sl.n4 s'.sl.k4,.int .i64 lo,.int .i64 st]=w4):=hW4;clear hW4))
 have hF:=core_f (core_r HR2.out HW3.out) HW4.out
 have hL:=run_loadVar_mid (P:=Tryz.prog) w4 (w.heap.size+1) 0 41 [.int .i64 p,.int .i64 ct,.int .i64 lv,.bool wk,.bool ov,.bool ow,.bool tx,.bool ak,.int .i64 rn,.int .i64 te,.int .i64 re,.int .i64 c0,.int .i64 c1,.int .i64 c2,.int .i64 c3,.slice s'.sl.a1 s'.sl.n1 s'.sl.k1,.slice s'.sl.a2 s'.sl.n2 s'.sl.k2,.slice s'.sl.a3 s'.sl.n3 s'.sl.k3,.slice s'.sl.a4 s'.sl.n4 s'.sl.k4,.int .i64 lo,.int .i64 st] _ (range_block hF) Tryz.underlying41 rfl szC41
 refine bodyPost_ret (v:=coV ⟨p,ct,lv,wk,ov,ow,tx,ak,rn,te,re,⟨c0,c1,c2,c3,fs,bx,ff,qu,lo,st⟩⟩ s'.sl) (results_mem10 _ w4 (w.heap.size+1) _ rfl hL) rfl ?_
 have T:=HS.out
 have e3:=HW3.out
 have e4:=HW4.out
 have oth:∀ x,w.heap.size+3≤x→w4.heap[x]?=w2.heap[x]?:=fun x hx=>by
  rw[← e4,← e3]
  exact (setCells_other _ x (by omega) _ _ _).trans (setCells_other _ x (by omega) _ _ _)
 have hsz:w4.heap.size=w2.heap.size:=by rw[← e4,← e3];exact (setCells_size ..).trans (setCells_size ..)
 refine⟨s',rfl,fun W hW=>T.1 W (fun x h1 h2=>(hW x (by omega) (by omega)).trans (oth x h1)),?_,T.2.2.1,T.2.2.2,?_⟩
 ·rw[hsz]
  exact (T.2.1.same (fun x h1 h2=>oth x h1)).mono (by omega) (Nat.le_refl _)
 ·rw[← e4,← e3]
  exact setCells_below (by omega) 0 _ (setCells_below (by omega) 11 _ HB.out)
theorem markCo {W:World} {C:Co} {s:Sl} {Q:Nat→World→Prop} (hc:∀ X,Below W.heap.size W X→Calls Tryz.prog 40 #[.agg (hoL C.ho s).toArray,.int .i64 1] X fun o w'=>∃ k:Nat,o = .returned (.int .i64 (k:Int))∧Q k w') :
  Calls Tryz.prog 13 #[.agg (coL C s).toArray,.int .i64 1] W fun o w'=>∃ k:Nat,o = .returned (.int .i64 (k:Int))∧Q k w':=by
 have H0:Hid (ctS W W.heap.size C s (W.alloc (.cells (coL C s).toArray 41))):=ctS.new W C s
 have HC:Hid (∀ X,Below W.heap.size W X→Calls Tryz.prog 40 #[.agg (hoL C.ho s).toArray,.int .i64 1] X fun o w'=>∃ k:Nat,o = .returned (.int .i64 (k:Int))∧Q k w'):=hc
 clear hc;go_enter Tryz.func13,Tryz.ntmps13
 go_wp2_with (first
  | (refine wpList_load_mid (P:=Tryz.prog) rfl 39 (.tmp 5) rfl W.heap.size 11 rfl (hoL C.ho s) _ H0.out.p.hostAt Tryz.underlying39 rfl (sz39h C.ho s) ?_))
 refine (HC.out _ H0.out.b).mono ?_
 rintro o w2 ⟨k,rfl,hq⟩;have HQ:Hid (Q k w2):=hq
 clear hq;go_wp2_with fail;go_ret;exact⟨k,rfl,HQ.out⟩
theorem heldCo {W:World} {C:Co} {s:Sl} (k:Nat) (hc:∀ X,Below W.heap.size W X→Calls Tryz.prog 41 #[.agg (hoL C.ho s).toArray,.int .i64 1] X fun o w'=>o = .returned (.int .i64 (k:Int))∧Below X.heap.size X w') :
  Calls Tryz.prog 14 #[.agg (coL C s).toArray,.int .i64 1] W fun o w'=>o = .returned (.int .i64 (k:Int))∧Below W.heap.size W w':=by
 have H0:Hid (ctS W W.heap.size C s (W.alloc (.cells (coL C s).toArray 41))):=ctS.new W C s
 have HC:Hid (∀ X,Below W.heap.size W X→Calls Tryz.prog 41 #[.agg (hoL C.ho s).toArray,.int .i64 1] X fun o w'=>o = .returned (.int .i64 (k:Int))∧Below X.heap.size X w'):=hc
 have hk0:decide ((k:Int)<0)=false:=by simp
 clear hc;go_enter Tryz.func14,Tryz.ntmps14
 go_wp2_with (first
  | (refine wpList_load_mid (P:=Tryz.prog) rfl 39 (.tmp 5) rfl W.heap.size 11 rfl (hoL C.ho s) _ H0.out.p.hostAt Tryz.underlying39 rfl (sz39h C.ho s) ?_))
 refine (HC.out _ H0.out.b).mono ?_
 rintro o w2 ⟨rfl,hq⟩;have HQ:Hid (Below W.heap.size W w2):=H0.out.b.trans (hq.mono H0.out.b.size)
 clear hq;go_wp2_with fail;go_ret;exact⟨rfl,HQ.out⟩
def MKC (B:Nat) (T:Co) (sg:Sl) (w:World):Prop:=∀ W,(∀ x,B≤x→x<w.heap.size→W.heap[x]?=w.heap[x]?)→w.heap.size≤W.heap.size→Calls Tryz.prog 13 #[.agg (coL T sg).toArray,.int .i64 1] W fun o w1=>∃ k:Nat,o = .returned (.int .i64 (k:Int))∧Below B W w1∧(∀ x,w.heap.size≤x→x<W.heap.size→w1.heap[x]?=W.heap[x]?)∧∀ W2,Below w1.heap.size w1 W2→Calls Tryz.prog 14 #[.agg (coL T sg).toArray,.int .i64 1] W2 fun o w2=>o = .returned (.int .i64 (k:Int))∧Below W2.heap.size W2 w2
theorem MKQ.core {B:Nat} {T:Co} {sg:Sl} {w:World} (h:MKQ B T.ho sg w) (hB:B≤w.heap.size):MKC B T sg w:=by
 intro W hW hz;refine markCo (fun X hX=>?_)
 refine (h X (fun x h1 h2=>(hX.block x (by omega)).trans (hW x h1 h2)) (by have:=hX.size;omega)).mono ?_
 rintro o w1 ⟨k,rfl,h1,h2,h3⟩;refine⟨k,rfl,(hX.mono (by omega)).trans h1,fun x h4 h5=>(h2 x h4 (by have:=hX.size;omega)).trans (hX.block x h5),fun W2 hW2=>?_⟩
 exact heldCo k (fun X2 hX2=>h3 X2 (hW2.trans (hX2.mono hW2.size)))
theorem xMarkC {B T:Nat} {W:World} {sx:Wh} {C:Co} (h:whS B T W sx) (hd:whD sx) (hT:T≤W.heap.size) (hB:B≤T):Calls Tryz.prog 13 #[.agg (coL C sx.sl).toArray,.int .i64 1] W fun o w1=>∃ k:Nat,o = .returned (.int .i64 (k:Int))∧(∀ x,T≤x→x<W.heap.size→w1.heap[x]?=W.heap[x]?)∧Below B W w1:=by
 refine markCo (fun X hX=>?_)
 refine (xMark2 (H:=C.ho) (h.same fun x h1 h2=>hX.block x (by omega)) hd (by have:=hX.size;omega)).mono ?_
 rintro o w1 ⟨k,rfl,h1,h2⟩;exact⟨k,rfl,fun x h4 h5=>(h1 x h4 (by have:=hX.size;omega)).trans (hX.block x h5),(hX.mono (by omega)).trans h2⟩
theorem szLC (X:World) (C:Co) (s:Sl) (h:isHo X C.ho s) (hn:C.ho.le 9223372036854775807):Calls Tryz.prog 8 #[.agg (coL C s).toArray,.int .i64 1048576] X fun o w'=>∃ z:Int,o = .returned (.int .i64 z)∧Below X.heap.size X w'∧(z = -1∨∃ m':Nat,z=(m':Int)∧C.ho.le 1048576):=by
 rw[← coV_L]
 exact szCore_any X C s h hn
theorem eqLC (X:World) (T:Co) (s1 s2:Sl) (h1:isHo X T.ho s1) (h2:isHo X T.ho s2) (hm:T.ho.le 1048576):Calls Tryz.prog 12 #[.agg (coL T s1).toArray,.agg (coL T s2).toArray] X fun o w'=>o = .returned (.bool true)∧Below X.heap.size X w':=by
 rw[← coV_L,← coV_L]
 exact eqCore_same X T s1 s2 h1 h2 hm
end Go.Proofs.YtkfcfigbgmbaiaaGreat
