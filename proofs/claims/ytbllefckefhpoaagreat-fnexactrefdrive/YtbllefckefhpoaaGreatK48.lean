import Derived.Test.YtbllefckefhpoaaGreatK44
import Derived.Test.YtbllefckefhpoaaGreatK38
import Derived.Test.YtbllefckefhpoaaGreatK05
import Derived.Test.YtbllefckefhpoaaGreatK47
import Derived.Test.YtbllefckefhpoaaGreatK35
import Derived.Deep.RegionHeld3
import Derived.Test.YtbllefckefhpoaaGreatK46
namespace Go.Proofs.YtbllefckefhpoaaGreat
open Go.RowKit
set_option linter.unusedVariables false
set_option maxHeartbeats 16000000
open Go.Value renaming int→I,slice→sL,bool→bO,pointer→pT,agg→aG
open Go.IntKind renaming i64→J
open Go.Ending renaming returned→rT
open Go.Proofs.Tryz renaming prog→Tp
theorem one21 (p ct lv:Int) (wk ov ow tx ak:Bool) (rn te re c0 c1 c2 c3:Int) (b1:Option Addr) (m1 l1:Nat) (b2:Option Addr) (m2 l2:Nat) (b3:Option Addr) (m3 l3:Nat) (b4:Option Addr) (m4 l4:Nat) (lo st:Int):(#[I J p,I J ct,I J lv,bO wk,bO ov,bO ow,bO tx,bO ak,I J rn,I J te,I J re,I J c0,I J c1,I J c2,I J c3,sL b1 m1 l1,sL b2 m2 l2,sL b3 m3 l3,sL b4 m4 l4,I J lo,I J st]:Array Value).all (·.oneCell')=true:=
 all_oneCell_toArray (by simp[Value.oneCell'])
theorem heap_two (w:World) (C A B:Obj):(((w.alloc C).alloc A).alloc B).heap[w.heap.size+1]?=some A:=by
 rw[Below.heap_alloc _ _ _ (by simp)]
 have:=heap_alloc_new (w.alloc C) A
 simpa using this
theorem heap_three (w:World) (C A B:Obj):(((w.alloc C).alloc A).alloc B).heap[w.heap.size+1+1]?=some B:=by
 have:=heap_alloc_new ((w.alloc C).alloc A) B
 simpa using this
theorem core_a {p ct lv:Int} {wk ov ow tx ak:Bool} {rn te re c0 c1 c2 c3:Int} {b1:Option Addr} {m1 l1:Nat} {b2:Option Addr} {m2 l2:Nat} {b3:Option Addr} {m3 l3:Nat} {b4:Option Addr} {m4 l4:Nat} {lo st:Int} {w2 w3:World} {b:Nat} (h:w2.heap[b]?=some (.cells [I J p,I J ct,I J lv,bO wk,bO ov,bO ow,bO tx,bO ak,I J rn,I J te,I J re,I J 0,I J 0,I J 0,I J 0,sL none 0 0,sL none 0 0,sL none 0 0,sL none 0 0,I J 0,I J 0].toArray 43)) (e:World.setCells w2 b 11 [I J c0,I J c1,I J c2,I J c3,sL b1 m1 l1,sL b2 m2 l2,sL b3 m3 l3,sL b4 m4 l4,I J lo,I J st]=w3):w3.heap[b]?=some (.cells [I J p,I J ct,I J lv,bO wk,bO ov,bO ow,bO tx,bO ak,I J rn,I J te,I J re,I J c0,I J c1,I J c2,I J c3,sL b1 m1 l1,sL b2 m2 l2,sL b3 m3 l3,sL b4 m4 l4,I J lo,I J st].toArray 43):=by
 subst e;exact setCells_block b 43 [I J c0,I J c1,I J c2,I J c3,sL b1 m1 l1,sL b2 m2 l2,sL b3 m3 l3,sL b4 m4 l4,I J lo,I J st] zX [I J p,I J ct,I J lv,bO wk,bO ov,bO ow,bO tx,bO ak,I J rn,I J te,I J re] [] w2 rfl h
theorem core_r {w2 w3:World} {b b':Nat} {l:Array Value} {vs:List Value} {o:Nat} (h:w2.heap[b]?=some (.cells l 43)) (e:World.setCells w2 b' o vs=w3) (hb:b≠b':=by omega):w3.heap[b]?=some (.cells l 43):=by
 subst e;exact (setCells_other b' b hb vs w2 o).trans h
theorem core_f {p ct lv:Int} {wk ov ow tx ak:Bool} {rn te re c0 c1 c2 c3:Int} {b1:Option Addr} {m1 l1:Nat} {b2:Option Addr} {m2 l2:Nat} {b3:Option Addr} {m3 l3:Nat} {b4:Option Addr} {m4 l4:Nat} {lo st:Int} {w3 w4:World} {b:Nat} (h:w3.heap[b]?=some (.cells [I J 0,I J 0,I J 0,bO false,bO false,bO false,bO false,bO false,I J 0,I J 0,I J 0,I J 0,I J 0,I J 0,I J 0,sL none 0 0,sL none 0 0,sL none 0 0,sL none 0 0,I J 0,I J 0].toArray 43)) (e:World.setCells w3 b 0 [I J p,I J ct,I J lv,bO wk,bO ov,bO ow,bO tx,bO ak,I J rn,I J te,I J re,I J c0,I J c1,I J c2,I J c3,sL b1 m1 l1,sL b2 m2 l2,sL b3 m3 l3,sL b4 m4 l4,I J lo,I J st]=w4):w4.heap[b]?=some (.cells [I J p,I J ct,I J lv,bO wk,bO ov,bO ow,bO tx,bO ak,I J rn,I J te,I J re,I J c0,I J c1,I J c2,I J c3,sL b1 m1 l1,sL b2 m2 l2,sL b3 m3 l3,sL b4 m4 l4,I J lo,I J st].toArray 43):=by
 subst e;exact setCells_block b 43 [I J p,I J ct,I J lv,bO wk,bO ov,bO ow,bO tx,bO ak,I J rn,I J te,I J re,I J c0,I J c1,I J c2,I J c3,sL b1 m1 l1,sL b2 m2 l2,sL b3 m3 l3,sL b4 m4 l4,I J lo,I J st] [I J 0,I J 0,I J 0,bO false,bO false,bO false,bO false,bO false,I J 0,I J 0,I J 0,I J 0,I J 0,I J 0,I J 0,sL none 0 0,sL none 0 0,sL none 0 0,sL none 0 0,I J 0,I J 0] [] [] w3 rfl h
theorem results_mem10 (tmps:Array Value) (w:World) (b:Nat) (V:Value) (h2:tmps.getD 2 undef = pT (some ⟨b,0,none⟩)) (hL:(loadVar 43 ⟨b,0,none⟩).run Tp w = .ok V w):(results Tryz.f18 tmps).run Tp w = .ok V w:=by
 simp only[Array.getD_eq_getD_getElem?] at h2
 simp[results,Tryz.results18,h2,asAddr,hL]
set_option maxRecDepth 40000 in
theorem toCoWh (w:World) (C:Co) (s:Sl) (h:isHo w C.ho s) (hn:C.ho.le 1048576) :
  Calls Tp 18 #[aG (coL C s).toArray] w fun o w'=>∃ s':Wh,o = rT (aG (coL C s'.sl).toArray)∧St w.heap.size w' (fun W=>isHo W C.ho s'.sl)∧whS w.heap.size w'.heap.size w' s'∧whD s'∧slSome s'.sl∧Below w.heap.size w w':=by
 have HC:Hid (∀ X,Below w.heap.size w X→w.heap.size+3≤X.heap.size→Calls Tp 34 #[hoV C.ho s] X fun o w'=>∃ s':Wh,o = rT (hoV C.ho s'.sl)∧(St (w.heap.size+3) w' (fun W=>isHo W C.ho s'.sl)∧whS (w.heap.size+3) w'.heap.size w' s'∧whD s'∧slSome s'.sl)∧Below w.heap.size w w'∧Below X.heap.size X w'):=by
  intro X hX hz;rw[hoV_L]
  refine (toWh X C.ho s (h.below hX) hn).mono ?_
  rintro o w' ⟨s',rfl,h1,h2,h3,h4,h5⟩;exact⟨s',by rw[hoV_L],⟨h1.mono hz,h2.mono hz (Nat.le_refl _),h3,h4⟩,hX.trans (h5.mono hX.size),h5⟩
 clear h hn;show Calls Tp 18 #[coV C s] w _
 obtain⟨p,ct,lv,wk,ov,ow,tx,ak,rn,te,re,⟨c0,c1,c2,c3,fs,bx,ff,qu,lo,st⟩⟩:=C
 obtain⟨a1,n1,k1,a2,n2,k2,a3,n3,k3,a4,n4,k4⟩:=s
 go_enter Tryz.func18,Tryz.ntmps18
 go_wp2_with (first | (go_at_call 34;refine (HC.out _ (by (repeat refine Below.setCell ?_ (by simp;try omega) _);exact (((Below.refl _ _).alloc (Nat.le_refl _) _).alloc (by simp) _).alloc (by simp;omega) _) (by simp)).mono ?_;rintro o w2 ⟨s',rfl,S2,B2,K2⟩;have HO2:Hid (w2.heap[w.heap.size+1+1]?=some (.cells [I J p,I J ct,I J lv,bO wk,bO ov,bO ow,bO tx,bO ak,I J rn,I J te,I J re,I J 0,I J 0,I J 0,I J 0,sL none 0 0,sL none 0 0,sL none 0 0,sL none 0 0,I J 0,I J 0].toArray 43)):=(K2.block (w.heap.size+1+1) (by simp)).trans (heap_three w _ _ _);have HR2:Hid (w2.heap[w.heap.size+1]?=some (.cells [I J 0,I J 0,I J 0,bO false,bO false,bO false,bO false,bO false,I J 0,I J 0,I J 0,I J 0,I J 0,I J 0,I J 0,sL none 0 0,sL none 0 0,sL none 0 0,sL none 0 0,I J 0,I J 0].toArray 43)):=(K2.block (w.heap.size+1) (by simp)).trans (heap_two w _ _ _);have HS:Hid _:=S2;have HB:Hid _:=B2;clear S2 B2 K2) | (refine wpList_store_mid (P:=Tp) rfl 41 (.tmp 40) (.tmp 39) rfl (w.heap.size+1+1) 11 #[I J c0,I J c1,I J c2,I J c3,sL s'.sl.a1 s'.sl.n1 s'.sl.k1,sL s'.sl.a2 s'.sl.n2 s'.sl.k2,sL s'.sl.a3 s'.sl.n3 s'.sl.k3,sL s'.sl.a4 s'.sl.n4 s'.sl.k4,I J lo,I J st] rfl rfl (there_block HO2.out 11 10 (by simp)) sz41 (one10 _ _ _ _ _ _ _ _ _ _ _ _ _ _ _ _ _ _) ?_;generalize hW3:World.setCells w2 (w.heap.size+1+1) 11 _=w3;have HW3:Hid (World.setCells w2 (w.heap.size+1+1) 11 [I J c0,I J c1,I J c2,I J c3,sL s'.sl.a1 s'.sl.n1 s'.sl.k1,sL s'.sl.a2 s'.sl.n2 s'.sl.k2,sL s'.sl.a3 s'.sl.n3 s'.sl.k3,sL s'.sl.a4 s'.sl.n4 s'.sl.k4,I J lo,I J st]=w3):=hW3;clear hW3) | (refine wpList_load_mid (P:=Tp) rfl 43 (.tmp 3) rfl (w.heap.size+1+1) 0 rfl [I J p,I J ct,I J lv,bO wk,bO ov,bO ow,bO tx,bO ak,I J rn,I J te,I J re,I J c0,I J c1,I J c2,I J c3,sL s'.sl.a1 s'.sl.n1 s'.sl.k1,sL s'.sl.a2 s'.sl.n2 s'.sl.k2,sL s'.sl.a3 s'.sl.n3 s'.sl.k3,sL s'.sl.a4 s'.sl.n4 s'.sl.k4,I J lo,I J st] _ (range_block (core_a HO2.out HW3.out)) Tryz.underlying43 rfl szC41 ?_) | (refine wpList_store_mid (P:=Tp) rfl 43 (.tmp 2) (.tmp 41) rfl (w.heap.size+1) 0 #[I J p,I J ct,I J lv,bO wk,bO ov,bO ow,bO tx,bO ak,I J rn,I J te,I J re,I J c0,I J c1,I J c2,I J c3,sL s'.sl.a1 s'.sl.n1 s'.sl.k1,sL s'.sl.a2 s'.sl.n2 s'.sl.k2,sL s'.sl.a3 s'.sl.n3 s'.sl.k3,sL s'.sl.a4 s'.sl.n4 s'.sl.k4,I J lo,I J st] rfl rfl (there_block (core_r HR2.out HW3.out) 0 21 (by simp)) szC41 (one21 _ _ _ _ _ _ _ _ _ _ _ _ _ _ _ _ _ _ _ _ _ _ _ _ _ _ _ _ _) ?_;generalize hW4:World.setCells w3 (w.heap.size+1) 0 _=w4;have HW4:Hid (World.setCells w3 (w.heap.size+1) 0 [I J p,I J ct,I J lv,bO wk,bO ov,bO ow,bO tx,bO ak,I J rn,I J te,I J re,I J c0,I J c1,I J c2,I J c3,sL s'.sl.a1 s'.sl.n1 s'.sl.k1,sL s'.sl.a2 s'.sl.n2 s'.sl.k2,sL s'.sl.a3 s'.sl.n3 s'.sl.k3,sL s'.sl.a4 s'.sl.n4 s'.sl.k4,I J lo,I J st]=w4):=hW4;clear hW4))
 have hF:=core_f (core_r HR2.out HW3.out) HW4.out
 have hL:=run_loadVar_mid (P:=Tp) w4 (w.heap.size+1) 0 43 [I J p,I J ct,I J lv,bO wk,bO ov,bO ow,bO tx,bO ak,I J rn,I J te,I J re,I J c0,I J c1,I J c2,I J c3,sL s'.sl.a1 s'.sl.n1 s'.sl.k1,sL s'.sl.a2 s'.sl.n2 s'.sl.k2,sL s'.sl.a3 s'.sl.n3 s'.sl.k3,sL s'.sl.a4 s'.sl.n4 s'.sl.k4,I J lo,I J st] _ (range_block hF) Tryz.underlying43 rfl szC41
 refine bodyPost_ret (v:=coV ⟨p,ct,lv,wk,ov,ow,tx,ak,rn,te,re,⟨c0,c1,c2,c3,fs,bx,ff,qu,lo,st⟩⟩ s'.sl) (results_mem10 _ w4 (w.heap.size+1) _ rfl hL) rfl ?_
 have T:=HS.out
 have e3:=HW3.out
 have e4:=HW4.out
 have oth:∀ x,w.heap.size+3≤x→w4.heap[x]?=w2.heap[x]?:=fun x hx=>by
  rw[← e4,← e3]
  exact (setCells_other _ x (by omega) _ _ _).trans (setCells_other _ x (by omega) _ _ _)
 have hsz:w4.heap.size=w2.heap.size:=by rw[← e4,← e3];exact (setCells_size ..).trans (setCells_size ..)
 refine⟨s',rfl,fun W hW=>T.1 W (fun x h1 h2=>(hW x (by omega) (by omega)).trans (oth x h1)),?_,T.2.2.1,T.2.2.2,?_⟩
 ·rw[hsz]
  exact (T.2.1.same (fun x h1 h2=>oth x h1)).mono (by omega) (Nat.le_refl _)
 ·rw[← e4,← e3]
  exact setCells_below (by omega) 0 _ (setCells_below (by omega) 11 _ HB.out)
theorem markCo {W:World} {C:Co} {s:Sl} {Q:Nat→World→Prop} (hc:∀ X,Below W.heap.size W X→Calls Tp 40 #[aG (hoL C.ho s).toArray,I J 1] X fun o w'=>∃ k:Nat,o = rT (I J (k:Int))∧Q k w') :
  Calls Tp 22 #[aG (coL C s).toArray,I J 1] W fun o w'=>∃ k:Nat,o = rT (I J (k:Int))∧Q k w':=by
 have H0:Hid (ctS W W.heap.size C s (W.alloc (.cells (coL C s).toArray 43))):=ctS.new W C s
 have HC:Hid (∀ X,Below W.heap.size W X→Calls Tp 40 #[aG (hoL C.ho s).toArray,I J 1] X fun o w'=>∃ k:Nat,o = rT (I J (k:Int))∧Q k w'):=hc
 clear hc;go_enter Tryz.func22,Tryz.ntmps22
 go_wp2_with (first
  | (refine wpList_load_mid (P:=Tp) rfl 41 (.tmp 5) rfl W.heap.size 11 rfl (hoL C.ho s) _ H0.out.p.hostAt Tryz.underlying41 rfl (sz39h C.ho s) ?_))
 refine (HC.out _ H0.out.b).mono ?_
 rintro o w2 ⟨k,rfl,hq⟩;have HQ:Hid (Q k w2):=hq
 clear hq;go_wp2_with fail;go_ret;exact⟨k,rfl,HQ.out⟩
theorem heldCo {W:World} {C:Co} {s:Sl} (k:Nat) (hc:∀ X,Below W.heap.size W X→Calls Tp 41 #[aG (hoL C.ho s).toArray,I J 1] X fun o w'=>o = rT (I J (k:Int))∧Below X.heap.size X w') :
  Calls Tp 23 #[aG (coL C s).toArray,I J 1] W fun o w'=>o = rT (I J (k:Int))∧Below W.heap.size W w':=by
 have H0:Hid (ctS W W.heap.size C s (W.alloc (.cells (coL C s).toArray 43))):=ctS.new W C s
 have HC:Hid (∀ X,Below W.heap.size W X→Calls Tp 41 #[aG (hoL C.ho s).toArray,I J 1] X fun o w'=>o = rT (I J (k:Int))∧Below X.heap.size X w'):=hc
 have hk0:decide ((k:Int)<0)=false:=by simp
 clear hc;go_enter Tryz.func23,Tryz.ntmps23
 go_wp2_with (first
  | (refine wpList_load_mid (P:=Tp) rfl 41 (.tmp 5) rfl W.heap.size 11 rfl (hoL C.ho s) _ H0.out.p.hostAt Tryz.underlying41 rfl (sz39h C.ho s) ?_))
 refine (HC.out _ H0.out.b).mono ?_
 rintro o w2 ⟨rfl,hq⟩;have HQ:Hid (Below W.heap.size W w2):=H0.out.b.trans (hq.mono H0.out.b.size)
 clear hq;go_wp2_with fail;go_ret;exact⟨rfl,HQ.out⟩
def MKC (B:Nat) (T:Co) (sg:Sl) (w:World):Prop:=∀ W,(∀ x,B≤x→x<w.heap.size→W.heap[x]?=w.heap[x]?)→w.heap.size≤W.heap.size→Calls Tp 22 #[aG (coL T sg).toArray,I J 1] W fun o w1=>∃ k:Nat,o = rT (I J (k:Int))∧Below B W w1∧(∀ x,w.heap.size≤x→x<W.heap.size→w1.heap[x]?=W.heap[x]?)∧∀ W2,Below w1.heap.size w1 W2→Calls Tp 23 #[aG (coL T sg).toArray,I J 1] W2 fun o w2=>o = rT (I J (k:Int))∧Below W2.heap.size W2 w2
theorem MKQ.core {B:Nat} {T:Co} {sg:Sl} {w:World} (h:MKQ B T.ho sg w) (hB:B≤w.heap.size):MKC B T sg w:=by
 intro W hW hz;refine markCo (fun X hX=>?_)
 refine (h X (fun x h1 h2=>(hX.block x (by omega)).trans (hW x h1 h2)) (by have:=hX.size;omega)).mono ?_
 rintro o w1 ⟨k,rfl,h1,h2,h3⟩;refine⟨k,rfl,(hX.mono (by omega)).trans h1,fun x h4 h5=>(h2 x h4 (by have:=hX.size;omega)).trans (hX.block x h5),fun W2 hW2=>?_⟩
 exact heldCo k (fun X2 hX2=>h3 X2 (hW2.trans (hX2.mono hW2.size)))
theorem xMarkC {B T:Nat} {W:World} {sx:Wh} {C:Co} (h:whS B T W sx) (hd:whD sx) (hT:T≤W.heap.size) (hB:B≤T):Calls Tp 22 #[aG (coL C sx.sl).toArray,I J 1] W fun o w1=>∃ k:Nat,o = rT (I J (k:Int))∧(∀ x,T≤x→x<W.heap.size→w1.heap[x]?=W.heap[x]?)∧Below B W w1:=by
 refine markCo (fun X hX=>?_)
 refine (xMark2 (H:=C.ho) (h.same fun x h1 h2=>hX.block x (by omega)) hd (by have:=hX.size;omega)).mono ?_
 rintro o w1 ⟨k,rfl,h1,h2⟩;exact⟨k,rfl,fun x h4 h5=>(h1 x h4 (by have:=hX.size;omega)).trans (hX.block x h5),(hX.mono (by omega)).trans h2⟩
theorem szLC (X:World) (C:Co) (s:Sl) (h:isHo X C.ho s) (hn:C.ho.le 9223372036854775807):Calls Tp 11 #[aG (coL C s).toArray,I J 1048576] X fun o w'=>∃ z:Int,o = rT (I J z)∧Below X.heap.size X w'∧(z = -1∨∃ m':Nat,z=(m':Int)∧C.ho.le 1048576):=by
 rw[← coV_L]
 exact szCore_any X C s h hn
theorem eqLC (X:World) (T:Co) (s1 s2:Sl) (h1:isHo X T.ho s1) (h2:isHo X T.ho s2) (hm:T.ho.le 1048576):Calls Tp 21 #[aG (coL T s1).toArray,aG (coL T s2).toArray] X fun o w'=>o = rT (bO true)∧Below X.heap.size X w':=by
 rw[← coV_L,← coV_L]
 exact eqCore_same X T s1 s2 h1 h2 hm
set_option maxRecDepth 20000 in
theorem eqRef_same (w:World) (T:Co) (s1 s2:Sl) (hd:ByteArray) (h1:isHo w T.ho s1) (h2:isHo w T.ho s2) (hm:T.ho.le 1048576):Calls Tp 8 #[aG (rfL T s1 hd).toArray,aG (rfL T s2 hd).toArray] w fun o w'=>o = rT (bO true)∧Below w.heap.size w w':=by
 have H0:Hid (blk ((w.alloc (.cells (rfL T s1 hd).toArray 45)).alloc (.cells (rfL T s2 hd).toArray 45)) w.heap.size (rfL T s1 hd) 45∧blk ((w.alloc (.cells (rfL T s1 hd).toArray 45)).alloc (.cells (rfL T s2 hd).toArray 45)) (w.heap.size+1) (rfL T s2 hd) 45∧Below w.heap.size w ((w.alloc (.cells (rfL T s1 hd).toArray 45)).alloc (.cells (rfL T s2 hd).toArray 45))):=by
  refine⟨(blk.new w _ 45).alloc _,?_,((Below.refl _ _).alloc (Nat.le_refl _) _).alloc (by simp) _⟩
  have:=blk.new (w.alloc (.cells (rfL T s1 hd).toArray 45)) (rfL T s2 hd) 45
  simpa using this
 have HE:Hid (∀ X,Below w.heap.size w X→Calls Tp 21 #[aG (coL T s1).toArray,aG (coL T s2).toArray] X fun o w'=>o = rT (bO true)∧Below X.heap.size X w'):=fun X hX=>eqLC X T s1 s2 (h1.below hX) (h2.below hX) hm
 clear h1 h2 hm;obtain⟨v0,hv0⟩ : ∃ v0,v0=(w.alloc (.cells (rfL T s1 hd).toArray 45)).alloc (.cells (rfL T s2 hd).toArray 45):=⟨_,rfl⟩
 rw[← hv0] at H0
 go_enter Tryz.func8,Tryz.ntmps8
 go_upto_region 1 with fail
 change Code.wp _ _ _ _ ((w.alloc (.cells (rfL T s1 hd).toArray 45)).alloc (.cells (rfL T s2 hd).toArray 45))
 rw[← hv0]
 clear hv0;go_wp2_with (first
  | (refine wpList_load_mid (P:=Tp) rfl 43 _ rfl w.heap.size 0 rfl (coL T s1) _ (rfL_core H0.out.1) Tryz.underlying43 rfl (szC41L T s1) ?_)
  | (refine wpList_load_mid (P:=Tp) rfl 43 _ rfl (w.heap.size+1) 0 rfl (coL T s2) _ (rfL_core H0.out.2.1) Tryz.underlying43 rfl (szC41L T s2) ?_))
 refine (HE.out _ H0.out.2.2).mono ?_
 rintro o w1 ⟨rfl,hb1⟩;have y1:=(H0.out.1.below hb1).cell 21 (.string hd) rfl
 have y2:=(H0.out.2.1.below hb1).cell 21 (.string hd) rfl
 have H1:=hidYY (H0.out.2.2.trans (hb1.mono H0.out.2.2.size))
 clear hb1 H0 HE;go_wp2_with fail;go_ret;exact⟨rfl,H1.out⟩
theorem szC33 (C:Co) (s:Sl):(Tp.info? 31).map (·.size)=some (coL C s).length:=by kernel_rfl
set_option maxRecDepth 20000 in
theorem szRef_any (w:World) (C:Co) (s:Sl) (hd:ByteArray) (h:isHo w C.ho s) (hn:C.ho.le 9223372036854775807):Calls Tp 4 #[aG (rfL C s hd).toArray,I J 1048576] w fun o w'=>∃ z:Int,o = rT (I J z)∧Below w.heap.size w w'∧(z = -1∨∃ m':Nat,z=(m':Int)∧C.ho.le 1048576):=by
 have H0:Hid (blk (w.alloc (.cells (rfL C s hd).toArray 33)) w.heap.size (rfL C s hd) 33∧Below w.heap.size w (w.alloc (.cells (rfL C s hd).toArray 33))):=⟨blk.new w _ 33,(Below.refl _ _).alloc (Nat.le_refl _) _⟩
 have HS:Hid (∀ X,Below w.heap.size w X→Calls Tp 11 #[aG (coL C s).toArray,I J 1048576] X fun o w'=>∃ z:Int,o = rT (I J z)∧Below X.heap.size X w'∧(z = -1∨∃ m':Nat,z=(m':Int)∧C.ho.le 1048576)):=fun X hX=>szLC X C s (h.below hX) hn
 clear h hn;obtain⟨v0,hv0⟩ : ∃ v0,v0=w.alloc (.cells (rfL C s hd).toArray 33):=⟨_,rfl⟩
 rw[← hv0] at H0
 go_enter Tryz.func4,Tryz.ntmps4
 go_upto_region 1 with fail
 change Code.wp _ _ _ _ (w.alloc (.cells (rfL C s hd).toArray 33))
 rw[← hv0]
 clear hv0;go_wp2_with (first | (refine wpList_load_mid (P:=Tp) rfl 31 _ rfl w.heap.size 0 rfl (coL C s) _ (rfL_core H0.out.1) Tryz.underlying31 rfl (szC33 C s) ?_))
 refine (HS.out _ H0.out.2).mono ?_
 rintro o w1 ⟨z,rfl,hb1,hz⟩;have H1:=hidYY (And.intro (H0.out.1.below hb1) (H0.out.2.trans (hb1.mono H0.out.2.size)))
 have y1:=H1.out.1.cell 21 (.string hd) rfl
 clear hb1 H0 HS;rcases hz with rfl|⟨m',rfl,hle⟩
 ·go_wp2_with fail;go_ret;exact⟨_,rfl,H1.out.2,Or.inl rfl⟩
 ·have g0:¬ (m':Int)<0:=by omega
  obtain⟨zz,hzz⟩ : ∃ zz,IntKind.i64.wrap ((m':Int)-(hd.size:Int))=zz:=⟨_,rfl⟩
  have HLE:=hidYY hle
  clear hle;by_cases g1:zz<0
  ·go_wp2_with fail;go_ret;exact⟨_,rfl,H1.out.2,Or.inl rfl⟩
  ·have HG:=hidYY g1
   go_wp2_with fail;go_ret;exact⟨_,rfl,H1.out.2,Or.inr ⟨zz.toNat,by have:=HG.out;omega,HLE.out⟩⟩
set_option maxRecDepth 20000 in
theorem toRef_any (w:World) (C:Co) (s:Sl) (hd:ByteArray) (hc:∀ X,Below w.heap.size w X→Calls Tp 18 #[aG (coL C s).toArray] X fun o w'=>∃ s':Wh,o = rT (aG (coL C s'.sl).toArray)∧St X.heap.size w' (fun W=>isHo W C.ho s'.sl)∧whS X.heap.size w'.heap.size w' s'∧whD s'∧slSome s'.sl∧Below X.heap.size X w') :
  Calls Tp 6 #[aG (rfL C s hd).toArray] w fun o w'=>∃ (s':Wh) (B:Nat),o = rT (aG (rfL C s'.sl hd).toArray)∧w.heap.size≤B∧St B w' (fun W=>isHo W C.ho s'.sl)∧whS B w'.heap.size w' s'∧whD s'∧slSome s'.sl∧Below w.heap.size w w':=by
 obtain⟨v0,hv0⟩ : ∃ v0,v0=((w.alloc (.cells (rfL C s hd).toArray 33)).alloc (.cells Z22.toArray 45)).alloc (.cells Z22.toArray 45):=⟨_,rfl⟩
 have H0:Hid (blk v0 w.heap.size (rfL C s hd) 33∧blk v0 (w.heap.size+1) Z22 45∧blk v0 (w.heap.size+2) Z22 45∧Below w.heap.size w v0):=by
  rw[hv0]
  refine⟨((blk.new w _ 33).alloc _).alloc _,?_,?_,(((Below.refl _ _).alloc (Nat.le_refl _) _).alloc (by simp) _).alloc (by simp;omega) _⟩
  ·have:=(blk.new (w.alloc (.cells (rfL C s hd).toArray 33)) Z22 45).alloc (.cells Z22.toArray 45)
   simpa using this
  ·have:=blk.new ((w.alloc (.cells (rfL C s hd).toArray 33)).alloc (.cells Z22.toArray 45)) Z22 45
   simpa using this
 have HC:=hidYY hc
 clear hc;go_enter Tryz.func6,Tryz.ntmps6
 go_upto_region 2 with fail
 change Code.wp _ _ _ _ (((w.alloc (.cells (rfL C s hd).toArray 33)).alloc (.cells Z22.toArray 45)).alloc (.cells Z22.toArray 45))
 rw[← hv0]
 clear hv0;go_wp2_with (first | (refine wpList_load_mid (P:=Tp) rfl 31 _ rfl w.heap.size 0 rfl (coL C s) _ (rfL_core H0.out.1) Tryz.underlying31 rfl (szC33 C s) ?_))
 refine (HC.out _ H0.out.2.2.2).mono ?_
 rintro o w1 ⟨s',rfl,q1,q2,q3,q4,hb1⟩;have H1:Hid (blk w1 w.heap.size (rfL C s hd) 33∧blk w1 (w.heap.size+1) Z22 45∧blk w1 (w.heap.size+2) Z22 45∧Below w.heap.size w w1):=⟨H0.out.1.below hb1,H0.out.2.1.below hb1,H0.out.2.2.1.below hb1,H0.out.2.2.2.trans (hb1.mono H0.out.2.2.2.size)⟩
 have HQ:=hidYY (And.intro q1 (And.intro q2 (And.intro q3 (And.intro q4 H0.out.2.2.1.lt))))
 clear q1 q2 q3 q4 hb1 H0 HC;go_upto_region 3 with (first
  | (refine wpList_store_mid (P:=Tp) rfl 43 _ _ rfl (w.heap.size+2) 0 (coL C s'.sl).toArray rfl rfl (H1.out.2.2.1.there 0 _ (by rw[List.size_toArray,coL_len];decide)) (szC41A C s'.sl) (coL_one C s'.sl) ?_;generalize hW2:World.setCells _ (w.heap.size+2) 0 _=w2;have HW2:Hid (_=w2):=hW2;clear hW2))
 have H2:Hid (blk w2 w.heap.size (rfL C s hd) 33∧blk w2 (w.heap.size+1) Z22 45∧blk w2 (w.heap.size+2) (rfL C s'.sl ⟨#[]⟩) 45∧Below w.heap.size w w2∧(∀ q,q≠w.heap.size+2→w2.heap[q]?=w1.heap[q]?)∧w2.heap.size=w1.heap.size):=by
  have e:=HW2.out
  rw[← e]
  refine⟨H1.out.1.other (by omega) _ _,H1.out.2.1.other (by omega) _ _,?_,setCells_below (by omega) 0 _ H1.out.2.2.2,fun q hq=>setCells_other _ q hq _ _ _,setCells_size ..⟩
  have h':blk w1 (w.heap.size+2) ([]++Z21++[.string ⟨#[]⟩]) 45:=H1.out.2.2.1
  have:=blk.put [] Z21 [.string ⟨#[]⟩] (coL C s'.sl) h' (by rw[coL_len];rfl)
  exact this
 clear HW2 H1;have y21:=H2.out.1.cell 21 (.string hd) rfl
 have z21:=H2.out.2.2.1.cell 21 (.string ⟨#[]⟩) rfl
 have f21:=H2.out.2.2.1.free 21
 go_upto_region 4 with fail
 have H3:Hid (blk (w2.setCell ⟨w.heap.size+2,21,none⟩ (.string hd)) (w.heap.size+1) Z22 45∧blk (w2.setCell ⟨w.heap.size+2,21,none⟩ (.string hd)) (w.heap.size+2) (rfL C s'.sl hd) 45∧Below w.heap.size w (w2.setCell ⟨w.heap.size+2,21,none⟩ (.string hd))∧(∀ q,q≠w.heap.size+2→(w2.setCell ⟨w.heap.size+2,21,none⟩ (.string hd)).heap[q]?=w1.heap[q]?)∧(w2.setCell ⟨w.heap.size+2,21,none⟩ (.string hd)).heap.size=w1.heap.size):=by
  refine⟨H2.out.2.1.setOther (by omega) 21 _,?_,H2.out.2.2.2.1.setCell (by show w.heap.size≤w.heap.size+2;omega) _,fun q hq=>(heap_setCell_other w2 ⟨w.heap.size+2,21,none⟩ q _ hq).trans (H2.out.2.2.2.2.1 q hq),by simpa using H2.out.2.2.2.2.2⟩
  have e:(rfL C s'.sl ⟨#[]⟩).set 21 (.string hd)=rfL C s'.sl hd:=rfl
  rw[← e];exact H2.out.2.2.1.set 21 (.string hd)
 clear H2 y21 z21 f21;generalize w2.setCell ⟨w.heap.size+2,21,none⟩ (.string hd)=w3 at *;go_wp2_with (first
  | (refine wpList_load_mid (P:=Tp) rfl 45 _ rfl (w.heap.size+2) 0 rfl (rfL C s'.sl hd) _ H3.out.2.1.load Tryz.underlying45 rfl sz43 ?_)
  | (refine wpList_store_mid (P:=Tp) rfl 45 _ _ rfl (w.heap.size+1) 0 (rfL C s'.sl hd).toArray rfl rfl (H3.out.1.there 0 _ (by rw[List.size_toArray,rfL_len];decide)) sz43 (rfL_one _ _ _) ?_;generalize hW8:World.setCells _ (w.heap.size+1) 0 _=w8;have HW8:Hid (_=w8):=hW8;clear hW8))
 have e8:=HW8.out
 have hF:blk w8 (w.heap.size+1) (rfL C s'.sl hd) 45:=by
  rw[← e8]
  have:=blk.put [] Z22 [] (rfL C s'.sl hd) (w:=w3) (b:=w.heap.size+1) (T:=45) (by simpa using H3.out.1) (by rw[rfL_len];rfl)
  simpa using this
 have hL:=run_loadVar_mid (P:=Tp) w8 (w.heap.size+1) 0 45 _ _ hF.load Tryz.underlying45 rfl sz43
 refine bodyPost_ret (v:=aG (rfL C s'.sl hd).toArray) (results_cell Tryz.results6 _ w8 (w.heap.size+1) _ rfl hL) rfl ?_
 have hlt:=HQ.out.2.2.2.2
 have hag:∀ q,v0.heap.size≤q→w8.heap[q]?=w1.heap[q]?:=fun q hq=>by
  rw[← e8];exact (setCells_other _ q (by omega) _ _ _).trans (H3.out.2.2.2.1 q (by omega))
 have hsz:w8.heap.size=w1.heap.size:=by rw[← e8,setCells_size];exact H3.out.2.2.2.2
 refine⟨s',rfl,v0.heap.size,by omega,fun W hW=>HQ.out.1 W fun k h1 h2=>(hW k h1 (by omega)).trans (hag k h1),?_,HQ.out.2.2.1,HQ.out.2.2.2.1,?_⟩
 ·rw[hsz];exact HQ.out.2.1.same fun x h1 _=>hag x h1
 ·rw[← e8];exact setCells_below (by omega) 0 _ H3.out.2.2.1
set_option maxRecDepth 20000 in
theorem markRf {W:World} {C:Co} {s:Sl} {hd:ByteArray} {Q:Nat→World→Prop} (hc:∀ X,Below W.heap.size W X→Calls Tp 22 #[aG (coL C s).toArray,I J 1] X fun o w'=>∃ k:Nat,o = rT (I J (k:Int))∧Q k w') :
  Calls Tp 9 #[aG (rfL C s hd).toArray,I J 1] W fun o w'=>∃ k:Nat,o = rT (I J (k:Int))∧Q k w':=by
 have H0:Hid (blk (W.alloc (.cells (rfL C s hd).toArray 45)) W.heap.size (rfL C s hd) 45∧Below W.heap.size W (W.alloc (.cells (rfL C s hd).toArray 45))):=⟨blk.new W _ 45,(Below.refl _ _).alloc (Nat.le_refl _) _⟩
 have HC:=hidYY hc
 clear hc;go_enter Tryz.func9,Tryz.ntmps9
 go_wp2_with (first
  | (refine wpList_load_mid (P:=Tp) rfl 43 _ rfl W.heap.size 0 rfl (coL C s) _ (rfL_core H0.out.1) Tryz.underlying43 rfl (szC41L C s) ?_))
 refine (HC.out _ H0.out.2).mono ?_
 rintro o w2 ⟨k,rfl,hq⟩;have HQ:Hid (Q k w2):=hq
 clear hq;go_wp2_with fail;go_ret;exact⟨k,rfl,HQ.out⟩
set_option maxRecDepth 20000 in
theorem heldRf {W:World} {C:Co} {s:Sl} {hd:ByteArray} (k:Nat) (hc:∀ X,Below W.heap.size W X→Calls Tp 23 #[aG (coL C s).toArray,I J 1] X fun o w'=>o = rT (I J (k:Int))∧Below X.heap.size X w') :
  Calls Tp 10 #[aG (rfL C s hd).toArray,I J 1] W fun o w'=>o = rT (I J (k:Int))∧Below W.heap.size W w':=by
 have H0:Hid (blk (W.alloc (.cells (rfL C s hd).toArray 45)) W.heap.size (rfL C s hd) 45∧Below W.heap.size W (W.alloc (.cells (rfL C s hd).toArray 45))):=⟨blk.new W _ 45,(Below.refl _ _).alloc (Nat.le_refl _) _⟩
 have HC:=hidYY hc
 have hk0:decide ((k:Int)<0)=false:=by simp
 clear hc;go_enter Tryz.func10,Tryz.ntmps10
 go_wp2_with (first
  | (refine wpList_load_mid (P:=Tp) rfl 43 _ rfl W.heap.size 0 rfl (coL C s) _ (rfL_core H0.out.1) Tryz.underlying43 rfl (szC41L C s) ?_))
 refine (HC.out _ H0.out.2).mono ?_
 rintro o w2 ⟨rfl,hq⟩;have HQ:Hid (Below W.heap.size W w2):=H0.out.2.trans (hq.mono H0.out.2.size)
 clear hq;go_wp2_with fail;go_ret;exact⟨rfl,HQ.out⟩
structure lcS (w:World) (C:Co) (s:Sl) (T:Co) (bw:Nat) (sw:Sl) (W:World):Prop where
 p:blk W w.heap.size (coL C s) 31
 q:blk W bw (coL T sw) 43
 t:isHo W T.ho sw
 h:isHo W C.ho s
 b:Below w.heap.size w W
theorem lcS.below {w:World} {C:Co} {s:Sl} {T:Co} {bw:Nat} {sw:Sl} {W W':World} (h:lcS w C s T bw sw W) (hb:Below W.heap.size W W'):lcS w C s T bw sw W':=⟨h.p.below hb,h.q.below hb,h.t.below hb,h.h.below hb,h.b.trans (hb.mono h.b.size)⟩
structure lcX (w:World) (C:Co) (s:Sl) (T:Co) (bw:Nat) (sw:Sl) (w4:World) (T5 bx:Nat) (sx:Wh) (W:World):Prop where
 l:lcS w C s T bw sw W
 x:blk W bx (coL C sx.sl) 43
 xh:isHo W C.ho sx.sl
 xw:whS w4.heap.size T5 W sx
 z:bw<w4.heap.size∧w.heap.size<w4.heap.size∧w4.heap.size≤T5∧T5≤bx
 b4:Below w4.heap.size w4 W
theorem lcX.below {w:World} {C:Co} {s:Sl} {T:Co} {bw:Nat} {sw:Sl} {w4:World} {T5 bx:Nat} {sx:Wh} {W W':World} (h:lcX w C s T bw sw w4 T5 bx sx W) (hb:Below W.heap.size W W'):lcX w C s T bw sw w4 T5 bx sx W':=⟨h.l.below hb,h.x.below hb,h.xh.below hb,h.xw.same (fun x _ hx=>hb.block x (by have:=h.x.lt;have:=h.z;omega)),h.z,h.b4.trans (hb.mono h.b4.size)⟩
structure lcG (w:World) (C:Co) (s:Sl) (T:Co) (bw:Nat) (sw:Sl) (w4:World) (bx B6:Nat) (w7:World) (bg:Nat) (sg:Sl) (W:World):Prop where
 l:lcS w C s T bw sw W
 g:blk W bg (coL T sg) 43
 k:∀ x,B6≤x→x<w7.heap.size→W.heap[x]?=w7.heap[x]?
 z:bx<B6∧B6≤w7.heap.size∧w7.heap.size≤bg
 y:bw<w4.heap.size∧w.heap.size<w4.heap.size∧w4.heap.size≤bx
 b4:Below w4.heap.size w4 W
theorem lcG.below {w:World} {C:Co} {s:Sl} {T:Co} {bw:Nat} {sw:Sl} {w4:World} {bx B6:Nat} {w7:World} {bg:Nat} {sg:Sl} {W W':World} (h:lcG w C s T bw sw w4 bx B6 w7 bg sg W) (hb:Below W.heap.size W W'):lcG w C s T bw sw w4 bx B6 w7 bg sg W':=⟨h.l.below hb,h.g.below hb,fun x h1 h2=>(hb.block x (by have:=h.g.lt;have:=h.z;omega)).trans (h.k x h1 h2),h.z,h.y,h.b4.trans (hb.mono h.b4.size)⟩
theorem lcG.xmark {w:World} {C:Co} {s:Sl} {T:Co} {bw:Nat} {sw:Sl} {w4:World} {bx B6:Nat} {w7:World} {bg:Nat} {sg:Sl} {W W':World} (h:lcG w C s T bw sw w4 bx B6 w7 bg sg W) (h4:isHo w4 T.ho sw∧isHo w4 C.ho s) (hb:Below w4.heap.size W W') (ho:∀ x,bx≤x→x<W.heap.size→W'.heap[x]?=W.heap[x]?):lcG w C s T bw sw w4 bx B6 w7 bg sg W':=by
 have hb4:=h.b4.trans hb
 refine⟨⟨h.l.p.kept (hb.block _ h.y.2.1),h.l.q.kept (hb.block _ h.y.1),h4.1.below hb4,h4.2.below hb4,h.l.b.trans (hb.mono (by have:=h.y;omega))⟩,h.g.kept (ho _ (by have:=h.z;omega) h.g.lt),fun x h1 h2=>(ho x (by have:=h.z;omega) (by have:=h.g.lt;have:=h.z;omega)).trans (h.k x h1 h2),h.z,h.y,hb4⟩
theorem lcG.gmark {w:World} {C:Co} {s:Sl} {T:Co} {bw:Nat} {sw:Sl} {w4:World} {bx B6:Nat} {w7:World} {bg:Nat} {sg:Sl} {W W':World} (h:lcG w C s T bw sw w4 bx B6 w7 bg sg W) (h4:isHo w4 T.ho sw∧isHo w4 C.ho s) (hb:Below B6 W W'):lcS w C s T bw sw W':=by
 have hz:=h.z
 have hy:=h.y
 have hb4:=h.b4.trans (hb.mono (by omega))
 exact⟨h.l.p.kept (hb.block _ (by omega)),h.l.q.kept (hb.block _ (by omega)),h4.1.below hb4,h4.2.below hb4,h.l.b.trans (hb.mono (by omega))⟩
theorem zCo_le:zCo.ho.le 1048576:=⟨by decide,by decide,by decide,by decide,fun j hj=>(by cases hj),fun j hj=>(by cases hj),fun j hj=>(by cases hj)⟩
theorem rdRel_one {C:Co} {hd:ByteArray} {vc vf:Nat} {vo:Bool} {r:Int} {T T2:Co} {h1 h2:ByteArray} {l1 l2:Int} (a:rdRel C hd vc vf vo r T h1 l1) (b:rdRel C hd vc vf vo r T2 h2 l2):T2=T∧h2=h1∧l2=l1:=by
 rcases a with⟨k,rfl,rfl,rfl⟩|⟨k,rfl,rfl,rfl⟩
 ·rcases b with⟨_,rfl,rfl,rfl⟩|⟨k2,_⟩
  ·exact⟨rfl,rfl,rfl⟩
  ·exact absurd k k2
 ·rcases b with⟨k2,_⟩|⟨_,rfl,rfl,rfl⟩
  ·exact absurd k2 k
  ·exact⟨rfl,rfl,rfl⟩
theorem implTRD (w:World) (C:Co) (s:Sl) (hd:ByteArray) (vc vf:Nat) (vd vo:Bool) (r:Int) (h:isHo w C.ho s) (hs:slSome s) (hm:C.ho.le 1048576) (hj:∀ W,Calls Tp 79 #[.string hd] W fun o w'=>o = rT (aG #[I J (vc:Int),I J (vf:Int),bO vd,bO vo])∧Below W.heap.size W w') (hr:bestR C.ho.bx r) (T:Co) (hd':ByteArray) (lv:Int) (hR:rdRel C hd vc vf vo r T hd' lv) :
  Calls Tp 7 #[aG (rfL C s hd).toArray] w fun o w'=>∃ sg,o = rT (.tuple #[aG (rfL T sg hd').toArray,I J lv])∧St w.heap.size w' (fun W=>isHo W T.ho sg)∧MKC w.heap.size T sg w'∧Below w.heap.size w w':=by
 refine (implRD w C s hd vc vf vd vo r h hs hm hj hr).mono ?_
 rintro o w' ⟨T1,s',hd1,lv1,rfl,h1,h2,h3,hb⟩;obtain⟨rfl,rfl,rfl⟩:=rdRel_one hR h1
 refine⟨s',rfl,?_⟩
 by_cases hok:okRf C hd vc
 ·obtain⟨B,E,⟨s4,rfl,f,g1,g2⟩,hB,hE⟩:=h2 hok
  refine⟨fun W hW=>(f W fun k a b=>hW k (by omega) (by omega)).1,?_,hb⟩
  have q2:whS w.heap.size w'.heap.size w' s4:=(f w' fun _ _ _=>rfl).2.mono hB hE
  exact MKQ.core (q2.mkq g1 g2) hb.size
 ·obtain rfl:=h3 hok
  rcases h1 with⟨k,_⟩|⟨_,rfl,_⟩
  ·exact absurd k hok
  ·exact⟨fun W _=>zHo_is W,MKQ.core (T:=zCo) (zHo_mkq _ _ hb.size) hb.size,hb⟩
theorem szR33 (C:Co) (s:Sl) (hd:ByteArray):(Tp.info? 33).map (·.size)=some (rfL C s hd).length:=by kernel_rfl
theorem szR45 (C:Co) (s:Sl) (hd:ByteArray):(Tp.info? 45).map (·.size)=some (rfL C s hd).length:=by kernel_rfl
theorem szR45A (C:Co) (s:Sl) (hd:ByteArray):(Tp.info? 45).map (·.size)=some (rfL C s hd).toArray.size:=by kernel_rfl
structure lrS (w:World) (C:Co) (s:Sl) (hd gd:ByteArray) (T:Co) (bw:Nat) (sw:Sl) (W:World):Prop where
 p:blk W w.heap.size (rfL C s hd) 33
 q:blk W bw (rfL T sw gd) 45
 t:isHo W T.ho sw
 h:isHo W C.ho s
 b:Below w.heap.size w W
theorem lrS.below {w:World} {C:Co} {s:Sl} {hd gd:ByteArray} {T:Co} {bw:Nat} {sw:Sl} {W W':World} (h:lrS w C s hd gd T bw sw W) (hb:Below W.heap.size W W'):lrS w C s hd gd T bw sw W':=⟨h.p.below hb,h.q.below hb,h.t.below hb,h.h.below hb,h.b.trans (hb.mono h.b.size)⟩
structure lrX (w:World) (C:Co) (s:Sl) (hd gd:ByteArray) (T:Co) (bw:Nat) (sw:Sl) (w4:World) (T5 bx:Nat) (sx:Wh) (W:World):Prop where
 l:lrS w C s hd gd T bw sw W
 x:blk W bx (rfL C sx.sl hd) 45
 xh:isHo W C.ho sx.sl
 xw:whS w4.heap.size T5 W sx
 z:bw<w4.heap.size∧w.heap.size<w4.heap.size∧w4.heap.size≤T5∧T5≤bx
 b4:Below w4.heap.size w4 W
theorem lrX.below {w:World} {C:Co} {s:Sl} {hd gd:ByteArray} {T:Co} {bw:Nat} {sw:Sl} {w4:World} {T5 bx:Nat} {sx:Wh} {W W':World} (h:lrX w C s hd gd T bw sw w4 T5 bx sx W) (hb:Below W.heap.size W W'):lrX w C s hd gd T bw sw w4 T5 bx sx W':=⟨h.l.below hb,h.x.below hb,h.xh.below hb,h.xw.same (fun x _ hx=>hb.block x (by have:=h.x.lt;have:=h.z;omega)),h.z,h.b4.trans (hb.mono h.b4.size)⟩
structure lrG (w:World) (C:Co) (s:Sl) (hd gd:ByteArray) (T:Co) (bw:Nat) (sw:Sl) (w4:World) (bx B6:Nat) (w7:World) (bg:Nat) (sg:Sl) (W:World):Prop where
 l:lrS w C s hd gd T bw sw W
 g:blk W bg (rfL T sg gd) 45
 k:∀ x,B6≤x→x<w7.heap.size→W.heap[x]?=w7.heap[x]?
 z:bx<B6∧B6≤w7.heap.size∧w7.heap.size≤bg
 y:bw<w4.heap.size∧w.heap.size<w4.heap.size∧w4.heap.size≤bx
 b4:Below w4.heap.size w4 W
theorem lrG.below {w:World} {C:Co} {s:Sl} {hd gd:ByteArray} {T:Co} {bw:Nat} {sw:Sl} {w4:World} {bx B6:Nat} {w7:World} {bg:Nat} {sg:Sl} {W W':World} (h:lrG w C s hd gd T bw sw w4 bx B6 w7 bg sg W) (hb:Below W.heap.size W W'):lrG w C s hd gd T bw sw w4 bx B6 w7 bg sg W':=⟨h.l.below hb,h.g.below hb,fun x h1 h2=>(hb.block x (by have:=h.g.lt;have:=h.z;omega)).trans (h.k x h1 h2),h.z,h.y,h.b4.trans (hb.mono h.b4.size)⟩
theorem lrG.xmark {w:World} {C:Co} {s:Sl} {hd gd:ByteArray} {T:Co} {bw:Nat} {sw:Sl} {w4:World} {bx B6:Nat} {w7:World} {bg:Nat} {sg:Sl} {W W':World} (h:lrG w C s hd gd T bw sw w4 bx B6 w7 bg sg W) (h4:isHo w4 T.ho sw∧isHo w4 C.ho s) (hb:Below w4.heap.size W W') (ho:∀ x,bx≤x→x<W.heap.size→W'.heap[x]?=W.heap[x]?):lrG w C s hd gd T bw sw w4 bx B6 w7 bg sg W':=by
 have hb4:=h.b4.trans hb
 refine⟨⟨h.l.p.kept (hb.block _ h.y.2.1),h.l.q.kept (hb.block _ h.y.1),h4.1.below hb4,h4.2.below hb4,h.l.b.trans (hb.mono (by have:=h.y;omega))⟩,h.g.kept (ho _ (by have:=h.z;omega) h.g.lt),fun x h1 h2=>(ho x (by have:=h.z;omega) (by have:=h.g.lt;have:=h.z;omega)).trans (h.k x h1 h2),h.z,h.y,hb4⟩
theorem lrG.gmark {w:World} {C:Co} {s:Sl} {hd gd:ByteArray} {T:Co} {bw:Nat} {sw:Sl} {w4:World} {bx B6:Nat} {w7:World} {bg:Nat} {sg:Sl} {W W':World} (h:lrG w C s hd gd T bw sw w4 bx B6 w7 bg sg W) (h4:isHo w4 T.ho sw∧isHo w4 C.ho s) (hb:Below B6 W W'):lrS w C s hd gd T bw sw W':=by
 have hz:=h.z
 have hy:=h.y
 have hb4:=h.b4.trans (hb.mono (by omega))
 exact⟨h.l.p.kept (hb.block _ (by omega)),h.l.q.kept (hb.block _ (by omega)),h4.1.below hb4,h4.2.below hb4,h.l.b.trans (hb.mono (by omega))⟩
theorem new_refS {w:World} (l:List Value) (hl:l.length=22):blk (World.setCells (w.alloc (.cells Z22.toArray 45)) w.heap.size 0 l) w.heap.size l 45∧Below w.heap.size w (World.setCells (w.alloc (.cells Z22.toArray 45)) w.heap.size 0 l):=by
 refine⟨?_,setCells_below (Nat.le_refl _) 0 l ((Below.refl _ _).alloc (Nat.le_refl _) _)⟩
 have:=blk.put [] Z22 [] l (w:=w.alloc (.cells Z22.toArray 45)) (b:=w.heap.size) (T:=45) (by simpa using blk.new w Z22 45) (by rw[hl];rfl)
 simpa using this
theorem takeHo_leR {H:Ho} (h:H.le 1048576) (r:Int):(takeHo H r).le 1048576:=by
 refine⟨h.fs,?_,h.ff,h.qu,fun j hj=>?_,h.fd,h.qd⟩
 ·show (takeB H.bx r).length≤_
  rw[takeB_len];exact h.bx
 ·have hj':j<H.bx.length:=by have:j<(takeB H.bx r).length:=hj;rw[takeB_len] at this;exact this
  show (takeB H.bx r)[j].l.length≤_
  rw[takeB_l H.bx r j hj hj']
  exact h.bd j hj'
theorem rdR_le {C:Co} {hd:ByteArray} {vc vf:Nat} {vo:Bool} {r:Int} {T:Co} {gd:ByteArray} {lv:Int} (hR:rdRel C hd vc vf vo r T gd lv) (h:C.ho.le 1048576):T.ho.le 1048576:=by
 rcases hR with⟨_,rfl,_⟩|⟨_,rfl,_⟩
 ·unfold rdC
  split
  ·exact takeHo_leR h r
  ·exact h
 ·exact zCo_le
theorem rdRel_ex (C:Co) (hd:ByteArray) (vc vf:Nat) (vo:Bool) (r:Int):∃ T gd lv,rdRel C hd vc vf vo r T gd lv:=by
 by_cases h:okRf C hd vc
 ·exact⟨_,_,_,Or.inl ⟨h,rfl,rfl,rfl⟩⟩
 ·exact⟨_,_,_,Or.inr ⟨h,rfl,rfl,rfl⟩⟩
theorem xMarkR {B T:Nat} {W:World} {sx:Wh} {C:Co} {hd:ByteArray} (h:whS B T W sx) (hd':whD sx) (hT:T≤W.heap.size) (hB:B≤T):Calls Tp 9 #[aG (rfL C sx.sl hd).toArray,I J 1] W fun o w1=>∃ k:Nat,o = rT (I J (k:Int))∧(∀ x,T≤x→x<W.heap.size→w1.heap[x]?=W.heap[x]?)∧Below B W w1:=by
 refine markRf (Q:=fun k w1=>(∀ x,T≤x→x<W.heap.size→w1.heap[x]?=W.heap[x]?)∧Below B W w1) (fun X hX=>?_)
 refine (xMarkC (h.same fun x h1 h2=>hX.block x (by omega)) hd' (by have:=hX.size;omega) hB).mono ?_
 rintro o w1 ⟨k,rfl,h1,h2⟩;exact⟨k,rfl,fun x h4 h5=>(h1 x h4 (by have:=hX.size;omega)).trans (hX.block x h5),(hX.mono (by omega)).trans h2⟩
def MKR (B:Nat) (T:Co) (sg:Sl) (gd:ByteArray) (w:World):Prop:=∀ W,(∀ x,B≤x→x<w.heap.size→W.heap[x]?=w.heap[x]?)→w.heap.size≤W.heap.size→Calls Tp 9 #[aG (rfL T sg gd).toArray,I J 1] W fun o w1=>∃ k:Nat,o = rT (I J (k:Int))∧Below B W w1∧(∀ x,w.heap.size≤x→x<W.heap.size→w1.heap[x]?=W.heap[x]?)∧∀ W2,Below w1.heap.size w1 W2→Calls Tp 10 #[aG (rfL T sg gd).toArray,I J 1] W2 fun o w2=>o = rT (I J (k:Int))∧Below W2.heap.size W2 w2
theorem MKC.ref {B:Nat} {T:Co} {sg:Sl} {gd:ByteArray} {w:World} (h:MKC B T sg w) (hB:B≤w.heap.size):MKR B T sg gd w:=by
 intro W hW hz;refine markRf (Q:=fun k w1=>Below B W w1∧(∀ x,w.heap.size≤x→x<W.heap.size→w1.heap[x]?=W.heap[x]?)∧∀ W2,Below w1.heap.size w1 W2→Calls Tp 10 #[aG (rfL T sg gd).toArray,I J 1] W2 fun o w2=>o = rT (I J (k:Int))∧Below W2.heap.size W2 w2) (fun X hX=>?_)
 refine (h X (fun x h1 h2=>(hX.block x (by omega)).trans (hW x h1 h2)) (by have:=hX.size;omega)).mono ?_
 rintro o w1 ⟨k,rfl,h1,h2,h3⟩;refine⟨k,rfl,(hX.mono (by omega)).trans h1,fun x h4 h5=>(h2 x h4 (by have:=hX.size;omega)).trans (hX.block x h5),fun W2 hW2=>?_⟩
 exact heldRf k (fun X2 hX2=>h3 X2 (hW2.trans (hX2.mono hW2.size)))
end Go.Proofs.YtbllefckefhpoaaGreat
