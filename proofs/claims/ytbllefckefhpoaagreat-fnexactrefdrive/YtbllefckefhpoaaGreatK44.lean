import Derived.Test.YtbllefckefhpoaaGreatK35
import Derived.Test.YtbllefckefhpoaaGreatK36
import Derived.Deep.RegionHeld3
import Derived.Test.YtbllefckefhpoaaGreatK43
import Derived.Test.YtbllefckefhpoaaGreatK29
import Derived.Test.YtbllefckefhpoaaGreatK34
import Derived.Test.YtbllefckefhpoaaGreatK37
import Derived.Deep.DeepCutAuto
import Derived.Deep.RegionWith
import Derived.Test.YtbllefckefhpoaaGreatK24
import Derived.Test.YtbllefckefhpoaaGreatK39
namespace Go.Proofs.YtbllefckefhpoaaGreat
open Go.RowKit
set_option linter.unusedVariables false
structure dcS (w:World) (C:Co) (s:Sl) (W:World):Prop where
 p:blk W w.heap.size (coL C s) 43
 r:blk W (w.heap.size+1) Z21 43
 b:Below w.heap.size w W
theorem dcS.below {w:World} {C:Co} {s:Sl} {W W':World} (h:dcS w C s W) (hb:Below W.heap.size W W'):dcS w C s W':=⟨h.p.below hb,h.r.below hb,h.b.trans (hb.mono h.b.size)⟩
theorem dcS.new (w:World) (C:Co) (s:Sl):dcS w C s ((w.alloc (.cells (coL C s).toArray 43)).alloc (.cells Z21.toArray 43)):=by
 refine⟨(blk.new w _ 43).alloc _,?_,((Below.refl _ _).alloc (Nat.le_refl _) _).alloc (by simp) _⟩
 have:=blk.new (w.alloc (.cells (coL C s).toArray 43)) Z21 43
 simpa using this
set_option maxHeartbeats 16000000
open Go.Value renaming int→I,slice→sL,bool→bO,pointer→pT,agg→aG
open Go.IntKind renaming i64→J
open Go.Ending renaming returned→rT
open Go.Proofs.Tryz renaming prog→Tp
theorem blk.host {w:World} {b:Nat} {C:Co} {s:Sl} (h:blk w b (coL C s) 43) (H:Ho) (s':Sl):blk (w.setCells b 11 (hoL H s')) b (coL { C with ho:=H } s') 43:=by
 have h':blk w b (coM C++hoL C.ho s++[]) 43:=by rw[List.append_nil,← coL_M];exact h
 have:=blk.put (coM C) (hoL C.ho s) [] (hoL H s') h' rfl
 rw[List.append_nil] at this
 exact this
theorem sz39A (H:Ho) (s:Sl):(Tp.info? 41).map (·.size)=some (hoL H s).toArray.size:=sz39h H s
theorem blk.core {w:World} {b:Nat} {l:List Value} (h:blk w b l 43) (hl:l.length=21) (C:Co) (s:Sl):blk (w.setCells b 0 (coL C s)) b (coL C s) 43:=by
 have:=blk.put [] l [] (coL C s) (w:=w) (b:=b) (T:=43) (by simpa using h) (by rw[hl,coL_len])
 simpa using this
theorem spS.lower {B B' T0 T1 T2:Nat} {H:Ho} {s:Sl} {W:World} (h:spS B T0 T1 T2 H s W) (hb:B'≤B):spS B' T0 T1 T2 H s W:=by
 obtain⟨⟨gf,e1,h1a,h1b,h1⟩,hx,hr,hq,o1,o2,o3,o4⟩:=h
 exact⟨⟨gf,e1,by omega,h1b,h1⟩,hx,hr,hq,by omega,o2,o3,o4⟩
set_option maxRecDepth 20000 in
theorem l4copy_any (w:World) (C:Co) (s:Sl) (h:isHo w C.ho s) (hn:C.ho.le 1048576):Calls Tp 30 #[aG (coL C s).toArray] w fun o w'=>∃ s' T0 T1 T2,o = rT (aG (coL C s').toArray)∧spS (w.heap.size+2) T0 T1 T2 C.ho s' w'∧s'.n2=C.ho.bx.length∧s'.n4=C.ho.qu.length∧Below w.heap.size w w':=by
 have H0:Hid (dcS w C s ((w.alloc (.cells (coL C s).toArray 43)).alloc (.cells Z21.toArray 43))):=dcS.new w C s
 have HCP:Hid (∀ W,Below w.heap.size w W→Calls Tp 55 #[aG (hoL C.ho s).toArray] W fun o w'=>∃ s' T0 T1 T2,o = rT (aG (hoL C.ho s').toArray)∧spS (W.heap.size+3) T0 T1 T2 C.ho s' w'∧s'.n2=C.ho.bx.length∧s'.n4=C.ho.qu.length∧Below W.heap.size W w'):=fun W hW=>copyS W C.ho s (h.below hW) hn
 have HEC:Hid ({ C with ho:=C.ho }=C):=rfl
 clear h hn;go_enter Tryz.func30,Tryz.ntmps30
 go_wp2_with (first
  | (refine wpList_load_mid (P:=Tp) rfl 41 (.tmp 3) rfl w.heap.size 11 rfl (hoL C.ho s) _ H0.out.p.hostAt Tryz.underlying41 rfl (sz39h C.ho s) ?_))
 refine (HCP.out _ H0.out.b).mono ?_
 rintro o w2 ⟨s',T0,T1,T2,rfl,q1,q2,q3,q4⟩;have H2:Hid (blk w2 w.heap.size (coL C s) 43∧blk w2 (w.heap.size+1) Z21 43∧Below w.heap.size w w2):=⟨(H0.out.below q4).p,(H0.out.below q4).r,(H0.out.below q4).b⟩
 have HSP:Hid (spS (w.heap.size+2+3) T0 T1 T2 C.ho s' w2∧s'.n2=C.ho.bx.length∧s'.n4=C.ho.qu.length):=⟨by simpa using q1,q2,q3⟩
 clear q1 q2 q3 q4 H0 HCP;go_wp2_with (first
  | (refine wpList_store_mid (P:=Tp) rfl 41 (.tmp 6) (.tmp 5) rfl w.heap.size 11 (hoL C.ho s').toArray rfl rfl (H2.out.1.there 11 _ (by rw[List.size_toArray,hoL_len,coL_len];decide)) (sz39A _ _) (hoL_one _ _) ?_;generalize hW3:World.setCells w2 w.heap.size 11 _=w3;have H3:Hid (blk w3 w.heap.size (coL C s') 43∧blk w3 (w.heap.size+1) Z21 43∧(∀ q,q≠w.heap.size→w3.heap[q]?=w2.heap[q]?)∧w3.heap.size=w2.heap.size∧Below w.heap.size w w3):=(by rw[← hW3];exact⟨H2.out.1.host C.ho s',H2.out.2.1.kept (setCells_other _ _ (by omega) _ _ _),fun q hq=>setCells_other _ q hq _ _ _,setCells_size ..,setCells_below (Nat.le_refl _) 11 _ H2.out.2.2⟩);clear hW3)
  | (refine wpList_load_mid (P:=Tp) rfl 43 (.tmp 1) rfl w.heap.size 0 rfl (coL C s') _ H3.out.1.load Tryz.underlying43 rfl (szC41L _ _) ?_)
  | (refine wpList_store_mid (P:=Tp) rfl 43 (.tmp 2) (.tmp 7) rfl (w.heap.size+1) 0 (coL C s').toArray rfl rfl (H3.out.2.1.there 0 _ (by rw[List.size_toArray,coL_len];decide)) (szC41A _ _) (coL_one _ _) ?_;generalize hW4:World.setCells w3 (w.heap.size+1) 0 _=w4;have H4:Hid (blk w4 (w.heap.size+1) (coL C s') 43∧(∀ q,q≠w.heap.size→q≠w.heap.size+1→w4.heap[q]?=w2.heap[q]?)∧w4.heap.size=w2.heap.size∧Below w.heap.size w w4):=(by rw[← hW4];exact⟨H3.out.2.1.core rfl _ _,fun q h1 h2=>(setCells_other _ q h2 _ _ _).trans (H3.out.2.2.1 q h1),(setCells_size ..).trans H3.out.2.2.2.1,setCells_below (by omega) 0 _ H3.out.2.2.2.2⟩);clear hW4))
 have hL:=run_loadVar_mid (P:=Tp) w4 (w.heap.size+1) 0 43 _ _ H4.out.1.load Tryz.underlying43 rfl (szC41L _ _)
 refine bodyPost_ret (v:=aG (coL C s').toArray) (results_cell Tryz.results30 _ w4 (w.heap.size+1) _ rfl hL) rfl ?_
 have hsp:=HSP.out.1.st (W':=w4) (fun q h1 h2=>H4.out.2.1 q (by omega) (by omega)) (by have:=H4.out.2.2.1;omega)
 exact⟨s',T0,T1,T2,rfl,hsp.lower (by omega),HSP.out.2.1,HSP.out.2.2,H4.out.2.2.2⟩
def zCo:Co:=⟨0,0,0,false,false,false,false,false,0,0,0,zHo⟩
structure itF (w:World) (C:Co) (s:Sl) (k:Int) (W:World):Prop where
 p:blk W w.heap.size (coL C s) 43
 x:blk W (w.heap.size+1) [I J k] 3
 r:blk W (w.heap.size+2) Z21 43
 b:Below w.heap.size w W
theorem itF.below {w:World} {C:Co} {s:Sl} {k:Int} {W W':World} (h:itF w C s k W) (hb:Below W.heap.size W W'):itF w C s k W':=⟨h.p.below hb,h.x.below hb,h.r.below hb,h.b.trans (hb.mono h.b.size)⟩
theorem itF.new (w:World) (C:Co) (s:Sl) (k:Int):itF w C s k (((w.alloc (.cells (coL C s).toArray 43)).alloc (.cells #[I J k] 3)).alloc (.cells #[I J 0,I J 0,I J 0,bO false,bO false,bO false,bO false,bO false,I J 0,I J 0,I J 0,I J 0,I J 0,I J 0,I J 0,sL none 0 0,sL none 0 0,sL none 0 0,sL none 0 0,I J 0,I J 0] 43)):=by
 refine⟨((blk.new w _ 43).alloc _).alloc _,?_,?_,(((Below.refl _ _).alloc (Nat.le_refl _) _).alloc (by simp) _).alloc (by simp;omega) _⟩
 ·have:=(blk.new (w.alloc (.cells (coL C s).toArray 43)) [I J k] 3).alloc (.cells #[I J 0,I J 0,I J 0,bO false,bO false,bO false,bO false,bO false,I J 0,I J 0,I J 0,I J 0,I J 0,I J 0,I J 0,sL none 0 0,sL none 0 0,sL none 0 0,sL none 0 0,I J 0,I J 0] 43)
  simpa using this
 ·have:=blk.new ((w.alloc (.cells (coL C s).toArray 43)).alloc (.cells #[I J k] 3)) Z21 43
  have t2:blk (((w.alloc (.cells (coL C s).toArray 43)).alloc (.cells #[I J k] 3)).alloc (.cells Z21.toArray 43)) (w.heap.size+2) Z21 43:=by simpa using this
  exact t2
def k41 (T:Nat) (w w':World):Prop:=∀ q L,T≤q→blk w q L 43→blk w' q L 43
theorem k41.trans {T:Nat} {w w' w'':World} (h:k41 T w w') (h':k41 T w' w''):k41 T w w'':=fun q L hq hb=>h' q L hq (h q L hq hb)
theorem k41.below {T:Nat} {w w':World} (h:Below w.heap.size w w'):k41 T w w':=fun q L _ hb=>hb.below h
theorem coL_nb (C:Co) (s:Sl) (j:Int):Value.int .u8 j ∉ coL C s:=by
 unfold coL
 simp
theorem Z21_nb (j:Int):Value.int .u8 j ∉ Z21:=by
 unfold Z21
 simp
theorem rowQ8.neT {B T g n k:Nat} {bs:List R8} {W:World} (h:rowQ8 B T 173 g n k bs W) {x:Nat} {L:List Value} (hx:blk W x L 43):g≠x:=by
 obtain⟨rs,ho,_⟩:=h
 rcases ho.own.2 with⟨e,_⟩|⟨g1,cap,cur,hv',hb,hgg,_⟩
 ·cases e
 cases hv'
 rintro rfl
 unfold blk at hx
 rw[hgg] at hx
 injection hx with hx
 injection hx with _ hx _
 exact absurd hx (by decide)
theorem isBytes.farL {W V:World} {a:Option Addr} {n cap:Nat} {l:List Nat} (h:isBytes W a n cap l) {x:Nat} {L:List Value} {ty:TypeId} (hx:blk W x L ty) (hL:∀ j,Value.int .u8 j ∉ L) (hV:∀ q,q≠x→V.heap[q]?=W.heap[q]?):isBytes V a n cap l:=by
 refine⟨h.len,h.cap,h.small,fun hne=>?_⟩
 obtain⟨g,off,e,hc⟩:=h.cells hne
 refine⟨g,off,e,fun j hj=>?_⟩
 have hcj:=hc j hj
 have hg:g≠x:=by
  rintro rfl
  refine hL (l[j]:Int) ?_
  unfold blk at hx
  unfold World.cell? at hcj
  rw[hx] at hcj
  simp at hcj
  exact List.mem_of_getElem? hcj
 unfold World.cell? at hcj ⊢
 rw[hV g hg]
 exact hcj
theorem rowQ8.vars {B T g n k:Nat} {bs:List R8} {W V:World} (h:rowQ8 B T 173 g n k bs W) {x:Nat} {L:List Value} (hx:blk W x L 43) (hL:∀ j,Value.int .u8 j ∉ L) (hV:∀ q,q≠x→V.heap[q]?=W.heap[q]?) (hz:V.heap.size=W.heap.size):rowQ8 B T 173 g n k bs V:=by
 have hg:=h.neT hx
 obtain⟨rs,ho,hm,hn,hgT,hall⟩:=h
 refine⟨rs,⟨ownsRow_kept ho.own (hV g hg),fun p hp=>?_⟩,hm,hn,hgT,hall⟩
 obtain⟨d1,d2,d3,d4⟩:=ho.dat p hp
 exact⟨d1.farL hx hL hV,d2,d3,by omega⟩
theorem spS.vars {B T0 T1 T2:Nat} {H:Ho} {s:Sl} {W V:World} (h:spS B T0 T1 T2 H s W) {x:Nat} {L:List Value} (hx:blk W x L 43) (hT:T2≤x) (hL:∀ j,Value.int .u8 j ∉ L) (hV:∀ q,q≠x→V.heap[q]?=W.heap[q]?) (hz:V.heap.size=W.heap.size):spS B T0 T1 T2 H s V:=by
 obtain⟨o1,o2,o3,o4⟩:=h.o
 obtain⟨gf,e1,h1a,h1b,h1⟩:=h.f
 obtain⟨gb,hs,e2,h2⟩:=h.x
 obtain⟨gq,e3,h3⟩:=h.r
 obtain⟨g4,e4,h4⟩:=h.q
 refine⟨⟨gf,e1,h1a,h1b,h1.same (hV gf (by omega))⟩,⟨gb,hs,e2,h2.st fun q h1 h2=>hV q (by omega)⟩,⟨gq,e3,h3.keep fun q h1 h2=>hV q (by omega)⟩,⟨g4,e4,?_⟩,⟨o1,o2,o3,by omega⟩⟩
 rw[hz]
 exact h4.vars hx hL hV hz
theorem spS.n2 {B T0 T1 T2:Nat} {H:Ho} {s:Sl} {W:World} (h:spS B T0 T1 T2 H s W):s.n2=H.bx.length:=by
 obtain⟨gb,hs,_,h2⟩:=h.x
 exact h2.len
theorem spS.n4 {B T0 T1 T2:Nat} {H:Ho} {s:Sl} {W:World} (h:spS B T0 T1 T2 H s W):s.n4=H.qu.length:=by
 obtain⟨g4,_,h4⟩:=h.q
 exact h4.is.len
structure bdQ (n:Nat) (H:Ho):Prop where
 q:H.qu.length≤n
 lo:0≤H.lo∧H.lo≤100000
theorem bdQ.post {n:Nat} {H:Ho} (h:bdQ n H) (e:R8):bdQ (n+1) (postHo H e):=by
 refine⟨?_,?_⟩
 ·show (quP H.c3 H.qu e).length≤n+1
  have:=h.q
  unfold quP
  split
  ·rw[List.length_append,List.length_singleton];omega
  ·omega
 ·show 0≤loP H.c3 H.qu H.lo∧loP H.c3 H.qu H.lo≤100000
  have:=h.lo
  unfold loP
  split
  ·exact h.lo
  ·split
   ·omega
   ·exact h.lo
theorem bdQ.up {n:Nat} {H:Ho} (h:bdQ n H) {m:Nat} (hm:n≤m):bdQ m H:=⟨Nat.le_trans h.q hm,h.lo⟩
theorem bdQ.rel {n:Nat} {H:Ho} (h:bdQ n H) (sent:Bool):bdQ (n+1) (relHo H sent):=by
 have hf:∀ k,bdQ n (freeHo H k):=fun k=>⟨h.q,h.lo⟩
 unfold relHo
 split
 ·split
  ·exact (hf _).post _
  ·split
   ·exact (hf _).post _
   ·rw[stHo_yes (by assumption)]
    exact⟨Nat.le_succ_of_le h.q,h.lo⟩
 ·exact h.up (Nat.le_succ _)
theorem okHo.bd {H:Ho} (h:okHo H):bdQ 900 H:=by
 have h1:=of_decide_eq_true h.cf
 have h2:=h.nq
 exact⟨by omega,h.l0,h.l1⟩
structure vS (w:World) (B T0 T1 T2:Nat) (C:Co) (s0:Sl) (H:Ho) (s:Sl) (W:World):Prop where
 p:blk W w.heap.size (coL C s0) 43
 r:blk W (w.heap.size+1) Z21 43
 sp:spS B T0 T1 T2 H s W
 b:Below B w W
 k:k41 T2 w W
 o:T2≤w.heap.size∧B≤w.heap.size
theorem vS.new {w:World} {B T0 T1 T2:Nat} {C:Co} {s:Sl} (h:spS B T0 T1 T2 C.ho s w):vS w B T0 T1 T2 C s C.ho s ((w.alloc (.cells (coL C s).toArray 43)).alloc (.cells Z21.toArray 43)):=by
 have hd:=dcS.new w C s
 have ho:=h.o
 exact⟨hd.p,hd.r,h.below hd.b,hd.b.mono (by omega),k41.below hd.b,by omega,by omega⟩
theorem vS.call {w:World} {B T0 T1 T2:Nat} {C:Co} {s0:Sl} {H:Ho} {s:Sl} {W w':World} (h:vS w B T0 T1 T2 C s0 H s W) {H':Ho} {s':Sl} (hs:spS B T0 T1 T2 H' s' w') (hk:k41 T2 W w') (hb:Below B W w'):vS w B T0 T1 T2 C s0 H' s' w':=
 ⟨hk _ _ h.o.1 h.p,hk _ _ (by have:=h.o;omega) h.r,hs,h.b.trans hb,h.k.trans hk,h.o⟩
theorem vS.below {w:World} {B T0 T1 T2:Nat} {C:Co} {s0:Sl} {H:Ho} {s:Sl} {W w':World} (h:vS w B T0 T1 T2 C s0 H s W) (hb:Below W.heap.size W w'):vS w B T0 T1 T2 C s0 H s w':=
 h.call (h.sp.below hb) (k41.below hb) (hb.mono (by have:=h.b.size;have:=h.o;omega))
theorem vS.other {w:World} {B T0 T1 T2:Nat} {C:Co} {s0:Sl} {H:Ho} {s:Sl} {W V:World} (h:vS w B T0 T1 T2 C s0 H s W) {C':Co} {s1:Sl} (hp:blk V w.heap.size (coL C' s1) 43) (hV:∀ q,q≠w.heap.size→V.heap[q]?=W.heap[q]?) (hz:V.heap.size=W.heap.size) (hb:Below B w V):vS w B T0 T1 T2 C' s1 H s V:=
 ⟨hp,h.r.kept (hV _ (by omega)),h.sp.vars h.p h.o.1 (coL_nb C s0) hV hz,hb,fun q L hq hb=>(h.k q L hq hb).kept (hV q (by have:=hb.lt;omega)),h.o⟩
theorem vS.put {w:World} {B T0 T1 T2:Nat} {C:Co} {s0:Sl} {H:Ho} {s:Sl} {W:World} (h:vS w B T0 T1 T2 C s0 H s W) (C':Co) (s1:Sl):vS w B T0 T1 T2 C' s1 H s (W.setCells w.heap.size 0 (coL C' s1)):=
 h.other (h.p.core rfl C' s1) (fun q hq=>setCells_other _ q hq _ _ _) (setCells_size ..) (setCells_below h.o.2 0 _ h.b)
theorem vS.host {w:World} {B T0 T1 T2:Nat} {C:Co} {s0:Sl} {H:Ho} {s:Sl} {W:World} (h:vS w B T0 T1 T2 C s0 H s W) (H':Ho) (s1:Sl):vS w B T0 T1 T2 { C with ho:=H' } s1 H s (W.setCells w.heap.size 11 (hoL H' s1)):=
 h.other (h.p.host H' s1) (fun q hq=>setCells_other _ q hq _ _ _) (setCells_size ..) (setCells_below h.o.2 11 _ h.b)
theorem vS.set {w:World} {B T0 T1 T2:Nat} {C:Co} {s0:Sl} {H:Ho} {s:Sl} {W:World} (h:vS w B T0 T1 T2 C s0 H s W) (i:Nat) (v:Value) (C':Co) (e:(coL C s0).set i v=coL C' s0):vS w B T0 T1 T2 C' s0 H s (W.setCell ⟨w.heap.size,i,none⟩ v):=
 h.other (by rw[← e];exact h.p.set i v) (fun q hq=>heap_setCell_other W ⟨w.heap.size,i,none⟩ q _ hq) (by simp) (h.b.setCell (by exact h.o.2) _)
theorem vS.ret {w:World} {B T0 T1 T2:Nat} {C:Co} {s0:Sl} {H:Ho} {s:Sl} {W:World} (h:vS w B T0 T1 T2 C s0 H s W) (C':Co) (s1:Sl):blk (W.setCells (w.heap.size+1) 0 (coL C' s1)) (w.heap.size+1) (coL C' s1) 43∧spS B T0 T1 T2 H s (W.setCells (w.heap.size+1) 0 (coL C' s1))∧k41 T2 w (W.setCells (w.heap.size+1) 0 (coL C' s1))∧Below B w (W.setCells (w.heap.size+1) 0 (coL C' s1)):=by
 have ho:=h.o
 have hV:∀ q,q≠w.heap.size+1→(W.setCells (w.heap.size+1) 0 (coL C' s1)).heap[q]?=W.heap[q]?:=fun q hq=>setCells_other _ q hq _ _ _
 exact⟨h.r.core rfl C' s1,h.sp.vars h.r (by omega) Z21_nb hV (setCells_size ..),fun q L hq hb=>(h.k q L hq hb).kept (hV q (by have:=hb.lt;omega)),setCells_below (by omega) 0 _ h.b⟩
theorem okCo.lo {C:Co} (h:okCo C):0≤C.ho.lo∧C.ho.lo≤100000:=⟨h.h.l0,h.h.l1⟩
variable {w0 : World} {M : Nat} {G : Lg} {f1 f3 nm : Nat} {C : Co} {W : World}
theorem mx.off (h:mx w0 M G f1 f3 nm C W):mx w0 M G f1 f3 nm (offC C) (W.setCells M 3 [I J 7,I J 0,I J 0,bO false,bO false,bO false,bO false,bO false,I J 0]):=by obtain⟨_,_,h⟩:=h;exact⟨_,_,h.moment⟩
variable {w0 : World} {M : Nat} {G : Lg} {f1 f3 nm : Nat} {C : Co} {W : World}
def msB (C:Co):Bool:=C.tx && (stZ C.te C.re == 1)
set_option maxRecDepth 20000 in
theorem mustS_any (h:mx w0 M G f1 f3 nm C W):Calls Tp 197 #[pT (some ⟨M,0,none⟩)] W fun o w'=>o = rT (bO (msB C))∧mx w0 M G f1 f3 nm C w'∧Below W.heap.size W w':=by
 have H0:Hid (mx w0 M G f1 f3 nm C W):=h
 have HS:Hid (Calls Tp 193 #[pT (some ⟨M,0,none⟩)] W fun o w'=>o = rT (I J (stZ C.te C.re))∧mx w0 M G f1 f3 nm C w'∧Below W.heap.size W w'):=h.state
 have y9:=h.m.cell 9 (bO C.tx) rfl
 clear h;have HM:Hid (msB C=(C.tx && (stZ C.te C.re == 1))):=rfl
 generalize stZ C.te C.re=z at *;obtain⟨tx,etx⟩ : ∃ b,C.tx=b:=⟨_,rfl⟩
 rw[etx] at y9 HM
 clear etx;go_enter Tryz.func197,Tryz.ntmps197
 cases tx
 ·go_wp2_with fail;go_ret;exact⟨by rw[HM.out];rfl,H0.out,Below.refl _ _⟩
 ·go_wp2_with fail;refine HS.out.mono ?_
  rintro o w1 ⟨rfl,h1,hb⟩;have H1:=hidX (And.intro h1 hb)
  clear h1 hb;go_wp2_with fail;go_ret;exact⟨by rw[HM.out];rfl,H1.out⟩
theorem bestR_ex (bx:List R8):∃ r,bestR bx r:=by
 rcases Classical.em (∃ i,isBest bx i) with⟨i,h⟩|h
 ·exact⟨i,Or.inr ⟨i,rfl,h⟩⟩
 ·exact⟨-1,Or.inl ⟨rfl,fun i hi=>h ⟨i,hi⟩⟩⟩
theorem mx.best (h:mx w0 M G f1 f3 nm C W) (hok:okBxs C.ho.st C.ho.bx) (r:Int) (hr:bestR C.ho.bx r):Calls Tp 196 #[pT (some ⟨G.P,0,none⟩)] W fun o w'=>o = rT (I J r)∧mx w0 M G f1 f3 nm C w':=by
 obtain⟨hs,D,h⟩:=h
 refine (best_any W G.P _ G.n2 G.kb C.ho.bx C.ho.st (h.h.p.cell 5 _ rfl) (h.h.x.is h.h.bd.nk) h.h.bd.m2 hok).mono ?_
 rintro o w' ⟨r',rfl,h1,h2⟩;exact⟨by rw[bestR_one h1 hr],hs,D,h.below h2⟩
theorem mx.send (h:mx w0 M G f1 f3 nm C W) (i:Int):Calls Tp 198 #[pT (some ⟨G.P,0,none⟩),I J i] W fun o w'=>o = rT (.tuple #[])∧mx w0 M G f1 f3 nm { C with ho:=takeHo C.ho i } w':=by
 obtain⟨hs,D,h⟩:=h
 refine (send_any W G.P G.gb G.n2 G.kb C.ho.bx i (h.h.p.cell 5 _ rfl) (h.h.x.is h.h.bd.nk) h.h.x.row h.h.bd.m2).mono ?_
 rintro o w' ⟨rfl,W1,hb,⟨rfl,e⟩|⟨k,hk,rfl,e,_⟩⟩
 ·refine⟨rfl,hs,D,?_⟩
  rw[show takeHo C.ho i=C.ho by unfold takeHo;rw[e]]
  exact h.below hb
 ·have h1:=h.below hb
  refine⟨rfl,hs,D,?_,?_,h.o⟩
  ·exact h1.m.setOther h.o.2.2.2.1 _ _
  ·rw[show takeHo C.ho i=stHo C.ho k 2 by unfold takeHo;rw[e,stHo_yes hk]]
   exact h1.h.state k hk 2
def jnC (C:Co) (r:Int):Co:=if (decide (0≤r) && !msB C)=true then { C with p:=1,ct:=0,tx:=true,ho:=takeHo C.ho r } else { C with p:=1,ct:=0,tx:=false }
set_option maxRecDepth 20000 in
theorem l3take_a (w:World) (H:Ho) (s:Sl) (i:Int) (B T0 T1 T2:Nat) (h:spS B T0 T1 T2 H s w) (hn2:H.bx.length≤1000) :
  Calls Tp 29 #[aG (hoL H s).toArray,I J i] w fun o w'=>o = rT (aG (hoL H s).toArray)∧spS B T0 T1 T2 (takeHo H i) s w'∧(∀ q,T2≤q→q<w.heap.size→w'.heap[q]?=w.heap[q]?)∧Below B w w':=by
 have H0:Hid (reS w (hoL H s) ((w.alloc (.cells (hoL H s).toArray 41)).alloc (.cells zX.toArray 41))∧Below w.heap.size w ((w.alloc (.cells (hoL H s).toArray 41)).alloc (.cells zX.toArray 41))):=⟨reS.new w _,((Below.refl _ _).alloc (Nat.le_refl _) _).alloc (by simp) _⟩
 have hln:=h.n2
 have HLN:=hidX hln
 have HBS:Hid (∀ W,Below w.heap.size w W→Calls Tp 48 #[aG (hoL H s).toArray] W fun o w'=>∃ r:Int,o = rT (I J r)∧bsy H.bx r∧Below W.heap.size W w'):=fun W hW=>l3busy_any W H s (h.below hW).is.bx (by omega)
 have HS:=hidX h
 obtain⟨gb,hs0,ea,hx⟩:=h.x
 have x5:(((w.alloc (.cells (hoL H s).toArray 41)).alloc (.cells zX.toArray 41))).cell? ⟨w.heap.size,5,none⟩=some (sL (some ⟨gb,0,none⟩) s.n2 s.k2):=by rw[← ea];exact H0.out.1.p.cell 5 _ (by unfold hoL;rfl)
 have HX:=hidX hx
 have HA:=hidX ea
 have hcp:=hx.cap
 have ho:=h.o
 have HGB:Hid (gb<T1∧T0≤gb∧T1≤T2∧T2≤w.heap.size∧B≤T0):=⟨hx.hi,hx.lo,ho.2.2.1,ho.2.2.2,ho.1⟩
 clear h hx ea ho hln;go_enter Tryz.func29,Tryz.ntmps29
 go_upto_region 1 with fail
 go_cut [27] (fun x wx=>∃ b:Bool,x = bO b∧Hid (b=true→takeB H.bx i=H.bx)∧Hid (b=false→∃ (k:Nat) (hk:k<H.bx.length),i=(k:Int)∧H.bx[k].x=1∧takeB H.bx i=H.bx.set k { H.bx[k] with x:=2 })∧Hid (reS w (hoL H s) wx∧Below w.heap.size w wx))
 case first=>
  by_cases hi0:i<0
  ·have d0:decide (i<0)=true:=by simpa using hi0
   have HT:=hidX (takeB_out (bx:=H.bx) (Or.inl hi0))
   clear hi0;go_wp2_with fail;go_meet
   case rel=>exact⟨true,rfl,fun _=>HT.out,fun x=>(by cases x),H0.out⟩
  by_cases hi1:(s.n2:Int)≤i
  ·have d0:decide (i<0)=false:=by simpa using hi0
   have d1:decide ((s.n2:Int)≤i)=true:=by simpa using hi1
   have HT:=hidX (takeB_out (bx:=H.bx) (i:=i) (Or.inr (by have:=HLN.out;omega)))
   go_wp2_with fail;go_meet
   case rel=>exact⟨true,rfl,fun _=>HT.out,fun x=>(by cases x),H0.out⟩
  obtain⟨k,rfl⟩ : ∃ k:Nat,i=(k:Int):=⟨i.toNat,by omega⟩
  have hk2:k<s.n2:=by omega
  have hk:k<H.bx.length:=by have:=HLN.out;omega
  have Y0:Hid (∀ v,H.bx[k].x=v→(((w.alloc (.cells (hoL H s).toArray 41)).alloc (.cells zX.toArray 41))).cell? ⟨gb,k*8,none⟩=some (I J v)):=fun v e=>by
   subst e;exact (H0.out.2.cell (by exact Nat.lt_of_lt_of_le HGB.out.1 (by have:=HGB.out;omega))).trans (HX.out.rng k hk 0 _ rfl)
  have d0:decide ((k:Int)<0)=false:=by simp
  have d1:decide (s.n2≤k)=false:=by simp;omega
  have HKK:=hidX hk
  clear hi0 hi1;by_cases hx:H.bx[k].x=1
  ·have HX1:=hidX hx
   have y0:=Y0.out 1 hx
   clear hx;go_wp2_with (first | (refine wpList_load_midG (by first | rfl | (simp[Region.wanted,yielded];done)) 41 (.tmp 2) rfl w.heap.size 0 rfl (hoL H s) _ H0.out.1.p.load Tryz.underlying41 rfl (sz41L H s) ?_))
   refine (HBS.out _ H0.out.2).mono ?_
   rintro o w5 ⟨r,rfl,hr,hb5⟩;have HR:=hidX hr
   have H5:Hid (reS w (hoL H s) w5∧Below w.heap.size w w5):=⟨H0.out.1.below hb5,H0.out.2.trans (hb5.mono H0.out.2.size)⟩
   clear hr hb5;by_cases h0:0≤r
   ·have dr:decide (0≤r)=true:=by simpa using h0
    have HT:=hidX (takeB_busy (i:=(k:Int)) HR.out h0)
    clear h0;go_wp2_with fail;go_meet
    case rel=>exact⟨true,rfl,fun _=>HT.out,fun x=>(by cases x),H5.out⟩
   ·have dr:decide (0≤r)=false:=by simpa using h0
    have HT:=hidX (takeB_yes HKK.out HX1.out HR.out (by omega))
    clear h0;go_wp2_with fail;go_meet
    case rel=>exact⟨false,rfl,fun x=>(by cases x),fun _=>⟨k,HKK.out,rfl,HX1.out,HT.out⟩,H5.out⟩
  ·have HT:=hidX (takeB_no hk hx)
   obtain⟨v,ev⟩ : ∃ v,H.bx[k].x=v:=⟨_,rfl⟩
   have y0:=Y0.out v ev
   have hx':(v != 1)=true:=by rw[← ev];simpa using hx
   clear hx ev;go_wp2_with fail;go_meet
   case rel=>exact⟨true,rfl,fun _=>HT.out,fun x=>(by cases x),H0.out⟩
 case rest=>
 obtain⟨b,rfl,f1,f2,H5⟩:=hcut
 clear H0 x5 HBS;cases b
 case true=>
  have HT:Hid (takeHo H i=H):=by show _=_;unfold takeHo;rw[f1.out rfl]
  go_wp2_with (first | (refine wpList_load_mid (P:=Tp) rfl 41 (.tmp 2) rfl w.heap.size 0 rfl (hoL H s) _ H5.out.1.p.load Tryz.underlying41 rfl (sz41L H s) ?_) | (refine wpList_store_mid (P:=Tp) rfl 41 (.tmp 4) (.tmp 28) rfl (w.heap.size+1) 0 (hoL H s).toArray rfl rfl (H5.out.1.r.there 0 _ (by rw[List.size_toArray,hoL_len];decide)) (sz41A H s) (hoL_one H s) ?_;generalize hW8:World.setCells _ (w.heap.size+1) 0 _=w8;have HW8:Hid (_=w8):=hW8;clear hW8))
  have e8:=HW8.out
  have hF:blk w8 (w.heap.size+1) (hoL H s) 41:=by
   rw[← e8]
   have:=blk.put [] Z10 [] (hoL H s) (w:=wc) (b:=w.heap.size+1) (T:=41) (by simpa using H5.out.1.r) (by rw[hoL_len];rfl)
   simpa using this
  have hL:=run_loadVar_mid (P:=Tp) w8 (w.heap.size+1) 0 41 _ _ hF.load Tryz.underlying41 rfl (sz41L H s)
  refine bodyPost_ret (v:=aG (hoL H s).toArray) (results_cell Tryz.results29 _ w8 (w.heap.size+1) _ rfl hL) rfl ?_
  have b8:Below w.heap.size w w8:=by
   rw[← e8]
   exact setCells_below (by omega) 0 _ H5.out.2
  rw[HT.out]
  exact⟨rfl,HS.out.below b8,fun q _ hq=>b8.block q hq,b8.mono (by have:=HGB.out;omega)⟩
 case false=>
 obtain⟨k,hk,ei,hx1,ht⟩:=f2.out rfl
 subst ei;have HT:Hid (takeHo H (k:Int)=stHo H k 2):=by show _=_;unfold takeHo;rw[ht,stHo_yes hk]
 have hk2:k<s.n2:=by have:=HLN.out;omega
 have HKK:=hidX hk
 have HX5:Hid (bxR T0 T1 gb s.n2 s.k2 H.bx hs0 wc):=HX.out.st (fun q _ h2=>H5.out.2.block q (by have:=HGB.out;omega))
 have x5:wc.cell? ⟨w.heap.size,5,none⟩=some (sL (some ⟨gb,0,none⟩) s.n2 s.k2):=by rw[← HA.out];exact H5.out.1.p.cell 5 _ (by unfold hoL;rfl)
 have Y0:∀ v,H.bx[k].x=v→wc.cell? ⟨gb,k*8,none⟩=some (I J v):=fun v e=>by subst e;exact HX5.out.rng k hk 0 _ rfl
 have y0:=Y0 1 hx1
 clear Y0;have z0:=(HX5.out.row (k*8) (by omega)).2
 have H7:Hid (reS w (hoL H s) (wc.setCell ⟨gb,k*8,none⟩ (I J 2))):=⟨H5.out.1.p.setOther (by have:=HGB.out;omega) _ _,H5.out.1.r.setOther (by have:=HGB.out;omega) _ _⟩
 clear hk hx1 ht f1 f2;go_upto_region 4 with fail
 go_wp2_with (first | (refine wpList_load_mid (P:=Tp) rfl 41 (.tmp 2) rfl w.heap.size 0 rfl (hoL H s) _ H7.out.p.load Tryz.underlying41 rfl (sz41L H s) ?_) | (refine wpList_store_mid (P:=Tp) rfl 41 (.tmp 4) (.tmp 34) rfl (w.heap.size+1) 0 (hoL H s).toArray rfl rfl (H7.out.r.there 0 _ (by rw[List.size_toArray,hoL_len];decide)) (sz41A H s) (hoL_one H s) ?_;generalize hW8:World.setCells _ (w.heap.size+1) 0 _=w8;have HW8:Hid (_=w8):=hW8;clear hW8))
 have e8:=HW8.out
 have hF:blk w8 (w.heap.size+1) (hoL H s) 41:=by
  rw[← e8]
  have:=blk.put [] Z10 [] (hoL H s) (w:=(wc.setCell ⟨gb,k*8,none⟩ (I J 2))) (b:=w.heap.size+1) (T:=41) (by simpa using H7.out.r) (by rw[hoL_len];rfl)
  simpa using this
 have hL:=run_loadVar_mid (P:=Tp) w8 (w.heap.size+1) 0 41 _ _ hF.load Tryz.underlying41 rfl (sz41L H s)
 refine bodyPost_ret (v:=aG (hoL H s).toArray) (results_cell Tryz.results29 _ w8 (w.heap.size+1) _ rfl hL) rfl ?_
 have hg:=HGB.out
 have hpl:=H5.out.1.r.lt
 rw[HT.out]
 refine⟨rfl,sp_state HS.out (HS.out.below H5.out.2) H5.out.2 (Below.refl _ _) HA.out HX5.out HKK.out 2 ⟨by omega,by omega⟩ e8,fun q h1 hlt=>?_,?_⟩
 ·rw[← e8]
  exact (setCells_other _ q (by omega) _ _ _).trans ((heap_setCell_other wc ⟨gb,k*8,none⟩ q _ (by show q≠gb;omega)).trans (H5.out.2.block q hlt))
 ·rw[← e8]
  exact setCells_below (by omega) 0 _ ((H5.out.2.mono (by omega)).setCell (by show B≤gb;omega) _)
variable {w0 : World} {M : Nat} {G : Lg} {f1 f3 nm : Nat} {V : World} {C : Co} {W : World}
structure mr (w0:World) (M:Nat) (G:Lg) (f1 f3 nm:Nat) (V:World) (C:Co) (W:World):Prop where
 x:mx w0 M G f1 f3 nm C W
 k:∀ q,q≠M→q≠G.gb→q<V.heap.size→W.heap[q]?=V.heap[q]?
 z:V.heap.size≤W.heap.size
theorem mr.new (h:mx w0 M G f1 f3 nm C W):mr w0 M G f1 f3 nm W C W:=⟨h,fun _ _ _ _=>rfl,Nat.le_refl _⟩
theorem mr.below (h:mr w0 M G f1 f3 nm V C W) {W':World} (hb:Below W.heap.size W W'):mr w0 M G f1 f3 nm V C W':=⟨h.x.below hb,fun q h1 h2 h3=>(hb.block q (Nat.lt_of_lt_of_le h3 h.z)).trans (h.k q h1 h2 h3),Nat.le_trans h.z hb.size⟩
theorem mr.set (h:mr w0 M G f1 f3 nm V C W) (k:Nat) (v:Value) (C':Co) (e:(mcL G.P C).set k v=mcL G.P C') (eh:C'.ho=C.ho):mr w0 M G f1 f3 nm V C' (W.setCell ⟨M,k,none⟩ v):=⟨h.x.set k v C' e eh,fun q h1 h2 h3=>(heap_setCell_other W ⟨M,k,none⟩ q _ h1).trans (h.k q h1 h2 h3),by simpa using h.z⟩
theorem mr.best (h:mr w0 M G f1 f3 nm V C W) (hok:okBxs C.ho.st C.ho.bx) (r:Int) (hr:bestR C.ho.bx r):Calls Tp 196 #[pT (some ⟨G.P,0,none⟩)] W fun o w'=>o = rT (I J r)∧mr w0 M G f1 f3 nm V C w':=by
 obtain⟨hs,D,hx⟩:=h.x
 refine (best_any W G.P _ G.n2 G.kb C.ho.bx C.ho.st (hx.h.p.cell 5 _ rfl) (hx.h.x.is hx.h.bd.nk) hx.h.bd.m2 hok).mono ?_
 rintro o w' ⟨r',rfl,h1,h2⟩;exact⟨by rw[bestR_one h1 hr],h.below h2⟩
theorem mr.send (h:mr w0 M G f1 f3 nm V C W) (i:Int):Calls Tp 198 #[pT (some ⟨G.P,0,none⟩),I J i] W fun o w'=>o = rT (.tuple #[])∧mr w0 M G f1 f3 nm V { C with ho:=takeHo C.ho i } w':=by
 obtain⟨hs,D,hx⟩:=h.x
 refine (send_any W G.P G.gb G.n2 G.kb C.ho.bx i (hx.h.p.cell 5 _ rfl) (hx.h.x.is hx.h.bd.nk) hx.h.x.row hx.h.bd.m2).mono ?_
 rintro o w' ⟨rfl,W1,hb,⟨rfl,e⟩|⟨k,hk,rfl,e,_⟩⟩
 ·refine⟨rfl,?_⟩
  rw[show takeHo C.ho i=C.ho by unfold takeHo;rw[e]]
  exact h.below hb
 ·have h1:=hx.below hb
  refine⟨rfl,⟨hs,D,?_,?_,hx.o⟩,fun q h1 h2 h3=>(heap_setCell_other W1 ⟨G.gb,k*8,none⟩ q _ h2).trans ((h.below hb).k q h1 h2 h3),by simpa using (h.below hb).z⟩
  ·exact h1.m.setOther hx.o.2.2.2.1 _ _
  ·rw[show takeHo C.ho i=stHo C.ho k 2 by unfold takeHo;rw[e,stHo_yes hk]]
   exact h1.h.state k hk 2
theorem mr.mustS (h:mr w0 M G f1 f3 nm V C W):Calls Tp 197 #[pT (some ⟨M,0,none⟩)] W fun o w'=>o = rT (bO (msB C))∧mr w0 M G f1 f3 nm V C w':=(mustS_any h.x).mono fun o w' ⟨h1,_,h3⟩=>⟨h1,h.below h3⟩
set_option maxRecDepth 20000 in
theorem mr.join (h:mr w0 M G f1 f3 nm V C W) (hok:okBxs C.ho.st C.ho.bx) (r:Int) (hr:bestR C.ho.bx r) (h0:decide (0≤r)=true) (hms:msB C=false) :
  Calls Tp 165 #[pT (some ⟨M,0,none⟩)] W fun o w'=>o = rT (.tuple #[])∧mr w0 M G f1 f3 nm V (jnC C r) w':=by
 have HB:Hid (Calls Tp 196 #[pT (some ⟨G.P,0,none⟩)] W fun o w'=>o = rT (I J r)∧mr w0 M G f1 f3 nm V C w'):=h.best hok r hr
 have y0:=h.x.m.cell 0 (pT (some ⟨G.P,0,none⟩)) rfl
 have HMS:Hid (∀ X,mr w0 M G f1 f3 nm V C X→Calls Tp 197 #[pT (some ⟨M,0,none⟩)] X fun o w'=>o = rT (bO false)∧mr w0 M G f1 f3 nm V C w'):=fun X hX=>by rw[← hms];exact hX.mustS
 have HSD:Hid (∀ Y X,mr w0 M G f1 f3 nm V X Y→Calls Tp 198 #[pT (some ⟨G.P,0,none⟩),I J r] Y fun o w'=>o = rT (.tuple #[])∧mr w0 M G f1 f3 nm V { X with ho:=takeHo X.ho r } w'):=fun Y X hY=>hY.send r
 have HJ:Hid (jnC C r = { C with p:=1,ct:=0,tx:=true,ho:=takeHo C.ho r }):=by show _=_;unfold jnC;rw[h0,hms];rfl
 clear h hok hr hms;go_enter Tryz.func165,Tryz.ntmps165
 go_wp2_with fail;refine HB.out.mono ?_
 rintro o w1 ⟨rfl,h1⟩;have H1:=hidX h1
 clear h1 HB y0;go_wp2_with fail;refine (HMS.out _ H1.out).mono ?_
 rintro o w2 ⟨rfl,h2⟩;have H2:=hidX h2
 have y3:=h2.x.m.cell 3 (I J C.p) rfl
 have y4:=h2.x.m.cell 4 (I J C.ct) rfl
 have y9:=h2.x.m.cell 9 (bO C.tx) rfl
 have z3:=h2.x.m.free 3
 have z4:=h2.x.m.free 4
 have z9:=h2.x.m.free 9
 have x0:=h2.x.m.cell 0 (pT (some ⟨G.P,0,none⟩)) rfl
 clear h2 HMS H1;have H3:Hid (mr w0 M G f1 f3 nm V { C with p:=1,ct:=0,tx:=true } (World.setCell (World.setCell (World.setCell w2 ⟨M,3,none⟩ (I J 1)) ⟨M,4,none⟩ (I J 0)) ⟨M,9,none⟩ (bO true))):=(((H2.out.set 3 (I J 1) { C with p:=1 } rfl rfl).set 4 (I J 0) { C with p:=1,ct:=0 } rfl rfl).set 9 (bO true) { C with p:=1,ct:=0,tx:=true } rfl rfl)
 go_wp2_with fail;refine (HSD.out _ _ H3.out).mono ?_
 rintro o w5 ⟨rfl,h5⟩;have H5:=hidX h5
 clear h5;go_wp2_with fail;first | go_end0 | (try simp only[Exit.inBlock,Exit.then]);refine bodyPost_ret (results_none rfl _ _ _) rfl ?_
 exact⟨rfl,by rw[HJ.out];exact H5.out⟩
set_option maxRecDepth 20000 in
theorem mr.begin_yes (h:mr w0 M G f1 f3 nm V C W) (hp:C.p=0) (hok:okBxs C.ho.st C.ho.bx) (r:Int) (hr:bestR C.ho.bx r) (h0:decide (0≤r)=true) (hms:msB C=false) :
  Calls Tp 262 #[pT (some ⟨M,0,none⟩)] W fun o w'=>o = rT (bO true)∧mr w0 M G f1 f3 nm V (jnC C r) w':=by
 have HB:Hid (Calls Tp 196 #[pT (some ⟨G.P,0,none⟩)] W fun o w'=>o = rT (I J r)∧mr w0 M G f1 f3 nm V C w'):=h.best hok r hr
 have HJ:Hid (∀ X,mr w0 M G f1 f3 nm V C X→Calls Tp 165 #[pT (some ⟨M,0,none⟩)] X fun o w'=>o = rT (.tuple #[])∧mr w0 M G f1 f3 nm V (jnC C r) w'):=fun X hX=>hX.join hok r hr h0 hms
 have y0:=h.x.m.cell 0 (pT (some ⟨G.P,0,none⟩)) rfl
 have y3:=h.x.m.cell 3 (I J C.p) rfl
 rw[hp] at y3
 clear h hok hr hms hp;go_enter Tryz.func262,Tryz.ntmps262
 go_wp2_with fail;refine HB.out.mono ?_
 rintro o w1 ⟨rfl,h1⟩;have H1:=hidX h1
 clear h1 HB y0 y3;go_wp2_with fail;refine (HJ.out _ H1.out).mono ?_
 rintro o w2 ⟨rfl,h2⟩;have H2:=hidX h2
 clear h2 HJ H1;go_wp2_with fail;go_ret;exact⟨rfl,H2.out⟩
def opn (w:World) (C:Co) (M:Nat) (w':World):Prop:=∃ (w0:World) (G:Lg) (nm:Nat),mx w0 M G 0 0 nm C w'∧Below w.heap.size w w0∧M<w'.heap.size∧G.gb<w'.heap.size∧Below w.heap.size w w'
theorem openM (w:World) (C:Co) (s:Sl) (h:isHo w C.ho s) (hs:slSome s) (hok:okCo C) (hm:C.ho.le 1048576):Calls Tp 36 #[aG (coL C s).toArray] w fun o w'=>∃ M,o = rT (pT (some ⟨M,0,none⟩))∧opn w C M w':=by
 refine (openCore_gen (R:=fun P w'=>∃ (X:World) (G:Lg) (hd:Nat→Hd),Below w.heap.size w X∧lh X G C.ho 0 0 hd G.n2 (tagsD Unit C.ho.bx G.n2) w'∧P=G.P) ?_ w C s ?_).mono ?_
 ·rintro P W W' ⟨X,G,hd,h1,h2,h3⟩ hb;exact⟨X,G,hd,h1,h2.below hb,h3⟩
 ·intro W hW;refine (open_lh W C.ho s (h.below hW) hs hok.h hm).mono ?_
  rintro o w' ⟨G,hd,rfl,h1,_⟩;exact⟨G.P,rfl,⟨W,G,hd,hW,h1,rfl⟩,h1.b⟩
 rintro o w' ⟨P,w5,rfl,rfl,⟨X,G,hd,h1,h2,rfl⟩,h3⟩;have hb5:Below w5.heap.size w5 (w5.alloc (.cells (mcL G.P C).toArray 144)):=(Below.refl _ _).alloc (Nat.le_refl _) _
 have a1:=h2.p.lt
 have a2:=h2.m.lt
 have a3:=h2.hi
 have a4:=h2.x.hi
 have a5:=h2.b.size
 have hmc:mc X w5.heap.size G C 0 0 hd G.n2 (tagsD Unit C.ho.bx G.n2) (w5.alloc (.cells (mcL G.P C).toArray 144)):=
  ⟨blk.new w5 _ 144,h2.below hb5,⟨by omega,by omega,by omega,by omega,by omega,by omega,by omega⟩⟩
 refine⟨w5.heap.size,rfl,X,G,G.n2,⟨hd,_,hmc⟩,h1,by simp,by simp;omega,h3.trans (hb5.mono h3.size)⟩
theorem rfL_core {w:World} {b:Nat} {C:Co} {s:Sl} {hd:ByteArray} {T:TypeId} (h:blk w b (rfL C s hd) T):w.rangeAt b 0 (coL C s):=by
 have h':blk w b ([]++coL C s++[.string hd]) T:=h
 exact h'.loadAt [] (coL C s) [.string hd]
end Go.Proofs.YtbllefckefhpoaaGreat
