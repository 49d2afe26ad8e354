import Derived.Test.YtbllefckefhpoaaGreatK45
import Derived.Test.YtbllefckefhpoaaGreatK44
import Derived.Test.YtbllefckefhpoaaGreatK24
import Derived.Test.YtbllefckefhpoaaGreatK41
import Derived.Test.YtbllefckefhpoaaGreatK16
namespace Go.Proofs.YtbllefckefhpoaaGreat
open Go.RowKit
set_option linter.unusedVariables false
set_option maxHeartbeats 16000000
open Go.Value renaming int→I,slice→sL,bool→bO,pointer→pT,agg→aG
open Go.IntKind renaming i64→J
open Go.Ending renaming returned→rT
open Go.Proofs.Tryz renaming prog→Tp
def Z22:List Value:=[I J 0,I J 0,I J 0,bO false,bO false,bO false,bO false,bO false,I J 0,I J 0,I J 0,I J 0,I J 0,I J 0,I J 0,sL none 0 0,sL none 0 0,sL none 0 0,sL none 0 0,I J 0,I J 0,.string ⟨#[]⟩]
set_option maxRecDepth 20000 in
theorem l5copy_any (w:World) (C:Co) (s:Sl) (hd:ByteArray) (h:isHo w C.ho s) (hn:C.ho.le 1048576) :
  Calls Tp 14 #[aG (rfL C s hd).toArray] w fun o w'=>∃ s' B T0 T1 T2,o = rT (aG (rfL C s' hd).toArray)∧w.heap.size≤B∧spS B T0 T1 T2 C.ho s' w'∧Below w.heap.size w w':=by
 have H0:Hid (blk ((w.alloc (.cells (rfL C s hd).toArray 45)).alloc (.cells Z22.toArray 45)) w.heap.size (rfL C s hd) 45∧blk ((w.alloc (.cells (rfL C s hd).toArray 45)).alloc (.cells Z22.toArray 45)) (w.heap.size+1) Z22 45∧Below w.heap.size w ((w.alloc (.cells (rfL C s hd).toArray 45)).alloc (.cells Z22.toArray 45))):=by
  refine⟨(blk.new w _ 45).alloc _,?_,((Below.refl _ _).alloc (Nat.le_refl _) _).alloc (by simp) _⟩
  have:=blk.new (w.alloc (.cells (rfL C s hd).toArray 45)) Z22 45
  simpa using this
 obtain⟨v0,hv0⟩ : ∃ v0,v0=(w.alloc (.cells (rfL C s hd).toArray 45)).alloc (.cells Z22.toArray 45):=⟨_,rfl⟩
 rw[← hv0] at H0
 have HC:Hid (∀ V,Below w.heap.size w V→Calls Tp 30 #[aG (coL C s).toArray] V fun o w'=>∃ s' T0 T1 T2,o = rT (aG (coL C s').toArray)∧spS (V.heap.size+2) T0 T1 T2 C.ho s' w'∧s'.n2=C.ho.bx.length∧s'.n4=C.ho.qu.length∧Below V.heap.size V w'):=fun V hV=>l4copy_any V C s (h.below hV) hn
 clear h hn;go_enter Tryz.func14,Tryz.ntmps14
 go_upto_region 1 with fail
 change Code.wp _ _ _ _ ((w.alloc (.cells (rfL C s hd).toArray 45)).alloc (.cells Z22.toArray 45))
 rw[← hv0]
 clear hv0;refine wp_region_held (S:=fun X=>blk X w.heap.size (rfL C s hd) 45) (by kernel_rfl) ?_
 have hS:blk (World.drew v0) w.heap.size (rfL C s hd) 45:=H0.out.1.below (Below.refl _ _).drew
 have H1:Hid (blk (World.drew v0) (w.heap.size+1) Z22 45∧Below w.heap.size w (World.drew v0)):=⟨H0.out.2.1.below (Below.refl _ _).drew,H0.out.2.2.drew⟩
 clear H0;change wpAnyH Tp _ _ _ _ _ _ _ (World.drew v0)
 generalize World.drew v0=v1 at *;refine wV 0 (pT (some ⟨w.heap.size,0,none⟩)) ?_ hS ?_
 ·intro W hSw;clear hS;go_simp
 simp only[Act.put,aA,aB,aC,aD,aE]
 refine wU 1 (aG (coL C s).toArray) rfl (yieldsIf_load_mid (by rfl) 43 _ rfl w.heap.size 0 rfl (coL C s) _ (fun X h=>rfL_coreR h) Tryz.underlying43 rfl (szC41L C s)) hS ?_
 simp only[aZ];refine wV 3 (pT (some ⟨w.heap.size,21,none⟩)) ?_ hS ?_
 ·intro W hSw;clear hS;go_simp
 simp only[aZ];refine wV 4 (.string hd) ?_ hS ?_
 ·intro W hSw;clear hS;have y:=hSw.cell 21 (.string hd) rfl
  go_simp
 simp only[aZ];refine wpAnyH_all (rs:=[2]) (by kernel_rfl) (by simp) ?_
 refine AllReadyH.cons rfl (fun K2 hK2=>?_) AllReadyH.nil
 go_simp;refine (HC.out v1 H1.out.2).mono ?_
 rintro o w2 ⟨s',T0,T1,T2,rfl,q1,q2,q3,q4⟩;have hS2:blk w2 w.heap.size (rfL C s hd) 45:=hS.below q4
 have H2:Hid (blk w2 (w.heap.size+1) Z22 45∧Below w.heap.size w w2∧spS (v1.heap.size+2) T0 T1 T2 C.ho s' w2∧w.heap.size+1<v1.heap.size):=⟨H1.out.1.below q4,H1.out.2.trans (q4.mono H1.out.2.size),q1,H1.out.1.lt⟩
 clear q1 q2 q3 q4 H1;go_wp2_with fail;refine hK2.out _ _ hS2 (fun hS3=>?_)
 clear hK2 K2 hS2 hS;have hS:=hS3
 clear hS3;refine wV 5 ((aG (rfL C s' hd).toArray)) ?_ hS ?_
 ·intro W hSw;clear hS;kernel_rfl
 simp only[aZ];refine wpAnyH_all (rs:=[6]) (by kernel_rfl) (by simp) ?_
 refine AllReadyH.cons rfl (fun K2 hK2=>?_) AllReadyH.nil
 rw[if_pos (by rfl)]
 refine wp_store_mid 45 _ _ rfl (w.heap.size+1) 0 (rfL C s' hd).toArray rfl rfl (H2.out.1.there 0 _ (by rw[List.size_toArray,rfL_len];decide)) sz43 (rfL_one _ _ _) ?_
 have hS5:blk (w2.setCells (w.heap.size+1) 0 (rfL C s' hd)) w.heap.size (rfL C s hd) 45:=hS.other (by omega) _ _
 refine hK2.out _ _ hS5 (fun hS3=>?_)
 clear hK2 K2 hS5 hS hS3;refine wpAnyH_done (by kernel_rfl) ?_ _
 simp only[Act.put]
 generalize hW8:w2.setCells (w.heap.size+1) 0 (rfL C s' hd)=w8
 have HW8:=hidYY hW8
 clear hW8;go_wp2_with fail;have e8:=HW8.out
 have hF:blk w8 (w.heap.size+1) (rfL C s' hd) 45:=by
  rw[← e8]
  have:=blk.put [] Z22 [] (rfL C s' hd) (w:=w2) (b:=w.heap.size+1) (T:=45) (by simpa using H2.out.1) (by rw[rfL_len];rfl)
  simpa using this
 have hL:=run_loadVar_mid (P:=Tp) w8 (w.heap.size+1) 0 45 _ _ hF.load Tryz.underlying45 rfl sz43
 refine bodyPost_ret (v:=aG (rfL C s' hd).toArray) (results_cell Tryz.results14 _ w8 (w.heap.size+1) _ rfl hL) rfl ?_
 refine⟨s',v1.heap.size+2,T0,T1,T2,rfl,by have:=H2.out.2.2.2;omega,H2.out.2.2.1.st (fun x h1 h2=>?_) (by rw[← e8,setCells_size];exact Nat.le_refl _),?_⟩
 ·rw[← e8];exact setCells_other _ x (by have:=H2.out.2.2.2;omega) _ _ _
 ·rw[← e8];exact setCells_below (by omega) 0 _ H2.out.2.1
theorem rowQ8.neR {B T g n k:Nat} {bs:List R8} {W:World} (h:rowQ8 B T 173 g n k bs W) {x:Nat} {L:List Value} (hx:blk W x L 45):g≠x:=by
 obtain⟨rs,ho,_⟩:=h
 rcases ho.own.2 with⟨e,_⟩|⟨g1,cap,cur,hv',hb,hgg,_⟩
 ·cases e
 cases hv'
 rintro rfl
 unfold blk at hx
 rw[hgg] at hx
 injection hx with hx
 injection hx with _ hx _
 exact absurd hx (by decide)
theorem rowQ8.varsR {B T g n k:Nat} {bs:List R8} {W V:World} (h:rowQ8 B T 173 g n k bs W) {x:Nat} {L:List Value} (hx:blk W x L 45) (hL:∀ j,Value.int .u8 j ∉ L) (hV:∀ q,q≠x→V.heap[q]?=W.heap[q]?) (hz:V.heap.size=W.heap.size):rowQ8 B T 173 g n k bs V:=by
 have hg:=h.neR hx
 obtain⟨rs,ho,hm,hn,hgT,hall⟩:=h
 refine⟨rs,⟨ownsRow_kept ho.own (hV g hg),fun p hp=>?_⟩,hm,hn,hgT,hall⟩
 obtain⟨d1,d2,d3,d4⟩:=ho.dat p hp
 exact⟨d1.farL hx hL hV,d2,d3,by omega⟩
theorem spS.varsR {B T0 T1 T2:Nat} {H:Ho} {s:Sl} {W V:World} (h:spS B T0 T1 T2 H s W) {x:Nat} {L:List Value} (hx:blk W x L 45) (hT:T2≤x) (hL:∀ j,Value.int .u8 j ∉ L) (hV:∀ q,q≠x→V.heap[q]?=W.heap[q]?) (hz:V.heap.size=W.heap.size):spS B T0 T1 T2 H s V:=by
 obtain⟨o1,o2,o3,o4⟩:=h.o
 obtain⟨gf,e1,h1a,h1b,h1⟩:=h.f
 obtain⟨gb,hs,e2,h2⟩:=h.x
 obtain⟨gq,e3,h3⟩:=h.r
 obtain⟨g4,e4,h4⟩:=h.q
 refine⟨⟨gf,e1,h1a,h1b,h1.same (hV gf (by omega))⟩,⟨gb,hs,e2,h2.st fun q h1 h2=>hV q (by omega)⟩,⟨gq,e3,h3.keep fun q h1 h2=>hV q (by omega)⟩,⟨g4,e4,?_⟩,⟨o1,o2,o3,by omega⟩⟩
 rw[hz]
 exact h4.varsR hx hL hV hz
theorem rfL_nb (C:Co) (s:Sl) (hd:ByteArray) (j:Int):Value.int .u8 j ∉ rfL C s hd:=by
 unfold rfL
 simp[coL]
theorem Z22_nb (j:Int):Value.int .u8 j ∉ Z22:=by
 unfold Z22
 simp
structure vR (w:World) (B T0 T1 T2:Nat) (C:Co) (hd:ByteArray) (H:Ho) (s:Sl) (W:World):Prop where
 p:blk W w.heap.size (rfL C s hd) 45
 r:blk W (w.heap.size+1) Z22 45
 sp:spS B T0 T1 T2 H s W
 b:Below B w W
 o:T2≤w.heap.size∧B≤w.heap.size
variable {w : World} {B T0 T1 T2 : Nat} {C : Co} {hd : ByteArray} {H : Ho} {s : Sl} {W : World}
theorem vR.new (h:spS B T0 T1 T2 C.ho s w):vR w B T0 T1 T2 C hd C.ho s ((w.alloc (.cells (rfL C s hd).toArray 45)).alloc (.cells Z22.toArray 45)):=by
 have hb:Below w.heap.size w ((w.alloc (.cells (rfL C s hd).toArray 45)).alloc (.cells Z22.toArray 45)):=((Below.refl _ _).alloc (Nat.le_refl _) _).alloc (by simp) _
 have ho:=h.o
 refine⟨(blk.new w _ 45).alloc _,?_,h.below hb,hb.mono (by omega),by omega,by omega⟩
 have:=blk.new (w.alloc (.cells (rfL C s hd).toArray 45)) Z22 45
 simpa using this
theorem vR.below (h:vR w B T0 T1 T2 C hd H s W) {W':World} (hb:Below W.heap.size W W'):vR w B T0 T1 T2 C hd H s W':=⟨h.p.below hb,h.r.below hb,h.sp.below hb,h.b.trans (hb.mono (by have:=h.p.lt;have:=h.o;omega)),h.o⟩
theorem vR.call (h:vR w B T0 T1 T2 C hd H s W) {W':World} {H':Ho} (hs:spS B T0 T1 T2 H' s W') (hk:∀ q,T2≤q→q<W.heap.size→W'.heap[q]?=W.heap[q]?) (hb:Below B W W'):vR w B T0 T1 T2 C hd H' s W':=
 ⟨h.p.kept (hk _ h.o.1 h.p.lt),h.r.kept (hk _ (by have:=h.o;omega) h.r.lt),hs,h.b.trans hb,h.o⟩
theorem vR.other (h:vR w B T0 T1 T2 C hd H s W) {V:World} {C':Co} {hd':ByteArray} (hp:blk V w.heap.size (rfL C' s hd') 45) (hV:∀ q,q≠w.heap.size→V.heap[q]?=W.heap[q]?) (hz:V.heap.size=W.heap.size) (hb:Below B w V):vR w B T0 T1 T2 C' hd' H s V:=
 ⟨hp,h.r.kept (hV _ (by omega)),h.sp.varsR h.p h.o.1 (rfL_nb _ _ _) hV hz,hb,h.o⟩
theorem vR.set (h:vR w B T0 T1 T2 C hd H s W) (i:Nat) (v:Value) (C':Co) (hd':ByteArray) (e:(rfL C s hd).set i v=rfL C' s hd'):vR w B T0 T1 T2 C' hd' H s (W.setCell ⟨w.heap.size,i,none⟩ v):=
 h.other (by rw[← e];exact h.p.set i v) (fun q hq=>heap_setCell_other W ⟨w.heap.size,i,none⟩ q _ hq) (by simp) (h.b.setCell (by exact h.o.2) _)
theorem rfL_hostAt {W:World} {b:Nat} {C:Co} {s:Sl} {hd:ByteArray} {T:TypeId} (h:blk W b (rfL C s hd) T):W.rangeAt b 11 (hoL C.ho s):=by
 have h':blk W b (coM C++hoL C.ho s++[.string hd]) T:=h
 exact h'.loadAt (coM C) (hoL C.ho s) [.string hd]
theorem vR.host (h:vR w B T0 T1 T2 C hd H s W) (H':Ho):vR w B T0 T1 T2 { C with ho:=H' } hd H s (W.setCells w.heap.size 11 (hoL H' s)):=by
 have h':blk W w.heap.size (coM C++hoL C.ho s++[.string hd]) 45:=h.p
 refine h.other ?_ (fun q hq=>setCells_other _ q hq _ _ _) (setCells_size ..) (setCells_below h.o.2 _ _ h.b)
 exact blk.put (coM C) (hoL C.ho s) [.string hd] (hoL H' s) h' rfl
def rdC (C:Co) (r:Int):Co:=if C.p=0∧0≤r then { C with p:=1,tx:=true,ho:=takeHo C.ho r } else C
set_option maxRecDepth 20000 in
theorem vR.ret (h:vR w B T0 T1 T2 C hd H s W):blk (W.setCells (w.heap.size+1) 0 (rfL C s hd)) (w.heap.size+1) (rfL C s hd) 45∧spS B T0 T1 T2 H s (W.setCells (w.heap.size+1) 0 (rfL C s hd))∧Below B w (W.setCells (w.heap.size+1) 0 (rfL C s hd)):=by
 refine⟨?_,h.sp.varsR h.r (by have:=h.o;omega) Z22_nb (fun q hq=>setCells_other _ q hq _ _ _) (setCells_size ..),setCells_below (by have:=h.o;omega) 0 _ h.b⟩
 have:=blk.put [] Z22 [] (rfL C s hd) (w:=W) (b:=w.heap.size+1) (T:=45) (by simpa using h.r) (by rw[rfL_len];rfl)
 simpa using this
set_option maxRecDepth 20000 in
theorem l5begin_any (w:World) (C:Co) (s:Sl) (hd:ByteArray) (B T0 T1 T2:Nat) (r:Int) (h:spS B T0 T1 T2 C.ho s w) (hn2:C.ho.bx.length≤8) (hr:bestR C.ho.bx r) (hh:C.p=0→hd=⟨#[]⟩) :
  Calls Tp 13 #[aG (rfL C s hd).toArray] w fun o w'=>o = rT (aG (rfL (rdC C r) s hd).toArray)∧spS B T0 T1 T2 (rdC C r).ho s w'∧Below B w w':=by
 have H0:Hid (vR w B T0 T1 T2 C hd C.ho s ((w.alloc (.cells (rfL C s hd).toArray 45)).alloc (.cells Z22.toArray 45))):=vR.new h
 have HBE:Hid (∀ W,spS B T0 T1 T2 C.ho s W→Calls Tp 28 #[aG (hoL C.ho s).toArray] W fun o w'=>o = rT (I J r)∧Below W.heap.size W w'):=fun W hW=>by
  rw[← hoV_L]
  refine (l3best_any W C.ho s hW.is.bx (by rw[hW.n2];exact hn2)).mono ?_
  rintro o w' ⟨r',rfl,h1,h2⟩;exact⟨by rw[bestR_one h1 hr],h2⟩
 have HTK:Hid (∀ W,spS B T0 T1 T2 C.ho s W→Calls Tp 29 #[aG (hoL C.ho s).toArray,I J r] W fun o w'=>o = rT (aG (hoL C.ho s).toArray)∧spS B T0 T1 T2 (takeHo C.ho r) s w'∧(∀ q,T2≤q→q<W.heap.size→w'.heap[q]?=W.heap[q]?)∧Below B W w'):=fun W hW=>l3take_a W C.ho s r B T0 T1 T2 hW (by omega)
 obtain⟨p0,e0,n0,f0⟩ : ∃ b:Bool,(C.p == 0)=b∧(C.p != 0) = !b∧Hid (b=true↔C.p=0):=⟨_,rfl,rfl,by show _↔_;simp⟩
 obtain⟨g,eg⟩ : ∃ b:Bool,decide (0≤r)=b:=⟨_,rfl⟩
 have HG:Hid (g=true↔0≤r):=by show _↔_;rw[← eg];simp
 have HHD:=hidYY hh
 obtain⟨v0,hv0⟩ : ∃ v0,v0=(w.alloc (.cells (rfL C s hd).toArray 45)).alloc (.cells Z22.toArray 45):=⟨_,rfl⟩
 rw[← hv0] at H0
 clear h hn2 hr hh;go_enter Tryz.func13,Tryz.ntmps13
 go_upto_region 1 with fail
 change Code.wp _ _ _ _ ((w.alloc (.cells (rfL C s hd).toArray 45)).alloc (.cells Z22.toArray 45))
 rw[← hv0]
 clear hv0;have y0:=H0.out.p.cell 0 (I J C.p) rfl
 go_upto_if 7 with fail
 go_cut [] (fun wx=>vR w B T0 T1 T2 (rdC C r) hd (rdC C r).ho s wx)
 case first=>
  cases p0
  ·have HR:Hid (rdC C r=C):=by show _=_;unfold rdC;rw[if_neg (fun x=>by have:=f0.out.2 x.1;cases this)]
   go_wp2_with fail;go_meet
   case rel=>rw[HR.out];exact H0.out
  ·have hp:C.p=0:=f0.out.1 rfl
   have HP:=hidYY hp
   clear hp f0;go_wp2_with (first | (refine wpList_load_mid (P:=Tp) rfl 41 _ rfl w.heap.size 11 rfl (hoL C.ho s) _ (rfL_hostAt H0.out.p) Tryz.underlying41 rfl (sz41L C.ho s) ?_))
   refine (HBE.out _ H0.out.sp).mono ?_
   rintro o w1 ⟨rfl,hb1⟩;have H1:=hidYY (H0.out.below hb1)
   clear hb1 H0 y0 HBE;cases g
   ·have HR:Hid (rdC C r=C):=by show _=_;unfold rdC;rw[if_neg (fun x=>by have:=HG.out.2 x.2;cases this)]
    go_wp2_with fail;go_meet
    case rel=>rw[HR.out];exact H1.out
   ·have HR:Hid (rdC C r = { C with p:=1,tx:=true,ho:=takeHo C.ho r }):=by show _=_;unfold rdC;rw[if_pos ⟨HP.out,HG.out.1 rfl⟩]
    go_wp2_with (first | (refine wpList_load_mid (P:=Tp) rfl 41 _ rfl w.heap.size 11 rfl (hoL C.ho s) _ (rfL_hostAt H1.out.p) Tryz.underlying41 rfl (sz41L C.ho s) ?_))
    refine (HTK.out _ H1.out.sp).mono ?_
    rintro o w2 ⟨rfl,q1,q2,q3⟩;have H2:=hidYY (H1.out.call q1 q2 q3)
    have H3:=hidYY ((H1.out.call q1 q2 q3).host (takeHo C.ho r))
    clear q1 q2 q3 H1 HTK;go_upto_region 5 with (refine wpList_store_mid (P:=Tp) rfl 41 _ _ rfl w.heap.size 11 (hoL (takeHo C.ho r) s).toArray rfl rfl (H2.out.p.there 11 10 (by rw[rfL_len];decide)) (sz41A _ _) (hoL_one _ _) ?_;generalize hW3:World.setCells _ w.heap.size 11 _=w3;rw[show w2.setCells w.heap.size 11 (hoL (takeHo C.ho r) s)=w3 from hW3] at H3;clear hW3)
    have y0:=H3.out.p.cell 0 (I J C.p) rfl
    have y6:=H3.out.p.cell 6 (bO C.tx) rfl
    have y21:=H3.out.p.cell 21 (.string hd) rfl
    have z0:=H3.out.p.free 0
    have z6:=H3.out.p.free 6
    have z21:=H3.out.p.free 21
    have H4:=hidYY (((H3.out.set 0 (I J 1) { C with p:=1,ho:=takeHo C.ho r } hd rfl).set 6 (bO true) { C with p:=1,tx:=true,ho:=takeHo C.ho r } hd rfl).set 21 (.string ⟨#[]⟩) { C with p:=1,tx:=true,ho:=takeHo C.ho r } ⟨#[]⟩ rfl)
    clear H2 H3;go_wp2_with fail;go_meet
    case rel=>rw[HR.out,HHD.out HP.out];exact H4.out
 case rest=>
 have H5:=hidYY hcut
 clear hcut H0 y0 HBE HTK HG HHD f0;go_wp2_with (first
  | (refine wpList_load_mid (P:=Tp) rfl 45 _ rfl w.heap.size 0 rfl (rfL (rdC C r) s hd) _ H5.out.p.load Tryz.underlying45 rfl sz43 ?_)
  | (refine wpList_store_mid (P:=Tp) rfl 45 _ _ rfl (w.heap.size+1) 0 (rfL (rdC C r) s hd).toArray rfl rfl (H5.out.r.there 0 _ (by rw[List.size_toArray,rfL_len];decide)) sz43 (rfL_one _ _ _) ?_;generalize hW8:World.setCells _ (w.heap.size+1) 0 _=w8;have HW8:Hid (_=w8):=hW8;clear hW8))
 have e8:=HW8.out
 have hR:=H5.out.ret
 rw[e8] at hR
 have hL:=run_loadVar_mid (P:=Tp) w8 (w.heap.size+1) 0 45 _ _ hR.1.load Tryz.underlying45 rfl sz43
 refine bodyPost_ret (v:=aG (rfL (rdC C r) s hd).toArray) (results_cell Tryz.results13 _ w8 (w.heap.size+1) _ rfl hL) rfl ?_
 exact⟨rfl,hR.2⟩
def xR (C:Co) (hd:ByteArray):Nat:=if h:(C.p=1∧C.tx=true)∧hd.size<(imgC C).size then (imgC C)[hd.size].toNat else 48
theorem imgB_size (C:Co) (st:Int) (h:∀ j (h:j<C.ho.bx.length),okBx st C.ho.bx[j]) (hw:wrP C.ho.bx):10≤(imgC C).size∧∀ i (hi:i<(imgC C).size),(imgC C)[i].toNat=48∨(imgC C)[i].toNat=49:=by
 have hk:=wrP_on hw
 have h1:=h (onI C.ho.bx) hk
 have hx:C.ho.bx[onI C.ho.bx].x≠0:=by
  have:=List.findIdx_getElem (xs:=C.ho.bx) (p:=fun b:R8=>b.x == 2 || b.x == 3) (w:=hk)
  intro e;have h2:(C.ho.bx[onI C.ho.bx].x == 2 || C.ho.bx[onI C.ho.bx].x == 3)=true:=this
  rw[e] at h2
  simp at h2
 unfold okBx at h1
 rw[if_neg hx] at h1
 rw[imgC_at C hk]
 have hv:=h1.2.2.2
 generalize C.ho.bx[onI C.ho.bx]=b at *;have:=enc_size _ _ _ _ _ hv (validB_true hv).2.2.2.2
 exact⟨this.1,this.2.2⟩
theorem take_wr {bx:List R8} {r:Int} (hb:bestR bx r) (h0:0≤r) (hn:¬ wrP bx) {st:Int} (hok:∀ j (h:j<bx.length),okBx st bx[j]):wrP (takeB bx r)∧∀ j (h:j<(takeB bx r).length),okBx st (takeB bx r)[j]:=by
 rcases hb with⟨rfl,_⟩|⟨i,rfl,hi,hx,_⟩
 ·omega
 have hq:∀ k (h:k<bx.length),¬ onW bx[k]:=Classical.not_not.1 hn
 rw[takeB_yes hi hx (Or.inr ⟨hq,rfl⟩) (by omega)]
 refine⟨fun ha=>ha i (by simpa using hi) (Or.inl (by simp)),fun j hj=>?_⟩
 rw[List.getElem_set]
 split
 ·have h1:=hok i hi
  unfold okBx at h1 ⊢
  rw[if_neg (by omega)] at h1
  rw[if_neg (by simp)]
  exact⟨by simp,h1.2⟩
 ·exact hok j _
theorem rd_lev {C:Co} {hd:ByteArray} {vc:Nat} {r:Int} (h:okRf C hd vc) (hr:bestR C.ho.bx r):(((rdC C r).p=1∧(rdC C r).tx=true)→wrP (rdC C r).ho.bx∧∃ h:hd.size<(imgC (rdC C r)).size,(imgC (rdC C r))[hd.size].toNat=xR (rdC C r) hd)∧(xR (rdC C r) hd=48∨xR (rdC C r) hd=49):=by
 have key:((rdC C r).p=1∧(rdC C r).tx=true)→wrP (rdC C r).ho.bx∧∃ h:hd.size<(imgC (rdC C r)).size,((imgC (rdC C r))[hd.size].toNat=48∨(imgC (rdC C r))[hd.size].toNat=49):=by
  by_cases c:C.p=0∧0≤r
  ·intro _;have hnw:¬ wrP C.ho.bx:=fun x=>by have:=(h.1.s.2 x).1;omega
   have ht:=take_wr hr c.2 hnw h.1.h.bx.1
   have e:rdC C r = { C with p:=1,tx:=true,ho:=takeHo C.ho r }:=by unfold rdC;rw[if_pos c]
   have hz:hd.size=0:=by
    have:=h.2
    unfold hkP at this
    rw[if_neg (by omega)] at this
    exact this
   rw[e]
   have hs:=imgB_size { C with p:=1,tx:=true,ho:=takeHo C.ho r } C.ho.st ht.2 ht.1
   exact⟨ht.1,by omega,hs.2 _ _⟩
  ·have e:rdC C r=C:=by unfold rdC;rw[if_neg c]
   rw[e]
   intro hp;have hw:=h.1.s.1 hp
   have hs:=imgB_size C C.ho.st h.1.h.bx.1 hw
   have hk:=h.2
   unfold hkP at hk
   rw[if_pos hp.1,if_pos hp.2] at hk
   exact⟨hw,hk.1,hs.2 _ _⟩
 constructor
 ·intro hp;obtain⟨k1,k2,k3⟩:=key hp
  refine⟨k1,k2,?_⟩
  unfold xR
  rw[dif_pos ⟨hp,k2⟩]
 ·unfold xR
  split
  ·rename_i c
   obtain⟨_,_,k3⟩:=key c.1
   exact k3
  ·exact Or.inl rfl
theorem zRf_L:rfL zCo zSl ⟨#[]⟩=Z22:=rfl
def lvC (C:Co) (hd:ByteArray) (vf:Nat) (vo:Bool):Int:=lvZ (C.p == 1) (C.p == 2) C.wk C.tx ((vf:Int) == 12) vo (xR C hd)
def rdRel (C:Co) (hd:ByteArray) (vc vf:Nat) (vo:Bool) (r:Int) (T:Co) (hd':ByteArray) (lv:Int):Prop:=(okRf C hd vc∧T=rdC C r∧hd'=hd∧lv=lvC T hd vf vo)∨(¬ okRf C hd vc∧T=zCo∧hd'=⟨#[]⟩∧lv=1)
theorem rdC_len (C:Co) (r:Int):(rdC C r).ho.bx.length=C.ho.bx.length:=by
 unfold rdC
 split
 ·exact takeB_len _ _
 ·rfl
set_option maxRecDepth 20000 in
theorem specRD (w:World) (C:Co) (s:Sl) (hd:ByteArray) (vc vf:Nat) (vd vo:Bool) (r:Int) (h:isHo w C.ho s) (hn:C.ho.le 1048576)
  (hj:∀ W,Calls Tp 17 #[.string hd] W fun o w'=>o = rT (aG #[I J (vc:Int),I J (vf:Int),bO vd,bO vo])∧Below W.heap.size W w') (hr:bestR C.ho.bx r) :
  Calls Tp 5 #[aG (rfL C s hd).toArray] w fun o w'=>∃ T s' hd' lv,o = rT (.tuple #[aG (rfL T s' hd').toArray,I J lv])∧rdRel C hd vc vf vo r T hd' lv∧isHo w' T.ho s'∧Below w.heap.size w w':=by
 have H0:Hid (blk ((w.alloc (.cells (rfL C s hd).toArray 45)).alloc (.cells Z22.toArray 45)) w.heap.size (rfL C s hd) 45∧blk ((w.alloc (.cells (rfL C s hd).toArray 45)).alloc (.cells Z22.toArray 45)) (w.heap.size+1) Z22 45∧Below w.heap.size w ((w.alloc (.cells (rfL C s hd).toArray 45)).alloc (.cells Z22.toArray 45))):=by
  refine⟨(blk.new w _ 45).alloc _,?_,((Below.refl _ _).alloc (Nat.le_refl _) _).alloc (by simp) _⟩
  have:=blk.new (w.alloc (.cells (rfL C s hd).toArray 45)) Z22 45
  simpa using this
 obtain⟨v0,hv0⟩ : ∃ v0,v0=(w.alloc (.cells (rfL C s hd).toArray 45)).alloc (.cells Z22.toArray 45):=⟨_,rfl⟩
 rw[← hv0] at H0
 have HJ:=hidYY hj
 have HR:=hidYY hr
 have HOK:Hid (∀ V,Below w.heap.size w V→Calls Tp 12 #[aG (rfL C s hd).toArray] V fun o w'=>retB o (okRf C hd vc)∧Below V.heap.size V w'):=fun V hV=>l5ok_any V C s hd vc vf vd vo (h.below hV) hn hj
 have HCP:Hid (∀ V,Below w.heap.size w V→Calls Tp 14 #[aG (rfL C s hd).toArray] V fun o w'=>∃ s' B T0 T1 T2,o = rT (aG (rfL C s' hd).toArray)∧V.heap.size≤B∧spS B T0 T1 T2 C.ho s' w'∧Below V.heap.size V w'):=fun V hV=>l5copy_any V C s hd (h.below hV) hn
 clear h hn hj hr;go_enter Tryz.func5,Tryz.ntmps5
 go_upto_region 1 with fail
 change Code.wp _ _ _ _ ((w.alloc (.cells (rfL C s hd).toArray 45)).alloc (.cells Z22.toArray 45))
 rw[← hv0]
 clear hv0;go_wp2_with (first | (refine wpList_load_mid (P:=Tp) rfl 45 _ rfl w.heap.size 0 rfl (rfL C s hd) _ H0.out.1.load Tryz.underlying45 rfl sz43 ?_))
 refine (HOK.out _ H0.out.2.2).mono ?_
 rintro o w1 ⟨⟨b,rfl,hb⟩,hb1⟩;have H1:Hid (blk w1 w.heap.size (rfL C s hd) 45∧blk w1 (w.heap.size+1) Z22 45∧Below w.heap.size w w1):=⟨H0.out.1.below hb1,H0.out.2.1.below hb1,H0.out.2.2.trans (hb1.mono H0.out.2.2.size)⟩
 have HB:=hidYY hb
 clear hb hb1 H0 HOK;cases b
 ·go_wp2_with (first
   | (refine wpList_store_mid (P:=Tp) rfl 45 _ _ rfl (w.heap.size+1) 0 Z22.toArray rfl rfl (H1.out.2.1.there 0 _ (by decide)) sz43 (rfL_one zCo zSl ⟨#[]⟩) ?_;generalize hW8:World.setCells _ (w.heap.size+1) 0 _=w8;have HW8:Hid (_=w8):=hW8;clear hW8))
  have e8:=HW8.out
  have hF:blk w8 (w.heap.size+1) Z22 45:=by
   rw[← e8]
   have:=blk.put [] Z22 [] Z22 (w:=w1) (b:=w.heap.size+1) (T:=45) (by simpa using H1.out.2.1) rfl
   simpa using this
  have hL:=run_loadVar_mid (P:=Tp) w8 (w.heap.size+1) 0 45 _ _ hF.load Tryz.underlying45 rfl sz43
  refine bodyPost_ret (v:=.tuple #[aG Z22.toArray,I J 1]) (results_cell_tmp Tryz.results5 _ w8 (w.heap.size+1) _ rfl hL) rfl ?_
  refine⟨zCo,zSl,⟨#[]⟩,1,by rw[zRf_L],Or.inr ⟨fun x=>(by have:=HB.out.2 x;cases this),rfl,rfl,rfl⟩,?_,?_⟩
  ·exact zHo_is _
  ·rw[← e8];exact setCells_below (by omega) 0 _ H1.out.2.2
 have hok:okRf C hd vc:=HB.out.1 rfl
 have HOKR:=hidYY hok
 have HLV:=hidYY (rd_lev hok HR.out)
 have HN2:=hidYY hok.1.h.n2
 have HH0:Hid (C.p=0→hd=⟨#[]⟩):=fun hp=>by
  have:=hok.2
  unfold hkP at this
  rw[if_neg (by omega)] at this
  exact ByteArray.ext (Array.eq_empty_of_size_eq_zero this)
 clear hok HB;go_wp2_with (first | (refine wpList_load_mid (P:=Tp) rfl 45 _ rfl w.heap.size 0 rfl (rfL C s hd) _ H1.out.1.load Tryz.underlying45 rfl sz43 ?_))
 refine (HCP.out _ H1.out.2.2).mono ?_
 rintro o w2 ⟨s',B,T0,T1,T2,rfl,hB,q1,q2⟩;have H2:Hid (blk w2 w.heap.size (rfL C s hd) 45∧blk w2 (w.heap.size+1) Z22 45∧Below w.heap.size w w2∧spS B T0 T1 T2 C.ho s' w2∧w.heap.size+1<B):=⟨H1.out.1.below q2,H1.out.2.1.below q2,H1.out.2.2.trans (q2.mono H1.out.2.2.size),q1,by have:=H1.out.2.1.lt;omega⟩
 clear q1 q2 hB H1 HCP;go_wp2_with fail;refine (l5begin_any w2 C s' hd B T0 T1 T2 r H2.out.2.2.2.1 HN2.out HR.out HH0.out).mono ?_
 rintro o w3 ⟨rfl,q1,q2⟩;have H3:Hid (blk w3 (w.heap.size+1) Z22 45∧Below w.heap.size w w3∧spS B T0 T1 T2 (rdC C r).ho s' w3∧w.heap.size+1<B):=⟨H2.out.2.1.kept (q2.block _ H2.out.2.2.2.2),H2.out.2.2.1.trans (q2.mono (by have:=H2.out.2.2.2.2;omega)),q1,H2.out.2.2.2.2⟩
 clear q1 q2 H2 HH0;go_upto_region 4 with (first
   | (refine wpList_store_mid (P:=Tp) rfl 45 _ _ rfl w3.heap.size 0 (rfL (rdC C r) s' hd).toArray rfl rfl ((blk.new w3 Z22 45).there 0 _ (by rw[List.size_toArray,rfL_len];decide)) sz43 (rfL_one _ _ _) ?_;generalize hW8:World.setCells _ w3.heap.size 0 _=w4;have HW8:Hid (_=w4):=hW8;clear hW8))
 have H4:Hid (blk w4 (w.heap.size+1) Z22 45∧Below w.heap.size w w4∧spS B T0 T1 T2 (rdC C r).ho s' w4∧w.heap.size+1<B):=by
  have e4:=HW8.out
  have hb:Below w3.heap.size w3 w4:=by rw[← e4];exact setCells_below (Nat.le_refl _) 0 _ ((Below.refl _ _).alloc (Nat.le_refl _) _)
  exact⟨H3.out.1.below hb,H3.out.2.1.trans (hb.mono H3.out.2.1.size),H3.out.2.2.1.below hb,H3.out.2.2.2⟩
 have hS4:blk w4 w3.heap.size (rfL (rdC C r) s' hd) 45:=by
  rw[← HW8.out]
  have:=blk.put [] Z22 [] (rfL (rdC C r) s' hd) (w:=w3.alloc (.cells Z22.toArray 45)) (b:=w3.heap.size) (T:=45) (by simpa using blk.new w3 Z22 45) (by rw[rfL_len];rfl)
  have h2:blk ((w3.alloc (.cells Z22.toArray 45)).setCells w3.heap.size 0 (rfL (rdC C r) s' hd)) w3.heap.size (rfL (rdC C r) s' hd) 45:=by simpa using this
  exact h2
 have hBG:B≤w3.heap.size:=by have:=H3.out.2.2.1.o;omega
 have HGG:Hid (w.heap.size+1<w3.heap.size):=by have:=H3.out.2.2.2;show _<_;omega
 clear HW8 H3 hBG;generalize w3.heap.size=G at *;have HNN:Hid ((rdC C r).ho.bx.length≤8):=by show _≤_;rw[rdC_len];exact HN2.out
 have HRR:Hid (∀ lv,lv=lvC (rdC C r) hd vf vo→rdRel C hd vc vf vo r (rdC C r) hd lv):=fun lv e=>Or.inl ⟨HOKR.out,rfl,rfl,e⟩
 clear HN2 HOKR HR;generalize rdC C r=D at *;have HL1:Hid ((D.p == 1 && D.tx)=true→wrP D.ho.bx∧∃ h:hd.size<(imgC D).size,(imgC D)[hd.size].toNat=xR D hd):=fun e=>HLV.out.1 (by simpa using e)
 have HL2:Hid (xR D hd=48∨xR D hd=49):=HLV.out.2
 have HIM:Hid (∀ V,spS B T0 T1 T2 D.ho s' V→Calls Tp 16 #[aG (rfL D s' hd).toArray] V fun o w'=>o = rT (.string (if (D.p == 1 && D.tx)=true then imgC D else ⟨#[]⟩))∧Below V.heap.size V w'):=fun V hV=>l5image_any V D s' hd _ _ rfl rfl hV.is (by rw[hV.n2];exact HNN.out) (fun e=>(HL1.out e).1)
 obtain⟨img,hi⟩ : ∃ img:ByteArray,img=if (D.p == 1 && D.tx)=true then imgC D else ⟨#[]⟩:=⟨_,rfl⟩
 rw[← hi] at HIM
 have HLE:Hid (∀ V,Calls Tp 15 #[aG (rfL D s' hd).toArray,.string img,aG #[I J (vc:Int),I J (vf:Int),bO vd,bO vo]] V fun o w'=>o = rT (I J (lvC D hd vf vo))∧Below V.heap.size V w'):=fun V=>by
  refine l5level_any V D s' hd img vc vf vd vo (xR D hd) (D.p == 1) (D.p == 2) D.wk D.tx ((vf:Int) == 12) rfl rfl rfl rfl rfl rfl (fun e=>?_) HL2.out
  have e2:img=imgC D:=hi.trans (if_pos e)
  rw[e2]
  exact (HL1.out e).2
 clear hi HL1 HL2 HLV HNN;generalize lvC D hd vf vo=lv at *;refine wp_region_held (S:=fun X=>blk X G (rfL D s' hd) 45) (by kernel_rfl) ?_
 have hS:blk (World.drew w4) G (rfL D s' hd) 45:=hS4.below (Below.refl _ _).drew
 have H5:Hid (blk (World.drew w4) (w.heap.size+1) Z22 45∧Below w.heap.size w (World.drew w4)∧spS B T0 T1 T2 D.ho s' (World.drew w4)∧w.heap.size+1<B):=⟨H4.out.1.below (Below.refl _ _).drew,H4.out.2.1.drew,H4.out.2.2.1.below (Below.refl _ _).drew,H4.out.2.2.2⟩
 clear H4 hS4;change wpAnyH Tp _ _ _ _ _ _ _ (World.drew w4)
 generalize World.drew w4=v1 at *;refine wU 0 ((aG (rfL D s' hd).toArray)) rfl (yieldsIf_load_mid (by rfl) 45 _ rfl G 0 rfl (rfL D s' hd) _ (fun X h=>h.load) Tryz.underlying45 rfl sz43) hS ?_
 simp only[Act.put,aA,aB,aC,aD,aE]
 refine wU 1 ((aG (rfL D s' hd).toArray)) rfl (yieldsIf_load_mid (by rfl) 45 _ rfl G 0 rfl (rfL D s' hd) _ (fun X h=>h.load) Tryz.underlying45 rfl sz43) hS ?_
 simp only[aZ];refine wU 2 ((aG (rfL D s' hd).toArray)) rfl (yieldsIf_load_mid (by rfl) 45 _ rfl G 0 rfl (rfL D s' hd) _ (fun X h=>h.load) Tryz.underlying45 rfl sz43) hS ?_
 simp only[aZ];refine wV 4 ((pT (some ⟨G,21,none⟩))) ?_ hS ?_
 ·intro W hSw;clear hS;go_simp
 simp only[aZ];refine wV 5 ((.string hd)) ?_ hS ?_
 ·intro W hSw;clear hS;have y:=hSw.cell 21 (.string hd) rfl
  go_simp
 simp only[aZ];refine wpAnyH_all (rs:=[3]) (by kernel_rfl) (by simp) ?_
 refine AllReadyH.cons rfl (fun K2 hK2=>?_) AllReadyH.nil
 go_simp;refine (HIM.out _ H5.out.2.2.1).mono ?_
 rintro o w6 ⟨rfl,hb⟩;have hS2:blk w6 G (rfL D s' hd) 45:=hS.below hb
 have H6:Hid (blk w6 (w.heap.size+1) Z22 45∧Below w.heap.size w w6∧spS B T0 T1 T2 D.ho s' w6∧w.heap.size+1<B):=⟨H5.out.1.below hb,H5.out.2.1.trans (hb.mono H5.out.2.1.size),H5.out.2.2.1.below hb,H5.out.2.2.2⟩
 clear hb H5;go_wp2_with fail;refine hK2.out _ _ hS2 (fun hS3=>?_)
 clear hK2 K2 hS2 hS;have hS:=hS3
 clear hS3;refine wpAnyH_all (rs:=[6]) (by kernel_rfl) (by simp) ?_
 refine AllReadyH.cons rfl (fun K2 hK2=>?_) AllReadyH.nil
 go_simp;refine (HJ.out _).mono ?_
 rintro o w7 ⟨rfl,hb⟩;have hS2:blk w7 G (rfL D s' hd) 45:=hS.below hb
 have H7:Hid (blk w7 (w.heap.size+1) Z22 45∧Below w.heap.size w w7∧spS B T0 T1 T2 D.ho s' w7∧w.heap.size+1<B):=⟨H6.out.1.below hb,H6.out.2.1.trans (hb.mono H6.out.2.1.size),H6.out.2.2.1.below hb,H6.out.2.2.2⟩
 clear hb H6;go_wp2_with fail;refine hK2.out _ _ hS2 (fun hS3=>?_)
 clear hK2 K2 hS2 hS;have hS:=hS3
 clear hS3;refine wpAnyH_all (rs:=[7]) (by kernel_rfl) (by simp) ?_
 refine AllReadyH.cons rfl (fun K2 hK2=>?_) AllReadyH.nil
 go_simp;refine (HLE.out _).mono ?_
 rintro o w8 ⟨rfl,hb⟩;have hS2:blk w8 G (rfL D s' hd) 45:=hS.below hb
 have H8:Hid (blk w8 (w.heap.size+1) Z22 45∧Below w.heap.size w w8∧spS B T0 T1 T2 D.ho s' w8∧w.heap.size+1<B):=⟨H7.out.1.below hb,H7.out.2.1.trans (hb.mono H7.out.2.1.size),H7.out.2.2.1.below hb,H7.out.2.2.2⟩
 clear hb H7;go_wp2_with fail;refine hK2.out _ _ hS2 (fun hS3=>?_)
 clear hK2 K2 hS2 hS;have hS:=hS3
 clear hS3;refine wpAnyH_all (rs:=[8]) (by kernel_rfl) (by simp) ?_
 refine AllReadyH.cons rfl (fun K2 hK2=>?_) AllReadyH.nil
 rw[if_pos (by rfl)]
 refine wp_store_mid 45 _ _ rfl (w.heap.size+1) 0 (rfL D s' hd).toArray rfl rfl (H8.out.1.there 0 _ (by rw[List.size_toArray,rfL_len];decide)) sz43 (rfL_one _ _ _) ?_
 have hS5:blk (w8.setCells (w.heap.size+1) 0 (rfL D s' hd)) G (rfL D s' hd) 45:=hS.other (by have:=HGG.out;omega) _ _
 refine hK2.out _ _ hS5 (fun hS3=>?_)
 clear hK2 K2 hS5 hS;have hS:=hS3
 clear hS3;simp only[Act.put]
 have H9:Hid (blk (w8.setCells (w.heap.size+1) 0 (rfL D s' hd)) (w.heap.size+1) (rfL D s' hd) 45∧Below w.heap.size w (w8.setCells (w.heap.size+1) 0 (rfL D s' hd))∧spS B T0 T1 T2 D.ho s' (w8.setCells (w.heap.size+1) 0 (rfL D s' hd))):=by
  refine⟨?_,setCells_below (by omega) 0 _ H8.out.2.1,H8.out.2.2.1.st (fun x h1 h2=>setCells_other _ x (by have:=H8.out.2.2.2;omega) _ _ _) (by rw[setCells_size];exact Nat.le_refl _)⟩
  have:=blk.put [] Z22 [] (rfL D s' hd) (w:=w8) (b:=w.heap.size+1) (T:=45) (by simpa using H8.out.1) (by rw[rfL_len];rfl)
  simpa using this
 generalize w8.setCells (w.heap.size+1) 0 (rfL D s' hd)=w9 at *;refine wV 9 ((I J lv)) ?_ hS ?_
 ·intro W hSw;clear hS;go_simp
 refine wpAnyH_done (by kernel_rfl) ?_ _
 simp only[aZ];go_wp2_with fail;have hL:=run_loadVar_mid (P:=Tp) w9 (w.heap.size+1) 0 45 _ _ H9.out.1.load Tryz.underlying45 rfl sz43
 refine bodyPost_ret (v:=.tuple #[aG (rfL D s' hd).toArray,I J lv]) (results_cell_tmp Tryz.results5 _ w9 (w.heap.size+1) _ rfl hL) rfl ?_
 exact⟨D,s',hd,lv,rfl,HRR.out lv rfl,H9.out.2.2.is,H9.out.2.1⟩
set_option maxRecDepth 20000 in
theorem holds_no (W:World) (M R:Nat) (p:Int) (tx:Bool) (hd:ByteArray) (em:Bool) (e1:(p == 1)=false) (he:hd.toList.isEmpty=em) (y0:W.cell? ⟨R,0,none⟩=some (pT (some ⟨M,0,none⟩))) (y1:W.cell? ⟨R,1,none⟩=some (.string hd)) (y3:W.cell? ⟨M,3,none⟩=some (I J p)) (y9:W.cell? ⟨M,9,none⟩=some (bO tx)) :
  Calls Tp 37 #[pT (some ⟨R,0,none⟩)] W fun o w'=>o = rT (bO em)∧w'=W:=by
 have HS:Hid (Calls Tp 73 #[pT (some ⟨M,0,none⟩)] W fun o w'=>o = rT (bO false)∧w'=W):=sends_any W M false tx p e1 y3 y9
 go_enter Tryz.func37,Tryz.ntmps37
 go_wp2_with fail;refine HS.out.mono ?_
 rintro o w1 ⟨rfl,rfl⟩;go_wp2_with fail;go_ret;exact⟨rfl,rfl⟩
theorem field58 (vc vf:Nat) (vd vo:Bool):∀ w:World,(Instr.field 58 (aG #[I J (vc:Int),I J (vf:Int),bO vd,bO vo]) 0).run Tp w = .ok (I J (vc:Int)) w:=fun _=>by kernel_rfl
set_option maxRecDepth 20000 in
theorem holds_hear (W:World) (M R:Nat) (hd:ByteArray) (em:Bool) (vc vf:Nat) (vd vo g:Bool) (hj:∀ W,Calls Tp 79 #[.string hd] W fun o w'=>o = rT (aG #[I J (vc:Int),I J (vf:Int),bO vd,bO vo])∧Below W.heap.size W w') (eg:decide (vc=0∨vc=1)=g) (he:hd.toList.isEmpty=em) (y0:W.cell? ⟨R,0,none⟩=some (pT (some ⟨M,0,none⟩))) (y1:W.cell? ⟨R,1,none⟩=some (.string hd)) (y3:W.cell? ⟨M,3,none⟩=some (I J 1)) (y9:W.cell? ⟨M,9,none⟩=some (bO false)) :
  Calls Tp 37 #[pT (some ⟨R,0,none⟩)] W fun o w'=>o = rT (bO (!em && g))∧Below W.heap.size W w':=by
 have HS:Hid (Calls Tp 73 #[pT (some ⟨M,0,none⟩)] W fun o w'=>o = rT (bO false)∧w'=W):=sends_any W M true false 1 rfl y3 y9
 have HJ:=hidYY hj
 have HG:Hid (∀ W,Calls Tp 78 #[I J (vc:Int)] W fun o w'=>o = rT (bO g)∧W=w'):=fun W=>by rw[← eg];exact goesOn_any vc W
 have hf:=field58 vc vf vd vo
 have HR:=hidYY (Below.refl W.heap.size W)
 clear hj eg;cases em
 ·go_enter Tryz.func37,Tryz.ntmps37
  go_wp2_with fail;refine HS.out.mono ?_
  rintro o w1 ⟨rfl,rfl⟩;go_wp2_with fail;refine (HJ.out _).mono ?_
  rintro o w2 ⟨rfl,hb2⟩;have HB:=hidYY hb2
  clear hb2;go_wp2_with fail;refine (HG.out _).mono ?_
  rintro o w3 ⟨rfl,rfl⟩;go_wp2_with fail;go_ret;exact⟨rfl,HB.out⟩
 ·go_enter Tryz.func37,Tryz.ntmps37
  go_wp2_with fail;refine HS.out.mono ?_
  rintro o w1 ⟨rfl,rfl⟩;go_wp2_with fail;go_ret;exact⟨rfl,HR.out⟩
set_option maxRecDepth 20000 in
theorem holds_send (W:World) (M R P:Nat) (hd:ByteArray) (e:Bool) (i:Nat) (r:Bool) (d:Int) (l:List Nat) (E:ByteArray) (hE:encZ e i r d l.length l=E) (h10:10≤E.size) (h1000:E.size≤1000) (lt pre:Bool) (el:lt=true↔hd.size<(ackB E).size) (ep:Go.Lib.hasPrefix (ackB E).data.toList hd.data.toList=pre)
  (y0:W.cell? ⟨R,0,none⟩=some (pT (some ⟨M,0,none⟩))) (y1:W.cell? ⟨R,1,none⟩=some (.string hd)) (x0:W.cell? ⟨M,0,none⟩=some (pT (some ⟨P,0,none⟩))) (y3:W.cell? ⟨M,3,none⟩=some (I J 1)) (y9:W.cell? ⟨M,9,none⟩=some (bO true))
  (hs:∀ V,Below W.heap.size W V→Calls Tp 76 #[pT (some ⟨P,0,none⟩)] V fun o w'=>∃ ao m c,o = rT (frV e i r d ao m c)∧isBytes w' ao m c l∧Below V.heap.size V w') :
  Calls Tp 37 #[pT (some ⟨R,0,none⟩)] W fun o w'=>o = rT (bO (lt && pre))∧Below W.heap.size W w':=by
 have HS:Hid (Calls Tp 73 #[pT (some ⟨M,0,none⟩)] W fun o w'=>o = rT (bO true)∧w'=W):=sends_any W M true true 1 rfl y3 y9
 have HC:Hid (∀ V,Below W.heap.size W V→V.cell? ⟨R,1,none⟩=some (.string hd)):=fun V hV=>(hV.cell (by exact World.block_lt_of_cell? W _ y1)).trans y1
 have HSD:=hidXX hs
 have HEN:Hid (∀ V ao m c,isBytes V ao m c l→Calls Tp 75 #[frV e i r d ao m c] V fun o w'=>o = rT (.string E)∧Below V.heap.size V w'):=fun V ao m c hV=>by
  have:=encode_any V e i r d ao m c l hV
  rw[hV.len,hE] at this
  rw[hV.len]
  exact this
 have HAK:Hid (∀ V,Calls Tp 74 #[.string E] V fun o w'=>o = rT (.string (ackB E))∧Below V.heap.size V w'):=fun V=>ack_any V E h10 (by omega)
 have HPR:Hid (∀ V,Calls Tp 77 #[.string (ackB E),.string hd] V fun o w'=>o = rT (bO pre)∧w'=V):=fun V=>by rw[← ep];exact Tryz.strings_HasPrefix (ackB E) hd V
 clear hs y3 y9 hE ep;generalize ackB E=A at *;go_enter Tryz.func37,Tryz.ntmps37
 go_wp2_with fail;refine HS.out.mono ?_
 rintro o w1 ⟨rfl,rfl⟩;clear HS;go_wp2_with fail;refine (HSD.out _ (Below.refl _ _)).mono ?_
 rintro o w2 ⟨ao,m,c,rfl,hq,hb2⟩;have H2:=hidXX (And.intro hq hb2)
 clear hq hb2;go_wp2_with fail;refine (HEN.out _ _ _ _ H2.out.1).mono ?_
 rintro o w3 ⟨rfl,hb3⟩;have H3:=hidXX (H2.out.2.trans (hb3.mono H2.out.2.size))
 clear hb3 H2;go_wp2_with fail;refine (HAK.out _).mono ?_
 rintro o w4 ⟨rfl,hb4⟩;have H4:=hidXX (H3.out.trans (hb4.mono H3.out.size))
 clear hb4 H3;have y1':=HC.out w4 H4.out
 cases lt
 ·have hl:¬ hd.size<A.size:=fun x=>by have:=el.2 x;cases this
  clear el;go_wp2_with fail;go_ret;exact⟨rfl,H4.out⟩
 ·have hl:hd.size<A.size:=el.1 rfl
  clear el;go_wp2_with fail;refine (HPR.out _).mono ?_
  rintro o w5 ⟨rfl,rfl⟩;go_wp2_with fail;go_ret;exact⟨rfl,H4.out⟩
set_option maxRecDepth 20000 in
theorem dl_send (W:World) (M R P:Nat) (hd:ByteArray) (e:Bool) (i:Nat) (r:Bool) (d:Int) (l:List Nat) (E:ByteArray) (hE:encZ e i r d l.length l=E) (x:Nat) (hx:x=48∨x=49) (hix:∀ w,(Instr.index 9 (.string E) (I J (hd.size:Int))).run Tp w = .ok (I .u8 (x:Int)) w)
  (y0:W.cell? ⟨R,0,none⟩=some (pT (some ⟨M,0,none⟩))) (y1:W.cell? ⟨R,1,none⟩=some (.string hd)) (x0:W.cell? ⟨M,0,none⟩=some (pT (some ⟨P,0,none⟩))) (y3:W.cell? ⟨M,3,none⟩=some (I J 1)) (y9:W.cell? ⟨M,9,none⟩=some (bO true))
  (hs:∀ V,Below W.heap.size W V→Calls Tp 76 #[pT (some ⟨P,0,none⟩)] V fun o w'=>∃ ao m c,o = rT (frV e i r d ao m c)∧isBytes w' ao m c l∧Below V.heap.size V w') :
  Calls Tp 263 #[pT (some ⟨R,0,none⟩)] W fun o w'=>o = rT (I J ((x:Int)-48))∧Below W.heap.size W w':=by
 have HS:Hid (Calls Tp 73 #[pT (some ⟨M,0,none⟩)] W fun o w'=>o = rT (bO true)∧w'=W):=sends_any W M true true 1 rfl y3 y9
 have HC:Hid (∀ V,Below W.heap.size W V→V.cell? ⟨R,1,none⟩=some (.string hd)):=fun V hV=>(hV.cell (by exact World.block_lt_of_cell? W _ y1)).trans y1
 have HSD:=hidXX hs
 have HEN:Hid (∀ V ao m c,isBytes V ao m c l→Calls Tp 75 #[frV e i r d ao m c] V fun o w'=>o = rT (.string E)∧Below V.heap.size V w'):=fun V ao m c hV=>by
  have:=encode_any V e i r d ao m c l hV
  rw[hV.len,hE] at this
  rw[hV.len]
  exact this
 clear hs y3 y9 hE;rcases hx with rfl|rfl
 all_goals
  go_enter Tryz.func263,Tryz.ntmps263
  go_wp2_with fail;refine HS.out.mono ?_
  rintro o w1 ⟨rfl,rfl⟩;clear HS;go_upto_region 2 with fail
  go_region_with (first
   | (go_at_call 76;refine (HSD.out _ (Below.refl _ _).drew).mono ?_;rintro o w2 ⟨ao,m,c,rfl,hq,hb2⟩;have H2:=hidXX (And.intro hq ((Below.refl w1.heap.size w1).drew.trans hb2));have y1':=HC.out w2 H2.out.2;clear hq hb2)
   | (go_at_call 75;refine (HEN.out _ _ _ _ H2.out.1).mono ?_;rintro o w3 ⟨rfl,hb3⟩;have H3:=hidXX (H2.out.2.trans (hb3.mono H2.out.2.size));have y1'':=HC.out w3 H3.out;clear hb3))
  all_goals
   go_wp2_with fail;go_ret;exact⟨rfl,H3.out⟩
set_option maxRecDepth 20000 in
theorem dl_hear (W:World) (M R:Nat) (hd:ByteArray) (vc vf:Nat) (vd vo v12:Bool) (hj:∀ W,Calls Tp 79 #[.string hd] W fun o w'=>o = rT (aG #[I J (vc:Int),I J (vf:Int),bO vd,bO vo])∧Below W.heap.size W w') (ev:((vf:Int) == 12)=v12) (y0:W.cell? ⟨R,0,none⟩=some (pT (some ⟨M,0,none⟩))) (y1:W.cell? ⟨R,1,none⟩=some (.string hd)) (y3:W.cell? ⟨M,3,none⟩=some (I J 1)) (y9:W.cell? ⟨M,9,none⟩=some (bO false)) :
  Calls Tp 263 #[pT (some ⟨R,0,none⟩)] W fun o w'=>o = rT (I J (if (v12 && vo)=true then 0 else 1))∧Below W.heap.size W w':=by
 have HS:Hid (Calls Tp 73 #[pT (some ⟨M,0,none⟩)] W fun o w'=>o = rT (bO false)∧w'=W):=sends_any W M true false 1 rfl y3 y9
 have HJ:=hidYY hj
 clear hj;cases v12
 all_goals
  go_enter Tryz.func263,Tryz.ntmps263
  go_wp2_with fail;refine HS.out.mono ?_
  rintro o w1 ⟨rfl,rfl⟩;clear HS;go_wp2_with fail;refine (HJ.out _).mono ?_
  rintro o w2 ⟨rfl,hb2⟩;have H2:Hid (Below w1.heap.size w1 w2∧blk (w2.alloc (.cells [I J 0,I J 0,bO false,bO false].toArray 58)) w2.heap.size [I J 0,I J 0,bO false,bO false] 58):=⟨hb2,blk.new w2 _ 58⟩
  clear hb2;go_upto_region 5 with (refine wpList_store_mid (P:=Tp) rfl 58 _ _ rfl w2.heap.size 0 [I J (vc:Int),I J (vf:Int),bO vd,bO vo].toArray rfl rfl (H2.out.2.there 0 4 (by simp)) (by kernel_rfl) (all_oneCell_toArray (by simp[Value.oneCell'])) ?_;generalize hW3:World.setCells _ w2.heap.size 0 _=w3;have HW3:Hid (_=w3):=hW3;clear hW3)
  have H3:Hid (Below w1.heap.size w1 w3∧blk w3 w2.heap.size [I J (vc:Int),I J (vf:Int),bO vd,bO vo] 58):=by
   have e:(w2.alloc (.cells [I J 0,I J 0,bO false,bO false].toArray 58)).setCells w2.heap.size 0 [I J (vc:Int),I J (vf:Int),bO vd,bO vo]=w3:=HW3.out
   have hb:Below w2.heap.size w2 w3:=by rw[← e];exact setCells_below (Nat.le_refl _) 0 _ ((Below.refl _ _).alloc (Nat.le_refl _) _)
   refine⟨H2.out.1.trans (hb.mono H2.out.1.size),?_⟩
   rw[← e]
   have:=blk.put [] [I J 0,I J 0,bO false,bO false] [] [I J (vc:Int),I J (vf:Int),bO vd,bO vo] (w:=w2.alloc (.cells [I J 0,I J 0,bO false,bO false].toArray 58)) (b:=w2.heap.size) (T:=58) (by simpa using H2.out.2) rfl
   simpa using this
  clear H2 HW3;have z1:=H3.out.2.cell 1 (I J (vf:Int)) rfl
  have z3:=H3.out.2.cell 3 (bO vo) rfl
  cases vo
  all_goals
   go_wp2_with fail;refine (ackLv_any _ _).mono ?_
   rintro o w4 ⟨rfl,rfl⟩;go_wp2_with fail;go_ret;exact⟨rfl,H3.out.1⟩
set_option maxRecDepth 20000 in
theorem rest_any (W:World) (M:Nat) (p:Int) (p2 wk:Bool) (e2:(p == 2)=p2) (y3:W.cell? ⟨M,3,none⟩=some (I J p)) (y6:W.cell? ⟨M,6,none⟩=some (bO wk)) :
  Calls Tp 265 #[pT (some ⟨M,0,none⟩)] W fun o w'=>o = rT (I J (if (p2 && !wk)=true then 0 else 1))∧w'=W:=by
 cases p2 <;> cases wk
 all_goals
  go_enter Tryz.func265,Tryz.ntmps265
  go_wp2_with fail;go_ret;exact⟨rfl,rfl⟩
set_option maxRecDepth 20000 in
theorem dl_rest (W:World) (M R:Nat) (p:Int) (tx p2 wk:Bool) (e1:(p == 1)=false) (e2:(p == 2)=p2) (y0:W.cell? ⟨R,0,none⟩=some (pT (some ⟨M,0,none⟩))) (y3:W.cell? ⟨M,3,none⟩=some (I J p)) (y9:W.cell? ⟨M,9,none⟩=some (bO tx)) (y6:W.cell? ⟨M,6,none⟩=some (bO wk)) :
  Calls Tp 263 #[pT (some ⟨R,0,none⟩)] W fun o w'=>o = rT (I J (if (p2 && !wk)=true then 0 else 1))∧w'=W:=by
 have HS:Hid (Calls Tp 73 #[pT (some ⟨M,0,none⟩)] W fun o w'=>o = rT (bO false)∧w'=W):=sends_any W M false tx p e1 y3 y9
 have HL:Hid (Calls Tp 265 #[pT (some ⟨M,0,none⟩)] W fun o w'=>o = rT (I J (if (p2 && !wk)=true then 0 else 1))∧w'=W):=rest_any W M p p2 wk e2 y3 y6
 generalize (if (p2 && !wk)=true then (0:Int) else 1)=lv at *;go_enter Tryz.func263,Tryz.ntmps263
 go_wp2_with fail;refine HS.out.mono ?_
 rintro o w1 ⟨rfl,rfl⟩;go_wp2_with fail;refine HL.out.mono ?_
 rintro o w2 ⟨rfl,rfl⟩;go_wp2_with fail;go_ret;exact⟨rfl,rfl⟩
end Go.Proofs.YtbllefckefhpoaaGreat
