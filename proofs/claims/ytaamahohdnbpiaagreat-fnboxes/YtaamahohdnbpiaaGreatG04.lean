import Derived.Test.YtaamahohdnbpiaaGreatG02
import Derived.Test.YtaamahohdnbpiaaGreatHX
namespace Go.Proofs.YtaamahohdnbpiaaGreat
open Go.RowKit
theorem wp_make_Zc {o:Oper} {a:Act} {K:Act→World→Prop} {Q:Exit→Act→World→Prop} (w:World) (T E:TypeId) (Z:Value) (sz by_:Nat) (hi0:(Tryz.prog.info? E).map (fun i=>(i.zero,i.size,i.bytes))=some (some Z,sz,by_)) (hu:Tryz.prog.underlying T=some (.slice E)) (hby:by_≤1000)
  (l c:Operand) (hop:o.op=Op.makeSlice T l c) (n:Nat) (hl:a.eval l = .int .i64 (n:Int)) (hc:a.eval c = .int .i64 (n:Int)) (hn:n≤100000000)
  (hK:∀ w',rowZ w' w.heap.size (n*sz)→(∀ t,t<n*sz→w'.cell? ⟨w.heap.size,t,none⟩=some Z.cells[t % Z.cells.size]!)→Below w.heap.size w w'→w.heap.size<w'.heap.size→K (a.put o.dst (.slice (some ⟨w.heap.size,0,none⟩) n n)) w') :
  o.wp Tryz.prog a w K Q:=by
 obtain⟨i0,hi,hz0,hz1,hz2⟩:=info_parts hi0
 have hmul:by_*n≤1000*n:=Nat.mul_le_mul_right _ hby
 obtain⟨w',hrun,ho,hgr⟩:=run_make_full (P:=Tryz.prog) w w.heap.size T E i0 Z sz hu hi hz0 hz1 .i64 .i64 n (by rw[hz2];omega) (by unfold maxLen;omega) (Nat.le_refl _)
 have hcell:∀ t,t<n*sz→w'.cell? ⟨w.heap.size,t,none⟩=some Z.cells[t % Z.cells.size]!:=by
  intro t ht;rw[World.ownsRow.cellAt ho t (by omega),Array.getElem?_toList]
  simp[madeCells,ht]
 unfold Oper.wp
 simp[execOp,hop,hl,hc,hrun,Result.andThen]
 exact hK w' ⟨fun t ht=>⟨_,hcell t ht⟩,fun t=>World.ownsRow.frozenAt ho t⟩ hcell ((Below.refl _ _).grown hgr (Nat.le_refl _) (by intro k e;cases e)) (World.ownsRow.lt ho _ rfl).2
theorem rowZ_alloc (w:World) (l:List Value) (T:TypeId):rowZ (w.alloc (.cells l.toArray T)) w.heap.size l.length:=by
 have e:(w.alloc (.cells l.toArray T)).heap[w.heap.size]?=some (.cells l.toArray T):=heap_alloc_new w _
 refine⟨fun t ht=>?_,fun t=>?_⟩
 ·have:=there_block e 0 l.length (by omega) t ht
  rw[Nat.zero_add] at this
  exact Option.isSome_iff_exists.1 this.1
 ·unfold World.frozen?
  rw[e]
  simp
structure nhS (w:World) (m b c d:Int) (W:World):Prop where
 p:W.heap[w.heap.size]?=some (.cells [.int .i64 m,.int .i64 b,.int .i64 c,.int .i64 d].toArray 29)
 r:rowZ W (w.heap.size+1) 10
 b:Below w.heap.size w W
 z:w.heap.size+2≤W.heap.size
theorem nhS.below {w:World} {m b c d:Int} {W W':World} (h:nhS w m b c d W) (hb:Below W.heap.size W W'):nhS w m b c d W':=
 ⟨(hb.block _ (by have:=h.z;omega)).trans h.p,h.r.below hb (by have:=h.z;omega),h.b.trans (hb.mono h.b.size),Nat.le_trans h.z hb.size⟩
theorem nhS.put {w:World} {m b c d:Int} {W:World} (h:nhS w m b c d W) (vs:List Value) (hv:vs.length=10):nhS w m b c d (setRow W (w.heap.size+1) 0 vs):=
 ⟨(setRow_block _ _ (by omega) vs W 0).trans h.p,h.r.put vs 0 (by omega),setRow_below _ _ (by omega) w vs W 0 h.b,by rw[setRow_size];exact h.z⟩
theorem nhS.cell {w:World} {m b c d:Int} {W:World} (h:nhS w m b c d W):W.cell? ⟨w.heap.size,0,none⟩=some (.int .i64 m):=by
 have:=range_block h.p 0 (.int .i64 m) rfl
 simpa using this
theorem sz35:(Tryz.prog.info? 29).map (·.size)=some 4:=by kernel_rfl
structure nhOut (w w':World) (g1 n k1 g2 m:Nat) (bs:List R3):Prop where
 ne:g1≠g2
 l1:w.heap.size≤g1
 u1:g1<w'.heap.size
 l2:w.heap.size≤g2
 u2:g2<w'.heap.size
 c1:n≤k1
 z1:rowZ w' g1 (n*3)
 z2:rowZ w' g2 (m*8)
 s1:St (w.heap.size+2) w' (fun V=>isR3s V (some ⟨g1,0,none⟩) n k1 bs)
 a2:∀ j,j<m→at8 w' g2 (j*8) bx0 none 0 0
theorem at8.upN {W w:World} {g o:Nat} (h:at8 w g o bx0 none 0 0) (he:W.heap[g]?=w.heap[g]?):at8 W g o bx0 none 0 0:=
 ⟨cell_up h.c0 he,cell_up h.c1 he,cell_up h.c2 he,cell_up h.c3 he,cell_up h.c4 he,cell_up h.c5 he,cell_up h.c6 he,cell_up h.cs he,⟨rfl,Nat.le_refl _,fun _ hx=>(by cases hx),fun hne=>absurd rfl hne⟩⟩
theorem nhOut.put {w W:World} {g1 n k1 g2 m:Nat} {bs:List R3} (h:nhOut w W g1 n k1 g2 m bs) (h1:w.heap.size+2≤g1) (h2:w.heap.size+2≤g2) (vs:List Value):nhOut w (setRow W (w.heap.size+1) 0 vs) g1 n k1 g2 m bs:=by
 have e1:=setRow_block (w.heap.size+1) g1 (by omega) vs W 0
 have e2:=setRow_block (w.heap.size+1) g2 (by omega) vs W 0
 refine⟨h.ne,h.l1,by rw[setRow_size];exact h.u1,h.l2,by rw[setRow_size];exact h.u2,h.c1,h.z1.up e1,h.z2.up e2,?_,fun j hj=>(h.a2 j hj).upN e2⟩
 rw[← setCells_row]
 exact h.s1.setCells _ _ (by omega) vs
set_option maxHeartbeats 4000000 in
set_option maxRecDepth 20000 in
theorem newHost_ok (w:World) (m:Nat) (b c d:Int) (g n cap:Nat) (bs:List R3) (h:okCf m b c d=true) (hf:isR3s w (some ⟨g,0,none⟩) n cap bs) (hn:n≤1048576) (hm:m≤8) (h2:okFs bs=true) :
  Calls Tryz.prog 14 #[cfV m b c d,.slice (some ⟨g,0,none⟩) n cap] w fun o w'=>∃ g1 k1 g2,o = .returned (.tuple #[hoV ⟨m,b,c,d,bs,List.replicate m bx0,[],[],0,0⟩ ⟨some ⟨g1,0,none⟩,n,k1,some ⟨g2,0,none⟩,m,m,none,0,0,none,0,0⟩,.int .i64 0])∧nhOut w w' g1 n k1 g2 m bs∧Below w.heap.size w w':=by
 have HE:Hid (∀ W,Calls Tryz.prog 53 #[cfV m b c d] W fun o w'=>o = .returned (.bool true)∧Below W.heap.size W w'):=fun W=>by have:=validConfig_any W m b c d;rw[h] at this;exact this
 have HF:Hid (∀ W,Below w.heap.size w W→Calls Tryz.prog 54 #[.slice (some ⟨g,0,none⟩) n cap] W fun o w'=>o = .returned (.bool true)∧Below W.heap.size W w'):=fun W hW=>by have:=validFilters_any W _ n cap bs (hf.below hW) hn;rw[h2] at this;exact this
 have HC:Hid (∀ W,Below w.heap.size w W→Calls Tryz.prog 55 #[.slice (some ⟨g,0,none⟩) n cap] W fun e w'=>∃ g1 k1,e = .returned (.slice (some ⟨g1,0,none⟩) n k1)∧(W.heap.size≤g1∧g1<w'.heap.size∧n≤k1∧rowZ w' g1 (n*3)∧St W.heap.size w' (fun V=>isR3s V (some ⟨g1,0,none⟩) n k1 bs))∧Below W.heap.size W w'):=fun W hW=>cloneN hf hn W hW
 clear h hf h2;go_enter Tryz.func14,Tryz.ntmps14
 go_wp2_with fail;refine (HE.out _).mono ?_
 rintro o w1 ⟨rfl,hb1⟩;have N1:nhS w m b c d w1:=by
  refine nhS.below (W:=(w.alloc (.cells #[.int .i64 m,.int .i64 b,.int .i64 c,.int .i64 d] 29)).alloc (.cells #[.int .i64 0,.int .i64 0,.int .i64 0,.int .i64 0,.slice none 0 0,.slice none 0 0,.slice none 0 0,.slice none 0 0,.int .i64 0,.int .i64 0] 35)) ⟨?_,?_,((Below.refl _ _).alloc (Nat.le_refl _) _).alloc (by simp) _,by simp⟩ hb1
  ·rw[Below.heap_alloc _ _ _ (by simp)]
   exact heap_alloc_new w _
  ·have:=rowZ_alloc (w.alloc (.cells #[.int .i64 m,.int .i64 b,.int .i64 c,.int .i64 d] 29)) [.int .i64 0,.int .i64 0,.int .i64 0,.int .i64 0,.slice none 0 0,.slice none 0 0,.slice none 0 0,.slice none 0 0,.int .i64 0,.int .i64 0] 35
   simpa using this
 have HN1:Hid (nhS w m b c d w1):=N1
 clear N1 hb1;go_wp2_with fail;refine (HF.out _ HN1.out.b).mono ?_
 rintro o w2 ⟨rfl,hb2⟩;have HN2:Hid (nhS w m b c d w2):=HN1.out.below hb2
 clear hb2;go_wp2_with (first | (go_at_call 55;fail))
 refine wp_region_held (S:=nhS w m b c d) (by kernel_rfl) ?_
 have hS:=HN2.out.below (W':=w2.drew) (Below.refl _ _).drew
 refine wT (i:=0) (v:=.agg [.int .i64 m,.int .i64 b,.int .i64 c,.int .i64 d].toArray) rfl (by kernel_rfl) (by kernel_rfl) (by kernel_rfl) (fun _ _ _ h=>h) (yieldsIf_load_mid (by rfl) 29 (.tmp 2) rfl w.heap.size 0 rfl [.int .i64 m,.int .i64 b,.int .i64 c,.int .i64 d] _ (fun W h=>range_block h.p) Tryz.underlying29 rfl sz35) hS ?_
 simp only[Act.put,aA,aB,aC,aD,aE]
 refine wT (i:=1) (v:=.slice (some ⟨g,0,none⟩) n cap) rfl (by kernel_rfl) (by kernel_rfl) (by kernel_rfl) (fun _ _ _ h=>h) (Or.inl ⟨by rfl,?_⟩) hS ?_
 ·intro W hSw;clear hS;go_simp
 simp only[Act.put,aA,aB,aC,aD,aE,aF];refine wT (i:=3) (v:=.pointer (some ⟨w.heap.size,0,none⟩)) rfl (by kernel_rfl) (by kernel_rfl) (by kernel_rfl) (fun _ _ _ h=>h) (Or.inl ⟨by rfl,?_⟩) hS ?_
 ·intro W hSw;clear hS;go_simp
 simp only[Act.put,aA,aB,aC,aD,aE,aF];refine wT (i:=4) (v:=.int .i64 m) rfl (by kernel_rfl) (by kernel_rfl) (by kernel_rfl) (fun _ _ _ h=>h) (Or.inl ⟨by rfl,?_⟩) hS ?_
 ·intro W hSw;clear hS;have:=hSw.cell
  go_simp
 simp only[Act.put,aA,aB,aC,aD,aE,aF];refine wpAnyH_all (rs:=[2,5]) (by kernel_rfl) (by simp) ?_
 refine AllReadyH.cons rfl (fun K hK=>?_) (AllReadyH.cons rfl (fun K hK=>?_) AllReadyH.nil)
 ·go_simp;refine (HC.out _ hS.b).mono ?_
  rintro o w7 ⟨g1,k1,rfl,⟨q1,q2,q3,q4,q5⟩,b7⟩;have hS7:=hS.below b7
  have hz2:=hS.z
  go_wp2_with fail;refine hK.out _ _ hS7 (fun hS2=>?_)
  clear hS hK K hS7;have hS:=hS2
  clear hS2;refine wpAnyH_all (rs:=[5]) (by kernel_rfl) (by simp) ?_
  refine AllReadyH.cons rfl (fun K hK=>?_) AllReadyH.nil
  rw[if_pos (by rfl)]
  refine wp_make_Zc w7 31 97 _ 8 72 Tryz.info97 Tryz.underlying31 (by decide) (.tmp 18) (.tmp 18) rfl m rfl rfl (by omega) ?_
  intro w8 hrow hcells b8 hz8;have hS8:=hS.below b8
  have HG1:Hid (w.heap.size+2≤g1):=Nat.le_trans hz2 q1
  have HG2:Hid (w.heap.size+2≤w7.heap.size):=hS.z
  have HO8:Hid (nhOut w w8 g1 n k1 w7.heap.size m bs):=⟨by omega,by have:=HG1.out;omega,by omega,by have:=HG2.out;omega,hz8,q3,q4.below b8 q2,hrow,(q5.mono hz2).below b8,fun j hj=>zero_boxes hcells j hj⟩
  clear q1 q2 q3 q4 q5 b7 b8 hrow hcells hz8 hz2;simp only[Act.put,aA,aB,aC,aD,aE,aF];refine hK.out _ _ hS8 (fun hS2=>?_)
  clear hS hK K hS8;have hS:=hS2
  clear hS2;refine wT (i:=6) (v:=.agg [.int .i64 m,.int .i64 b,.int .i64 c,.int .i64 d,.slice (some ⟨g1,0,none⟩) n k1,.slice (some ⟨w7.heap.size,0,none⟩) m m,.slice none 0 0,.slice none 0 0,.int .i64 0,.int .i64 0].toArray) rfl (by kernel_rfl) (by kernel_rfl) (by kernel_rfl) (fun _ _ _ h=>h) (Or.inl ⟨by rfl,?_⟩) hS ?_
  ·intro W hSw;clear hS;go_simp
  simp only[Act.put,aA,aB,aC,aD,aE,aF];refine wpAnyH_all (rs:=[7]) (by kernel_rfl) (by simp) ?_
  refine AllReadyH.cons rfl (fun K hK=>?_) AllReadyH.nil
  rw[if_pos (by rfl)]
  refine wp_store_mid (P:=Tryz.prog) 35 (.tmp 4) (.tmp 20) rfl (w.heap.size+1) 0 _ rfl rfl (hS.r.there 0 _ (by simp)) sz41 (one10 _ _ _ _ _ _ _ _ _ _ _ _ _ _ _ _ _ _) ?_
  rw[setCells_row]
  have hS9:=hS.put [.int .i64 m,.int .i64 b,.int .i64 c,.int .i64 d,.slice (some ⟨g1,0,none⟩) n k1,.slice (some ⟨w7.heap.size,0,none⟩) m m,.slice none 0 0,.slice none 0 0,.int .i64 0,.int .i64 0] rfl
  have HO9:Hid _:=HO8.out.put HG1.out HG2.out [.int .i64 m,.int .i64 b,.int .i64 c,.int .i64 d,.slice (some ⟨g1,0,none⟩) n k1,.slice (some ⟨w7.heap.size,0,none⟩) m m,.slice none 0 0,.slice none 0 0,.int .i64 0,.int .i64 0]
  have C9:=fun t ht=>setRow_at (w.heap.size+1) [.int .i64 m,.int .i64 b,.int .i64 c,.int .i64 d,.slice (some ⟨g1,0,none⟩) n k1,.slice (some ⟨w7.heap.size,0,none⟩) m m,.slice none 0 0,.slice none 0 0,.int .i64 0,.int .i64 0] w8 0 t ht (hS.r.cell _ (by simp at ht;omega))
  refine hK.out _ _ hS9 (fun hS2=>?_)
  generalize hw9:setRow w8 (w.heap.size+1) 0 _=w9 at *;clear hS hK K hS9 hw9;have HS9:Hid _:=hS2
  refine wT (i:=8) (v:=.int .i64 0) rfl (by kernel_rfl) (by kernel_rfl) (by kernel_rfl) (fun _ _ _ h=>h) (Or.inl ⟨by rfl,?_⟩) hS2 ?_
  ·intro W hSw;clear hS2;go_simp
  clear hS2;simp only[Act.put,aA,aB,aC,aD,aE,aF];refine wpAnyH_done (by kernel_rfl) ?_ _
  have x0:=C9 0 (by simp)
  have x1:=C9 1 (by simp)
  have x2:=C9 2 (by simp)
  have x3:=C9 3 (by simp)
  have x4:=C9 4 (by simp)
  have x5:=C9 5 (by simp)
  have x6:=C9 6 (by simp)
  have x7:=C9 7 (by simp)
  have x8:=C9 8 (by simp)
  have x9:=C9 9 (by simp)
  clear C9;simp only[aE,aF,Nat.zero_add] at x0 x1 x2 x3 x4 x5 x6 x7 x8 x9
  go_wp2_with fail;refine bodyPost_ret (v:=.tuple #[hoV ⟨m,b,c,d,bs,List.replicate m bx0,[],[],0,0⟩ ⟨some ⟨g1,0,none⟩,n,k1,some ⟨w7.heap.size,0,none⟩,m,m,none,0,0,none,0,0⟩,.int .i64 0]) (by simp[results,Tryz.results14,go_sem,x0,x1,x2,x3,x4,x5,x6,x7,x8,x9]) rfl ?_
  exact⟨g1,k1,_,rfl,HO9.out,HS9.out.b⟩
 ·rw[if_pos (by rfl)]
  refine wp_make_Zc _ 31 97 _ 8 72 Tryz.info97 Tryz.underlying31 (by decide) (.tmp 18) (.tmp 18) rfl m rfl rfl (by omega) ?_
  intro w7 hrow hcells b7 hz7;dsimp only at hrow hcells b7 hz7
  have hS7:=hS.below b7
  have HG2:Hid (w.heap.size+2≤w2.heap.size):=hS.z
  refine hK.out _ _ hS7 (fun hS2=>?_)
  clear hS hK K hS7;have hS:=hS2
  clear hS2;simp only[Act.put,aA,aB,aC,aD,aE,aF];refine wpAnyH_all (rs:=[2]) (by kernel_rfl) (by simp) ?_
  refine AllReadyH.cons rfl (fun K hK=>?_) AllReadyH.nil
  go_simp;refine (HC.out _ hS.b).mono ?_
  rintro o w8 ⟨g1,k1,rfl,⟨q1,q2,q3,q4,q5⟩,b8⟩;have hS8:=hS.below b8
  have HG1:Hid (w.heap.size+2≤g1):=by have:=HG2.out;show _≤_;omega
  have HO8:Hid (nhOut w w8 g1 n k1 w2.heap.size m bs):=⟨by omega,by have:=HG1.out;omega,by omega,by have:=HG2.out;omega,by have:=b8.size;omega,q3,q4,hrow.below b8 hz7,q5.mono hS.z,fun j hj=>(zero_boxes hcells j hj).below b8⟩
  clear q1 q2 q3 q4 q5 b7 b8 hrow hcells hz7;go_wp2_with fail;refine hK.out _ _ hS8 (fun hS2=>?_)
  clear hS hK K hS8;have hS:=hS2
  clear hS2;refine wT (i:=6) (v:=.agg [.int .i64 m,.int .i64 b,.int .i64 c,.int .i64 d,.slice (some ⟨g1,0,none⟩) n k1,.slice (some ⟨w2.heap.size,0,none⟩) m m,.slice none 0 0,.slice none 0 0,.int .i64 0,.int .i64 0].toArray) rfl (by kernel_rfl) (by kernel_rfl) (by kernel_rfl) (fun _ _ _ h=>h) (Or.inl ⟨by rfl,?_⟩) hS ?_
  ·intro W hSw;clear hS;go_simp
  simp only[Act.put,aA,aB,aC,aD,aE,aF];refine wpAnyH_all (rs:=[7]) (by kernel_rfl) (by simp) ?_
  refine AllReadyH.cons rfl (fun K hK=>?_) AllReadyH.nil
  rw[if_pos (by rfl)]
  refine wp_store_mid (P:=Tryz.prog) 35 (.tmp 4) (.tmp 20) rfl (w.heap.size+1) 0 _ rfl rfl (hS.r.there 0 _ (by simp)) sz41 (one10 _ _ _ _ _ _ _ _ _ _ _ _ _ _ _ _ _ _) ?_
  rw[setCells_row]
  have hS9:=hS.put [.int .i64 m,.int .i64 b,.int .i64 c,.int .i64 d,.slice (some ⟨g1,0,none⟩) n k1,.slice (some ⟨w2.heap.size,0,none⟩) m m,.slice none 0 0,.slice none 0 0,.int .i64 0,.int .i64 0] rfl
  have HO9:Hid _:=HO8.out.put HG1.out HG2.out [.int .i64 m,.int .i64 b,.int .i64 c,.int .i64 d,.slice (some ⟨g1,0,none⟩) n k1,.slice (some ⟨w2.heap.size,0,none⟩) m m,.slice none 0 0,.slice none 0 0,.int .i64 0,.int .i64 0]
  have C9:=fun t ht=>setRow_at (w.heap.size+1) [.int .i64 m,.int .i64 b,.int .i64 c,.int .i64 d,.slice (some ⟨g1,0,none⟩) n k1,.slice (some ⟨w2.heap.size,0,none⟩) m m,.slice none 0 0,.slice none 0 0,.int .i64 0,.int .i64 0] w8 0 t ht (hS.r.cell _ (by simp at ht;omega))
  refine hK.out _ _ hS9 (fun hS2=>?_)
  generalize hw9:setRow w8 (w.heap.size+1) 0 _=w9 at *;clear hS hK K hS9 hw9;have HS9:Hid _:=hS2
  refine wT (i:=8) (v:=.int .i64 0) rfl (by kernel_rfl) (by kernel_rfl) (by kernel_rfl) (fun _ _ _ h=>h) (Or.inl ⟨by rfl,?_⟩) hS2 ?_
  ·intro W hSw;clear hS2;go_simp
  clear hS2;simp only[Act.put,aA,aB,aC,aD,aE,aF];refine wpAnyH_done (by kernel_rfl) ?_ _
  have x0:=C9 0 (by simp)
  have x1:=C9 1 (by simp)
  have x2:=C9 2 (by simp)
  have x3:=C9 3 (by simp)
  have x4:=C9 4 (by simp)
  have x5:=C9 5 (by simp)
  have x6:=C9 6 (by simp)
  have x7:=C9 7 (by simp)
  have x8:=C9 8 (by simp)
  have x9:=C9 9 (by simp)
  clear C9;simp only[aE,aF,Nat.zero_add] at x0 x1 x2 x3 x4 x5 x6 x7 x8 x9
  go_wp2_with fail;refine bodyPost_ret (v:=.tuple #[hoV ⟨m,b,c,d,bs,List.replicate m bx0,[],[],0,0⟩ ⟨some ⟨g1,0,none⟩,n,k1,some ⟨w2.heap.size,0,none⟩,m,m,none,0,0,none,0,0⟩,.int .i64 0]) (by simp[results,Tryz.results14,go_sem,x0,x1,x2,x3,x4,x5,x6,x7,x8,x9]) rfl ?_
  exact⟨g1,k1,_,rfl,HO9.out,HS9.out.b⟩
theorem lt_of_some {w:World} {g:Nat} {o:Obj} (hg:w.heap[g]?=some o):g<w.heap.size:=by
 rcases Nat.lt_or_ge g w.heap.size with h|h
 ·exact h
 ·rw[Array.getElem?_eq_none h] at hg;cases hg
theorem own_slice {w:World} {B n E sz:Nat} {v:Value} {xs:List Value} (ho:w.ownsRow B E sz v n xs) (hv:v≠.slice none 0 0) :
  ∃ g cap,v = .slice (some ⟨g,0,none⟩) n cap∧B≤g∧g<w.heap.size∧n≤cap∧∀ W:World,W.heap[g]?=w.heap[g]?→∀ t,t<n*sz→W.cell? ⟨g,t,none⟩=xs[t]?:=by
 rcases ho.2 with⟨e,_⟩|⟨g,cap,cur,hv',hb,hg,hcp,hmx,hsz,htk⟩
 ·exact absurd e hv
 ·refine⟨g,cap,hv',hb,lt_of_some hg,hcp,fun W hW t ht=>?_⟩
  have hcur:cur[t]?=xs[t]?:=by rw[← htk,List.getElem?_take_of_lt ht,Array.getElem?_toList]
  have e:W.heap[g]?=some (.cells cur E (0,0)):=hW.trans hg
  rw[← hcur]
  simp[World.cell?,e]
theorem ownsB_bytes {w:World} {B:Nat} {v:Value} {l:List Nat} (h:ownsB w B v l) (hv:v≠.slice none 0 0) (hl:∀ x ∈ l,x<256) :
  ∃ g k,v = .slice (some ⟨g,0,none⟩) l.length k∧B≤g∧g<w.heap.size∧St B w (fun W=>isBytes W (some ⟨g,0,none⟩) l.length k l):=by
 obtain⟨g,cap,rfl,h1,h2,h3,h4⟩:=own_slice h hv
 refine⟨g,cap,rfl,h1,h2,fun W hW=>⟨rfl,h3,hl,fun _=>⟨g,0,rfl,fun j hj=>?_⟩⟩⟩
 rw[Nat.zero_add,h4 W (hW g h1 h2) j (by omega),bv_at l j hj]
theorem take_snoc (l:List Nat) (k:Nat) (h:k<l.length):l.take k++[l[k]]=l.take (k+1):=by rw[List.take_succ_eq_append_getElem h]
set_option maxHeartbeats 2000000 in
set_option maxRecDepth 20000 in
theorem l1copyFrame_any (w:World) (e:Bool) (i:Nat) (r:Bool) (d:Int) (a:Option Addr) (n cap:Nat) (l:List Nat) (h:isBytes w a n cap l) (hn:n≤1048576) :
  Calls Tryz.prog 136 #[frV e i r d a n cap] w fun o w'=>∃ g k,o = .returned (frV e i r d (some ⟨g,0,none⟩) n k)∧(w.heap.size≤g∧g<w'.heap.size∧St (w.heap.size+2) w' (fun W=>isBytes W (some ⟨g,0,none⟩) n k l)∧w.heap.size+2≤g)∧Below w.heap.size w w':=by
 have HH:Hid (isBytes w a n cap l):=h
 have HL:Hid (n=l.length):=h.len
 have HSm:Hid (∀ x ∈ l,x<256):=h.small
 have hcp:=h.cap
 clear h;have hB0:Below w.heap.size w ((w.alloc (.cells #[.bool e,.int .u32 (i:Int),.bool r,.int .i64 d,.slice a n cap] 25)).alloc (.cells #[.bool false,.int .u32 0,.bool false,.int .i64 0,.slice none 0 0] 25)):=((Below.refl _ _).alloc (Nat.le_refl _) _).alloc (by simp) _
 have HB0:Hid _:=hB0
 clear hB0;go_enter Tryz.func136,Tryz.ntmps136
 go_wp2_with fail;have hown:=own_nil ((w.alloc (.cells #[.bool e,.int .u32 (i:Int),.bool r,.int .i64 d,.slice a n cap] 25)).alloc (.cells #[.bool false,.int .u32 0,.bool false,.int .i64 0,.slice none 0 0] 25)) (w.heap.size+2) (by simp)
 have x0:((w.alloc (.cells #[.bool e,.int .u32 (i:Int),.bool r,.int .i64 d,.slice a n cap] 25)).alloc (.cells #[.bool false,.int .u32 0,.bool false,.int .i64 0,.slice none 0 0] 25)).heap[w.heap.size]?=some (.cells [.bool e,.int .u32 (i:Int),.bool r,.int .i64 d,.slice a n cap].toArray 25):=by
  rw[Below.heap_alloc _ _ _ (by simp)]
  exact heap_alloc_new w _
 have x1:rowZ ((w.alloc (.cells #[.bool e,.int .u32 (i:Int),.bool r,.int .i64 d,.slice a n cap] 25)).alloc (.cells #[.bool false,.int .u32 0,.bool false,.int .i64 0,.slice none 0 0] 25)) (w.heap.size+1) 5:=by
  have:=rowZ_alloc (w.alloc (.cells #[.bool e,.int .u32 (i:Int),.bool r,.int .i64 d,.slice a n cap] 25)) [.bool false,.int .u32 0,.bool false,.int .i64 0,.slice none 0 0] 25
  simpa using this
 have hz2:((w.alloc (.cells #[.bool e,.int .u32 (i:Int),.bool r,.int .i64 d,.slice a n cap] 25)).alloc (.cells #[.bool false,.int .u32 0,.bool false,.int .i64 0,.slice none 0 0] 25)).heap.size=w.heap.size+2:=by simp
 have hs2:w.heap.size+1+1=((w.alloc (.cells #[.bool e,.int .u32 (i:Int),.bool r,.int .i64 d,.slice a n cap] 25)).alloc (.cells #[.bool false,.int .u32 0,.bool false,.int .i64 0,.slice none 0 0] 25)).heap.size:=by simp
 simp only[hs2]
 clear hs2;generalize (w.alloc (.cells #[.bool e,.int .u32 (i:Int),.bool r,.int .i64 d,.slice a n cap] 25)).alloc (.cells #[.bool false,.int .u32 0,.bool false,.int .i64 0,.slice none 0 0] 25)=W2 at *;rw[← hz2] at hown
 have HX0:Hid (W2.heap[w.heap.size]?=some (.cells [.bool e,.int .u32 (i:Int),.bool r,.int .i64 d,.slice a n cap].toArray 25)):=x0
 have HX1:Hid (rowZ W2 (w.heap.size+1) 5):=x1
 have HZ2:Hid (W2.heap.size=w.heap.size+2):=hz2
 clear x0 x1 hz2;go_loopw [3,4] (fun v t wr=>∃ k:Nat,k≤n∧t = .int .i64 k∧ownsB wr W2.heap.size v (l.take k)∧(k=0→v = .slice (some ⟨W2.heap.size,0,none⟩) 0 0)∧Below W2.heap.size W2 wr) (fun _ t _=>n-(intOf t).toNat)
 case atStart=>exact⟨0,Nat.zero_le _,rfl,hown,fun _=>rfl,(Below.refl _ _).alloc (Nat.le_refl _) _⟩
 case round=>
  clear hown;obtain⟨k,hk,rfl,ho,hv0,hb⟩:=hrel
  have hrg:=range_block ((hb.block _ (by have:=HZ2.out;omega)).trans HX0.out)
  have y0:=hrg 0 (.bool e) rfl
  have y1:=hrg 1 (.int .u32 (i:Int)) rfl
  have y2:=hrg 2 (.bool r) rfl
  have y3:=hrg 3 (.int .i64 d) rfl
  have y4:=hrg 4 (.slice a n cap) rfl
  simp only[Nat.zero_add,Nat.add_zero] at y0 y1 y2 y3 y4
  clear hrg;by_cases hlt:k<n
  ·have hkl:k<l.length:=by have:=HL.out;omega
   obtain⟨g0,o0,rfl,hc⟩:=HH.out.cells (by intro e;rw[e] at hkl;exact absurd hkl (Nat.not_lt_zero _))
   have hx:=hc k hkl
   have hgz:g0<w.heap.size:=World.block_lt_of_cell? w _ hx
   have xk:=(hb.cell (p:=⟨g0,o0+k,none⟩) (by have:=HZ2.out;show g0<_;omega)).trans ((HB0.out.cell (p:=⟨g0,o0+k,none⟩) (by exact hgz)).trans hx)
   have HO:Hid (ownsB wr W2.heap.size u3 (l.take k)):=ho
   have HB:Hid (Below W2.heap.size W2 wr):=hb
   have HT:Hid (l.take k++[l[k]]=l.take (k+1)):=take_snoc l k hkl
   have HLT:Hid ((l.take k).length≤100000000):=by show _≤_;rw[List.length_take];omega
   clear ho hb hc hx hv0;generalize l[k]=ck at *;go_wp2_with (first | (at_builtin;refine app_byte W2 wr rfl (.tmp 13) (.tmp 19) rfl W2.heap.size u3 (l.take k) ck _ rfl rfl HO.out rfl HLT.out HB.out.size HB.out ?_;intro v' w' ho' hb' _))
   go_roundw
   case rel=>exact⟨k+1,by omega,by go_num,by rw[← HT.out];exact ho',fun e=>absurd e (by omega),hb'⟩
   case measure=>simp[intOf];omega
  ·have hkn:k=n:=by omega
   subst hkn;have htk:l.take k=l:=by rw[List.take_of_length_le (by have:=HL.out;omega)]
   rw[htk] at ho
   have hnn:u3≠.slice none 0 0:=by
    intro e;by_cases hk0:k=0
    ·rw[hv0 hk0] at e;cases e
    ·subst e;rcases ho.2 with⟨_,h⟩|⟨g,_,_,h,_⟩
     ·have:=HL.out;omega
     ·cases h
   obtain⟨g1,k1,rfl,q1,q2,q3⟩:=ownsB_bytes ho hnn HSm.out
   rw[← HL.out] at q3 ⊢
   have HQ:Hid (w.heap.size+2≤g1∧g1<wr.heap.size∧St W2.heap.size wr (fun W=>isBytes W (some ⟨g1,0,none⟩) k k1 l)):=⟨by have:=HZ2.out;omega,q2,q3⟩
   have HB:Hid (Below w.heap.size w wr):=HB0.out.trans (hb.mono (by have:=HZ2.out;omega))
   have hZ:=HX1.out.below hb (by have:=HZ2.out;omega)
   obtain⟨u0,z0⟩:=hZ.cell 0 (by omega)
   obtain⟨u1,z1⟩:=hZ.cell 1 (by omega)
   obtain⟨u2,z2⟩:=hZ.cell 2 (by omega)
   obtain⟨u3,z3⟩:=hZ.cell 3 (by omega)
   obtain⟨u4,z4⟩:=hZ.cell 4 (by omega)
   have f0:=hZ.free 0
   have f1:=hZ.free 1
   have f2:=hZ.free 2
   have f3:=hZ.free 3
   have f4:=hZ.free 4
   clear hZ q1 q2 q3 ho hb hv0 hnn htk;go_wp2
   refine bodyPost_ret (v:=frV e i r d (some ⟨g1,0,none⟩) k k1) (by simp[results,Tryz.results136,go_sem,z0,z1,z2,z3,z4]) rfl ?_
   have hq:=HQ.out
   have hz:=HZ2.out
   refine⟨g1,k1,rfl,⟨by omega,by simpa using hq.2.1,?_,hq.1⟩,?_⟩
   ·rw[show w.heap.size+2=W2.heap.size from hz.symm]
    exact ((((hq.2.2.set _ _ (by omega) _).set _ _ (by omega) _).set _ _ (by omega) _).set _ _ (by omega) _).set _ _ (by omega) _
   ·(repeat refine Below.setCell ?_ (by simp) _)
    exact HB.out
theorem results_cell {fn:Func} {x:Tmp} {T:TypeId} (h:fn.results = #[.cell x T]) (tmps:Array Value) (w:World) (b:Nat) (V:Value) (h2:tmps.getD x undef = .pointer (some ⟨b,0,none⟩)) (hL:(loadVar T ⟨b,0,none⟩).run Tryz.prog w = .ok V w):(results fn tmps).run Tryz.prog w = .ok V w:=by
 simp only[Array.getD_eq_getD_getElem?] at h2
 simp[results,h,h2,asAddr,hL]
theorem results_cell_tmp {fn:Func} {x y:Tmp} {T:TypeId} (h:fn.results = #[.cell x T,.tmp y]) (tmps:Array Value) (w:World) (b:Nat) (V:Value) (h2:tmps.getD x undef = .pointer (some ⟨b,0,none⟩)) (hL:(loadVar T ⟨b,0,none⟩).run Tryz.prog w = .ok V w):(results fn tmps).run Tryz.prog w = .ok (.tuple #[V,tmps.getD y undef]) w:=by
 simp only[Array.getD_eq_getD_getElem?] at h2
 simp[results,h,h2,asAddr,hL]
def blk (w:World) (b:Nat) (l:List Value) (T:TypeId):Prop:=w.heap[b]?=some (.cells l.toArray T (0,0))
theorem blk.new (w:World) (l:List Value) (T:TypeId):blk (w.alloc (.cells l.toArray T)) w.heap.size l T:=heap_alloc_new w _
theorem blk.alloc {w:World} {b:Nat} {l:List Value} {T:TypeId} (h:blk w b l T) (o:Obj):blk (w.alloc o) b l T:=(Below.heap_alloc _ _ _ (lt_of_some h)).trans h
theorem blk.below {w w':World} {b:Nat} {l:List Value} {T:TypeId} (h:blk w b l T) (hb:Below w.heap.size w w'):blk w' b l T:=(hb.block _ (lt_of_some h)).trans h
theorem blk.lt {w:World} {b:Nat} {l:List Value} {T:TypeId} (h:blk w b l T):b<w.heap.size:=lt_of_some h
theorem blk.put {w:World} {b:Nat} {T:TypeId} (pre old post vs:List Value) (h:blk w b (pre++old++post) T) (hl:old.length=vs.length):blk (w.setCells b pre.length vs) b (pre++vs++post) T:=setCells_block b T vs old pre post w hl h
theorem blk.other {w:World} {b b':Nat} {l:List Value} {T:TypeId} (h:blk w b l T) (hb:b≠b') (o:Nat) (vs:List Value):blk (w.setCells b' o vs) b l T:=(setCells_other b' b hb vs w o).trans h
theorem blk.load {w:World} {b:Nat} {l:List Value} {T:TypeId} (h:blk w b l T):w.rangeAt b 0 l:=range_block h
theorem blk.there {w:World} {b:Nat} {l:List Value} {T:TypeId} (h:blk w b l T) (o n:Nat) (ho:o+n≤l.length):w.there b o n:=there_block h o n ho
theorem blk.cell {w:World} {b:Nat} {l:List Value} {T:TypeId} (h:blk w b l T) (o:Nat) (v:Value) (ho:l[o]?=some v):w.cell? ⟨b,o,none⟩=some v:=by
 have:=range_block h o v ho
 simpa using this
theorem blk.free {w:World} {b:Nat} {l:List Value} {T:TypeId} (h:blk w b l T) (o:Nat):w.frozen? ⟨b,o,none⟩=false:=by
 unfold World.frozen?
 rw[h]
 simp
theorem blk.kept {w w':World} {b:Nat} {l:List Value} {T:TypeId} (h:blk w b l T) (he:w'.heap[b]?=w.heap[b]?):blk w' b l T:=he.trans h
theorem setCells_size (w:World) (b o:Nat) (vs:List Value):(w.setCells b o vs).heap.size=w.heap.size:=by rw[setCells_row,setRow_size]
theorem setCells_below {B b:Nat} (hB:B≤b) {w0 w:World} (o:Nat) (vs:List Value) (h:Below B w0 w):Below B w0 (w.setCells b o vs):=by rw[setCells_row];exact setRow_below b B hB w0 vs w o h
theorem sz93:(Tryz.prog.info? 25).map (·.size)=some 5:=by kernel_rfl
theorem one5 (e:Bool) (i:Int) (r:Bool) (d:Int) (a:Option Addr) (n c:Nat):(#[.bool e,.int .u32 i,.bool r,.int .i64 d,.slice a n c]:Array Value).all (·.oneCell')=true:=
 all_oneCell_toArray (by simp[Value.oneCell'])
set_option maxHeartbeats 2000000 in
set_option maxRecDepth 20000 in
theorem l3copyBox_any (w:World) (x y z:Int) (e:Bool) (i:Nat) (r:Bool) (d:Int) (a:Option Addr) (n cap:Nat) (l:List Nat) (h:isBytes w a n cap l) (hn:n≤1048576) :
  Calls Tryz.prog 135 #[bxV x y z e i r d a n cap] w fun o w'=>∃ g k,o = .returned (bxV x y z e i r d (some ⟨g,0,none⟩) n k)∧(w.heap.size≤g∧g<w'.heap.size∧St (w.heap.size+2) w' (fun W=>isBytes W (some ⟨g,0,none⟩) n k l)∧w.heap.size+2≤g)∧Below w.heap.size w w':=by
 have HH:Hid (isBytes w a n cap l):=h
 clear h;go_enter Tryz.func135,Tryz.ntmps135
 go_wp2_with (first | (go_at_call 136;refine (l1copyFrame_any _ e i r d a n cap l (HH.out.below ?_) hn).mono ?_))
 ·exact ((Below.refl _ _).alloc (Nat.le_refl _) _).alloc (by simp) _
 ·rintro o w1 ⟨g,k,rfl,⟨hg,hgz,hst,hg2⟩,hb⟩;have HP:Hid (blk w1 w.heap.size ([.int .i64 x,.int .i64 y,.int .i64 z]++[.bool e,.int .u32 (i:Int),.bool r,.int .i64 d,.slice a n cap]++[]) 97):=((blk.new w _ 97).alloc _).below hb
  have HR:Hid (blk w1 (w.heap.size+1) ([]++[.int .i64 0,.int .i64 0,.int .i64 0,.bool false,.int .u32 0,.bool false,.int .i64 0,.slice none 0 0]++[]) 97):=by
   have:=(blk.new (w.alloc (.cells [.int .i64 x,.int .i64 y,.int .i64 z,.bool e,.int .u32 (i:Int),.bool r,.int .i64 d,.slice a n cap].toArray 97)) [.int .i64 0,.int .i64 0,.int .i64 0,.bool false,.int .u32 0,.bool false,.int .i64 0,.slice none 0 0] 97).below hb
   simpa[Hid] using this
  have HB:Hid (Below w.heap.size w w1):=(((Below.refl w.heap.size w).alloc (Nat.le_refl _) _).alloc (by simp) _).trans (hb.mono (by simp;omega))
  have HG:Hid (w.heap.size+2≤g∧g<w1.heap.size∧St (w.heap.size+2) w1 (fun W=>isBytes W (some ⟨g,0,none⟩) n k l)):=by
   simp at hg hst
   exact⟨by omega,hgz,hst.mono (by omega)⟩
  clear hb hg hgz hst hg2;go_wp2_with (first
   | (refine wpList_store_mid (P:=Tryz.prog) rfl 25 (.tmp 6) (.tmp 5) rfl w.heap.size 3 #[.bool e,.int .u32 (i:Int),.bool r,.int .i64 d,.slice (some ⟨g,0,none⟩) n k] rfl rfl (HP.out.there 3 5 (by simp)) sz93 (one5 _ _ _ _ _ _ _) ?_;generalize hW2:World.setCells w1 w.heap.size 3 _=w2;have HW2:Hid (World.setCells w1 w.heap.size 3 [.bool e,.int .u32 (i:Int),.bool r,.int .i64 d,.slice (some ⟨g,0,none⟩) n k]=w2):=hW2;have HP2:Hid (blk w2 w.heap.size [.int .i64 x,.int .i64 y,.int .i64 z,.bool e,.int .u32 (i:Int),.bool r,.int .i64 d,.slice (some ⟨g,0,none⟩) n k] 97):=(hW2 ▸ blk.put [.int .i64 x,.int .i64 y,.int .i64 z] _ [] [.bool e,.int .u32 (i:Int),.bool r,.int .i64 d,.slice (some ⟨g,0,none⟩) n k] HP.out rfl);have HR2:Hid (blk w2 (w.heap.size+1) ([]++[.int .i64 0,.int .i64 0,.int .i64 0,.bool false,.int .u32 0,.bool false,.int .i64 0,.slice none 0 0]++[]) 97):=(hW2 ▸ HR.out.other (by omega) _ _);clear hW2)
   | (refine wpList_load_mid (P:=Tryz.prog) rfl 97 (.tmp 1) rfl w.heap.size 0 rfl _ _ HP2.out.load Tryz.underlying97 rfl sz95 ?_)
   | (refine wpList_store_mid (P:=Tryz.prog) rfl 97 (.tmp 2) (.tmp 7) rfl (w.heap.size+1) 0 _ rfl rfl (HR2.out.there 0 8 (by simp)) sz95 (one8 _ _ _ _ _ _ _ _ _ _) ?_;generalize hW3:World.setCells w2 (w.heap.size+1) 0 _=w3;have HW3:Hid (World.setCells w2 (w.heap.size+1) 0 [.int .i64 x,.int .i64 y,.int .i64 z,.bool e,.int .u32 (i:Int),.bool r,.int .i64 d,.slice (some ⟨g,0,none⟩) n k]=w3):=hW3;clear hW3))
  have e2:=HW2.out
  have e3:=HW3.out
  have hF:blk w3 (w.heap.size+1) [.int .i64 x,.int .i64 y,.int .i64 z,.bool e,.int .u32 (i:Int),.bool r,.int .i64 d,.slice (some ⟨g,0,none⟩) n k] 97:=e3 ▸ blk.put [] _ [] _ HR2.out rfl
  have hL:=run_loadVar_mid (P:=Tryz.prog) w3 (w.heap.size+1) 0 97 _ _ hF.load Tryz.underlying97 rfl sz95
  refine bodyPost_ret (v:=bxV x y z e i r d (some ⟨g,0,none⟩) n k) (results_cell Tryz.results135 _ w3 (w.heap.size+1) _ rfl hL) rfl ?_
  obtain⟨g1,g2,g3⟩:=HG.out
  subst e2;subst e3;refine⟨g,k,rfl,⟨by omega,by rw[setCells_size,setCells_size];exact g2,(g3.setCells _ _ (by omega) _).setCells _ _ (by omega) _,g1⟩,?_⟩
  exact setCells_below (by omega) _ _ (setCells_below (by omega) _ _ HB.out)
theorem run_app {w:World} (T R E:TypeId) (Z:Value) (sz by_:Nat) (hi0:(Tryz.prog.info? E).map (fun i=>(i.zero,i.size,i.bytes))=some (some Z,sz,by_)) (hu:Tryz.prog.underlying T=some (.slice E)) (hZ:Z.cells.size=sz) (hsz:0<sz) (hby:by_≤1000)
  (B g n k:Nat) (xs:List Value) (hown:w.ownsRow B E sz (.slice (some ⟨g,0,none⟩) n k) n xs) (b:Nat) (news:List Value) (hl:news.length=sz) (hb:w.heap[b]?=some (.cells news.toArray E)) (h1:∀ u ∈ news,u.oneCell'=true) (hn:n≤100000000) (hB:B≤w.heap.size) :
  ∃ g' k' w',(Builtin.append_ #[T,T] R #[.slice (some ⟨g,0,none⟩) n k,.slice (some ⟨b,0,none⟩) 1 1]).run Tryz.prog w = .ok (.slice (some ⟨g',0,none⟩) (n+1) k') w'∧w'.ownsRow B E sz (.slice (some ⟨g',0,none⟩) (n+1) k') (n+1) (xs++news)∧w.grownBy w' (some g)∧(g'=g∨g'=w.heap.size)∧g<w'.heap.size∧B≤g':=by
 obtain⟨i0,hi,hz0,hz1,hz2⟩:=info_parts hi0
 have hmul:(n+1)*by_≤(n+1)*1000:=Nat.mul_le_mul_left _ hby
 obtain⟨v',w',hr,h2,h3,h4,h5⟩:=run_append_own_at (P:=Tryz.prog) w B T R E i0 Z sz by_ hu hi hz0 hz1 hz2 hZ hsz (.slice (some ⟨g,0,none⟩) n k) n xs hown ⟨b,0,none⟩ 1 1 news (by rw[hl,Nat.one_mul]) (by
  intro j u hj;have:=range_block hb j u hj
  rw[Addr.add_lit]
  exact this) h1 (by unfold maxLen;omega) (by omega) hB
 have hne:v'≠.slice none 0 0:=by
  intro e;obtain⟨e1,_⟩:=h4.1 e
  cases e1
 obtain⟨g',k',rfl,q1,q2,q3,q4⟩:=own_slice h2 hne
 refine⟨g',k',w',hr,h2,h3,?_,Nat.lt_of_lt_of_le (World.ownsRow.lt hown g rfl).2 h3.size,q1⟩
 rcases h5 with h|h
 ·left
  simpa[Value.ownBlock] using h
 ·right
  simpa[Value.ownBlock] using h
theorem app_rec {ops:Array Oper} {rest:List Oper} {o:Oper} {a:Act} {Q:Exit→Act→World→Prop} {w:World} (hgd:o.guard=none) (s x:Operand) (T E:TypeId) (Z:Value) (sz by_:Nat) (hi0:(Tryz.prog.info? E).map (fun i=>(i.zero,i.size,i.bytes))=some (some Z,sz,by_)) (hu:Tryz.prog.underlying T=some (.slice E)) (hZ:Z.cells.size=sz) (hsz:0<sz) (hby:by_≤1000)
  (ho:o.op = .call { callee:=.builtin .append,args:=#[s,x],argTypes:=#[T,T] })
  (B g n k:Nat) (xs:List Value) (hs:a.eval s = .slice (some ⟨g,0,none⟩) n k) (hown:w.ownsRow B E sz (.slice (some ⟨g,0,none⟩) n k) n xs) (b:Nat) (news:List Value) (hx:a.eval x = .slice (some ⟨b,0,none⟩) 1 1) (hl:news.length=sz) (hb:w.heap[b]?=some (.cells news.toArray E)) (h1:∀ u ∈ news,u.oneCell'=true) (hn:n≤100000000) (hB:B≤w.heap.size)
  (h:∀ g' k' w',w'.ownsRow B E sz (.slice (some ⟨g',0,none⟩) (n+1) k') (n+1) (xs++news)→w.grownBy w' (some g)→(g'=g∨g'=w.heap.size)→B≤g'→wpList Tryz.prog ops Q rest (a.put o.dst (.slice (some ⟨g',0,none⟩) (n+1) k')) w') :
  wpList Tryz.prog ops Q (o :: rest) a w:=by
 obtain⟨g',k',w',hr,h2,h3,h4,h5,h6⟩:=run_app T o.type E Z sz by_ hi0 hu hZ hsz hby B g n k xs hown b news hl hb h1 hn hB
 refine wpList_plain hgd fun K hK=>?_
 unfold Oper.wp execOp
 simp only[ho,resolve,invoke,builtin,Sem.run_bind,Sem.run_pure,Result.andThen_ok,List.map_toArray,List.map_cons,List.map_nil,hs,hx,hr]
 exact hK _ _ (h g' k' w' h2 h3 h4 h6)
theorem wp_app_rec {o:Oper} {a:Act} {K:Act→World→Prop} {Q:Exit→Act→World→Prop} {w:World} (s x:Operand) (T E:TypeId) (Z:Value) (sz by_:Nat) (hi0:(Tryz.prog.info? E).map (fun i=>(i.zero,i.size,i.bytes))=some (some Z,sz,by_)) (hu:Tryz.prog.underlying T=some (.slice E)) (hZ:Z.cells.size=sz) (hsz:0<sz) (hby:by_≤1000)
  (ho:o.op = .call { callee:=.builtin .append,args:=#[s,x],argTypes:=#[T,T] })
  (B g n k:Nat) (xs:List Value) (hs:a.eval s = .slice (some ⟨g,0,none⟩) n k) (hown:w.ownsRow B E sz (.slice (some ⟨g,0,none⟩) n k) n xs) (b:Nat) (news:List Value) (hx:a.eval x = .slice (some ⟨b,0,none⟩) 1 1) (hl:news.length=sz) (hb:w.heap[b]?=some (.cells news.toArray E)) (h1:∀ u ∈ news,u.oneCell'=true) (hn:n≤100000000) (hB:B≤w.heap.size)
  (h:∀ g' k' w',w'.ownsRow B E sz (.slice (some ⟨g',0,none⟩) (n+1) k') (n+1) (xs++news)→w.grownBy w' (some g)→(g'=g∨g'=w.heap.size)→B≤g'→K (a.put o.dst (.slice (some ⟨g',0,none⟩) (n+1) k')) w') :
  o.wp Tryz.prog a w K Q:=by
 obtain⟨g',k',w',hr,h2,h3,h4,h5,h6⟩:=run_app T o.type E Z sz by_ hi0 hu hZ hsz hby B g n k xs hown b news hl hb h1 hn hB
 unfold Oper.wp execOp
 simp only[ho,resolve,invoke,builtin,Sem.run_bind,Sem.run_pure,Result.andThen_ok,List.map_toArray,List.map_cons,List.map_nil,hs,hx,hr]
 exact h g' k' w' h2 h3 h4 h6
structure Rc (α:Type) where
 enc:α→List Value
 ld:α→List Nat
 gd:α→Nat
 kd:α→Nat
theorem flat_at {α:Type} (f:α→List Value) (sz:Nat) (hf:∀ p,(f p).length=sz):∀ (rs:List α) (j:Nat) (h:j<rs.length) (t:Nat),t<sz→(rs.flatMap f)[j*sz+t]?=(f rs[j])[t]?:=by
 intro rs;induction rs with
 | nil=>intro j h;exact absurd h (Nat.not_lt_zero _)
 | cons p rs ih=>
  intro j h t ht;rw[List.flatMap_cons]
  cases j with
  | zero=>rw[Nat.zero_mul,Nat.zero_add,List.getElem?_append_left (by rw[hf];exact ht)];rfl
  | succ j=>
   rw[List.getElem?_append_right (by rw[hf,Nat.succ_mul];omega),hf,show (j+1)*sz+t-sz=j*sz+t by rw[Nat.succ_mul];omega,ih j (by simpa using h) t ht]
   rfl
structure ownG {α:Type} (F:Rc α) (w:World) (B E sz g k:Nat) (rs:List α):Prop where
 own:w.ownsRow B E sz (.slice (some ⟨g,0,none⟩) rs.length k) rs.length (rs.flatMap F.enc)
 dat:∀ p ∈ rs,isBytes w (some ⟨F.gd p,0,none⟩) (F.ld p).length (F.kd p) (F.ld p)∧B≤F.gd p∧F.gd p≠g∧F.gd p<w.heap.size
theorem ownsRow_kept {w w':World} {B E sz g n k:Nat} {xs:List Value} (h:w.ownsRow B E sz (.slice (some ⟨g,0,none⟩) n k) n xs) (he:w'.heap[g]?=w.heap[g]?):w'.ownsRow B E sz (.slice (some ⟨g,0,none⟩) n k) n xs:=by
 refine⟨h.1,?_⟩
 rcases h.2 with⟨e,_⟩|⟨g1,cap,cur,hv',hb,hg,hcp,hmx,hsz,htk⟩
 ·cases e
 ·have e1:g1=g:=by cases hv';rfl
  subst e1;exact .inr ⟨g1,cap,cur,hv',hb,he.trans hg,hcp,hmx,hsz,htk⟩
theorem ownG.lt {α:Type} {F:Rc α} {w:World} {B E sz g k:Nat} {rs:List α} (h:ownG F w B E sz g k rs):B≤g∧g<w.heap.size:=World.ownsRow.lt h.own g rfl
theorem ownG.kept {α:Type} {F:Rc α} {w w':World} {B E sz g k:Nat} {rs:List α} (h:ownG F w B E sz g k rs) (he:∀ b,B≤b→b<w.heap.size→w'.heap[b]?=w.heap[b]?) (hz:w.heap.size≤w'.heap.size):ownG F w' B E sz g k rs:=by
 have hl:=h.lt
 refine⟨ownsRow_kept h.own (he g hl.1 hl.2),fun p hp=>?_⟩
 obtain⟨h1,h2,h3,h4⟩:=h.dat p hp
 exact⟨h1.other (he _ h2 h4),h2,h3,Nat.lt_of_lt_of_le h4 hz⟩
theorem ownG.below {α:Type} {F:Rc α} {w w':World} {B E sz g k:Nat} {rs:List α} (h:ownG F w B E sz g k rs) (hb:Below w.heap.size w w'):ownG F w' B E sz g k rs:=h.kept (fun b _ h2=>hb.block b h2) hb.size
theorem ownG.alloc {α:Type} {F:Rc α} {w:World} {B E sz g k:Nat} {rs:List α} (h:ownG F w B E sz g k rs) (o:Obj):ownG F (w.alloc o) B E sz g k rs:=h.kept (fun b _ h2=>Below.heap_alloc _ _ _ h2) (by simp)
theorem ownG.set {α:Type} {F:Rc α} {w:World} {B E sz g k:Nat} {rs:List α} (h:ownG F w B E sz g k rs) (b o:Nat) (hb:b<B) (vs:List Value):ownG F (w.setCells b o vs) B E sz g k rs:=h.kept (fun k hk _=>setCells_other b k (by omega) vs w o) (by rw[setCells_size];exact Nat.le_refl _)
theorem ownG.nil {α:Type} (F:Rc α) (w:World) (B E sz:Nat) (hB:B≤w.heap.size):ownG F (w.alloc (.cells #[] E)) B E sz w.heap.size 0 []:=
 ⟨World.ownsRow_made w #[] 0 hB (by decide) (by simp),fun p hp=>by cases hp⟩
theorem ownG.snoc {α:Type} {F:Rc α} {w w':World} {B E sz g k g' k':Nat} {rs:List α} (h:ownG F w B E sz g k rs) (p:α) (hd:isBytes w (some ⟨F.gd p,0,none⟩) (F.ld p).length (F.kd p) (F.ld p)) (h1:B≤F.gd p) (h2:F.gd p≠g) (h3:F.gd p<w.heap.size)
  (ho:w'.ownsRow B E sz (.slice (some ⟨g',0,none⟩) (rs.length+1) k') (rs.length+1) (rs.flatMap F.enc++F.enc p)) (hg:w.grownBy w' (some g)) (hg':g'=g∨g'=w.heap.size):ownG F w' B E sz g' k' (rs++[p]):=by
 refine⟨?_,fun q hq=>?_⟩
 ·have e1:(rs++[p]).length=rs.length+1:=by simp
  have e2:(rs++[p]).flatMap F.enc=rs.flatMap F.enc++F.enc p:=by simp
  rw[e1,e2]
  exact ho
 ·have key:isBytes w (some ⟨F.gd q,0,none⟩) (F.ld q).length (F.kd q) (F.ld q)∧B≤F.gd q∧F.gd q≠g∧F.gd q<w.heap.size:=by
   rcases List.mem_append.1 hq with hq|hq
   ·exact h.dat q hq
   ·have e:q=p:=by simpa using hq
    subst e;exact⟨hd,h1,h2,h3⟩
  obtain⟨k1,k2,k3,k4⟩:=key
  refine⟨k1.other (hg.block _ k4 (by intro e;exact k3 (Option.some.inj e))),k2,?_,Nat.lt_of_lt_of_le k4 hg.size⟩
  rcases hg' with rfl|rfl
  ·exact k3
  ·omega
def rc8:Rc (R8 × Nat × Nat):=⟨fun p=>[.int .i64 p.1.x,.int .i64 p.1.y,.int .i64 p.1.z,.bool p.1.e,.int .u32 (p.1.i:Int),.bool p.1.r,.int .i64 p.1.d,.slice (some ⟨p.2.1,0,none⟩) p.1.l.length p.2.2],fun p=>p.1.l,fun p=>p.2.1,fun p=>p.2.2⟩
def rc5:Rc (R5 × Nat × Nat):=⟨fun p=>[.bool p.1.e,.int .u32 (p.1.i:Int),.bool p.1.r,.int .i64 p.1.d,.slice (some ⟨p.2.1,0,none⟩) p.1.l.length p.2.2],fun p=>p.1.l,fun p=>p.2.1,fun p=>p.2.2⟩
theorem ownG.r8 {w:World} {B E g k:Nat} {rs:List (R8 × Nat × Nat)} (h:ownG rc8 w B E 8 g k rs):St B w (fun W=>isR8s W (some ⟨g,0,none⟩) rs.length k (rs.map (·.1))):=by
 intro W hW;have hl:=h.lt
 have hwW:=fun b hb1 hb2=>hW b hb1 hb2
 obtain⟨g1,c1,e1,q1,q2,q3,q4⟩:=own_slice h.own (by intro e;cases e)
 cases e1
 refine⟨by simp,q3,fun _=>⟨g,0,rfl,fun j hj=>?_⟩⟩
 have hj':j<rs.length:=by simpa using hj
 obtain⟨d1,d2,d3,d4⟩:=h.dat rs[j] (List.getElem_mem hj')
 have hc:∀ t,t<8→W.cell? ⟨g,j*8+t,none⟩=(rc8.enc rs[j])[t]?:=fun t ht=>by
  rw[q4 W (hW g hl.1 hl.2) (j*8+t) (by omega),flat_at rc8.enc 8 (fun _=>rfl) rs j hj' t ht]
 rw[Nat.zero_add,List.getElem_map]
 exact⟨_,_,_,hc 0 (by omega),hc 1 (by omega),hc 2 (by omega),hc 3 (by omega),hc 4 (by omega),hc 5 (by omega),hc 6 (by omega),hc 7 (by omega),d1.other (hW _ d2 d4)⟩
theorem ownG.r5 {w:World} {B E g k:Nat} {rs:List (R5 × Nat × Nat)} (h:ownG rc5 w B E 5 g k rs):St B w (fun W=>isR5s W (some ⟨g,0,none⟩) rs.length k (rs.map (·.1))):=by
 intro W hW;have hl:=h.lt
 obtain⟨g1,c1,e1,q1,q2,q3,q4⟩:=own_slice h.own (by intro e;cases e)
 cases e1
 refine⟨by simp,q3,fun _=>⟨g,0,rfl,fun j hj=>?_⟩⟩
 have hj':j<rs.length:=by simpa using hj
 obtain⟨d1,d2,d3,d4⟩:=h.dat rs[j] (List.getElem_mem hj')
 have hc:∀ t,t<5→W.cell? ⟨g,j*5+t,none⟩=(rc5.enc rs[j])[t]?:=fun t ht=>by
  rw[q4 W (hW g hl.1 hl.2) (j*5+t) (by omega),flat_at rc5.enc 5 (fun _=>rfl) rs j hj' t ht]
 rw[Nat.zero_add,List.getElem_map]
 exact⟨_,_,_,hc 0 (by omega),hc 1 (by omega),hc 2 (by omega),hc 3 (by omega),hc 4 (by omega),d1.other (hW _ d2 d4)⟩
theorem at8.range {w:World} {g o:Nat} {b:R8} {ao:Option Addr} {m c:Nat} (h:at8 w g o b ao m c):w.rangeAt g o [.int .i64 b.x,.int .i64 b.y,.int .i64 b.z,.bool b.e,.int .u32 (b.i:Int),.bool b.r,.int .i64 b.d,.slice ao m c]:=by
 intro j v hv;match j,hv with
 | 0,hv=>cases hv;exact h.c0
 | 1,hv=>cases hv;exact h.c1
 | 2,hv=>cases hv;exact h.c2
 | 3,hv=>cases hv;exact h.c3
 | 4,hv=>cases hv;exact h.c4
 | 5,hv=>cases hv;exact h.c5
 | 6,hv=>cases hv;exact h.c6
 | 7,hv=>cases hv;exact h.cs
theorem at5.range {w:World} {g o:Nat} {b:R5} {ao:Option Addr} {m c:Nat} (h:at5 w g o b ao m c):w.rangeAt g o [.bool b.e,.int .u32 (b.i:Int),.bool b.r,.int .i64 b.d,.slice ao m c]:=by
 intro j v hv;match j,hv with
 | 0,hv=>cases hv;exact h.c0
 | 1,hv=>cases hv;exact h.c1
 | 2,hv=>cases hv;exact h.c2
 | 3,hv=>cases hv;exact h.c3
 | 4,hv=>cases hv;exact h.cs
theorem at3.range {w:World} {g o:Nat} {b:R3} (h:at3 w g o b):w.rangeAt g o [.bool b.e,.int .u32 b.m,.int .u32 b.k]:=by
 intro j v hv;match j,hv with
 | 0,hv=>cases hv;exact h.c0
 | 1,hv=>cases hv;exact h.c1
 | 2,hv=>cases hv;exact h.c2
theorem blk.loadAt {w:World} {b:Nat} (pre mid post:List Value) {T:TypeId} (h:blk w b (pre++mid++post) T):w.rangeAt b pre.length mid:=by
 intro j v hv;have hj:j<mid.length:=(List.getElem?_eq_some_iff.1 hv).1
 refine h.cell _ _ ?_
 rw[List.append_assoc,List.getElem?_append_right (by omega),Nat.add_sub_cancel_left,List.getElem?_append_left hj]
 exact hv
theorem one8L (x y z:Int) (e:Bool) (i:Int) (r:Bool) (d:Int) (a:Option Addr) (n c:Nat):∀ u ∈ [Value.int .i64 x,.int .i64 y,.int .i64 z,.bool e,.int .u32 i,.bool r,.int .i64 d,.slice a n c],u.oneCell'=true:=by
 intro u hu;simp only[List.mem_cons,List.not_mem_nil,or_false] at hu
 rcases hu with rfl | rfl | rfl | rfl | rfl | rfl | rfl | rfl <;> rfl
theorem take8 {bs:List R8} {rs:List (R8 × Nat × Nat)} {k:Nat} (h:rs.map (·.1)=bs.take k) (hk:k<bs.length) (p:R8 × Nat × Nat) (hp:p.1=bs[k]):(rs++[p]).map (·.1)=bs.take (k+1):=by
 rw[List.map_append,h,List.take_succ_eq_append_getElem hk,List.map_cons,List.map_nil,hp]
theorem take8_len {bs:List R8} {rs:List (R8 × Nat × Nat)} {k:Nat} (h:rs.map (·.1)=bs.take k) (hk:k≤bs.length):rs.length=k:=by
 have:=congrArg List.length h
 rw[List.length_map,List.length_take] at this
 omega
set_option maxHeartbeats 4000000 in
set_option maxRecDepth 20000 in
theorem l3copyEvents_any (w:World) (a:Option Addr) (n cap:Nat) (bs:List R8) (h:isR8s w a n cap bs) (hn:n≤1048576) (hd:∀ j (h:j<bs.length),bs[j].l.length≤1048576) :
  Calls Tryz.prog 81 #[.slice a n cap] w fun o w'=>∃ g k,o = .returned (.slice (some ⟨g,0,none⟩) n k)∧(w.heap.size≤g∧g<w'.heap.size∧St w.heap.size w' (fun W=>isR8s W (some ⟨g,0,none⟩) n k bs))∧Below w.heap.size w w':=by
 have HH:Hid (isR8s w a n cap bs):=h
 have HL:Hid (n=bs.length):=h.len
 have hcp:=h.cap
 have HD:Hid (∀ j (h:j<bs.length),bs[j].l.length≤1048576):=hd
 clear h hd;go_enter Tryz.func81,Tryz.ntmps81
 go_wp2_with fail;have hown:=ownG.nil rc8 w w.heap.size 46 8 (Nat.le_refl _)
 go_loopw [3,4] (fun v t wr=>∃ k g kc rs,k≤n∧v = .slice (some ⟨g,0,none⟩) k kc∧t = .int .i64 (k:Int)∧ownG rc8 wr w.heap.size 46 8 g kc rs∧rs.map (·.1)=bs.take k∧Below w.heap.size w wr) (fun _ t _=>n-(intOf t).toNat)
 case atStart=>exact⟨0,_,0,[],Nat.zero_le _,rfl,rfl,hown,by simp,(Below.refl _ _).alloc (Nat.le_refl _) _⟩
 case round=>
  clear hown;obtain⟨k,g,kc,rs,hk,rfl,rfl,ho,hm,hb⟩:=hrel
  by_cases hlt:k<n
  ·have hkl:k<bs.length:=by have:=HL.out;omega
   obtain⟨g0,o0,rfl,hc⟩:=HH.out.cells (by intro e;rw[e] at hkl;exact absurd hkl (Nat.not_lt_zero _))
   obtain⟨ao,m,c,hat⟩:=hc k hkl
   have HM:Hid (m=bs[k].l.length):=hat.dat.len
   have HRG:=(at8.below hat hb).range
   have HDT:Hid (isBytes wr ao m c bs[k].l):=hat.dat.below hb
   have HMM:Hid (m≤1048576):=by show _≤_;rw[HM.out];exact HD.out k hkl
   have HTK:Hid (∀ gd kd:Nat,List.map (fun p:R8 × Nat × Nat=>p.1) (rs++[(bs[k],gd,kd)])=bs.take (k+1)):=fun gd kd=>take8 hm hkl (bs[k],gd,kd) rfl
   have HLN:Hid (rs.length=k):=take8_len hm (by omega)
   have HEN:Hid (∀ gd kd,rc8.enc (bs[k],gd,kd)=[.int .i64 bs[k].x,.int .i64 bs[k].y,.int .i64 bs[k].z,.bool bs[k].e,.int .u32 (bs[k].i:Int),.bool bs[k].r,.int .i64 bs[k].d,.slice (some ⟨gd,0,none⟩) m kd]):=fun gd kd=>by show _=_;rw[HM.out];rfl
   clear hc hat hm;generalize bs[k]=bk at *;obtain⟨x,y,z,e,i,r,d,l⟩:=bk
   simp only[] at HRG HEN HDT HM
   have HRG:Hid (wr.rangeAt g0 (o0+k*8) [.int .i64 x,.int .i64 y,.int .i64 z,.bool e,.int .u32 (i:Int),.bool r,.int .i64 d,.slice ao m c]):=HRG
   have HO:Hid (ownG rc8 wr w.heap.size 46 8 g kc rs):=ho
   have HB:Hid (Below w.heap.size w wr):=hb
   have HAL:Hid (blk (wr.alloc (.cells [.int .i64 0,.int .i64 0,.int .i64 0,.bool false,.int .u32 0,.bool false,.int .i64 0,.slice none 0 0].toArray 46)) wr.heap.size ([]++[.int .i64 0,.int .i64 0,.int .i64 0,.bool false,.int .u32 0,.bool false,.int .i64 0,.slice none 0 0]++[]) 46):=blk.new wr _ 46
   clear ho hb;go_wp2_with (first
    | (refine wpList_load_mid (P:=Tryz.prog) rfl 46 (.tmp 15) rfl g0 (o0+k*8) rfl _ _ HRG.out Tryz.underlying46 rfl sz129 ?_)
    | (refine wpList_store_mid (P:=Tryz.prog) rfl 46 (.tmp 5) (.tmp 16) rfl wr.heap.size 0 _ rfl rfl (HAL.out.there 0 8 (by simp)) sz129 (one8 _ _ _ _ _ _ _ _ _ _) ?_;generalize hW2:World.setCells (wr.alloc _) wr.heap.size 0 _=w2;have HP2:Hid (blk w2 wr.heap.size ([.int .i64 x,.int .i64 y,.int .i64 z]++[.bool e,.int .u32 (i:Int),.bool r,.int .i64 d,.slice ao m c]++[]) 46):=(hW2 ▸ blk.put [] _ [] [.int .i64 x,.int .i64 y,.int .i64 z,.bool e,.int .u32 (i:Int),.bool r,.int .i64 d,.slice ao m c] HAL.out rfl);have HB2:Hid (Below wr.heap.size wr w2):=(hW2 ▸ setCells_below (Nat.le_refl _) _ _ ((Below.refl _ _).alloc (Nat.le_refl _) _));have HS2:Hid (w2.heap.size=wr.heap.size+1):=(by show _=_;rw[← hW2,setCells_size];simp);clear hW2)
    | (refine wpList_load_mid (P:=Tryz.prog) rfl 25 (.tmp 17) rfl wr.heap.size 3 rfl [.bool e,.int .u32 (i:Int),.bool r,.int .i64 d,.slice ao m c] _ (blk.loadAt [.int .i64 x,.int .i64 y,.int .i64 z] [.bool e,.int .u32 (i:Int),.bool r,.int .i64 d,.slice ao m c] [] HP2.out) Tryz.underlying25 rfl sz93 ?_)
    | (go_at_call 136;refine (l1copyFrame_any w2 e i r d ao m c l (HDT.out.below HB2.out) HMM.out).mono ?_;rintro o w3 ⟨gd,kd,rfl,⟨q1,q2,q3,q4⟩,hb3⟩;have HQ3:Hid (w2.heap.size+2≤gd∧gd<w3.heap.size∧St (w2.heap.size+2) w3 (fun W=>isBytes W (some ⟨gd,0,none⟩) m kd l)):=⟨q4,q2,q3⟩;have HP3:Hid (blk w3 wr.heap.size ([.int .i64 x,.int .i64 y,.int .i64 z]++[.bool e,.int .u32 (i:Int),.bool r,.int .i64 d,.slice ao m c]++[]) 46):=HP2.out.below hb3;have HB3:Hid (Below wr.heap.size wr w3):=HB2.out.trans (hb3.mono HB2.out.size);clear q1 q2 q3 q4 hb3)
    | (refine wpList_store_mid (P:=Tryz.prog) rfl 25 (.tmp 20) (.tmp 19) rfl wr.heap.size 3 _ rfl rfl (HP3.out.there 3 5 (by simp)) sz93 (one5 _ _ _ _ _ _ _) ?_;generalize hW4:World.setCells w3 wr.heap.size 3 _=w4;have HP4:Hid (blk w4 wr.heap.size [.int .i64 x,.int .i64 y,.int .i64 z,.bool e,.int .u32 (i:Int),.bool r,.int .i64 d,.slice (some ⟨gd,0,none⟩) m kd] 46):=(hW4 ▸ blk.put [.int .i64 x,.int .i64 y,.int .i64 z] [.bool e,.int .u32 (i:Int),.bool r,.int .i64 d,.slice ao m c] [] [.bool e,.int .u32 (i:Int),.bool r,.int .i64 d,.slice (some ⟨gd,0,none⟩) m kd] HP3.out rfl);have HB4:Hid (Below wr.heap.size wr w4):=(hW4 ▸ setCells_below (Nat.le_refl _) _ _ HB3.out);have HQ4:Hid (wr.heap.size<gd∧gd<w4.heap.size∧isBytes w4 (some ⟨gd,0,none⟩) m kd l):=(by show _∧_;have h2:=HS2.out;obtain⟨h3,h4,h5⟩:=HQ3.out;refine⟨by omega,by rw[← hW4,setCells_size];exact h4,?_⟩;rw[← hW4];exact (h5.setCells _ _ (by omega) _).now);clear hW4)
    | (refine wpList_load_mid (P:=Tryz.prog) rfl 46 (.tmp 5) rfl wr.heap.size 0 rfl [.int .i64 x,.int .i64 y,.int .i64 z,.bool e,.int .u32 (i:Int),.bool r,.int .i64 d,.slice (some ⟨gd,0,none⟩) m kd] _ HP4.out.load Tryz.underlying46 rfl sz129 ?_)
    | (at_builtin;refine app_rec (w:=w4.alloc (.cells #[.int .i64 x,.int .i64 y,.int .i64 z,.bool e,.int .u32 (i:Int),.bool r,.int .i64 d,.slice (some ⟨gd,0,none⟩) m kd] 46)) rfl (.tmp 21) (.tmp 23) 33 46 _ 8 72 Tryz.info46 Tryz.underlying33 rfl (by decide) (by decide) rfl w.heap.size g k kc (rs.flatMap rc8.enc) rfl (by have:=((HO.out.below HB4.out).alloc (.cells #[.int .i64 x,.int .i64 y,.int .i64 z,.bool e,.int .u32 (i:Int),.bool r,.int .i64 d,.slice (some ⟨gd,0,none⟩) m kd] 46)).own;rw[HLN.out] at this;exact this) w4.heap.size [.int .i64 x,.int .i64 y,.int .i64 z,.bool e,.int .u32 (i:Int),.bool r,.int .i64 d,.slice (some ⟨gd,0,none⟩) m kd] rfl rfl (blk.new w4 _ 46) (one8L _ _ _ _ _ _ _ _ _ _) (by omega) (by have:=HB.out.size;have:=HB4.out.size;simp;omega) ?_;intro g' k' w6 ho6 hg6 hg' hB6))
   go_roundw
   case rel=>
    obtain⟨h1,h2,h3⟩:=HQ4.out
    have hO4:=(HO.out.below HB4.out).alloc (.cells #[.int .i64 x,.int .i64 y,.int .i64 z,.bool e,.int .u32 (i:Int),.bool r,.int .i64 d,.slice (some ⟨gd,0,none⟩) m kd] 46)
    have hgl:=HO.out.lt
    have hml:=HM.out
    refine⟨k+1,g',k',rs++[(⟨x,y,z,e,i,r,d,l⟩,gd,kd)],by omega,rfl,by go_num,?_,HTK.out gd kd,?_⟩
    ·refine hO4.snoc (⟨x,y,z,e,i,r,d,l⟩,gd,kd) ?_ ?_ ?_ ?_ ?_ hg6 hg'
     ·show isBytes _ (some ⟨gd,0,none⟩) l.length kd l
      rw[← hml]
      exact h3.below ((Below.refl _ _).alloc (Nat.le_refl _) _)
     ·show w.heap.size≤gd
      omega
     ·show gd≠g
      omega
     ·show gd<_
      simp
      omega
     ·rw[HEN.out,HLN.out]
      exact ho6
    ·have hbb:=HB.out.trans (HB4.out.mono HB.out.size)
     refine (hbb.alloc hbb.size _).grown hg6 (by have:=hbb.size;simp;omega) ?_
     intro k0 hk0;have:k0=g:=by simpa using hk0.symm
     omega
   case measure=>simp[intOf];omega
  ·have hkn:k=n:=by omega
   subst hkn;have hln:=take8_len hm (by have:=HL.out;omega)
   rw[List.take_of_length_le (by have:=HL.out;omega)] at hm
   have HQ:Hid (w.heap.size≤g∧g<wr.heap.size∧St w.heap.size wr (fun W=>isR8s W (some ⟨g,0,none⟩) k kc bs)):=by
    have:=ho.r8
    rw[hm,hln] at this
    exact⟨ho.lt.1,ho.lt.2,this⟩
   clear ho hm hln;go_wp2
   go_ret;exact⟨g,kc,rfl,HQ.out,hb⟩
end Go.Proofs.YtaamahohdnbpiaaGreat
