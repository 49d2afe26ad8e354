import Derived.Test.YtkfcfigbgmbaiaaGreatK17
import Derived.Test.YtkfcfigbgmbaiaaGreatK12
import Derived.Maps.Own
namespace Go.Proofs.YtkfcfigbgmbaiaaGreat
set_option maxRecDepth 20000
open Go.RowKit
set_option linter.unusedVariables false
set_option maxHeartbeats 16000000
open Go.Value renaming int→I,slice→sL,bool→bO,pointer→pT,agg→aG
open Go.IntKind renaming i64→J
open Go.Ending renaming returned→rT
open Go.Proofs.Tryz renaming prog→Tp
variable {mb P k g gf n1 kf gb n2 kb gr r1 gq r3 PH:Nat} {w0 W W':World} {bx qu:List R8} {L HL:List Value} {p:World→Prop} {fs:List R3} {hs:Nat→Hd} {ff:List R5}
structure own (w0:World) (P mb g:Nat) (p:World→Prop) (W:World):Prop where
 lt:g<W.heap.size
 n1:g≠P
 n2:g≠mb
 k:∀ W',W'.heap[g]?=W.heap[g]?→Below w0.heap.size w0 W'→p W'
theorem own.step (h:own w0 P mb g p W) (e:W'.heap[g]?=W.heap[g]?) (hs:W.heap.size≤W'.heap.size):own w0 P mb g p W':=⟨nL h.lt hs,h.n1,h.n2,fun W2 h2=>h.k W2 (h2.trans e)⟩
theorem own.below (h:own w0 P mb g p W) (hb:Below W.heap.size W W'):own w0 P mb g p W':=h.step (hb.block _ h.lt) hb.size
theorem own.put (h:own w0 P mb g p W) (o:Nat) (vs:List Value):own w0 P mb g p (W.setCells P o vs):=h.step (sO P g h.n1 vs W o) (by rw[sZ];exact nR _)
theorem clone3_any (w:World) (g n cap:Nat) (bs:List R3) (h:isR3s w (some ⟨g,0,none⟩) n cap bs) (hn:n≤1048576) :
  Calls Tp 177 #[sL (some ⟨g,0,none⟩) n cap] w fun e w'=>∃ g' cap',e = rT (sL (some ⟨g',0,none⟩) n cap')∧w.heap.size≤g'∧g'<w'.heap.size∧(∀ W,W.heap[g']?=w'.heap[g']?→isR3s W (some ⟨g',0,none⟩) n cap' bs)∧Below w.heap.size w w':=by
 refine (clone_any w g n cap bs h hn).mono ?_
 rintro e w' ⟨v',rfl,ho,hv,hbw⟩;rcases ho.2 with⟨e,_⟩|⟨g',cap',cur,hv',hb,hg,hcp,hmx,hsz,htk⟩
 ·exact absurd e hv
 ·have hcur:∀ t,t<n*3→cur[t]?=(c3 bs)[t]?:=by
   intro t ht;rw[← htk,List.getElem?_take_of_lt ht,Array.getElem?_toList]
  have hcell:∀ W:World,W.heap[g']?=w'.heap[g']?→∀ t,t<n*3→W.cell? ⟨g',t,none⟩=(c3 bs)[t]?:=by
   intro W hW t ht;have e:W.heap[g']?=some (.cells cur 164 (0,0)):=hW.trans hg
   rw[← hcur t ht]
   simp[World.cell?,e]
  have hln:=h.len
  refine⟨g',cap',by rw[hv'],hb,lt_of_some hg,fun W hW=>⟨h.len,hcp,fun hne=>⟨g',0,rfl,fun j hj=>?_⟩⟩,hbw⟩
  obtain⟨y0,y1,y2⟩:=c3_at bs j hj
  exact⟨(by rw[Nat.zero_add];exact (hcell W hW _ (by omega)).trans y0),(by rw[Nat.zero_add];exact (hcell W hW _ (by omega)).trans y1),(by rw[Nat.zero_add];exact (hcell W hW _ (by omega)).trans y2)⟩
structure suS (w0:World) (P mb PH:Nat) (L HL:List Value) (W:World):Prop where
 p:blk W P L 157
 q:blk W PH HL 39
 m:W.heap[mb]?=some (.map #[] 0)
 b:Below w0.heap.size w0 W
 n1:w0.heap.size≤P
 n3:PH≠P
 n4:mb≠P
theorem suS.below (h:suS w0 P mb PH L HL W) (hb:Below W.heap.size W W'):suS w0 P mb PH L HL W':=⟨h.p.below hb,h.q.below hb,(hb.block _ (lt_of_some h.m)).trans h.m,h.b.trans (hb.mono h.b.size),h.n1,h.n3,h.n4⟩
theorem suS.put (pre old post vs:List Value) (h:suS w0 P mb PH (pre++old++post) HL W) (hl:old.length=vs.length):suS w0 P mb PH (pre++vs++post) HL (W.setCells P pre.length vs):=⟨h.p.put pre old post vs hl,h.q.other h.n3 _ _,(sO P mb h.n4 vs W _).trans h.m,sW h.n1 _ _ h.b,h.n1,h.n3,h.n4⟩
theorem wf_small {a:Int} (h0:0≤a) (h1:a≤10000):(Lit.int .i64 a).wf=true:=by
 have e1:IntKind.i64.min = -9223372036854775808:=by decide
 have e2:IntKind.i64.max=9223372036854775807:=by decide
 simp only[Lit.wf,e1,e2,Bool.and_eq_true,decide_eq_true_eq]
 omega
def tagsD (H:Type) (bx:List R8):Nat→DataW H
 | 0=>.map []
 | k+1=>if h:k<bx.length then (if bx[k].x=0 then tagsD H bx k else (tagsD H bx k).put (.int .i64 bx[k].y) (.lit (.int .i64 (k:Int)))) else tagsD H bx k
theorem tagsD_skip {H:Type} (h:k<bx.length) (hx:bx[k].x=0):tagsD H bx (k+1)=tagsD H bx k:=by rw[tagsD,dif_pos h,if_pos hx]
theorem tagsD_put {H:Type} (h:k<bx.length) (hx:bx[k].x≠0):tagsD H bx (k+1)=(tagsD H bx k).put (.int .i64 bx[k].y) (.lit (.int .i64 (k:Int))):=by rw[tagsD,dif_pos h,if_neg hx]
structure lvS (H:Type) (w0:World) (P mb:Nat) (L:List Value) (gf n1 kf:Nat) (fs:List R3) (gb n2 kb:Nat) (bx:List R8) (hs:Nat→Hd) (gr r1:Nat) (ff:List R5) (gq r3:Nat) (qu:List R8) (k:Nat) (W:World):Prop where
 p:blk W P L 157
 f:own w0 P mb gf (fun W=>isR3s W (some ⟨gf,0,none⟩) n1 kf fs) W
 x:own w0 P mb gb (fun W=>dr8 w0 0 gb n2 bx hs 0 W∧n2≤kb) W
 m:W.ownsMap (H:=H) Tp 3 (plainElem Tp 3) mb k (tagsD H bx k)
 b:Below w0.heap.size w0 W
 n1:mb≠P
 n2:w0.heap.size≤mb
 r:own w0 P mb gr (fun W=>ring5 w0 W gr r1 0 ff∧rowZ W gr (r1*5)) W
 q:own w0 P mb gq (fun W=>ring8 w0 W gq r3 0 qu∧rowZ W gq (r3*8)) W
 d:gf<gb∧gb<gr∧gr<gq
 lo:w0.heap.size≤gf∧w0.heap.size≤P
theorem lvS.below {H:Type} (h:lvS H w0 P mb L gf n1 kf fs gb n2 kb bx hs gr r1 ff gq r3 qu k W) (hb:Below W.heap.size W W'):lvS H w0 P mb L gf n1 kf fs gb n2 kb bx hs gr r1 ff gq r3 qu k W':=
 ⟨h.p.below hb,h.f.below hb,h.x.below hb,h.m.kept (row:=none) ⟨hb.os,hb.tape,hb.output,hb.size,fun k hk _=>hb.block k hk⟩ (by simp),h.b.trans (hb.mono h.b.size),h.n1,h.n2,h.r.below hb,h.q.below hb,h.d,h.lo⟩
theorem lvS.next {H:Type} {k':Nat} (h:lvS H w0 P mb L gf n1 kf fs gb n2 kb bx hs gr r1 ff gq r3 qu k W) (hg:W.grownBy W' (some mb)) (hm:W'.ownsMap (H:=H) Tp 3 (plainElem Tp 3) mb k' (tagsD H bx k')):lvS H w0 P mb L gf n1 kf fs gb n2 kb bx hs gr r1 ff gq r3 qu k' W':=
 ⟨h.p.kept (hg.block _ h.p.lt (by simpa using fun e=>h.n1 e.symm)),h.f.step (hg.block _ h.f.lt (by simpa using h.f.n2)) hg.size,h.x.step (hg.block _ h.x.lt (by simpa using h.x.n2)) hg.size,hm,h.b.grown hg h.b.size (fun k hk=>by cases hk;exact h.n2),h.n1,h.n2,h.r.step (hg.block _ h.r.lt (by simpa using h.r.n2)) hg.size,h.q.step (hg.block _ h.q.lt (by simpa using h.q.n2)) hg.size,h.d,h.lo⟩
theorem lvS.skip {H:Type} (h:lvS H w0 P mb L gf n1 kf fs gb n2 kb bx hs gr r1 ff gq r3 qu k W) (hk:k<bx.length) (hx:bx[k].x=0):lvS H w0 P mb L gf n1 kf fs gb n2 kb bx hs gr r1 ff gq r3 qu (k+1) W:=
 ⟨h.p,h.f,h.x,by rw[tagsD_skip hk hx];exact h.m.mono (Nat.le_succ _),h.b,h.n1,h.n2,h.r,h.q,h.d,h.lo⟩
theorem clear_same {w:World} (h:w.heap[mb]?=some (.map #[] 0)) (ty:TypeId):(Builtin.clear_ #[151] ty #[.map (some mb)]).run Tp w = .ok (.tuple #[]) w:=by
 have e:w.heap.setIfInBounds mb (.map #[] 0)=w.heap:=by
  apply Array.ext_getElem?
  intro i;rw[Array.getElem?_setIfInBounds]
  split
  ·rename_i hi
   subst hi;simp[lt_of_some h]
   exact (Array.getElem?_eq_some_iff.1 h).2.symm
  ·rfl
 simp[Builtin.clear_,run_underlying Tryz.underlying151,MapKept.run_getObj_map h,MapKept.run_setObj_map _ h,Result.andThen]
 rw[e]
theorem setUp_any (H:Type) (w0 w:World) (P mb:Nat) (c0 c2:Int) (r1 r3:Nat) (fs:List R3) (bx:List R8) (ff:List R5) (qu:List R8) (lo st:Int) (g1 n1 k1 g2 o2 n2 k2:Nat) (a3:Option Addr) (n3 k3:Nat) (a4:Option Addr) (n4 k4:Nat) (h1:isR3s w0 (some ⟨g1,0,none⟩) n1 k1 fs) (h2:isR8s w0 (some ⟨g2,o2,none⟩) n2 k2 bx) (h3:isR5s w0 a3 n3 k3 ff) (h4:isR8s w0 a4 n4 k4 qu) (m1:n1≤1048576) (m2:n2≤8) (hc1:1≤r1∧r1≤1000∧n3≤r1) (hc3:1≤r3∧r3≤1000∧n4≤r3) (hok:okBxs st bx) (hsm:∀ j (h:j<bx.length),bx[j].l.length≤1048576) (hmb0:w0.heap.size≤mb) (hb0:Below w0.heap.size w0 w) (hP:blk w P [I J 0,I J 0,I J 0,I J 0,sL none 0 0,sL none 0 0,.map (some mb),sL none 0 0,I J 0,I J 0,sL none 0 0,I J 0,I J 0,I J 0,I J 0] 157) (hm:w.heap[mb]?=some (.map #[] 0)) (hP0:w0.heap.size≤P) (hne:mb≠P) :
  Calls Tp 176 #[pT (some ⟨P,0,none⟩),aG #[I J c0,I J (r1:Int),I J c2,I J (r3:Int),sL (some ⟨g1,0,none⟩) n1 k1,sL (some ⟨g2,o2,none⟩) n2 k2,sL a3 n3 k3,sL a4 n4 k4,I J lo,I J st]] w fun o w'=>∃ gf kf gb kb hs gr gq,o = rT (.tuple #[])∧lvS H w0 P mb [I J c0,I J (r1:Int),I J c2,I J (r3:Int),sL (some ⟨gf,0,none⟩) n1 kf,sL (some ⟨gb,0,none⟩) n2 kb,.map (some mb),sL (some ⟨gr,0,none⟩) r1 r1,I J 0,I J (n3:Int),sL (some ⟨gq,0,none⟩) r3 r3,I J 0,I J (n4:Int),I J lo,I J st] gf n1 kf fs gb n2 kb bx hs gr r1 ff gq r3 qu n2 w':=by
 have HLN:Hid (n2=bx.length):=h2.len
 have HOK:Hid (okBxs st bx):=hok
 clear hok;have HU:Hid (suS w0 P mb w.heap.size [I J 0,I J 0,I J 0,I J 0,sL none 0 0,sL none 0 0,.map (some mb),sL none 0 0,I J 0,I J 0,sL none 0 0,I J 0,I J 0,I J 0,I J 0] [I J c0,I J (r1:Int),I J c2,I J (r3:Int),sL (some ⟨g1,0,none⟩) n1 k1,sL (some ⟨g2,o2,none⟩) n2 k2,sL a3 n3 k3,sL a4 n4 k4,I J lo,I J st] (w.alloc (.cells #[I J c0,I J (r1:Int),I J c2,I J (r3:Int),sL (some ⟨g1,0,none⟩) n1 k1,sL (some ⟨g2,o2,none⟩) n2 k2,sL a3 n3 k3,sL a4 n4 k4,I J lo,I J st] 39))):=⟨hP.alloc _,blk.new w _ 39,(Below.heap_alloc _ _ _ (lt_of_some hm)).trans hm,hb0.alloc hb0.size _,hP0,fun e=>absurd hP.lt (by omega),hne⟩
 clear hP hm hP0 hne hb0;have HC1:Hid (∀ W,Below w0.heap.size w0 W→Calls Tp 177 #[sL (some ⟨g1,0,none⟩) n1 k1] W fun e w'=>∃ g' cap',e = rT (sL (some ⟨g',0,none⟩) n1 cap')∧W.heap.size≤g'∧g'<w'.heap.size∧(∀ W,W.heap[g']?=w'.heap[g']?→isR3s W (some ⟨g',0,none⟩) n1 cap' fs)∧Below W.heap.size W w'):=fun W hW=>clone3_any W g1 n1 k1 fs (h1.below hW) m1
 have HC2:Hid (∀ W,Below w0.heap.size w0 W→Calls Tp 178 #[sL (some ⟨g2,o2,none⟩) n2 k2] W fun e w'=>∃ g' cap' hs,e = rT (sL (some ⟨g',0,none⟩) n2 cap')∧W.heap.size≤g'∧n2≤cap'∧dr8 w0 0 g' n2 bx hs 0 w'∧Below W.heap.size W w'):=fun W hW=>clone8_dr w0 W g2 o2 n2 k2 bx h2 hW (by omega) hsm
 have HR5:Hid (∀ W,Below w0.heap.size w0 W→Calls Tp 212 #[I J (r1:Int),sL a3 n3 k3] W fun o w'=>∃ gs,o = rT (aG #[sL (some ⟨gs,0,none⟩) r1 r1,I J 0,I J (n3:Int)])∧W.heap.size≤gs∧gs<w'.heap.size∧rowZ w' gs (r1*5)∧ring5 w0 w' gs r1 0 ff∧Below W.heap.size W w'):=fun W hW=>(newRing5_any w0 W hW r1 ff a3 n3 k3 h3 hc1.1 hc1.2.1 hc1.2.2)
 have HR8:Hid (∀ W,Below w0.heap.size w0 W→Calls Tp 213 #[I J (r3:Int),sL a4 n4 k4] W fun o w'=>∃ gs,o = rT (aG #[sL (some ⟨gs,0,none⟩) r3 r3,I J 0,I J (n4:Int)])∧W.heap.size≤gs∧gs<w'.heap.size∧rowZ w' gs (r3*8)∧ring8 w0 w' gs r3 0 qu∧Below W.heap.size W w'):=fun W hW=>(newRing8_any w0 W hW r3 qu a4 n4 k4 h4 hc3.1 hc3.2.1 hc3.2.2)
 clear h1 h2 h3 h4 hc1 hc3;have y6:=HU.out.p.cell 6 _ rfl
 have hcl:=clear_same HU.out.m
 go_enter Tryz.func176,Tryz.ntmps176
 go_wp2_with fail;generalize (w.alloc (.cells #[I J c0,I J (r1:Int),I J c2,I J (r3:Int),sL (some ⟨g1,0,none⟩) n1 k1,sL (some ⟨g2,o2,none⟩) n2 k2,sL a3 n3 k3,sL a4 n4 k4,I J lo,I J st] 39))=w1 at *;generalize w.heap.size=PH at *;clear y6 hcl;refine wp_region_held (S:=fun W=>blk W PH [I J c0,I J (r1:Int),I J c2,I J (r3:Int),sL (some ⟨g1,0,none⟩) n1 k1,sL (some ⟨g2,o2,none⟩) n2 k2,sL a3 n3 k3,sL a4 n4 k4,I J lo,I J st] 39) (by kernel_rfl) ?_
 have hS:blk w1.drew PH [I J c0,I J (r1:Int),I J c2,I J (r3:Int),sL (some ⟨g1,0,none⟩) n1 k1,sL (some ⟨g2,o2,none⟩) n2 k2,sL a3 n3 k3,sL a4 n4 k4,I J lo,I J st] 39:=HU.out.q
 have HU:Hid (suS w0 P mb PH [I J 0,I J 0,I J 0,I J 0,sL none 0 0,sL none 0 0,.map (some mb),sL none 0 0,I J 0,I J 0,sL none 0 0,I J 0,I J 0,I J 0,I J 0] [I J c0,I J (r1:Int),I J c2,I J (r3:Int),sL (some ⟨g1,0,none⟩) n1 k1,sL (some ⟨g2,o2,none⟩) n2 k2,sL a3 n3 k3,sL a4 n4 k4,I J lo,I J st] w1.drew):=HU.out.below (bW _ _).drew
 change wpAnyH Tp _ _ _ _ _ _ _ w1.drew
 generalize w1.drew=w2 at *;refine tk 0 ?_
 refine tk 1 ?_
 refine tk 2 ?_
 refine tk 3 ?_
 refine wU 4 (.agg [I J c0,I J (r1:Int),I J c2,I J (r3:Int)].toArray) rfl (yieldsIf_load_mid (by rfl) 33 (.tmp 13) rfl PH 0 rfl [I J c0,I J (r1:Int),I J c2,I J (r3:Int)] _ (fun W h=>blk.loadAt [] [I J c0,I J (r1:Int),I J c2,I J (r3:Int)] [sL (some ⟨g1,0,none⟩) n1 k1,sL (some ⟨g2,o2,none⟩) n2 k2,sL a3 n3 k3,sL a4 n4 k4,I J lo,I J st] h) Tryz.underlying33 rfl sz35) hS ?_
 simp only[aZ];refine tk 5 ?_
 refine tk 6 ?_ (hy:=fun W hSw=>by (have hc:=hSw.cell 8 _ rfl;go_simp;try rfl))
 refine tk 7 ?_
 refine tk 8 ?_ (hy:=fun W hSw=>by (have hc:=hSw.cell 9 _ rfl;go_simp;try rfl))
 refine tk 9 ?_
 refine tk 10 ?_
 refine al 11 fun K hK=>?_
 rw[if_pos (by rfl)]
 refine wp_store_mid (P:=Tp) 33 (.tmp 20) (.tmp 14) rfl P 0 _ rfl rfl (HU.out.p.there 0 4 (by simp)) sz35 (all_oneCell_toArray (by simp[Value.oneCell'])) ?_
 simp only[Act.put,aD,aE,aF]
 have HU3:Hid (suS w0 P mb PH [I J c0,I J (r1:Int),I J c2,I J (r3:Int),sL none 0 0,sL none 0 0,.map (some mb),sL none 0 0,I J 0,I J 0,sL none 0 0,I J 0,I J 0,I J 0,I J 0] [I J c0,I J (r1:Int),I J c2,I J (r3:Int),sL (some ⟨g1,0,none⟩) n1 k1,sL (some ⟨g2,o2,none⟩) n2 k2,sL a3 n3 k3,sL a4 n4 k4,I J lo,I J st] (w2.setCells P 0 [I J c0,I J (r1:Int),I J c2,I J (r3:Int)])):=HU.out.put [] [I J 0,I J 0,I J 0,I J 0] [sL none 0 0,sL none 0 0,.map (some mb),sL none 0 0,I J 0,I J 0,sL none 0 0,I J 0,I J 0,I J 0,I J 0] [I J c0,I J (r1:Int),I J c2,I J (r3:Int)] rfl
 have hS1:blk (w2.setCells P 0 [I J c0,I J (r1:Int),I J c2,I J (r3:Int)]) PH [I J c0,I J (r1:Int),I J c2,I J (r3:Int),sL (some ⟨g1,0,none⟩) n1 k1,sL (some ⟨g2,o2,none⟩) n2 k2,sL a3 n3 k3,sL a4 n4 k4,I J lo,I J st] 39:=HU3.out.q
 generalize (w2.setCells P 0 [I J c0,I J (r1:Int),I J c2,I J (r3:Int)])=w3 at *;refine hK.out _ w3 hS1 (fun hS2=>?_)
 clear hS hK K hS1 HU;have hS:=hS2
 have HU:=HU3
 clear hS2 HU3;refine tk 12 ?_
 refine tk 13 ?_
 refine al 14 fun K hK=>?_
 have hcP:=HU.out.p.cell 13 _ rfl
 have hfP:=HU.out.p.free 13
 go_simp;clear hcP hfP;have HU4:Hid (suS w0 P mb PH [I J c0,I J (r1:Int),I J c2,I J (r3:Int),sL none 0 0,sL none 0 0,.map (some mb),sL none 0 0,I J 0,I J 0,sL none 0 0,I J 0,I J 0,I J lo,I J 0] [I J c0,I J (r1:Int),I J c2,I J (r3:Int),sL (some ⟨g1,0,none⟩) n1 k1,sL (some ⟨g2,o2,none⟩) n2 k2,sL a3 n3 k3,sL a4 n4 k4,I J lo,I J st] (w3.setCell ⟨P,13,none⟩ (I J lo))):=HU.out.put [I J c0,I J (r1:Int),I J c2,I J (r3:Int),sL none 0 0,sL none 0 0,.map (some mb),sL none 0 0,I J 0,I J 0,sL none 0 0,I J 0,I J 0] [I J 0] [I J 0] [I J lo] rfl
 have hS1:blk (w3.setCell ⟨P,13,none⟩ (I J lo)) PH [I J c0,I J (r1:Int),I J c2,I J (r3:Int),sL (some ⟨g1,0,none⟩) n1 k1,sL (some ⟨g2,o2,none⟩) n2 k2,sL a3 n3 k3,sL a4 n4 k4,I J lo,I J st] 39:=HU4.out.q
 generalize (w3.setCell ⟨P,13,none⟩ (I J lo))=w4 at *;refine hK.out _ w4 hS1 (fun hS2=>?_)
 clear hS hK K hS1 HU;have hS:=hS2
 have HU:=HU4
 clear hS2 HU4;refine tk 15 ?_
 refine tk 16 ?_
 refine al 17 fun K hK=>?_
 have hcP:=HU.out.p.cell 14 _ rfl
 have hfP:=HU.out.p.free 14
 go_simp;clear hcP hfP;have HU5:Hid (suS w0 P mb PH [I J c0,I J (r1:Int),I J c2,I J (r3:Int),sL none 0 0,sL none 0 0,.map (some mb),sL none 0 0,I J 0,I J 0,sL none 0 0,I J 0,I J 0,I J lo,I J st] [I J c0,I J (r1:Int),I J c2,I J (r3:Int),sL (some ⟨g1,0,none⟩) n1 k1,sL (some ⟨g2,o2,none⟩) n2 k2,sL a3 n3 k3,sL a4 n4 k4,I J lo,I J st] (w4.setCell ⟨P,14,none⟩ (I J st))):=HU.out.put [I J c0,I J (r1:Int),I J c2,I J (r3:Int),sL none 0 0,sL none 0 0,.map (some mb),sL none 0 0,I J 0,I J 0,sL none 0 0,I J 0,I J 0,I J lo] [I J 0] [] [I J st] rfl
 have hS1:blk (w4.setCell ⟨P,14,none⟩ (I J st)) PH [I J c0,I J (r1:Int),I J c2,I J (r3:Int),sL (some ⟨g1,0,none⟩) n1 k1,sL (some ⟨g2,o2,none⟩) n2 k2,sL a3 n3 k3,sL a4 n4 k4,I J lo,I J st] 39:=HU5.out.q
 generalize (w4.setCell ⟨P,14,none⟩ (I J st))=w5 at *;refine hK.out _ w5 hS1 (fun hS2=>?_)
 clear hS hK K hS1 HU;have hS:=hS2
 have HU:=HU5
 clear hS2 HU5;refine wpAnyH_done (by kernel_rfl) ?_ _
 clear hS;go_wp2_with fail;refine wp_region_held (S:=fun W=>blk W PH [I J c0,I J (r1:Int),I J c2,I J (r3:Int),sL (some ⟨g1,0,none⟩) n1 k1,sL (some ⟨g2,o2,none⟩) n2 k2,sL a3 n3 k3,sL a4 n4 k4,I J lo,I J st] 39) (by kernel_rfl) ?_
 have hS:blk w5.drew PH [I J c0,I J (r1:Int),I J c2,I J (r3:Int),sL (some ⟨g1,0,none⟩) n1 k1,sL (some ⟨g2,o2,none⟩) n2 k2,sL a3 n3 k3,sL a4 n4 k4,I J lo,I J st] 39:=HU.out.q
 have HUd:Hid (suS w0 P mb PH [I J c0,I J (r1:Int),I J c2,I J (r3:Int),sL none 0 0,sL none 0 0,.map (some mb),sL none 0 0,I J 0,I J 0,sL none 0 0,I J 0,I J 0,I J lo,I J st] [I J c0,I J (r1:Int),I J c2,I J (r3:Int),sL (some ⟨g1,0,none⟩) n1 k1,sL (some ⟨g2,o2,none⟩) n2 k2,sL a3 n3 k3,sL a4 n4 k4,I J lo,I J st] w5.drew):=HU.out.below (bW _ _).drew
 clear HU;have HU:=HUd
 clear HUd;change wpAnyH Tp _ _ _ _ _ _ _ w5.drew
 generalize w5.drew=w6 at *;refine tk 0 ?_
 refine tk 1 ?_
 refine tk 2 ?_
 refine tk 3 ?_ (hy:=fun W hSw=>by (have hc:=hSw.cell 4 _ rfl;go_simp;try rfl))
 refine tk 5 ?_
 refine tk 6 ?_ (hy:=fun W hSw=>by (have hc:=hSw.cell 5 _ rfl;go_simp;try rfl))
 refine al 4 fun K hK=>?_
 go_simp;refine (HC1.out _ HU.out.b).mono ?_
 rintro o w7 ⟨gf,kf,rfl,q1,q2,q3,b7⟩;have HGF:Hid (w0.heap.size≤gf):=nT HU.out.b.size q1
 have HU7:Hid (suS w0 P mb PH [I J c0,I J (r1:Int),I J c2,I J (r3:Int),sL none 0 0,sL none 0 0,.map (some mb),sL none 0 0,I J 0,I J 0,sL none 0 0,I J 0,I J 0,I J lo,I J st] [I J c0,I J (r1:Int),I J c2,I J (r3:Int),sL (some ⟨g1,0,none⟩) n1 k1,sL (some ⟨g2,o2,none⟩) n2 k2,sL a3 n3 k3,sL a4 n4 k4,I J lo,I J st] w7):=HU.out.below b7
 have HOF:Hid (own w0 P mb gf (fun W=>isR3s W (some ⟨gf,0,none⟩) n1 kf fs) w7):=⟨q2,fun e=>absurd HU.out.p.lt (by omega),fun e=>absurd (lt_of_some HU.out.m) (by omega),fun W' e _=>q3 W' e⟩
 clear q1 q2 q3 b7;go_wp2_with fail;refine hK.out _ _ HU7.out.q (fun hS2=>?_)
 clear hS hK K HU;have hS:=hS2
 have HU:=HU7
 clear hS2 HU7;refine al 7 fun K hK=>?_
 go_simp;refine (HC2.out _ HU.out.b).mono ?_
 rintro o w8 ⟨gb,kb,hs,rfl,q1,q3,q4,b8⟩;have HU8:Hid (suS w0 P mb PH [I J c0,I J (r1:Int),I J c2,I J (r3:Int),sL none 0 0,sL none 0 0,.map (some mb),sL none 0 0,I J 0,I J 0,sL none 0 0,I J 0,I J 0,I J lo,I J st] [I J c0,I J (r1:Int),I J c2,I J (r3:Int),sL (some ⟨g1,0,none⟩) n1 k1,sL (some ⟨g2,o2,none⟩) n2 k2,sL a3 n3 k3,sL a4 n4 k4,I J lo,I J st] w8):=HU.out.below b8
 have HOF8:Hid (own w0 P mb gf (fun W=>isR3s W (some ⟨gf,0,none⟩) n1 kf fs) w8):=HOF.out.below b8
 have HOB:Hid (own w0 P mb gb (fun W=>dr8 w0 0 gb n2 bx hs 0 W∧n2≤kb) w8):=⟨q4.hi,fun e=>absurd HU.out.p.lt (by omega),fun e=>absurd (lt_of_some HU.out.m) (by omega),fun W h1 h2=>⟨q4.at0 h1 h2,q3⟩⟩
 have HGB:Hid (gf<gb):=nL HOF.out.lt q1
 clear q1 q4 b8 HOF;have HOF:=HOF8
 clear HOF8;go_wp2_with fail;refine hK.out _ _ HU8.out.q (fun hS2=>?_)
 clear hS hK K HU;have hS:=hS2
 have HU:=HU8
 clear hS2 HU8;refine tk 8 ?_
 refine tk 9 ?_
 refine al 10 fun K hK=>?_
 have hcP:=HU.out.p.cell 4 _ rfl
 have hfP:=HU.out.p.free 4
 go_simp;clear hcP hfP;have HU9:Hid (suS w0 P mb PH [I J c0,I J (r1:Int),I J c2,I J (r3:Int),sL (some ⟨gf,0,none⟩) n1 kf,sL none 0 0,.map (some mb),sL none 0 0,I J 0,I J 0,sL none 0 0,I J 0,I J 0,I J lo,I J st] [I J c0,I J (r1:Int),I J c2,I J (r3:Int),sL (some ⟨g1,0,none⟩) n1 k1,sL (some ⟨g2,o2,none⟩) n2 k2,sL a3 n3 k3,sL a4 n4 k4,I J lo,I J st] (w8.setCell ⟨P,4,none⟩ (sL (some ⟨gf,0,none⟩) n1 kf))):=HU.out.put [I J c0,I J (r1:Int),I J c2,I J (r3:Int)] [sL none 0 0] [sL none 0 0,.map (some mb),sL none 0 0,I J 0,I J 0,sL none 0 0,I J 0,I J 0,I J lo,I J st] [sL (some ⟨gf,0,none⟩) n1 kf] rfl
 have hS1:blk (w8.setCell ⟨P,4,none⟩ (sL (some ⟨gf,0,none⟩) n1 kf)) PH [I J c0,I J (r1:Int),I J c2,I J (r3:Int),sL (some ⟨g1,0,none⟩) n1 k1,sL (some ⟨g2,o2,none⟩) n2 k2,sL a3 n3 k3,sL a4 n4 k4,I J lo,I J st] 39:=HU9.out.q
 have HOF9:Hid (own w0 P mb gf (fun W=>isR3s W (some ⟨gf,0,none⟩) n1 kf fs) (w8.setCell ⟨P,4,none⟩ (sL (some ⟨gf,0,none⟩) n1 kf))):=HOF.out.put 4 [sL (some ⟨gf,0,none⟩) n1 kf]
 have HOB9:Hid (own w0 P mb gb (fun W=>dr8 w0 0 gb n2 bx hs 0 W∧n2≤kb) (w8.setCell ⟨P,4,none⟩ (sL (some ⟨gf,0,none⟩) n1 kf))):=HOB.out.put 4 [sL (some ⟨gf,0,none⟩) n1 kf]
 generalize (w8.setCell ⟨P,4,none⟩ (sL (some ⟨gf,0,none⟩) n1 kf))=w9 at *;refine hK.out _ w9 hS1 (fun hS2=>?_)
 clear hS hK K hS1 HU;have hS:=hS2
 have HU:=HU9
 clear hS2 HU9;clear HOF HOB;have HOF:=HOF9
 have HOB:=HOB9
 clear HOF9 HOB9;refine tk 11 ?_
 refine tk 12 ?_
 refine al 13 fun K hK=>?_
 have hcP:=HU.out.p.cell 5 _ rfl
 have hfP:=HU.out.p.free 5
 go_simp;clear hcP hfP;have HU10:Hid (suS w0 P mb PH [I J c0,I J (r1:Int),I J c2,I J (r3:Int),sL (some ⟨gf,0,none⟩) n1 kf,sL (some ⟨gb,0,none⟩) n2 kb,.map (some mb),sL none 0 0,I J 0,I J 0,sL none 0 0,I J 0,I J 0,I J lo,I J st] [I J c0,I J (r1:Int),I J c2,I J (r3:Int),sL (some ⟨g1,0,none⟩) n1 k1,sL (some ⟨g2,o2,none⟩) n2 k2,sL a3 n3 k3,sL a4 n4 k4,I J lo,I J st] (w9.setCell ⟨P,5,none⟩ (sL (some ⟨gb,0,none⟩) n2 kb))):=HU.out.put [I J c0,I J (r1:Int),I J c2,I J (r3:Int),sL (some ⟨gf,0,none⟩) n1 kf] [sL none 0 0] [.map (some mb),sL none 0 0,I J 0,I J 0,sL none 0 0,I J 0,I J 0,I J lo,I J st] [sL (some ⟨gb,0,none⟩) n2 kb] rfl
 have hS1:blk (w9.setCell ⟨P,5,none⟩ (sL (some ⟨gb,0,none⟩) n2 kb)) PH [I J c0,I J (r1:Int),I J c2,I J (r3:Int),sL (some ⟨g1,0,none⟩) n1 k1,sL (some ⟨g2,o2,none⟩) n2 k2,sL a3 n3 k3,sL a4 n4 k4,I J lo,I J st] 39:=HU10.out.q
 have HOF10:Hid (own w0 P mb gf (fun W=>isR3s W (some ⟨gf,0,none⟩) n1 kf fs) (w9.setCell ⟨P,5,none⟩ (sL (some ⟨gb,0,none⟩) n2 kb))):=HOF.out.put 5 [sL (some ⟨gb,0,none⟩) n2 kb]
 have HOB10:Hid (own w0 P mb gb (fun W=>dr8 w0 0 gb n2 bx hs 0 W∧n2≤kb) (w9.setCell ⟨P,5,none⟩ (sL (some ⟨gb,0,none⟩) n2 kb))):=HOB.out.put 5 [sL (some ⟨gb,0,none⟩) n2 kb]
 generalize (w9.setCell ⟨P,5,none⟩ (sL (some ⟨gb,0,none⟩) n2 kb))=w10 at *;refine hK.out _ w10 hS1 (fun hS2=>?_)
 clear hS hK K hS1 HU;have hS:=hS2
 have HU:=HU10
 clear hS2 HU10;clear HOF HOB;have HOF:=HOF10
 have HOB:=HOB10
 clear HOF10 HOB10;refine wpAnyH_done (by kernel_rfl) ?_ _
 clear hS;have u1:=HU.out.q.cell 1 _ rfl
 have u6:=HU.out.q.cell 6 _ rfl
 go_wp2_with (first
  | (go_at_call 212;refine (HR5.out _ HU.out.b).mono ?_;rintro o w11 ⟨gr,rfl,q1,q2,q3,q4,b11⟩;have HOR11:Hid (own w0 P mb gr (fun W=>ring5 w0 W gr r1 0 ff∧rowZ W gr (r1*5)) w11):=⟨q2,fun e=>absurd HU.out.p.lt (by omega),fun e=>absurd (lt_of_some HU.out.m) (by omega),fun W' e _=>⟨q4.keep e,q3.up e⟩⟩;have HGR:Hid (gb<gr):=nL HOB.out.lt q1;have HU11:Hid (suS w0 P mb PH [I J c0,I J (r1:Int),I J c2,I J (r3:Int),sL (some ⟨gf,0,none⟩) n1 kf,sL (some ⟨gb,0,none⟩) n2 kb,.map (some mb),sL none 0 0,I J 0,I J 0,sL none 0 0,I J 0,I J 0,I J lo,I J st] [I J c0,I J (r1:Int),I J c2,I J (r3:Int),sL (some ⟨g1,0,none⟩) n1 k1,sL (some ⟨g2,o2,none⟩) n2 k2,sL a3 n3 k3,sL a4 n4 k4,I J lo,I J st] w11):=HU.out.below b11;have HOF11:Hid (own w0 P mb gf (fun W=>isR3s W (some ⟨gf,0,none⟩) n1 kf fs) (w11)):=HOF.out.below b11;have HOB11:Hid (own w0 P mb gb (fun W=>dr8 w0 0 gb n2 bx hs 0 W∧n2≤kb) (w11)):=HOB.out.below b11;clear HOF HOB;clear HU b11 q1 q2 q3 q4)
  | (refine wpList_store_mid (P:=Tp) rfl 153 (.tmp 45) (.tmp 43) rfl P 7 _ rfl rfl (HU11.out.p.there 7 3 (by simp)) sz130r (all_oneCell_toArray (by simp[Value.oneCell'])) ?_;have HU12:Hid (suS w0 P mb PH [I J c0,I J (r1:Int),I J c2,I J (r3:Int),sL (some ⟨gf,0,none⟩) n1 kf,sL (some ⟨gb,0,none⟩) n2 kb,.map (some mb),sL (some ⟨gr,0,none⟩) r1 r1,I J 0,I J (n3:Int),sL none 0 0,I J 0,I J 0,I J lo,I J st] [I J c0,I J (r1:Int),I J c2,I J (r3:Int),sL (some ⟨g1,0,none⟩) n1 k1,sL (some ⟨g2,o2,none⟩) n2 k2,sL a3 n3 k3,sL a4 n4 k4,I J lo,I J st] (World.setCells w11 P 7 [sL (some ⟨gr,0,none⟩) r1 r1,I J 0,I J (n3:Int)])):=HU11.out.put [I J c0,I J (r1:Int),I J c2,I J (r3:Int),sL (some ⟨gf,0,none⟩) n1 kf,sL (some ⟨gb,0,none⟩) n2 kb,.map (some mb)] [sL none 0 0,I J 0,I J 0] [sL none 0 0,I J 0,I J 0,I J lo,I J st] [sL (some ⟨gr,0,none⟩) r1 r1,I J 0,I J (n3:Int)] rfl;have HOF12:Hid (own w0 P mb gf (fun W=>isR3s W (some ⟨gf,0,none⟩) n1 kf fs) (World.setCells w11 P 7 [sL (some ⟨gr,0,none⟩) r1 r1,I J 0,I J (n3:Int)])):=HOF11.out.put 7 [sL (some ⟨gr,0,none⟩) r1 r1,I J 0,I J (n3:Int)];have HOB12:Hid (own w0 P mb gb (fun W=>dr8 w0 0 gb n2 bx hs 0 W∧n2≤kb) (World.setCells w11 P 7 [sL (some ⟨gr,0,none⟩) r1 r1,I J 0,I J (n3:Int)])):=HOB11.out.put 7 [sL (some ⟨gr,0,none⟩) r1 r1,I J 0,I J (n3:Int)];clear HOF11 HOB11;have HOR12:Hid (own w0 P mb gr (fun W=>ring5 w0 W gr r1 0 ff∧rowZ W gr (r1*5)) (World.setCells w11 P 7 [sL (some ⟨gr,0,none⟩) r1 r1,I J 0,I J (n3:Int)])):=HOR11.out.put 7 [sL (some ⟨gr,0,none⟩) r1 r1,I J 0,I J (n3:Int)];clear HOR11;clear HU11;generalize World.setCells w11 P 7 [sL (some ⟨gr,0,none⟩) r1 r1,I J 0,I J (n3:Int)]=w12 at *;have u3:=HU12.out.q.cell 3 _ rfl;have u7:=HU12.out.q.cell 7 _ rfl)
  | (go_at_call 213;refine (HR8.out _ HU12.out.b).mono ?_;rintro o w13 ⟨gq,rfl,q1,q2,q3,q4,b11⟩;have HOQ13:Hid (own w0 P mb gq (fun W=>ring8 w0 W gq r3 0 qu∧rowZ W gq (r3*8)) w13):=⟨q2,fun e=>absurd HU12.out.p.lt (by omega),fun e=>absurd (lt_of_some HU12.out.m) (by omega),fun W' e _=>⟨q4.keep e,q3.up e⟩⟩;have HGQ:Hid (gr<gq):=nL HOR12.out.lt q1;have HU13:Hid (suS w0 P mb PH [I J c0,I J (r1:Int),I J c2,I J (r3:Int),sL (some ⟨gf,0,none⟩) n1 kf,sL (some ⟨gb,0,none⟩) n2 kb,.map (some mb),sL (some ⟨gr,0,none⟩) r1 r1,I J 0,I J (n3:Int),sL none 0 0,I J 0,I J 0,I J lo,I J st] [I J c0,I J (r1:Int),I J c2,I J (r3:Int),sL (some ⟨g1,0,none⟩) n1 k1,sL (some ⟨g2,o2,none⟩) n2 k2,sL a3 n3 k3,sL a4 n4 k4,I J lo,I J st] w13):=HU12.out.below b11;have HOF13:Hid (own w0 P mb gf (fun W=>isR3s W (some ⟨gf,0,none⟩) n1 kf fs) (w13)):=HOF12.out.below b11;have HOB13:Hid (own w0 P mb gb (fun W=>dr8 w0 0 gb n2 bx hs 0 W∧n2≤kb) (w13)):=HOB12.out.below b11;clear HOF12 HOB12;have HOR13:Hid (own w0 P mb gr (fun W=>ring5 w0 W gr r1 0 ff∧rowZ W gr (r1*5)) (w13)):=HOR12.out.below b11;clear HOR12;clear HU12 b11 q1 q2 q3 q4)
  | (refine wpList_store_mid (P:=Tp) rfl 155 (.tmp 54) (.tmp 52) rfl P 10 _ rfl rfl (HU13.out.p.there 10 3 (by simp)) sz132r (all_oneCell_toArray (by simp[Value.oneCell'])) ?_;have HU14:Hid (suS w0 P mb PH [I J c0,I J (r1:Int),I J c2,I J (r3:Int),sL (some ⟨gf,0,none⟩) n1 kf,sL (some ⟨gb,0,none⟩) n2 kb,.map (some mb),sL (some ⟨gr,0,none⟩) r1 r1,I J 0,I J (n3:Int),sL (some ⟨gq,0,none⟩) r3 r3,I J 0,I J (n4:Int),I J lo,I J st] [I J c0,I J (r1:Int),I J c2,I J (r3:Int),sL (some ⟨g1,0,none⟩) n1 k1,sL (some ⟨g2,o2,none⟩) n2 k2,sL a3 n3 k3,sL a4 n4 k4,I J lo,I J st] (World.setCells w13 P 10 [sL (some ⟨gq,0,none⟩) r3 r3,I J 0,I J (n4:Int)])):=HU13.out.put [I J c0,I J (r1:Int),I J c2,I J (r3:Int),sL (some ⟨gf,0,none⟩) n1 kf,sL (some ⟨gb,0,none⟩) n2 kb,.map (some mb),sL (some ⟨gr,0,none⟩) r1 r1,I J 0,I J (n3:Int)] [sL none 0 0,I J 0,I J 0] [I J lo,I J st] [sL (some ⟨gq,0,none⟩) r3 r3,I J 0,I J (n4:Int)] rfl;have HOF14:Hid (own w0 P mb gf (fun W=>isR3s W (some ⟨gf,0,none⟩) n1 kf fs) (World.setCells w13 P 10 [sL (some ⟨gq,0,none⟩) r3 r3,I J 0,I J (n4:Int)])):=HOF13.out.put 10 [sL (some ⟨gq,0,none⟩) r3 r3,I J 0,I J (n4:Int)];have HOB14:Hid (own w0 P mb gb (fun W=>dr8 w0 0 gb n2 bx hs 0 W∧n2≤kb) (World.setCells w13 P 10 [sL (some ⟨gq,0,none⟩) r3 r3,I J 0,I J (n4:Int)])):=HOB13.out.put 10 [sL (some ⟨gq,0,none⟩) r3 r3,I J 0,I J (n4:Int)];clear HOF13 HOB13;have HOR14:Hid (own w0 P mb gr (fun W=>ring5 w0 W gr r1 0 ff∧rowZ W gr (r1*5)) (World.setCells w13 P 10 [sL (some ⟨gq,0,none⟩) r3 r3,I J 0,I J (n4:Int)])):=HOR13.out.put 10 [sL (some ⟨gq,0,none⟩) r3 r3,I J 0,I J (n4:Int)];clear HOR13;have HOQ14:Hid (own w0 P mb gq (fun W=>ring8 w0 W gq r3 0 qu∧rowZ W gq (r3*8)) (World.setCells w13 P 10 [sL (some ⟨gq,0,none⟩) r3 r3,I J 0,I J (n4:Int)])):=HOQ13.out.put 10 [sL (some ⟨gq,0,none⟩) r3 r3,I J 0,I J (n4:Int)];clear HOQ13;clear HU13;generalize World.setCells w13 P 10 [sL (some ⟨gq,0,none⟩) r3 r3,I J 0,I J (n4:Int)]=w14 at *;have v5:=HU14.out.p.cell 5 _ rfl))
 have HLV:Hid (lvS H w0 P mb [I J c0,I J (r1:Int),I J c2,I J (r3:Int),sL (some ⟨gf,0,none⟩) n1 kf,sL (some ⟨gb,0,none⟩) n2 kb,.map (some mb),sL (some ⟨gr,0,none⟩) r1 r1,I J 0,I J (n3:Int),sL (some ⟨gq,0,none⟩) r3 r3,I J 0,I J (n4:Int),I J lo,I J st] gf n1 kf fs gb n2 kb bx hs gr r1 ff gq r3 qu 0 w14):=⟨HU14.out.p,HOF14.out,HOB14.out,⟨#[],0,HU14.out.m,⟨by simp,MapKept.stamped_empty 0,by simp⟩,nR _,rfl⟩,HU14.out.b,HU14.out.n4,hmb0,HOR14.out,HOQ14.out,⟨HGB.out,HGR.out,HGQ.out⟩,HGF.out,HU14.out.n1⟩
 clear HU14 HOF14 HOB14 HOR14 HOQ14 HGB HGR HGQ HGF v5 u3 u7 HC1 HC2 HR5 HR8;go_loopw [60] (fun i wr=>∃ k:Nat,k≤n2∧i = I J (k:Int)∧lvS H w0 P mb [I J c0,I J (r1:Int),I J c2,I J (r3:Int),sL (some ⟨gf,0,none⟩) n1 kf,sL (some ⟨gb,0,none⟩) n2 kb,.map (some mb),sL (some ⟨gr,0,none⟩) r1 r1,I J 0,I J (n3:Int),sL (some ⟨gq,0,none⟩) r3 r3,I J 0,I J (n4:Int),I J lo,I J st] gf n1 kf fs gb n2 kb bx hs gr r1 ff gq r3 qu k wr) (fun i _=>n2-(intOf i).toNat)
 case atStart=>exact⟨0,nZ _,rfl,HLV.out⟩
 case round=>
  obtain⟨k,hk,rfl,hS⟩:=hrel
  have HS:Hid (lvS H w0 P mb [I J c0,I J (r1:Int),I J c2,I J (r3:Int),sL (some ⟨gf,0,none⟩) n1 kf,sL (some ⟨gb,0,none⟩) n2 kb,.map (some mb),sL (some ⟨gr,0,none⟩) r1 r1,I J 0,I J (n3:Int),sL (some ⟨gq,0,none⟩) r3 r3,I J 0,I J (n4:Int),I J lo,I J st] gf n1 kf fs gb n2 kb bx hs gr r1 ff gq r3 qu k wr):=hS
  clear hS HLV;by_cases hlt:k<n2
  ·have hkl:k<bx.length:=by have:=HLN.out;omega
   have hkb:n2≤kb:=(HS.out.x.k wr rfl HS.out.b).2
   obtain⟨ao,m,c,hx⟩ : ∃ ao m c,at8 wr gb (0+k*8) bx[k] ao m c:=⟨_,_,_,by rw[Nat.zero_add];exact (HS.out.x.k wr rfl HS.out.b).1.at_ k hkl⟩
   have HRG:=hx.range
   have HSK:Hid (∀ W,lvS H w0 P mb [I J c0,I J (r1:Int),I J c2,I J (r3:Int),sL (some ⟨gf,0,none⟩) n1 kf,sL (some ⟨gb,0,none⟩) n2 kb,.map (some mb),sL (some ⟨gr,0,none⟩) r1 r1,I J 0,I J (n3:Int),sL (some ⟨gq,0,none⟩) r3 r3,I J 0,I J (n4:Int),I J lo,I J st] gf n1 kf fs gb n2 kb bx hs gr r1 ff gq r3 qu k W→bx[k].x=0→lvS H w0 P mb [I J c0,I J (r1:Int),I J c2,I J (r3:Int),sL (some ⟨gf,0,none⟩) n1 kf,sL (some ⟨gb,0,none⟩) n2 kb,.map (some mb),sL (some ⟨gr,0,none⟩) r1 r1,I J 0,I J (n3:Int),sL (some ⟨gq,0,none⟩) r3 r3,I J 0,I J (n4:Int),I J lo,I J st] gf n1 kf fs gb n2 kb bx hs gr r1 ff gq r3 qu (k+1) W):=fun W h hx0=>h.skip hkl hx0
   have HNX:Hid (bx[k].x≠0→tagsD H bx (k+1)=(tagsD H bx k).put (.int .i64 bx[k].y) (.lit (.int .i64 (k:Int)))):=tagsD_put hkl
   have HOKB:Hid (okBx st bx[k]):=HOK.out.1 k hkl
   obtain⟨b,hb⟩ : ∃ b,bx[k]=b:=⟨_,rfl⟩
   rw[hb] at HRG HSK HNX HOKB
   obtain⟨x,y,z,e,i,r,d,l⟩:=b
   rw[Nat.zero_add] at HRG
   have HRG:Hid (wr.rangeAt gb (k*8) [I J x,I J y,I J z,bO e,I .u32 (i:Int),bO r,I J d,sL ao m c]):=HRG
   simp only[] at HSK HNX
   clear hx hb;have HW3:Hid (lvS H w0 P mb [I J c0,I J (r1:Int),I J c2,I J (r3:Int),sL (some ⟨gf,0,none⟩) n1 kf,sL (some ⟨gb,0,none⟩) n2 kb,.map (some mb),sL (some ⟨gr,0,none⟩) r1 r1,I J 0,I J (n3:Int),sL (some ⟨gq,0,none⟩) r3 r3,I J 0,I J (n4:Int),I J lo,I J st] gf n1 kf fs gb n2 kb bx hs gr r1 ff gq r3 qu k (wr.alloc (.cells #[I J x,I J y,I J z,bO e,I .u32 (i:Int),bO r,I J d,sL ao m c] 166))):=HS.out.below ((bW _ _).alloc (nR _) _)
   have HP3:Hid (blk (wr.alloc (.cells #[I J x,I J y,I J z,bO e,I .u32 (i:Int),bO r,I J d,sL ao m c] 166)) wr.heap.size [I J x,I J y,I J z,bO e,I .u32 (i:Int),bO r,I J d,sL ao m c] 166):=blk.new wr _ 166
   by_cases hx0:x=0
   ·subst hx0;have HL4:Hid (lvS H w0 P mb [I J c0,I J (r1:Int),I J c2,I J (r3:Int),sL (some ⟨gf,0,none⟩) n1 kf,sL (some ⟨gb,0,none⟩) n2 kb,.map (some mb),sL (some ⟨gr,0,none⟩) r1 r1,I J 0,I J (n3:Int),sL (some ⟨gq,0,none⟩) r3 r3,I J 0,I J (n4:Int),I J lo,I J st] gf n1 kf fs gb n2 kb bx hs gr r1 ff gq r3 qu (k+1) (wr.alloc (.cells #[I J 0,I J y,I J z,bO e,I .u32 (i:Int),bO r,I J d,sL ao m c] 166))):=HSK.out _ HW3.out rfl
    clear HSK HNX HOKB HW3 HP3;go_wp2_with (first
     | (refine lq166 HRG.out ?_))
    go_roundw
    case rel=>exact⟨k+1,by omega,by go_num,HL4.out⟩
    case measure=>simp[intOf];omega
   ·have hx0':(x == 0)=false:=by simpa using hx0
    have HY:Hid (0≤y∧y≤9999):=by
     have:=HOKB.out
     unfold okBx at this
     rw[if_neg hx0] at this
     exact this.2.1
    have HNX2:Hid (tagsD H bx (k+1)=(tagsD H bx k).put (.int .i64 y) (.lit (.int .i64 (k:Int)))):=HNX.out hx0
    clear HSK HNX HOKB hx0;go_wp2_with (first
     | (refine lq166 HRG.out ?_))
    have HBM:Hid (wr.heap.size≠mb):=fun e=>absurd HS.out.m.lt (by omega)
    generalize (wr.alloc (.cells #[I J x,I J y,I J z,bO e,I .u32 (i:Int),bO r,I J d,sL ao m c] 166))=w3 at *;generalize wr.heap.size=PB at *;refine wp_region_held (S:=fun W=>blk W PB [I J x,I J y,I J z,bO e,I .u32 (i:Int),bO r,I J d,sL ao m c] 166∧blk W P [I J c0,I J (r1:Int),I J c2,I J (r3:Int),sL (some ⟨gf,0,none⟩) n1 kf,sL (some ⟨gb,0,none⟩) n2 kb,.map (some mb),sL (some ⟨gr,0,none⟩) r1 r1,I J 0,I J (n3:Int),sL (some ⟨gq,0,none⟩) r3 r3,I J 0,I J (n4:Int),I J lo,I J st] 157) (by kernel_rfl) ?_
    have hS:blk w3.drew PB [I J x,I J y,I J z,bO e,I .u32 (i:Int),bO r,I J d,sL ao m c] 166∧blk w3.drew P [I J c0,I J (r1:Int),I J c2,I J (r3:Int),sL (some ⟨gf,0,none⟩) n1 kf,sL (some ⟨gb,0,none⟩) n2 kb,.map (some mb),sL (some ⟨gr,0,none⟩) r1 r1,I J 0,I J (n3:Int),sL (some ⟨gq,0,none⟩) r3 r3,I J 0,I J (n4:Int),I J lo,I J st] 157:=⟨HP3.out,HW3.out.p⟩
    have HW4:Hid (lvS H w0 P mb [I J c0,I J (r1:Int),I J c2,I J (r3:Int),sL (some ⟨gf,0,none⟩) n1 kf,sL (some ⟨gb,0,none⟩) n2 kb,.map (some mb),sL (some ⟨gr,0,none⟩) r1 r1,I J 0,I J (n3:Int),sL (some ⟨gq,0,none⟩) r3 r3,I J 0,I J (n4:Int),I J lo,I J st] gf n1 kf fs gb n2 kb bx hs gr r1 ff gq r3 qu k w3.drew):=HW3.out.below (bW _ _).drew
    change wpAnyH Tp _ _ _ _ _ _ _ w3.drew
    have HNB:Hid (some PB≠some mb):=fun e=>HBM.out (by simpa using e)
    generalize w3.drew=w4 at *;refine tk 0 ?_
    refine tk 1 ?_
    refine tk 2 ?_
    refine tk 3 ?_ (hy:=fun W hSw=>by (have hc:=hSw.2.cell 6 _ rfl;go_simp;try rfl))
    refine tk 4 ?_
    refine tk 5 ?_ (hy:=fun W hSw=>by (have hc:=hSw.1.cell 1 _ rfl;go_simp;try rfl))
    refine tk 6 ?_
    refine al 7 fun K hK=>?_
    rw[if_pos (by rfl)]
    obtain⟨w9,hrun,s1,s2⟩:=HW4.out.m.update (Maps.int_keyed Tryz.underlying3) Tryz.underlying151 (by unfold maxLen;omega) (Maps.keyOf_int_mk Tryz.underlying3 (a:=y) (wf_small (by have:=HY.out;omega) (by have:=HY.out;omega))) (plainElem_int Tryz.underlying3 (a:=(k:Int)) (wf_small (by omega) (by omega)))
    have HL9:Hid (lvS H w0 P mb [I J c0,I J (r1:Int),I J c2,I J (r3:Int),sL (some ⟨gf,0,none⟩) n1 kf,sL (some ⟨gb,0,none⟩) n2 kb,.map (some mb),sL (some ⟨gr,0,none⟩) r1 r1,I J 0,I J (n3:Int),sL (some ⟨gq,0,none⟩) r3 r3,I J 0,I J (n4:Int),I J lo,I J st] gf n1 kf fs gb n2 kb bx hs gr r1 ff gq r3 qu (k+1) w9):=HW4.out.next s2 (by rw[HNX2.out];exact s1)
    have PB9:blk w9 PB [I J x,I J y,I J z,bO e,I .u32 (i:Int),bO r,I J d,sL ao m c] 166:=hS.1.kept (s2.block _ hS.1.lt HNB.out)
    go_simp;refine hK.out _ w9 ⟨PB9,HL9.out.p⟩ (fun hS2=>?_)
    clear hS hK K hS2 hrun s1 s2;refine wpAnyH_done (by kernel_rfl) ?_ _
    go_wp2_with fail;go_roundw
    case rel=>exact⟨k+1,by omega,by go_num,HL9.out⟩
    case measure=>simp[intOf];omega
  ·have hkn:k=n2:=by omega
   subst hkn;go_wp2_with fail;first | go_end0 | (try simp only[Exit.inBlock,Exit.then]);refine bN ?_
   exact⟨gf,kf,gb,kb,hs,gr,gq,rfl,HS.out⟩
abbrev X5:=R5 × Option Addr × Nat × Nat
def x5 (t:X5):List Value:=f5 t.1 t.2.1 t.2.2.1 t.2.2.2
def c5 (bs:List X5):List Value:=bs.flatMap x5
theorem rows5 {w0 w:World} {gs room first:Nat} {L:List R5} (h:ring5 w0 w gs room first L):∃ bs:List X5,bs.map (·.1)=L∧∀ j (hj:j<bs.length),w.rangeAt gs ((first+j) % room*5) (x5 bs[j])∧iB w0 bs[j].2.1 bs[j].2.2.1 bs[j].2.2.2 bs[j].1.l:=by
 have key:∀ (M:List R5) (f:Nat),(∀ j (hj:j<M.length),∃ ao m c,w.rangeAt gs ((f+j) % room*5) (f5 M[j] ao m c)∧iB w0 ao m c M[j].l)→∃ bs:List X5,bs.map (·.1)=M∧∀ j (hj:j<bs.length),w.rangeAt gs ((f+j) % room*5) (x5 bs[j])∧iB w0 bs[j].2.1 bs[j].2.2.1 bs[j].2.2.2 bs[j].1.l:=by
  intro M;induction M with
  | nil=>intro f _;exact⟨[],rfl,fun j hj=>absurd hj (nN _)⟩
  | cons b M ih=>
   intro f hM;obtain⟨ao,m,c,h0⟩:=hM 0 (by simp)
   obtain⟨bs,hm,hs⟩:=ih (f+1) (fun j hj=>by
    have:=hM (j+1) (by simpa using hj)
    have e:f+(j+1)=f+1+j:=by omega
    rw[e] at this
    simpa using this)
   refine⟨(b,ao,m,c) :: bs,by simp[hm],fun j hj=>?_⟩
   cases j with
   | zero=>exact h0
   | succ j=>
    have:=hs j (by simpa using hj)
    have e:f+(j+1)=f+1+j:=by omega
    rw[e]
    exact this
 exact key L first h
theorem c5_take (bs:List X5) (k:Nat) (h:k<bs.length):c5 (bs.take (k+1))=c5 (bs.take k)++x5 bs[k]:=by
 unfold c5
 rw[List.take_succ_eq_append_getElem h,List.flatMap_append]
 simp
theorem wp_app5 {o:Oper} {a:Act} {K:Act→World→Prop} {Q:Exit→Act→World→Prop} {w:World} (s x:Operand)
  (ho:o.op = .call { callee:=.builtin .append,args:=#[s,x],argTypes:=#[36,36] })
  (B n:Nat) (v:Value) (xs:List Value) (hs:a.eval s=v) (hown:w.ownsRow B 55 5 v n xs) (b:Nat) (news:List Value) (hx:a.eval x = sL (some ⟨b,0,none⟩) 1 1) (hl:news.length=5) (hb:w.heap[b]?=some (.cells news.toArray 55)) (h1:∀ u ∈ news,u.oneCell'=true) (hn:n≤100000) (hB:B≤w.heap.size)
  (h:∀ v' w',w'.ownsRow B 55 5 v' (n+1) (xs++news)→w.grownBy w' v.ownBlock→K (a.put o.dst v') w') :
  o.wp Tp a w K Q:=by
 obtain⟨i0,hi,hz0,hz1,hz2⟩:=info_parts Tryz.info55
 obtain⟨v',w',hr,h2,h3,h4,h5⟩:=run_append_own_at (P:=Tp) w B 36 o.type 55 i0 _ 5 48 Tryz.underlying36 hi hz0 hz1 hz2 rfl (by decide) v n xs hown ⟨b,0,none⟩ 1 1 news (by rw[hl]) (by
  intro j u hj;have:=range_block hb j u hj
  rw[Addr.add_lit]
  exact this) h1 (by unfold maxLen;omega) (by omega) hB
 unfold Oper.wp execOp
 simp only[ho,resolve,invoke,builtin,Sem.run_bind,Sem.run_pure,Result.andThen_ok,List.map_toArray,List.map_cons,List.map_nil,hs,hx,hr]
 exact h v' w' h2 h3
theorem look5_of (w0 w:World) (P o gs room first:Nat) (L:List R5) (cnt ask:Nat) (hmn:min ask cnt=L.length) (y0:w.cell? ⟨P,o,none⟩=some (sL (some ⟨gs,0,none⟩) room room)) (y1:w.cell? ⟨P,o+1,none⟩=some (I J (first:Int))) (y2:w.cell? ⟨P,o+2,none⟩=some (I J (cnt:Int))) (hr:ring5 w0 w gs room first L) (hfi:first<room) (h1:1≤room∧room≤1000) (hL:L.length≤room) :
  Calls Tp 179 #[pT (some ⟨P,o,none⟩),I J (ask:Int)] w fun e w'=>∃ (v:Value) (bs:List X5),e = rT v∧bs.map (·.1)=L∧(∀ j (hj:j<bs.length),iB w0 bs[j].2.1 bs[j].2.2.1 bs[j].2.2.2 bs[j].1.l)∧w'.ownsRow w.heap.size 55 5 v L.length (c5 bs)∧Below w.heap.size w w':=by
 have hmax:max (ask:Int) 0=(ask:Int):=by omega
 have hmin:min (ask:Int) (cnt:Int)=(L.length:Int):=by omega
 obtain⟨bs,hm,hbs⟩:=rows5 hr
 have HBS:Hid (∀ j (hj:j<bs.length),w.rangeAt gs ((first+j) % room*5) (x5 bs[j])∧iB w0 bs[j].2.1 bs[j].2.2.1 bs[j].2.2.2 bs[j].1.l):=hbs
 have HM:Hid (bs.map (·.1)=L):=hm
 have HN:Hid (L.length=bs.length):=by show _=_;rw[← hm];simp
 have HY:Hid (∀ W,Below w.heap.size w W→W.cell? ⟨P,o,none⟩=some (sL (some ⟨gs,0,none⟩) room room)∧W.cell? ⟨P,o+1,none⟩=some (I J (first:Int))):=fun W hW=>⟨(hW.cell (by exact World.block_lt_of_cell? w _ y0)).trans y0,(hW.cell (by exact World.block_lt_of_cell? w _ y1)).trans y1⟩
 have HRR:Hid (L.length≤room∧1≤room∧room≤1000):=⟨hL,h1⟩
 clear hr hm hbs;generalize L.length=n at *;go_enter Tryz.func179,Tryz.ntmps179
 go_wp2_with fail;clear y0 y1 y2;go_loopw [5,14] (fun out i wr=>∃ k:Nat,k≤n∧i = I J (k:Int)∧wr.ownsRow w.heap.size 55 5 out k (c5 (bs.take k))∧Below w.heap.size w wr) (fun _ i _=>n-(intOf i).toNat)
 case atStart=>exact⟨0,nZ _,rfl,World.ownsRow_nil w _ 55 5,bW _ _⟩
 case round=>
  obtain⟨k,hk,rfl,hO,hB⟩:=hrel
  have HO:Hid (wr.ownsRow w.heap.size 55 5 u5 k (c5 (bs.take k))):=hO
  have HB:Hid (Below w.heap.size w wr):=hB
  clear hO hB;by_cases hlt:k<n
  ·have hkl:k<bs.length:=by have:=HN.out;omega
   have hkr:k<room:=by omega
   have HT:=c5_take bs k hkl
   have HRG:∀ W,Below w.heap.size w W→W.rangeAt gs ((first+k) % room*5) (x5 bs[k]):=fun W hW=>range_below (HBS.out k hkl).1 hW (World.block_lt_of_cell? w _ ((HBS.out k hkl).1 0 _ rfl))
   obtain⟨Q,hQ⟩ : ∃ Q,(first+k) % room=Q:=⟨_,rfl⟩
   rw[hQ] at HRG
   obtain⟨t,ht⟩ : ∃ t,bs[k]=t:=⟨_,rfl⟩
   rw[ht] at HT HRG
   obtain⟨⟨e,i,r,d,l⟩,ao,m,c⟩:=t
   have HRG:Hid (∀ W,Below w.heap.size w W→W.rangeAt gs (Q*5) [bO e,I .u32 (i:Int),bO r,I J d,sL ao m c]):=HRG
   have HT:Hid (c5 (bs.take (k+1))=c5 (bs.take k)++[bO e,I .u32 (i:Int),bO r,I J d,sL ao m c]):=HT
   clear ht;have hwk:IntKind.i64.wrap ((first:Int)+(k:Int))=((first+k:Nat):Int):=by rw[IntKind.wrap_i64];omega
   have hr0:¬ room=0:=by omega
   have htm:((first+k:Nat):Int).tmod (room:Int)=(Q:Int):=by rw[← hQ];exact (Int.ofNat_tmod _ _).symm
   have htm2:((first:Int)+(k:Int)).tmod (room:Int)=(Q:Int):=htm
   have hQr:Q<room:=by rw[← hQ];exact Nat.mod_lt _ (by omega)
   clear hQ;go_wp2_with fail;refine wp_region_held (S:=fun W=>Below w.heap.size w W) (by kernel_rfl) ?_
   have hS:Below w.heap.size w wr.drew:=HB.out.drew
   have HO1:Hid (wr.drew.ownsRow w.heap.size 55 5 u5 k (c5 (bs.take k))):=HO.out.drew
   change wpAnyH Tp _ _ _ _ _ _ _ wr.drew
   generalize wr.drew=w1 at *;refine tk 0 ?_
   refine tk 1 ?_
   refine tk 2 ?_
   refine tk 3 ?_
   refine tk 4 ?_ (hy:=fun W hSw=>by (have hc:=(HY.out W hSw).1;go_simp;try rfl))
   refine tk 5 ?_
   refine tk 6 ?_
   refine tk 7 ?_
   refine tk 8 ?_ (hy:=fun W hSw=>by (have hc:=(HY.out W hSw).2;go_simp;try rfl))
   refine tk 9 ?_
   refine tk 10 ?_
   refine tk 11 ?_
   refine tk 12 ?_
   refine tk 13 ?_
   refine tk 14 ?_ (hy:=fun W hSw=>by (have hc:=(HY.out W hSw).1;go_simp;try rfl))
   refine tk 15 ?_
   refine tk 16 ?_
   refine tk 17 ?_
   refine wU 18 (.agg [bO e,I .u32 (i:Int),bO r,I J d,sL ao m c].toArray) rfl (yieldsIf_load_mid (by rfl) 55 (.tmp 34) rfl gs (Q*5) rfl [bO e,I .u32 (i:Int),bO r,I J d,sL ao m c] _ (fun W h=>HRG.out W h) Tryz.underlying55 rfl sz93) hS ?_
   simp only[aZ];refine al 19 fun K hK=>?_
   go_simp;have hg:=heap_alloc_new w1 (.cells #[bO e,I .u32 (i:Int),bO r,I J d,sL ao m c] 55)
   have hS1:Below w.heap.size w (w1.alloc (.cells #[bO e,I .u32 (i:Int),bO r,I J d,sL ao m c] 55)):=hS.alloc hS.size _
   have HO2:Hid ((w1.alloc (.cells #[bO e,I .u32 (i:Int),bO r,I J d,sL ao m c] 55)).ownsRow w.heap.size 55 5 u5 k (c5 (bs.take k))):=World.ownsRow.alloc HO1.out _
   generalize (w1.alloc (.cells #[bO e,I .u32 (i:Int),bO r,I J d,sL ao m c] 55))=w2 at *;refine hK.out _ w2 hS1 (fun hS2=>?_)
   clear hS hK K hS1;have hS:=hS2
   clear hS2;refine al 20 fun K hK=>?_
   rw[if_pos (by rfl)]
   refine wp_app5 (.tmp 17) (.tmp 36) rfl w.heap.size k u5 (c5 (bs.take k)) rfl HO2.out w1.heap.size [bO e,I .u32 (i:Int),bO r,I J d,sL ao m c] rfl rfl hg (by simp[Value.oneCell']) (by omega) hS.size ?_
   intro v' w3 ho3 hg3;have HO3:Hid (w3.ownsRow w.heap.size 55 5 v' (k+1) (c5 (bs.take (k+1)))):=by show World.ownsRow _ _ _ _ _ _ _;rw[HT.out];exact ho3
   have hS3:Below w.heap.size w w3:=hS.grown hg3 hS.size (fun q hq=>(World.ownsRow.lt HO2.out q hq).1)
   have HB3:Hid (Below w.heap.size w w3):=hS3
   refine hK.out _ w3 hS3 (fun hS2=>?_)
   clear hS hK K hS3 hg3 ho3 hg;have hS:=hS2
   clear hS2;simp only[aZ];refine tk 21 ?_
   refine wpAnyH_done (by kernel_rfl) ?_ _
   clear hS;go_wp2_with fail;go_roundw
   case rel=>exact⟨k+1,by omega,by go_num,HO3.out,HB3.out⟩
   case measure=>simp[intOf];omega
  ·have hkn:k=n:=by omega
   subst hkn;have HF:Hid (wr.ownsRow w.heap.size 55 5 u5 k (c5 bs)):=by
    have:=HO.out
    rw[List.take_of_length_le (by have:=HN.out;omega)] at this
    exact this
   go_wp2
   go_ret;exact⟨u5,bs,rfl,HM.out,fun j hj=>(HBS.out j hj).2,HF.out,HB.out⟩
theorem look5_any (w0 w:World) (P o gs room first:Nat) (L:List R5) (y0:w.cell? ⟨P,o,none⟩=some (sL (some ⟨gs,0,none⟩) room room)) (y1:w.cell? ⟨P,o+1,none⟩=some (I J (first:Int))) (y2:w.cell? ⟨P,o+2,none⟩=some (I J (L.length:Int))) (hr:ring5 w0 w gs room first L) (hfi:first<room) (h1:1≤room∧room≤1000) (hL:L.length≤room) :
  Calls Tp 179 #[pT (some ⟨P,o,none⟩),I J (L.length:Int)] w fun e w'=>∃ (v:Value) (bs:List X5),e = rT v∧bs.map (·.1)=L∧(∀ j (hj:j<bs.length),iB w0 bs[j].2.1 bs[j].2.2.1 bs[j].2.2.2 bs[j].1.l)∧w'.ownsRow w.heap.size 55 5 v L.length (c5 bs)∧Below w.heap.size w w':=look5_of w0 w P o gs room first L L.length L.length (Nat.min_self _) y0 y1 y2 hr hfi h1 hL
theorem rowsR8 {w0 w:World} {gs room first:Nat} {L:List R8} (h:ring8 w0 w gs room first L):∃ bs:List X8,bs.map (·.1)=L∧∀ j (hj:j<bs.length),w.rangeAt gs ((first+j) % room*8) (x8 bs[j])∧iB w0 bs[j].2.1 bs[j].2.2.1 bs[j].2.2.2 bs[j].1.l:=by
 have key:∀ (M:List R8) (f:Nat),(∀ j (hj:j<M.length),∃ ao m c,w.rangeAt gs ((f+j) % room*8) (f8 M[j] ao m c)∧iB w0 ao m c M[j].l)→∃ bs:List X8,bs.map (·.1)=M∧∀ j (hj:j<bs.length),w.rangeAt gs ((f+j) % room*8) (x8 bs[j])∧iB w0 bs[j].2.1 bs[j].2.2.1 bs[j].2.2.2 bs[j].1.l:=by
  intro M;induction M with
  | nil=>intro f _;exact⟨[],rfl,fun j hj=>absurd hj (nN _)⟩
  | cons b M ih=>
   intro f hM;obtain⟨ao,m,c,h0⟩:=hM 0 (by simp)
   obtain⟨bs,hm,hs⟩:=ih (f+1) (fun j hj=>by
    have:=hM (j+1) (by simpa using hj)
    have e:f+(j+1)=f+1+j:=by omega
    rw[e] at this
    simpa using this)
   refine⟨(b,ao,m,c) :: bs,by simp[hm],fun j hj=>?_⟩
   cases j with
   | zero=>exact h0
   | succ j=>
    have:=hs j (by simpa using hj)
    have e:f+(j+1)=f+1+j:=by omega
    rw[e]
    exact this
 exact key L first h
theorem c8_take (bs:List X8) (k:Nat) (h:k<bs.length):c8 (bs.take (k+1))=c8 (bs.take k)++x8 bs[k]:=by
 unfold c8
 rw[List.take_succ_eq_append_getElem h,List.flatMap_append]
 simp
theorem wp_app8 {o:Oper} {a:Act} {K:Act→World→Prop} {Q:Exit→Act→World→Prop} {w:World} (s x:Operand)
  (ho:o.op = .call { callee:=.builtin .append,args:=#[s,x],argTypes:=#[37,37] })
  (B n:Nat) (v:Value) (xs:List Value) (hs:a.eval s=v) (hown:w.ownsRow B 67 8 v n xs) (b:Nat) (news:List Value) (hx:a.eval x = sL (some ⟨b,0,none⟩) 1 1) (hl:news.length=8) (hb:w.heap[b]?=some (.cells news.toArray 67)) (h1:∀ u ∈ news,u.oneCell'=true) (hn:n≤100000) (hB:B≤w.heap.size)
  (h:∀ v' w',w'.ownsRow B 67 8 v' (n+1) (xs++news)→w.grownBy w' v.ownBlock→K (a.put o.dst v') w') :
  o.wp Tp a w K Q:=by
 obtain⟨i0,hi,hz0,hz1,hz2⟩:=info_parts Tryz.info67
 obtain⟨v',w',hr,h2,h3,h4,h5⟩:=run_append_own_at (P:=Tp) w B 37 o.type 67 i0 _ 8 72 Tryz.underlying37 hi hz0 hz1 hz2 rfl (by decide) v n xs hown ⟨b,0,none⟩ 1 1 news (by rw[hl]) (by
  intro j u hj;have:=range_block hb j u hj
  rw[Addr.add_lit]
  exact this) h1 (by unfold maxLen;omega) (by omega) hB
 unfold Oper.wp execOp
 simp only[ho,resolve,invoke,builtin,Sem.run_bind,Sem.run_pure,Result.andThen_ok,List.map_toArray,List.map_cons,List.map_nil,hs,hx,hr]
 exact h v' w' h2 h3
theorem look8_of (w0 w:World) (P o gs room first:Nat) (L:List R8) (cnt ask:Nat) (hmn:min ask cnt=L.length) (y0:w.cell? ⟨P,o,none⟩=some (sL (some ⟨gs,0,none⟩) room room)) (y1:w.cell? ⟨P,o+1,none⟩=some (I J (first:Int))) (y2:w.cell? ⟨P,o+2,none⟩=some (I J (cnt:Int))) (hr:ring8 w0 w gs room first L) (hfi:first<room) (h1:1≤room∧room≤1000) (hL:L.length≤room) :
  Calls Tp 180 #[pT (some ⟨P,o,none⟩),I J (ask:Int)] w fun e w'=>∃ (v:Value) (bs:List X8),e = rT v∧bs.map (·.1)=L∧(∀ j (hj:j<bs.length),iB w0 bs[j].2.1 bs[j].2.2.1 bs[j].2.2.2 bs[j].1.l)∧w'.ownsRow w.heap.size 67 8 v L.length (c8 bs)∧Below w.heap.size w w':=by
 have hmax:max (ask:Int) 0=(ask:Int):=by omega
 have hmin:min (ask:Int) (cnt:Int)=(L.length:Int):=by omega
 obtain⟨bs,hm,hbs⟩:=rowsR8 hr
 have HBS:Hid (∀ j (hj:j<bs.length),w.rangeAt gs ((first+j) % room*8) (x8 bs[j])∧iB w0 bs[j].2.1 bs[j].2.2.1 bs[j].2.2.2 bs[j].1.l):=hbs
 have HM:Hid (bs.map (·.1)=L):=hm
 have HN:Hid (L.length=bs.length):=by show _=_;rw[← hm];simp
 have HY:Hid (∀ W,Below w.heap.size w W→W.cell? ⟨P,o,none⟩=some (sL (some ⟨gs,0,none⟩) room room)∧W.cell? ⟨P,o+1,none⟩=some (I J (first:Int))):=fun W hW=>⟨(hW.cell (by exact World.block_lt_of_cell? w _ y0)).trans y0,(hW.cell (by exact World.block_lt_of_cell? w _ y1)).trans y1⟩
 have HRR:Hid (L.length≤room∧1≤room∧room≤1000):=⟨hL,h1⟩
 clear hr hm hbs;generalize L.length=n at *;go_enter Tryz.func180,Tryz.ntmps180
 go_wp2_with fail;clear y0 y1 y2;go_loopw [5,14] (fun out i wr=>∃ k:Nat,k≤n∧i = I J (k:Int)∧wr.ownsRow w.heap.size 67 8 out k (c8 (bs.take k))∧Below w.heap.size w wr) (fun _ i _=>n-(intOf i).toNat)
 case atStart=>exact⟨0,nZ _,rfl,World.ownsRow_nil w _ 67 8,bW _ _⟩
 case round=>
  obtain⟨k,hk,rfl,hO,hB⟩:=hrel
  have HO:Hid (wr.ownsRow w.heap.size 67 8 u5 k (c8 (bs.take k))):=hO
  have HB:Hid (Below w.heap.size w wr):=hB
  clear hO hB;by_cases hlt:k<n
  ·have hkl:k<bs.length:=by have:=HN.out;omega
   have hkr:k<room:=by omega
   have HT:=c8_take bs k hkl
   have HRG:∀ W,Below w.heap.size w W→W.rangeAt gs ((first+k) % room*8) (x8 bs[k]):=fun W hW=>range_below (HBS.out k hkl).1 hW (World.block_lt_of_cell? w _ ((HBS.out k hkl).1 0 _ rfl))
   obtain⟨Q,hQ⟩ : ∃ Q,(first+k) % room=Q:=⟨_,rfl⟩
   rw[hQ] at HRG
   obtain⟨t,ht⟩ : ∃ t,bs[k]=t:=⟨_,rfl⟩
   rw[ht] at HT HRG
   obtain⟨⟨x,y,z,e,i,r,d,l⟩,ao,m,c⟩:=t
   have HRG:Hid (∀ W,Below w.heap.size w W→W.rangeAt gs (Q*8) [I J x,I J y,I J z,bO e,I .u32 (i:Int),bO r,I J d,sL ao m c]):=HRG
   have HT:Hid (c8 (bs.take (k+1))=c8 (bs.take k)++[I J x,I J y,I J z,bO e,I .u32 (i:Int),bO r,I J d,sL ao m c]):=HT
   clear ht;have hwk:IntKind.i64.wrap ((first:Int)+(k:Int))=((first+k:Nat):Int):=by rw[IntKind.wrap_i64];omega
   have hr0:¬ room=0:=by omega
   have htm:((first+k:Nat):Int).tmod (room:Int)=(Q:Int):=by rw[← hQ];exact (Int.ofNat_tmod _ _).symm
   have htm2:((first:Int)+(k:Int)).tmod (room:Int)=(Q:Int):=htm
   have hQr:Q<room:=by rw[← hQ];exact Nat.mod_lt _ (by omega)
   clear hQ;go_wp2_with fail;refine wp_region_held (S:=fun W=>Below w.heap.size w W) (by kernel_rfl) ?_
   have hS:Below w.heap.size w wr.drew:=HB.out.drew
   have HO1:Hid (wr.drew.ownsRow w.heap.size 67 8 u5 k (c8 (bs.take k))):=HO.out.drew
   change wpAnyH Tp _ _ _ _ _ _ _ wr.drew
   generalize wr.drew=w1 at *;refine tk 0 ?_
   refine tk 1 ?_
   refine tk 2 ?_
   refine tk 3 ?_
   refine tk 4 ?_ (hy:=fun W hSw=>by (have hc:=(HY.out W hSw).1;go_simp;try rfl))
   refine tk 5 ?_
   refine tk 6 ?_
   refine tk 7 ?_
   refine tk 8 ?_ (hy:=fun W hSw=>by (have hc:=(HY.out W hSw).2;go_simp;try rfl))
   refine tk 9 ?_
   refine tk 10 ?_
   refine tk 11 ?_
   refine tk 12 ?_
   refine tk 13 ?_
   refine tk 14 ?_ (hy:=fun W hSw=>by (have hc:=(HY.out W hSw).1;go_simp;try rfl))
   refine tk 15 ?_
   refine tk 16 ?_
   refine tk 17 ?_
   refine wU 18 (.agg [I J x,I J y,I J z,bO e,I .u32 (i:Int),bO r,I J d,sL ao m c].toArray) rfl (yieldsIf_load_mid (by rfl) 67 (.tmp 34) rfl gs (Q*8) rfl [I J x,I J y,I J z,bO e,I .u32 (i:Int),bO r,I J d,sL ao m c] _ (fun W h=>HRG.out W h) Tryz.underlying67 rfl sz129) hS ?_
   simp only[aZ];refine al 19 fun K hK=>?_
   go_simp;have hg:=heap_alloc_new w1 (.cells #[I J x,I J y,I J z,bO e,I .u32 (i:Int),bO r,I J d,sL ao m c] 67)
   have hS1:Below w.heap.size w (w1.alloc (.cells #[I J x,I J y,I J z,bO e,I .u32 (i:Int),bO r,I J d,sL ao m c] 67)):=hS.alloc hS.size _
   have HO2:Hid ((w1.alloc (.cells #[I J x,I J y,I J z,bO e,I .u32 (i:Int),bO r,I J d,sL ao m c] 67)).ownsRow w.heap.size 67 8 u5 k (c8 (bs.take k))):=World.ownsRow.alloc HO1.out _
   generalize (w1.alloc (.cells #[I J x,I J y,I J z,bO e,I .u32 (i:Int),bO r,I J d,sL ao m c] 67))=w2 at *;refine hK.out _ w2 hS1 (fun hS2=>?_)
   clear hS hK K hS1;have hS:=hS2
   clear hS2;refine al 20 fun K hK=>?_
   rw[if_pos (by rfl)]
   refine wp_app8 (.tmp 17) (.tmp 36) rfl w.heap.size k u5 (c8 (bs.take k)) rfl HO2.out w1.heap.size [I J x,I J y,I J z,bO e,I .u32 (i:Int),bO r,I J d,sL ao m c] rfl rfl hg (by simp[Value.oneCell']) (by omega) hS.size ?_
   intro v' w3 ho3 hg3;have HO3:Hid (w3.ownsRow w.heap.size 67 8 v' (k+1) (c8 (bs.take (k+1)))):=by show World.ownsRow _ _ _ _ _ _ _;rw[HT.out];exact ho3
   have hS3:Below w.heap.size w w3:=hS.grown hg3 hS.size (fun q hq=>(World.ownsRow.lt HO2.out q hq).1)
   have HB3:Hid (Below w.heap.size w w3):=hS3
   refine hK.out _ w3 hS3 (fun hS2=>?_)
   clear hS hK K hS3 hg3 ho3 hg;have hS:=hS2
   clear hS2;simp only[aZ];refine tk 21 ?_
   refine wpAnyH_done (by kernel_rfl) ?_ _
   clear hS;go_wp2_with fail;go_roundw
   case rel=>exact⟨k+1,by omega,by go_num,HO3.out,HB3.out⟩
   case measure=>simp[intOf];omega
  ·have hkn:k=n:=by omega
   subst hkn;have HF:Hid (wr.ownsRow w.heap.size 67 8 u5 k (c8 bs)):=by
    have:=HO.out
    rw[List.take_of_length_le (by have:=HN.out;omega)] at this
    exact this
   go_wp2
   go_ret;exact⟨u5,bs,rfl,HM.out,fun j hj=>(HBS.out j hj).2,HF.out,HB.out⟩
theorem look8_any (w0 w:World) (P o gs room first:Nat) (L:List R8) (y0:w.cell? ⟨P,o,none⟩=some (sL (some ⟨gs,0,none⟩) room room)) (y1:w.cell? ⟨P,o+1,none⟩=some (I J (first:Int))) (y2:w.cell? ⟨P,o+2,none⟩=some (I J (L.length:Int))) (hr:ring8 w0 w gs room first L) (hfi:first<room) (h1:1≤room∧room≤1000) (hL:L.length≤room) :
  Calls Tp 180 #[pT (some ⟨P,o,none⟩),I J (L.length:Int)] w fun e w'=>∃ (v:Value) (bs:List X8),e = rT v∧bs.map (·.1)=L∧(∀ j (hj:j<bs.length),iB w0 bs[j].2.1 bs[j].2.2.1 bs[j].2.2.2 bs[j].1.l)∧w'.ownsRow w.heap.size 67 8 v L.length (c8 bs)∧Below w.heap.size w w':=look8_of w0 w P o gs room first L L.length L.length (Nat.min_self _) y0 y1 y2 hr hfi h1 hL
def ownA (B:Nat) (a:Option Addr) (n:Nat) (W:World):Prop:=(a=none∧n=0)∨∃ b,a=some ⟨b,0,none⟩∧B≤b∧b<W.heap.size∧rowF W b n
theorem cloneB_any (W:World) (a:Option Addr) (n cap:Nat) (l:List Nat) (h:iB W a n cap l) (hn:n≤1048576) :
  Calls Tp 181 #[sL a n cap] W fun e w'=>∃ a' c',e = rT (sL a' n c')∧ownA W.heap.size a' n w'∧(∀ W',(∀ b,a'=some ⟨b,0,none⟩→W'.heap[b]?=w'.heap[b]?)→iB W' a' n c' l)∧Below W.heap.size W w':=by
 have hlen:=h.len
 cases a with
 | none=>
  have hl:l=[]:=by
   rcases Classical.em (l=[]) with e|e
   ·exact e
   ·obtain⟨g,off,e1,_⟩:=h.cells e;cases e1
  subst hl;have hn0:n=0:=hlen
  subst hn0;refine (Tryz.bytes_Clone_nil 0 cap W).mono ?_
  rintro e w' ⟨rfl,rfl⟩;exact⟨none,0,rfl,Or.inl ⟨rfl,rfl⟩,fun W' _=>⟨rfl,nR _,fun x hx=>(by cases hx),fun hne=>absurd rfl hne⟩,bW _ _⟩
 | some ad=>
  have hc:∀ i,i<n→W.cell? (ad.add i)=some (I .u8 ((l.map (fun x:Nat=>(x:Int))).getD i 0)):=by
   intro i hi;obtain⟨g,off,e1,hc⟩:=h.cells (by intro e;subst e;rw[hlen] at hi;cases hi)
   cases e1
   have hil:i<l.length:=by omega
   rw[Addr.add_lit]
   simp[List.getD,hc i hil,List.getElem?_eq_getElem hil]
  refine (Tryz.bytes_Clone_at ad n cap (l.map (fun x:Nat=>(x:Int))) W (by simp[hlen]) (by omega) hc).mono ?_
  rintro e w' ⟨v',rfl,ho,hv,hbw⟩;rcases ho.2 with⟨e,_⟩|⟨g',cap',cur,hv',hb,hg,hcp,hmx,hsz,htk⟩
  ·exact absurd e hv
  ·have hB:∀ W':World,(∀ b,(some ⟨g',0,none⟩ : Option Addr)=some ⟨b,0,none⟩→W'.heap[b]?=w'.heap[b]?)→iB W' (some ⟨g',0,none⟩) n cap' l:=fun W' hW=>⟨hlen,hcp,h.small,fun hne=>⟨g',0,rfl,fun j hj=>by
    have e:W'.heap[g']?=some (.cells cur 5 (0,0)):=(hW g' rfl).trans hg
    have hj':j<n*1:=by omega
    have e2:cur[j]?=some (I .u8 (l[j]:Int)):=by
     rw[← Array.getElem?_toList,← List.getElem?_take_of_lt hj',htk]
     simp[hj]
    rw[Nat.zero_add]
    simp[World.cell?,e,e2]⟩⟩
   refine⟨some ⟨g',0,none⟩,cap',by rw[hv'],Or.inr ⟨g',rfl,hb,lt_of_some hg,fun t ht=>⟨?_,?_⟩⟩,hB,hbw⟩
   ·obtain⟨g2,o2,e2,hc2⟩:=(hB w' (fun _ _=>rfl)).cells (by intro e;subst e;simp at hlen;omega)
    cases e2
    have:=hc2 t (by omega)
    rw[Nat.zero_add] at this
    exact⟨_,this⟩
   ·subst hv';exact World.ownsRow.frozenAt ho t
theorem ownData_any (W:World) (g o:Nat) (a:Option Addr) (n cap:Nat) (l:List Nat) (y:W.cell? ⟨g,o+4,none⟩=some (sL a n cap)) (hf:W.frozen? ⟨g,o+4,none⟩=false) (h:iB W a n cap l) (hn:n≤1048576) :
  Calls Tp 126 #[pT (some ⟨g,o,none⟩)] W fun e w'=>∃ a' c' w1,e = rT (.tuple #[])∧w'=w1.setCell ⟨g,o+4,none⟩ (sL a' n c')∧ownA W.heap.size a' n w1∧(∀ W',(∀ b,a'=some ⟨b,0,none⟩→W'.heap[b]?=w1.heap[b]?)→iB W' a' n c' l)∧Below W.heap.size W w1:=by
 have HC:Hid (Calls Tp 181 #[sL a n cap] W fun e w'=>∃ a' c',e = rT (sL a' n c')∧ownA W.heap.size a' n w'∧(∀ W',(∀ b,a'=some ⟨b,0,none⟩→W'.heap[b]?=w'.heap[b]?)→iB W' a' n c' l)∧Below W.heap.size W w'):=cloneB_any W a n cap l h hn
 have hg:g<W.heap.size:=World.block_lt_of_cell? W _ y
 clear h;go_enter Tryz.func126,Tryz.ntmps126
 go_wp2_with (first
  | (go_at_call 181;refine (Calls.mono HC.out) ?_;rintro e w1 ⟨a',c',rfl,q1,q2,b1⟩;have HQ:Hid (ownA W.heap.size a' n w1∧(∀ W',(∀ b,a'=some ⟨b,0,none⟩→W'.heap[b]?=w1.heap[b]?)→iB W' a' n c' l)∧Below W.heap.size W w1):=⟨q1,q2,b1⟩;have y1:w1.cell? ⟨g,o+4,none⟩=some (sL a n cap):=(b1.cell (by exact hg)).trans y;have f1:w1.frozen? ⟨g,o+4,none⟩=false:=(World.frozen?_of_block (b1.block g hg)).trans hf;clear q1 q2 b1 y hf))
 first | go_end0 | (try simp only[Exit.inBlock,Exit.then]);refine bN ?_
 exact⟨a',c',w1,rfl,rfl,HQ.out.1,HQ.out.2.1,HQ.out.2.2⟩
theorem run_makeMapN (n:Nat) (W:World):(Instr.makeMap 151 (some (I J (n:Int)))).run Tp W = .ok (.map (some W.heap.size)) (W.alloc (.map #[] 0)):=by
 simp[Instr.makeMap,go_sem]
theorem openHost_any (H:Type) (w:World) (c0 c2:Int) (r1 r3:Nat) (fs:List R3) (bx:List R8) (ff:List R5) (qu:List R8) (lo st:Int) (g1 n1 k1 g2 o2 n2 k2:Nat) (a3:Option Addr) (n3 k3:Nat) (a4:Option Addr) (n4 k4:Nat) (h1:isR3s w (some ⟨g1,0,none⟩) n1 k1 fs) (h2:isR8s w (some ⟨g2,o2,none⟩) n2 k2 bx) (h3:isR5s w a3 n3 k3 ff) (h4:isR8s w a4 n4 k4 qu) (m1:n1≤1048576) (m2:n2≤8) (hc1:1≤r1∧r1≤1000∧n3≤r1) (hc3:1≤r3∧r3≤1000∧n4≤r3) (hok:okBxs st bx) (hsm:∀ j (h:j<bx.length),bx[j].l.length≤1048576) :
  Calls Tp 123 #[aG #[I J c0,I J (r1:Int),I J c2,I J (r3:Int),sL (some ⟨g1,0,none⟩) n1 k1,sL (some ⟨g2,o2,none⟩) n2 k2,sL a3 n3 k3,sL a4 n4 k4,I J lo,I J st]] w fun o w'=>∃ P mb gf kf gb kb hs gr gq,o = rT (pT (some ⟨P,0,none⟩))∧lvS H w P mb [I J c0,I J (r1:Int),I J c2,I J (r3:Int),sL (some ⟨gf,0,none⟩) n1 kf,sL (some ⟨gb,0,none⟩) n2 kb,.map (some mb),sL (some ⟨gr,0,none⟩) r1 r1,I J 0,I J (n3:Int),sL (some ⟨gq,0,none⟩) r3 r3,I J 0,I J (n4:Int),I J lo,I J st] gf n1 kf fs gb n2 kb bx hs gr r1 ff gq r3 qu n2 w':=by
 have HSU:Hid (∀ (w1:World) (P mb:Nat) (hb0:Below w.heap.size w w1) (hP:blk w1 P [I J 0,I J 0,I J 0,I J 0,sL none 0 0,sL none 0 0,.map (some mb),sL none 0 0,I J 0,I J 0,sL none 0 0,I J 0,I J 0,I J 0,I J 0] 157) (hm:w1.heap[mb]?=some (.map #[] 0)) (hP0:w.heap.size≤P) (hmb0:w.heap.size≤mb) (hne:mb≠P),Calls Tp 176 #[pT (some ⟨P,0,none⟩),aG #[I J c0,I J (r1:Int),I J c2,I J (r3:Int),sL (some ⟨g1,0,none⟩) n1 k1,sL (some ⟨g2,o2,none⟩) n2 k2,sL a3 n3 k3,sL a4 n4 k4,I J lo,I J st]] w1 fun o w'=>∃ gf kf gb kb hs gr gq,o = rT (.tuple #[])∧lvS H w P mb [I J c0,I J (r1:Int),I J c2,I J (r3:Int),sL (some ⟨gf,0,none⟩) n1 kf,sL (some ⟨gb,0,none⟩) n2 kb,.map (some mb),sL (some ⟨gr,0,none⟩) r1 r1,I J 0,I J (n3:Int),sL (some ⟨gq,0,none⟩) r3 r3,I J 0,I J (n4:Int),I J lo,I J st] gf n1 kf fs gb n2 kb bx hs gr r1 ff gq r3 qu n2 w'):=fun w1 P mb hb0 hP hm hP0 hmb0 hne=>setUp_any H w w1 P mb c0 c2 r1 r3 fs bx ff qu lo st g1 n1 k1 g2 o2 n2 k2 a3 n3 k3 a4 n4 k4 h1 h2 h3 h4 m1 m2 hc1 hc3 hok hsm hmb0 hb0 hP hm hP0 hne
 have HPH:Hid (blk (w.alloc (.cells #[I J c0,I J (r1:Int),I J c2,I J (r3:Int),sL (some ⟨g1,0,none⟩) n1 k1,sL (some ⟨g2,o2,none⟩) n2 k2,sL a3 n3 k3,sL a4 n4 k4,I J lo,I J st] 39)) w.heap.size [I J c0,I J (r1:Int),I J c2,I J (r3:Int),sL (some ⟨g1,0,none⟩) n1 k1,sL (some ⟨g2,o2,none⟩) n2 k2,sL a3 n3 k3,sL a4 n4 k4,I J lo,I J st] 39∧Below w.heap.size w (w.alloc (.cells #[I J c0,I J (r1:Int),I J c2,I J (r3:Int),sL (some ⟨g1,0,none⟩) n1 k1,sL (some ⟨g2,o2,none⟩) n2 k2,sL a3 n3 k3,sL a4 n4 k4,I J lo,I J st] 39))):=⟨blk.new w _ 39,(bW _ _).alloc (nR _) _⟩
 have y5:=HPH.out.1.cell 5 _ rfl
 clear h1 h2 h3 h4 m1 hc1 hc3 hok hsm;have HM2:Hid (((w.alloc (.cells #[I J c0,I J (r1:Int),I J c2,I J (r3:Int),sL (some ⟨g1,0,none⟩) n1 k1,sL (some ⟨g2,o2,none⟩) n2 k2,sL a3 n3 k3,sL a4 n4 k4,I J lo,I J st] 39)).alloc (.map #[] 0)).heap[w.heap.size+1]?=some (.map #[] 0)):=by
  have:=heap_alloc_new (w.alloc (.cells #[I J c0,I J (r1:Int),I J c2,I J (r3:Int),sL (some ⟨g1,0,none⟩) n1 k1,sL (some ⟨g2,o2,none⟩) n2 k2,sL a3 n3 k3,sL a4 n4 k4,I J lo,I J st] 39)) (.map #[] 0)
  have e:(w.alloc (.cells #[I J c0,I J (r1:Int),I J c2,I J (r3:Int),sL (some ⟨g1,0,none⟩) n1 k1,sL (some ⟨g2,o2,none⟩) n2 k2,sL a3 n3 k3,sL a4 n4 k4,I J lo,I J st] 39)).heap.size=w.heap.size+1:=by simp
  rw[e] at this
  exact this
 have HM3:Hid ((((w.alloc (.cells #[I J c0,I J (r1:Int),I J c2,I J (r3:Int),sL (some ⟨g1,0,none⟩) n1 k1,sL (some ⟨g2,o2,none⟩) n2 k2,sL a3 n3 k3,sL a4 n4 k4,I J lo,I J st] 39)).alloc (.map #[] 0)).alloc (.cells #[I J 0,I J 0,I J 0,I J 0,sL none 0 0,sL none 0 0,.map (some (w.heap.size+1)),sL none 0 0,I J 0,I J 0,sL none 0 0,I J 0,I J 0,I J 0,I J 0] 157)).heap[w.heap.size+1]?=some (.map #[] 0)):=(Below.heap_alloc _ _ _ (lt_of_some HM2.out)).trans HM2.out
 have HP3:Hid (blk (((w.alloc (.cells #[I J c0,I J (r1:Int),I J c2,I J (r3:Int),sL (some ⟨g1,0,none⟩) n1 k1,sL (some ⟨g2,o2,none⟩) n2 k2,sL a3 n3 k3,sL a4 n4 k4,I J lo,I J st] 39)).alloc (.map #[] 0)).alloc (.cells #[I J 0,I J 0,I J 0,I J 0,sL none 0 0,sL none 0 0,.map (some (w.heap.size+1)),sL none 0 0,I J 0,I J 0,sL none 0 0,I J 0,I J 0,I J 0,I J 0] 157)) (w.heap.size+1+1) [I J 0,I J 0,I J 0,I J 0,sL none 0 0,sL none 0 0,.map (some (w.heap.size+1)),sL none 0 0,I J 0,I J 0,sL none 0 0,I J 0,I J 0,I J 0,I J 0] 157):=by
  have:=blk.new ((w.alloc (.cells #[I J c0,I J (r1:Int),I J c2,I J (r3:Int),sL (some ⟨g1,0,none⟩) n1 k1,sL (some ⟨g2,o2,none⟩) n2 k2,sL a3 n3 k3,sL a4 n4 k4,I J lo,I J st] 39)).alloc (.map #[] 0)) [I J 0,I J 0,I J 0,I J 0,sL none 0 0,sL none 0 0,.map (some (w.heap.size+1)),sL none 0 0,I J 0,I J 0,sL none 0 0,I J 0,I J 0,I J 0,I J 0] 157
  have e:((w.alloc (.cells #[I J c0,I J (r1:Int),I J c2,I J (r3:Int),sL (some ⟨g1,0,none⟩) n1 k1,sL (some ⟨g2,o2,none⟩) n2 k2,sL a3 n3 k3,sL a4 n4 k4,I J lo,I J st] 39)).alloc (.map #[] 0)).heap.size=w.heap.size+1+1:=by simp
  rw[e] at this
  exact this
 have HB3:Hid (Below w.heap.size w (((w.alloc (.cells #[I J c0,I J (r1:Int),I J c2,I J (r3:Int),sL (some ⟨g1,0,none⟩) n1 k1,sL (some ⟨g2,o2,none⟩) n2 k2,sL a3 n3 k3,sL a4 n4 k4,I J lo,I J st] 39)).alloc (.map #[] 0)).alloc (.cells #[I J 0,I J 0,I J 0,I J 0,sL none 0 0,sL none 0 0,.map (some (w.heap.size+1)),sL none 0 0,I J 0,I J 0,sL none 0 0,I J 0,I J 0,I J 0,I J 0] 157))):=((HPH.out.2.alloc (by simp) _).alloc (by simp;omega) _)
 have hmm:∀ W:World,(Instr.makeMap 151 (some (I J (n2:Int)))).run Tp W = .ok (.map (some W.heap.size)) (W.alloc (.map #[] 0)):=fun W=>run_makeMapN n2 W
 go_enter Tryz.func123,Tryz.ntmps123
 go_wp2_with fail;refine (HSU.out _ (w.heap.size+1+1) (w.heap.size+1) HB3.out HP3.out HM3.out (by omega) (by omega) (by omega)).mono ?_
 rintro o w9 ⟨gf,kf,gb,kb,hs,gr,gq,rfl,hlv⟩;have HLV:Hid _:=hlv
 clear hlv hmm y5 HSU HPH HM2 HM3 HP3 HB3;go_wp2
 go_ret;exact⟨_,_,gf,kf,gb,kb,hs,gr,gq,rfl,HLV.out⟩
end Go.Proofs.YtkfcfigbgmbaiaaGreat
