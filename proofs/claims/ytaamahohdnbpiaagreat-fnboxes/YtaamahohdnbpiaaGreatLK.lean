import Derived.Test.YtaamahohdnbpiaaGreatLS
import Derived.Test.YtaamahohdnbpiaaGreatG14
import Derived.Maps.Own
namespace Go.Proofs.YtaamahohdnbpiaaGreat
open Go.RowKit
set_option linter.unusedVariables false
structure own (w0:World) (P mb g:Nat) (p:World→Prop) (W:World):Prop where
 lt:g<W.heap.size
 n1:g≠P
 n2:g≠mb
 k:∀ W',W'.heap[g]?=W.heap[g]?→Below w0.heap.size w0 W'→p W'
theorem own.step {w0:World} {P mb g:Nat} {p:World→Prop} {W W':World} (h:own w0 P mb g p W) (e:W'.heap[g]?=W.heap[g]?) (hs:W.heap.size≤W'.heap.size):own w0 P mb g p W':=⟨Nat.lt_of_lt_of_le h.lt hs,h.n1,h.n2,fun W2 h2=>h.k W2 (h2.trans e)⟩
theorem own.below {w0:World} {P mb g:Nat} {p:World→Prop} {W W':World} (h:own w0 P mb g p W) (hb:Below W.heap.size W W'):own w0 P mb g p W':=h.step (hb.block _ h.lt) hb.size
theorem own.put {w0:World} {P mb g:Nat} {p:World→Prop} {W:World} (h:own w0 P mb g p W) (o:Nat) (vs:List Value):own w0 P mb g p (W.setCells P o vs):=h.step (setCells_other P g h.n1 vs W o) (by rw[setCells_size];exact Nat.le_refl _)
theorem clone3_any (w:World) (g n cap:Nat) (bs:List R3) (h:isR3s w (some ⟨g,0,none⟩) n cap bs) (hn:n≤1048576) :
  Calls Tryz.prog 55 #[.slice (some ⟨g,0,none⟩) n cap] w fun e w'=>∃ g' cap',e = .returned (.slice (some ⟨g',0,none⟩) n cap')∧w.heap.size≤g'∧g'<w'.heap.size∧(∀ W,W.heap[g']?=w'.heap[g']?→isR3s W (some ⟨g',0,none⟩) n cap' bs)∧Below w.heap.size w w':=by
 refine (clone_any w g n cap bs h hn).mono ?_
 rintro e w' ⟨v',rfl,ho,hv,hbw⟩;rcases ho.2 with⟨e,_⟩|⟨g',cap',cur,hv',hb,hg,hcp,hmx,hsz,htk⟩
 ·exact absurd e hv
 ·have hcur:∀ t,t<n*3→cur[t]?=(c3 bs)[t]?:=by
   intro t ht;rw[← htk,List.getElem?_take_of_lt ht,Array.getElem?_toList]
  have hcell:∀ W:World,W.heap[g']?=w'.heap[g']?→∀ t,t<n*3→W.cell? ⟨g',t,none⟩=(c3 bs)[t]?:=by
   intro W hW t ht;have e:W.heap[g']?=some (.cells cur 85 (0,0)):=hW.trans hg
   rw[← hcur t ht]
   simp[World.cell?,e]
  have hln:=h.len
  refine⟨g',cap',by rw[hv'],hb,lt_of_some hg,fun W hW=>⟨h.len,hcp,fun hne=>⟨g',0,rfl,fun j hj=>?_⟩⟩,hbw⟩
  obtain⟨y0,y1,y2⟩:=c3_at bs j hj
  exact⟨(by rw[Nat.zero_add];exact (hcell W hW _ (by omega)).trans y0),(by rw[Nat.zero_add];exact (hcell W hW _ (by omega)).trans y1),(by rw[Nat.zero_add];exact (hcell W hW _ (by omega)).trans y2)⟩
structure suS (w0:World) (P mb PH:Nat) (L HL:List Value) (W:World):Prop where
 p:blk W P L 134
 q:blk W PH HL 35
 m:W.heap[mb]?=some (.map #[] 0)
 b:Below w0.heap.size w0 W
 n1:w0.heap.size≤P
 n3:PH≠P
 n4:mb≠P
theorem suS.below {w0:World} {P mb PH:Nat} {L HL:List Value} {W W':World} (h:suS w0 P mb PH L HL W) (hb:Below W.heap.size W W'):suS w0 P mb PH L HL W':=⟨h.p.below hb,h.q.below hb,(hb.block _ (lt_of_some h.m)).trans h.m,h.b.trans (hb.mono h.b.size),h.n1,h.n3,h.n4⟩
theorem suS.put {w0:World} {P mb PH:Nat} {HL:List Value} {W:World} (pre old post vs:List Value) (h:suS w0 P mb PH (pre++old++post) HL W) (hl:old.length=vs.length):suS w0 P mb PH (pre++vs++post) HL (W.setCells P pre.length vs):=⟨h.p.put pre old post vs hl,h.q.other h.n3 _ _,(setCells_other P mb h.n4 vs W _).trans h.m,setCells_below h.n1 _ _ h.b,h.n1,h.n3,h.n4⟩
theorem wf_small {a:Int} (h0:0≤a) (h1:a≤10000):(Lit.int .i64 a).wf=true:=by
 have e1:IntKind.i64.min = -9223372036854775808:=by decide
 have e2:IntKind.i64.max=9223372036854775807:=by decide
 simp only[Lit.wf,e1,e2,Bool.and_eq_true,decide_eq_true_eq]
 omega
def tagsD (H:Type) (bx:List R8):Nat→DataW H
 | 0=>.map []
 | k+1=>if h:k<bx.length then (if bx[k].x=0 then tagsD H bx k else (tagsD H bx k).put (.int .i64 bx[k].y) (.lit (.int .i64 (k:Int)))) else tagsD H bx k
theorem tagsD_skip {H:Type} {bx:List R8} {k:Nat} (h:k<bx.length) (hx:bx[k].x=0):tagsD H bx (k+1)=tagsD H bx k:=by rw[tagsD,dif_pos h,if_pos hx]
theorem tagsD_put {H:Type} {bx:List R8} {k:Nat} (h:k<bx.length) (hx:bx[k].x≠0):tagsD H bx (k+1)=(tagsD H bx k).put (.int .i64 bx[k].y) (.lit (.int .i64 (k:Int))):=by rw[tagsD,dif_pos h,if_neg hx]
structure lvS (H:Type) (w0:World) (P mb:Nat) (L:List Value) (gf n1 kf:Nat) (fs:List R3) (gb n2 kb:Nat) (bx:List R8) (hs:Nat→Hd) (gr r1:Nat) (ff:List R5) (gq r3:Nat) (qu:List R8) (k:Nat) (W:World):Prop where
 p:blk W P L 134
 f:own w0 P mb gf (fun W=>isR3s W (some ⟨gf,0,none⟩) n1 kf fs) W
 x:own w0 P mb gb (fun W=>dr8 w0 0 gb n2 bx hs 0 W∧n2≤kb) W
 m:W.ownsMap (H:=H) Tryz.prog 3 (plainElem Tryz.prog 3) mb k (tagsD H bx k)
 b:Below w0.heap.size w0 W
 n1:mb≠P
 n2:w0.heap.size≤mb
 r:own w0 P mb gr (fun W=>ring5 w0 W gr r1 0 ff∧rowZ W gr (r1*5)) W
 q:own w0 P mb gq (fun W=>ring8 w0 W gq r3 0 qu∧rowZ W gq (r3*8)) W
 d:gf<gb∧gb<gr∧gr<gq
 lo:w0.heap.size≤gf∧w0.heap.size≤P
theorem lvS.below {H:Type} {w0:World} {P mb:Nat} {L:List Value} {gf n1 kf:Nat} {fs:List R3} {gb n2 kb:Nat} {bx:List R8} {hs:Nat→Hd} {gr r1:Nat} {ff:List R5} {gq r3:Nat} {qu:List R8} {k:Nat} {W W':World} (h:lvS H w0 P mb L gf n1 kf fs gb n2 kb bx hs gr r1 ff gq r3 qu k W) (hb:Below W.heap.size W W'):lvS H w0 P mb L gf n1 kf fs gb n2 kb bx hs gr r1 ff gq r3 qu k W':=
 ⟨h.p.below hb,h.f.below hb,h.x.below hb,h.m.kept (row:=none) ⟨hb.os,hb.tape,hb.output,hb.size,fun k hk _=>hb.block k hk⟩ (by simp),h.b.trans (hb.mono h.b.size),h.n1,h.n2,h.r.below hb,h.q.below hb,h.d,h.lo⟩
theorem lvS.next {H:Type} {w0:World} {P mb:Nat} {L:List Value} {gf n1 kf:Nat} {fs:List R3} {gb n2 kb:Nat} {bx:List R8} {hs:Nat→Hd} {gr r1:Nat} {ff:List R5} {gq r3:Nat} {qu:List R8} {k k':Nat} {W W':World} (h:lvS H w0 P mb L gf n1 kf fs gb n2 kb bx hs gr r1 ff gq r3 qu k W) (hg:W.grownBy W' (some mb)) (hm:W'.ownsMap (H:=H) Tryz.prog 3 (plainElem Tryz.prog 3) mb k' (tagsD H bx k')):lvS H w0 P mb L gf n1 kf fs gb n2 kb bx hs gr r1 ff gq r3 qu k' W':=
 ⟨h.p.kept (hg.block _ h.p.lt (by simpa using fun e=>h.n1 e.symm)),h.f.step (hg.block _ h.f.lt (by simpa using h.f.n2)) hg.size,h.x.step (hg.block _ h.x.lt (by simpa using h.x.n2)) hg.size,hm,h.b.grown hg h.b.size (fun k hk=>by cases hk;exact h.n2),h.n1,h.n2,h.r.step (hg.block _ h.r.lt (by simpa using h.r.n2)) hg.size,h.q.step (hg.block _ h.q.lt (by simpa using h.q.n2)) hg.size,h.d,h.lo⟩
theorem lvS.skip {H:Type} {w0:World} {P mb:Nat} {L:List Value} {gf n1 kf:Nat} {fs:List R3} {gb n2 kb:Nat} {bx:List R8} {hs:Nat→Hd} {gr r1:Nat} {ff:List R5} {gq r3:Nat} {qu:List R8} {k:Nat} {W:World} (h:lvS H w0 P mb L gf n1 kf fs gb n2 kb bx hs gr r1 ff gq r3 qu k W) (hk:k<bx.length) (hx:bx[k].x=0):lvS H w0 P mb L gf n1 kf fs gb n2 kb bx hs gr r1 ff gq r3 qu (k+1) W:=
 ⟨h.p,h.f,h.x,by rw[tagsD_skip hk hx];exact h.m.mono (Nat.le_succ _),h.b,h.n1,h.n2,h.r,h.q,h.d,h.lo⟩
theorem clear_same {w:World} {mb:Nat} (h:w.heap[mb]?=some (.map #[] 0)) (ty:TypeId):(Builtin.clear_ #[128] ty #[.map (some mb)]).run Tryz.prog w = .ok (.tuple #[]) w:=by
 have e:w.heap.setIfInBounds mb (.map #[] 0)=w.heap:=by
  apply Array.ext_getElem?
  intro i;rw[Array.getElem?_setIfInBounds]
  split
  ·rename_i hi
   subst hi;simp[lt_of_some h]
   exact (Array.getElem?_eq_some_iff.1 h).2.symm
  ·rfl
 simp[Builtin.clear_,run_underlying Tryz.underlying128,MapKept.run_getObj_map h,MapKept.run_setObj_map _ h,Result.andThen]
 rw[e]
set_option maxHeartbeats 8000000 in
set_option maxRecDepth 20000 in
theorem setUp_any (H:Type) (w0 w:World) (P mb:Nat) (c0 c2:Int) (r1 r3:Nat) (fs:List R3) (bx:List R8) (ff:List R5) (qu:List R8) (lo st:Int) (g1 n1 k1 g2 o2 n2 k2:Nat) (a3:Option Addr) (n3 k3:Nat) (a4:Option Addr) (n4 k4:Nat) (h1:isR3s w0 (some ⟨g1,0,none⟩) n1 k1 fs) (h2:isR8s w0 (some ⟨g2,o2,none⟩) n2 k2 bx) (h3:isR5s w0 a3 n3 k3 ff) (h4:isR8s w0 a4 n4 k4 qu) (m1:n1≤1048576) (m2:n2≤8) (hc1:1≤r1∧r1≤1000∧n3≤r1) (hc3:1≤r3∧r3≤1000∧n4≤r3) (hok:okBxs st bx) (hsm:∀ j (h:j<bx.length),bx[j].l.length≤1048576) (hmb0:w0.heap.size≤mb) (hb0:Below w0.heap.size w0 w) (hP:blk w P [.int .i64 0,.int .i64 0,.int .i64 0,.int .i64 0,.slice none 0 0,.slice none 0 0,.map (some mb),.slice none 0 0,.int .i64 0,.int .i64 0,.slice none 0 0,.int .i64 0,.int .i64 0,.int .i64 0,.int .i64 0] 134) (hm:w.heap[mb]?=some (.map #[] 0)) (hP0:w0.heap.size≤P) (hne:mb≠P) :
  Calls Tryz.prog 129 #[.pointer (some ⟨P,0,none⟩),.agg #[.int .i64 c0,.int .i64 (r1:Int),.int .i64 c2,.int .i64 (r3:Int),.slice (some ⟨g1,0,none⟩) n1 k1,.slice (some ⟨g2,o2,none⟩) n2 k2,.slice a3 n3 k3,.slice a4 n4 k4,.int .i64 lo,.int .i64 st]] w fun o w'=>∃ gf kf gb kb hs gr gq,o = .returned (.tuple #[])∧lvS H w0 P mb [.int .i64 c0,.int .i64 (r1:Int),.int .i64 c2,.int .i64 (r3:Int),.slice (some ⟨gf,0,none⟩) n1 kf,.slice (some ⟨gb,0,none⟩) n2 kb,.map (some mb),.slice (some ⟨gr,0,none⟩) r1 r1,.int .i64 0,.int .i64 (n3:Int),.slice (some ⟨gq,0,none⟩) r3 r3,.int .i64 0,.int .i64 (n4:Int),.int .i64 lo,.int .i64 st] gf n1 kf fs gb n2 kb bx hs gr r1 ff gq r3 qu n2 w':=by
 have HLN:Hid (n2=bx.length):=h2.len
 have HOK:Hid (okBxs st bx):=hok
 clear hok;have HU:Hid (suS w0 P mb w.heap.size [.int .i64 0,.int .i64 0,.int .i64 0,.int .i64 0,.slice none 0 0,.slice none 0 0,.map (some mb),.slice none 0 0,.int .i64 0,.int .i64 0,.slice none 0 0,.int .i64 0,.int .i64 0,.int .i64 0,.int .i64 0] [.int .i64 c0,.int .i64 (r1:Int),.int .i64 c2,.int .i64 (r3:Int),.slice (some ⟨g1,0,none⟩) n1 k1,.slice (some ⟨g2,o2,none⟩) n2 k2,.slice a3 n3 k3,.slice a4 n4 k4,.int .i64 lo,.int .i64 st] (w.alloc (.cells #[.int .i64 c0,.int .i64 (r1:Int),.int .i64 c2,.int .i64 (r3:Int),.slice (some ⟨g1,0,none⟩) n1 k1,.slice (some ⟨g2,o2,none⟩) n2 k2,.slice a3 n3 k3,.slice a4 n4 k4,.int .i64 lo,.int .i64 st] 35))):=⟨hP.alloc _,blk.new w _ 35,(Below.heap_alloc _ _ _ (lt_of_some hm)).trans hm,hb0.alloc hb0.size _,hP0,fun e=>absurd hP.lt (by omega),hne⟩
 clear hP hm hP0 hne hb0;have HC1:Hid (∀ W,Below w0.heap.size w0 W→Calls Tryz.prog 55 #[.slice (some ⟨g1,0,none⟩) n1 k1] W fun e w'=>∃ g' cap',e = .returned (.slice (some ⟨g',0,none⟩) n1 cap')∧W.heap.size≤g'∧g'<w'.heap.size∧(∀ W,W.heap[g']?=w'.heap[g']?→isR3s W (some ⟨g',0,none⟩) n1 cap' fs)∧Below W.heap.size W w'):=fun W hW=>clone3_any W g1 n1 k1 fs (h1.below hW) m1
 have HC2:Hid (∀ W,Below w0.heap.size w0 W→Calls Tryz.prog 160 #[.slice (some ⟨g2,o2,none⟩) n2 k2] W fun e w'=>∃ g' cap' hs,e = .returned (.slice (some ⟨g',0,none⟩) n2 cap')∧W.heap.size≤g'∧n2≤cap'∧dr8 w0 0 g' n2 bx hs 0 w'∧Below W.heap.size W w'):=fun W hW=>clone8_dr w0 W g2 o2 n2 k2 bx h2 hW (by omega) hsm
 have HR5:Hid (∀ W,Below w0.heap.size w0 W→Calls Tryz.prog 171 #[.int .i64 (r1:Int),.slice a3 n3 k3] W fun o w'=>∃ gs,o = .returned (.agg #[.slice (some ⟨gs,0,none⟩) r1 r1,.int .i64 0,.int .i64 (n3:Int)])∧W.heap.size≤gs∧gs<w'.heap.size∧rowZ w' gs (r1*5)∧ring5 w0 w' gs r1 0 ff∧Below W.heap.size W w'):=fun W hW=>(newRing5_any w0 W hW r1 ff a3 n3 k3 h3 hc1.1 hc1.2.1 hc1.2.2)
 have HR8:Hid (∀ W,Below w0.heap.size w0 W→Calls Tryz.prog 172 #[.int .i64 (r3:Int),.slice a4 n4 k4] W fun o w'=>∃ gs,o = .returned (.agg #[.slice (some ⟨gs,0,none⟩) r3 r3,.int .i64 0,.int .i64 (n4:Int)])∧W.heap.size≤gs∧gs<w'.heap.size∧rowZ w' gs (r3*8)∧ring8 w0 w' gs r3 0 qu∧Below W.heap.size W w'):=fun W hW=>(newRing8_any w0 W hW r3 qu a4 n4 k4 h4 hc3.1 hc3.2.1 hc3.2.2)
 clear h1 h2 h3 h4 hc1 hc3;have y6:=HU.out.p.cell 6 _ rfl
 have hcl:=clear_same HU.out.m
 go_enter Tryz.func129,Tryz.ntmps129
 go_wp2_with fail;generalize (w.alloc (.cells #[.int .i64 c0,.int .i64 (r1:Int),.int .i64 c2,.int .i64 (r3:Int),.slice (some ⟨g1,0,none⟩) n1 k1,.slice (some ⟨g2,o2,none⟩) n2 k2,.slice a3 n3 k3,.slice a4 n4 k4,.int .i64 lo,.int .i64 st] 35))=w1 at *;generalize w.heap.size=PH at *;clear y6 hcl;refine wp_region_held (S:=fun W=>blk W PH [.int .i64 c0,.int .i64 (r1:Int),.int .i64 c2,.int .i64 (r3:Int),.slice (some ⟨g1,0,none⟩) n1 k1,.slice (some ⟨g2,o2,none⟩) n2 k2,.slice a3 n3 k3,.slice a4 n4 k4,.int .i64 lo,.int .i64 st] 35) (by kernel_rfl) ?_
 have hS:blk w1.drew PH [.int .i64 c0,.int .i64 (r1:Int),.int .i64 c2,.int .i64 (r3:Int),.slice (some ⟨g1,0,none⟩) n1 k1,.slice (some ⟨g2,o2,none⟩) n2 k2,.slice a3 n3 k3,.slice a4 n4 k4,.int .i64 lo,.int .i64 st] 35:=HU.out.q
 have HU:Hid (suS w0 P mb PH [.int .i64 0,.int .i64 0,.int .i64 0,.int .i64 0,.slice none 0 0,.slice none 0 0,.map (some mb),.slice none 0 0,.int .i64 0,.int .i64 0,.slice none 0 0,.int .i64 0,.int .i64 0,.int .i64 0,.int .i64 0] [.int .i64 c0,.int .i64 (r1:Int),.int .i64 c2,.int .i64 (r3:Int),.slice (some ⟨g1,0,none⟩) n1 k1,.slice (some ⟨g2,o2,none⟩) n2 k2,.slice a3 n3 k3,.slice a4 n4 k4,.int .i64 lo,.int .i64 st] w1.drew):=HU.out.below (Below.refl _ _).drew
 change wpAnyH Tryz.prog _ _ _ _ _ _ _ w1.drew
 generalize w1.drew=w2 at *;refine wT (i:=0) (v:=.pointer (some ⟨P,0,none⟩)) rfl (by kernel_rfl) (by kernel_rfl) (by kernel_rfl) (fun _ _ _ h=>h) (Or.inl ⟨by rfl,?_⟩) hS ?_
 ·intro W hSw;clear hS;go_simp
 simp only[Act.put,aA]
 refine wT (i:=1) (v:=.pointer (some ⟨P,0,none⟩)) rfl (by kernel_rfl) (by kernel_rfl) (by kernel_rfl) (fun _ _ _ h=>h) (Or.inl ⟨by rfl,?_⟩) hS ?_
 ·intro W hSw;clear hS;go_simp
 simp only[Act.put,aA,aB,aC,aD,aE,aF];refine wT (i:=2) (v:=.pointer (some ⟨P,0,none⟩)) rfl (by kernel_rfl) (by kernel_rfl) (by kernel_rfl) (fun _ _ _ h=>h) (Or.inl ⟨by rfl,?_⟩) hS ?_
 ·intro W hSw;clear hS;go_simp
 simp only[Act.put,aA,aB,aC,aD,aE,aF];refine wT (i:=3) (v:=.pointer (some ⟨PH,0,none⟩)) rfl (by kernel_rfl) (by kernel_rfl) (by kernel_rfl) (fun _ _ _ h=>h) (Or.inl ⟨by rfl,?_⟩) hS ?_
 ·intro W hSw;clear hS;go_simp
 simp only[Act.put,aA,aB,aC,aD,aE,aF];refine wT (i:=4) (v:=.agg [.int .i64 c0,.int .i64 (r1:Int),.int .i64 c2,.int .i64 (r3:Int)].toArray) rfl (by kernel_rfl) (by kernel_rfl) (by kernel_rfl) (fun _ _ _ h=>h) (yieldsIf_load_mid (by rfl) 29 (.tmp 13) rfl PH 0 rfl [.int .i64 c0,.int .i64 (r1:Int),.int .i64 c2,.int .i64 (r3:Int)] _ (fun W h=>blk.loadAt [] [.int .i64 c0,.int .i64 (r1:Int),.int .i64 c2,.int .i64 (r3:Int)] [.slice (some ⟨g1,0,none⟩) n1 k1,.slice (some ⟨g2,o2,none⟩) n2 k2,.slice a3 n3 k3,.slice a4 n4 k4,.int .i64 lo,.int .i64 st] h) Tryz.underlying29 rfl sz35) hS ?_
 simp only[Act.put,aA,aB,aC,aD,aE,aF];refine wT (i:=5) (v:=.pointer (some ⟨PH,8,none⟩)) rfl (by kernel_rfl) (by kernel_rfl) (by kernel_rfl) (fun _ _ _ h=>h) (Or.inl ⟨by rfl,?_⟩) hS ?_
 ·intro W hSw;clear hS;go_simp
 simp only[Act.put,aA,aB,aC,aD,aE,aF];refine wT (i:=6) (v:=.int .i64 lo) rfl (by kernel_rfl) (by kernel_rfl) (by kernel_rfl) (fun _ _ _ h=>h) (Or.inl ⟨by rfl,?_⟩) hS ?_
 ·intro W hSw;have hc:=hSw.cell 8 _ rfl
  clear hS;go_simp
 simp only[Act.put,aA,aB,aC,aD,aE,aF];refine wT (i:=7) (v:=.pointer (some ⟨PH,9,none⟩)) rfl (by kernel_rfl) (by kernel_rfl) (by kernel_rfl) (fun _ _ _ h=>h) (Or.inl ⟨by rfl,?_⟩) hS ?_
 ·intro W hSw;clear hS;go_simp
 simp only[Act.put,aA,aB,aC,aD,aE,aF];refine wT (i:=8) (v:=.int .i64 st) rfl (by kernel_rfl) (by kernel_rfl) (by kernel_rfl) (fun _ _ _ h=>h) (Or.inl ⟨by rfl,?_⟩) hS ?_
 ·intro W hSw;have hc:=hSw.cell 9 _ rfl
  clear hS;go_simp
 simp only[Act.put,aA,aB,aC,aD,aE,aF];refine wT (i:=9) (v:=.pointer (some ⟨P,0,none⟩)) rfl (by kernel_rfl) (by kernel_rfl) (by kernel_rfl) (fun _ _ _ h=>h) (Or.inl ⟨by rfl,?_⟩) hS ?_
 ·intro W hSw;clear hS;go_simp
 simp only[Act.put,aA,aB,aC,aD,aE,aF];refine wT (i:=10) (v:=.pointer (some ⟨P,0,none⟩)) rfl (by kernel_rfl) (by kernel_rfl) (by kernel_rfl) (fun _ _ _ h=>h) (Or.inl ⟨by rfl,?_⟩) hS ?_
 ·intro W hSw;clear hS;go_simp
 simp only[Act.put,aA,aB,aC,aD,aE,aF];refine wpAnyH_all (rs:=[11]) (by kernel_rfl) (by simp) ?_
 refine AllReadyH.cons rfl (fun K hK=>?_) AllReadyH.nil
 rw[if_pos (by rfl)]
 refine wp_store_mid (P:=Tryz.prog) 29 (.tmp 20) (.tmp 14) rfl P 0 _ rfl rfl (HU.out.p.there 0 4 (by simp)) sz35 (all_oneCell_toArray (by simp[Value.oneCell'])) ?_
 simp only[Act.put,aD,aE,aF]
 have HU3:Hid (suS w0 P mb PH [.int .i64 c0,.int .i64 (r1:Int),.int .i64 c2,.int .i64 (r3:Int),.slice none 0 0,.slice none 0 0,.map (some mb),.slice none 0 0,.int .i64 0,.int .i64 0,.slice none 0 0,.int .i64 0,.int .i64 0,.int .i64 0,.int .i64 0] [.int .i64 c0,.int .i64 (r1:Int),.int .i64 c2,.int .i64 (r3:Int),.slice (some ⟨g1,0,none⟩) n1 k1,.slice (some ⟨g2,o2,none⟩) n2 k2,.slice a3 n3 k3,.slice a4 n4 k4,.int .i64 lo,.int .i64 st] (w2.setCells P 0 [.int .i64 c0,.int .i64 (r1:Int),.int .i64 c2,.int .i64 (r3:Int)])):=HU.out.put [] [.int .i64 0,.int .i64 0,.int .i64 0,.int .i64 0] [.slice none 0 0,.slice none 0 0,.map (some mb),.slice none 0 0,.int .i64 0,.int .i64 0,.slice none 0 0,.int .i64 0,.int .i64 0,.int .i64 0,.int .i64 0] [.int .i64 c0,.int .i64 (r1:Int),.int .i64 c2,.int .i64 (r3:Int)] rfl
 have hS1:blk (w2.setCells P 0 [.int .i64 c0,.int .i64 (r1:Int),.int .i64 c2,.int .i64 (r3:Int)]) PH [.int .i64 c0,.int .i64 (r1:Int),.int .i64 c2,.int .i64 (r3:Int),.slice (some ⟨g1,0,none⟩) n1 k1,.slice (some ⟨g2,o2,none⟩) n2 k2,.slice a3 n3 k3,.slice a4 n4 k4,.int .i64 lo,.int .i64 st] 35:=HU3.out.q
 generalize (w2.setCells P 0 [.int .i64 c0,.int .i64 (r1:Int),.int .i64 c2,.int .i64 (r3:Int)])=w3 at *;refine hK.out _ w3 hS1 (fun hS2=>?_)
 clear hS hK K hS1 HU;have hS:=hS2
 have HU:=HU3
 clear hS2 HU3;refine wT (i:=12) (v:=.pointer (some ⟨P,0,none⟩)) rfl (by kernel_rfl) (by kernel_rfl) (by kernel_rfl) (fun _ _ _ h=>h) (Or.inl ⟨by rfl,?_⟩) hS ?_
 ·intro W hSw;clear hS;go_simp
 simp only[Act.put,aA,aB,aC,aD,aE,aF];refine wT (i:=13) (v:=.pointer (some ⟨P,13,none⟩)) rfl (by kernel_rfl) (by kernel_rfl) (by kernel_rfl) (fun _ _ _ h=>h) (Or.inl ⟨by rfl,?_⟩) hS ?_
 ·intro W hSw;clear hS;go_simp
 simp only[Act.put,aA,aB,aC,aD,aE,aF];refine wpAnyH_all (rs:=[14]) (by kernel_rfl) (by simp) ?_
 refine AllReadyH.cons rfl (fun K hK=>?_) AllReadyH.nil
 have hcP:=HU.out.p.cell 13 _ rfl
 have hfP:=HU.out.p.free 13
 go_simp;clear hcP hfP;have HU4:Hid (suS w0 P mb PH [.int .i64 c0,.int .i64 (r1:Int),.int .i64 c2,.int .i64 (r3:Int),.slice none 0 0,.slice none 0 0,.map (some mb),.slice none 0 0,.int .i64 0,.int .i64 0,.slice none 0 0,.int .i64 0,.int .i64 0,.int .i64 lo,.int .i64 0] [.int .i64 c0,.int .i64 (r1:Int),.int .i64 c2,.int .i64 (r3:Int),.slice (some ⟨g1,0,none⟩) n1 k1,.slice (some ⟨g2,o2,none⟩) n2 k2,.slice a3 n3 k3,.slice a4 n4 k4,.int .i64 lo,.int .i64 st] (w3.setCell ⟨P,13,none⟩ (.int .i64 lo))):=HU.out.put [.int .i64 c0,.int .i64 (r1:Int),.int .i64 c2,.int .i64 (r3:Int),.slice none 0 0,.slice none 0 0,.map (some mb),.slice none 0 0,.int .i64 0,.int .i64 0,.slice none 0 0,.int .i64 0,.int .i64 0] [.int .i64 0] [.int .i64 0] [.int .i64 lo] rfl
 have hS1:blk (w3.setCell ⟨P,13,none⟩ (.int .i64 lo)) PH [.int .i64 c0,.int .i64 (r1:Int),.int .i64 c2,.int .i64 (r3:Int),.slice (some ⟨g1,0,none⟩) n1 k1,.slice (some ⟨g2,o2,none⟩) n2 k2,.slice a3 n3 k3,.slice a4 n4 k4,.int .i64 lo,.int .i64 st] 35:=HU4.out.q
 generalize (w3.setCell ⟨P,13,none⟩ (.int .i64 lo))=w4 at *;refine hK.out _ w4 hS1 (fun hS2=>?_)
 clear hS hK K hS1 HU;have hS:=hS2
 have HU:=HU4
 clear hS2 HU4;refine wT (i:=15) (v:=.pointer (some ⟨P,0,none⟩)) rfl (by kernel_rfl) (by kernel_rfl) (by kernel_rfl) (fun _ _ _ h=>h) (Or.inl ⟨by rfl,?_⟩) hS ?_
 ·intro W hSw;clear hS;go_simp
 simp only[Act.put,aA,aB,aC,aD,aE,aF];refine wT (i:=16) (v:=.pointer (some ⟨P,14,none⟩)) rfl (by kernel_rfl) (by kernel_rfl) (by kernel_rfl) (fun _ _ _ h=>h) (Or.inl ⟨by rfl,?_⟩) hS ?_
 ·intro W hSw;clear hS;go_simp
 simp only[Act.put,aA,aB,aC,aD,aE,aF];refine wpAnyH_all (rs:=[17]) (by kernel_rfl) (by simp) ?_
 refine AllReadyH.cons rfl (fun K hK=>?_) AllReadyH.nil
 have hcP:=HU.out.p.cell 14 _ rfl
 have hfP:=HU.out.p.free 14
 go_simp;clear hcP hfP;have HU5:Hid (suS w0 P mb PH [.int .i64 c0,.int .i64 (r1:Int),.int .i64 c2,.int .i64 (r3:Int),.slice none 0 0,.slice none 0 0,.map (some mb),.slice none 0 0,.int .i64 0,.int .i64 0,.slice none 0 0,.int .i64 0,.int .i64 0,.int .i64 lo,.int .i64 st] [.int .i64 c0,.int .i64 (r1:Int),.int .i64 c2,.int .i64 (r3:Int),.slice (some ⟨g1,0,none⟩) n1 k1,.slice (some ⟨g2,o2,none⟩) n2 k2,.slice a3 n3 k3,.slice a4 n4 k4,.int .i64 lo,.int .i64 st] (w4.setCell ⟨P,14,none⟩ (.int .i64 st))):=HU.out.put [.int .i64 c0,.int .i64 (r1:Int),.int .i64 c2,.int .i64 (r3:Int),.slice none 0 0,.slice none 0 0,.map (some mb),.slice none 0 0,.int .i64 0,.int .i64 0,.slice none 0 0,.int .i64 0,.int .i64 0,.int .i64 lo] [.int .i64 0] [] [.int .i64 st] rfl
 have hS1:blk (w4.setCell ⟨P,14,none⟩ (.int .i64 st)) PH [.int .i64 c0,.int .i64 (r1:Int),.int .i64 c2,.int .i64 (r3:Int),.slice (some ⟨g1,0,none⟩) n1 k1,.slice (some ⟨g2,o2,none⟩) n2 k2,.slice a3 n3 k3,.slice a4 n4 k4,.int .i64 lo,.int .i64 st] 35:=HU5.out.q
 generalize (w4.setCell ⟨P,14,none⟩ (.int .i64 st))=w5 at *;refine hK.out _ w5 hS1 (fun hS2=>?_)
 clear hS hK K hS1 HU;have hS:=hS2
 have HU:=HU5
 clear hS2 HU5;refine wpAnyH_done (by kernel_rfl) ?_ _
 clear hS;go_wp2_with fail;refine wp_region_held (S:=fun W=>blk W PH [.int .i64 c0,.int .i64 (r1:Int),.int .i64 c2,.int .i64 (r3:Int),.slice (some ⟨g1,0,none⟩) n1 k1,.slice (some ⟨g2,o2,none⟩) n2 k2,.slice a3 n3 k3,.slice a4 n4 k4,.int .i64 lo,.int .i64 st] 35) (by kernel_rfl) ?_
 have hS:blk w5.drew PH [.int .i64 c0,.int .i64 (r1:Int),.int .i64 c2,.int .i64 (r3:Int),.slice (some ⟨g1,0,none⟩) n1 k1,.slice (some ⟨g2,o2,none⟩) n2 k2,.slice a3 n3 k3,.slice a4 n4 k4,.int .i64 lo,.int .i64 st] 35:=HU.out.q
 have HUd:Hid (suS w0 P mb PH [.int .i64 c0,.int .i64 (r1:Int),.int .i64 c2,.int .i64 (r3:Int),.slice none 0 0,.slice none 0 0,.map (some mb),.slice none 0 0,.int .i64 0,.int .i64 0,.slice none 0 0,.int .i64 0,.int .i64 0,.int .i64 lo,.int .i64 st] [.int .i64 c0,.int .i64 (r1:Int),.int .i64 c2,.int .i64 (r3:Int),.slice (some ⟨g1,0,none⟩) n1 k1,.slice (some ⟨g2,o2,none⟩) n2 k2,.slice a3 n3 k3,.slice a4 n4 k4,.int .i64 lo,.int .i64 st] w5.drew):=HU.out.below (Below.refl _ _).drew
 clear HU;have HU:=HUd
 clear HUd;change wpAnyH Tryz.prog _ _ _ _ _ _ _ w5.drew
 generalize w5.drew=w6 at *;refine wT (i:=0) (v:=.pointer (some ⟨P,0,none⟩)) rfl (by kernel_rfl) (by kernel_rfl) (by kernel_rfl) (fun _ _ _ h=>h) (Or.inl ⟨by rfl,?_⟩) hS ?_
 ·intro W hSw;clear hS;go_simp
 simp only[Act.put,aA,aB,aC,aD,aE]
 refine wT (i:=1) (v:=.pointer (some ⟨P,0,none⟩)) rfl (by kernel_rfl) (by kernel_rfl) (by kernel_rfl) (fun _ _ _ h=>h) (Or.inl ⟨by rfl,?_⟩) hS ?_
 ·intro W hSw;clear hS;go_simp
 simp only[Act.put,aA,aB,aC,aD,aE,aF];refine wT (i:=2) (v:=.pointer (some ⟨PH,4,none⟩)) rfl (by kernel_rfl) (by kernel_rfl) (by kernel_rfl) (fun _ _ _ h=>h) (Or.inl ⟨by rfl,?_⟩) hS ?_
 ·intro W hSw;clear hS;go_simp
 simp only[Act.put,aA,aB,aC,aD,aE,aF];refine wT (i:=3) (v:=.slice (some ⟨g1,0,none⟩) n1 k1) rfl (by kernel_rfl) (by kernel_rfl) (by kernel_rfl) (fun _ _ _ h=>h) (Or.inl ⟨by rfl,?_⟩) hS ?_
 ·intro W hSw;have hc:=hSw.cell 4 _ rfl
  clear hS;go_simp
 simp only[Act.put,aA,aB,aC,aD,aE,aF];refine wT (i:=5) (v:=.pointer (some ⟨PH,5,none⟩)) rfl (by kernel_rfl) (by kernel_rfl) (by kernel_rfl) (fun _ _ _ h=>h) (Or.inl ⟨by rfl,?_⟩) hS ?_
 ·intro W hSw;clear hS;go_simp
 simp only[Act.put,aA,aB,aC,aD,aE,aF];refine wT (i:=6) (v:=.slice (some ⟨g2,o2,none⟩) n2 k2) rfl (by kernel_rfl) (by kernel_rfl) (by kernel_rfl) (fun _ _ _ h=>h) (Or.inl ⟨by rfl,?_⟩) hS ?_
 ·intro W hSw;have hc:=hSw.cell 5 _ rfl
  clear hS;go_simp
 simp only[Act.put,aA,aB,aC,aD,aE,aF];refine wpAnyH_all (rs:=[4]) (by kernel_rfl) (by simp) ?_
 refine AllReadyH.cons rfl (fun K hK=>?_) AllReadyH.nil
 go_simp;refine (HC1.out _ HU.out.b).mono ?_
 rintro o w7 ⟨gf,kf,rfl,q1,q2,q3,b7⟩;have HGF:Hid (w0.heap.size≤gf):=Nat.le_trans HU.out.b.size q1
 have HU7:Hid (suS w0 P mb PH [.int .i64 c0,.int .i64 (r1:Int),.int .i64 c2,.int .i64 (r3:Int),.slice none 0 0,.slice none 0 0,.map (some mb),.slice none 0 0,.int .i64 0,.int .i64 0,.slice none 0 0,.int .i64 0,.int .i64 0,.int .i64 lo,.int .i64 st] [.int .i64 c0,.int .i64 (r1:Int),.int .i64 c2,.int .i64 (r3:Int),.slice (some ⟨g1,0,none⟩) n1 k1,.slice (some ⟨g2,o2,none⟩) n2 k2,.slice a3 n3 k3,.slice a4 n4 k4,.int .i64 lo,.int .i64 st] w7):=HU.out.below b7
 have HOF:Hid (own w0 P mb gf (fun W=>isR3s W (some ⟨gf,0,none⟩) n1 kf fs) w7):=⟨q2,fun e=>absurd HU.out.p.lt (by omega),fun e=>absurd (lt_of_some HU.out.m) (by omega),fun W' e _=>q3 W' e⟩
 clear q1 q2 q3 b7;go_wp2_with fail;refine hK.out _ _ HU7.out.q (fun hS2=>?_)
 clear hS hK K HU;have hS:=hS2
 have HU:=HU7
 clear hS2 HU7;refine wpAnyH_all (rs:=[7]) (by kernel_rfl) (by simp) ?_
 refine AllReadyH.cons rfl (fun K hK=>?_) AllReadyH.nil
 go_simp;refine (HC2.out _ HU.out.b).mono ?_
 rintro o w8 ⟨gb,kb,hs,rfl,q1,q3,q4,b8⟩;have HU8:Hid (suS w0 P mb PH [.int .i64 c0,.int .i64 (r1:Int),.int .i64 c2,.int .i64 (r3:Int),.slice none 0 0,.slice none 0 0,.map (some mb),.slice none 0 0,.int .i64 0,.int .i64 0,.slice none 0 0,.int .i64 0,.int .i64 0,.int .i64 lo,.int .i64 st] [.int .i64 c0,.int .i64 (r1:Int),.int .i64 c2,.int .i64 (r3:Int),.slice (some ⟨g1,0,none⟩) n1 k1,.slice (some ⟨g2,o2,none⟩) n2 k2,.slice a3 n3 k3,.slice a4 n4 k4,.int .i64 lo,.int .i64 st] w8):=HU.out.below b8
 have HOF8:Hid (own w0 P mb gf (fun W=>isR3s W (some ⟨gf,0,none⟩) n1 kf fs) w8):=HOF.out.below b8
 have HOB:Hid (own w0 P mb gb (fun W=>dr8 w0 0 gb n2 bx hs 0 W∧n2≤kb) w8):=⟨q4.hi,fun e=>absurd HU.out.p.lt (by omega),fun e=>absurd (lt_of_some HU.out.m) (by omega),fun W h1 h2=>⟨q4.at0 h1 h2,q3⟩⟩
 have HGB:Hid (gf<gb):=Nat.lt_of_lt_of_le HOF.out.lt q1
 clear q1 q4 b8 HOF;have HOF:=HOF8
 clear HOF8;go_wp2_with fail;refine hK.out _ _ HU8.out.q (fun hS2=>?_)
 clear hS hK K HU;have hS:=hS2
 have HU:=HU8
 clear hS2 HU8;refine wT (i:=8) (v:=.pointer (some ⟨P,0,none⟩)) rfl (by kernel_rfl) (by kernel_rfl) (by kernel_rfl) (fun _ _ _ h=>h) (Or.inl ⟨by rfl,?_⟩) hS ?_
 ·intro W hSw;clear hS;go_simp
 simp only[Act.put,aA,aB,aC,aD,aE,aF];refine wT (i:=9) (v:=.pointer (some ⟨P,4,none⟩)) rfl (by kernel_rfl) (by kernel_rfl) (by kernel_rfl) (fun _ _ _ h=>h) (Or.inl ⟨by rfl,?_⟩) hS ?_
 ·intro W hSw;clear hS;go_simp
 simp only[Act.put,aA,aB,aC,aD,aE,aF];refine wpAnyH_all (rs:=[10]) (by kernel_rfl) (by simp) ?_
 refine AllReadyH.cons rfl (fun K hK=>?_) AllReadyH.nil
 have hcP:=HU.out.p.cell 4 _ rfl
 have hfP:=HU.out.p.free 4
 go_simp;clear hcP hfP;have HU9:Hid (suS w0 P mb PH [.int .i64 c0,.int .i64 (r1:Int),.int .i64 c2,.int .i64 (r3:Int),.slice (some ⟨gf,0,none⟩) n1 kf,.slice none 0 0,.map (some mb),.slice none 0 0,.int .i64 0,.int .i64 0,.slice none 0 0,.int .i64 0,.int .i64 0,.int .i64 lo,.int .i64 st] [.int .i64 c0,.int .i64 (r1:Int),.int .i64 c2,.int .i64 (r3:Int),.slice (some ⟨g1,0,none⟩) n1 k1,.slice (some ⟨g2,o2,none⟩) n2 k2,.slice a3 n3 k3,.slice a4 n4 k4,.int .i64 lo,.int .i64 st] (w8.setCell ⟨P,4,none⟩ (.slice (some ⟨gf,0,none⟩) n1 kf))):=HU.out.put [.int .i64 c0,.int .i64 (r1:Int),.int .i64 c2,.int .i64 (r3:Int)] [.slice none 0 0] [.slice none 0 0,.map (some mb),.slice none 0 0,.int .i64 0,.int .i64 0,.slice none 0 0,.int .i64 0,.int .i64 0,.int .i64 lo,.int .i64 st] [.slice (some ⟨gf,0,none⟩) n1 kf] rfl
 have hS1:blk (w8.setCell ⟨P,4,none⟩ (.slice (some ⟨gf,0,none⟩) n1 kf)) PH [.int .i64 c0,.int .i64 (r1:Int),.int .i64 c2,.int .i64 (r3:Int),.slice (some ⟨g1,0,none⟩) n1 k1,.slice (some ⟨g2,o2,none⟩) n2 k2,.slice a3 n3 k3,.slice a4 n4 k4,.int .i64 lo,.int .i64 st] 35:=HU9.out.q
 have HOF9:Hid (own w0 P mb gf (fun W=>isR3s W (some ⟨gf,0,none⟩) n1 kf fs) (w8.setCell ⟨P,4,none⟩ (.slice (some ⟨gf,0,none⟩) n1 kf))):=HOF.out.put 4 [.slice (some ⟨gf,0,none⟩) n1 kf]
 have HOB9:Hid (own w0 P mb gb (fun W=>dr8 w0 0 gb n2 bx hs 0 W∧n2≤kb) (w8.setCell ⟨P,4,none⟩ (.slice (some ⟨gf,0,none⟩) n1 kf))):=HOB.out.put 4 [.slice (some ⟨gf,0,none⟩) n1 kf]
 generalize (w8.setCell ⟨P,4,none⟩ (.slice (some ⟨gf,0,none⟩) n1 kf))=w9 at *;refine hK.out _ w9 hS1 (fun hS2=>?_)
 clear hS hK K hS1 HU;have hS:=hS2
 have HU:=HU9
 clear hS2 HU9;clear HOF HOB;have HOF:=HOF9
 have HOB:=HOB9
 clear HOF9 HOB9;refine wT (i:=11) (v:=.pointer (some ⟨P,0,none⟩)) rfl (by kernel_rfl) (by kernel_rfl) (by kernel_rfl) (fun _ _ _ h=>h) (Or.inl ⟨by rfl,?_⟩) hS ?_
 ·intro W hSw;clear hS;go_simp
 simp only[Act.put,aA,aB,aC,aD,aE,aF];refine wT (i:=12) (v:=.pointer (some ⟨P,5,none⟩)) rfl (by kernel_rfl) (by kernel_rfl) (by kernel_rfl) (fun _ _ _ h=>h) (Or.inl ⟨by rfl,?_⟩) hS ?_
 ·intro W hSw;clear hS;go_simp
 simp only[Act.put,aA,aB,aC,aD,aE,aF];refine wpAnyH_all (rs:=[13]) (by kernel_rfl) (by simp) ?_
 refine AllReadyH.cons rfl (fun K hK=>?_) AllReadyH.nil
 have hcP:=HU.out.p.cell 5 _ rfl
 have hfP:=HU.out.p.free 5
 go_simp;clear hcP hfP;have HU10:Hid (suS w0 P mb PH [.int .i64 c0,.int .i64 (r1:Int),.int .i64 c2,.int .i64 (r3:Int),.slice (some ⟨gf,0,none⟩) n1 kf,.slice (some ⟨gb,0,none⟩) n2 kb,.map (some mb),.slice none 0 0,.int .i64 0,.int .i64 0,.slice none 0 0,.int .i64 0,.int .i64 0,.int .i64 lo,.int .i64 st] [.int .i64 c0,.int .i64 (r1:Int),.int .i64 c2,.int .i64 (r3:Int),.slice (some ⟨g1,0,none⟩) n1 k1,.slice (some ⟨g2,o2,none⟩) n2 k2,.slice a3 n3 k3,.slice a4 n4 k4,.int .i64 lo,.int .i64 st] (w9.setCell ⟨P,5,none⟩ (.slice (some ⟨gb,0,none⟩) n2 kb))):=HU.out.put [.int .i64 c0,.int .i64 (r1:Int),.int .i64 c2,.int .i64 (r3:Int),.slice (some ⟨gf,0,none⟩) n1 kf] [.slice none 0 0] [.map (some mb),.slice none 0 0,.int .i64 0,.int .i64 0,.slice none 0 0,.int .i64 0,.int .i64 0,.int .i64 lo,.int .i64 st] [.slice (some ⟨gb,0,none⟩) n2 kb] rfl
 have hS1:blk (w9.setCell ⟨P,5,none⟩ (.slice (some ⟨gb,0,none⟩) n2 kb)) PH [.int .i64 c0,.int .i64 (r1:Int),.int .i64 c2,.int .i64 (r3:Int),.slice (some ⟨g1,0,none⟩) n1 k1,.slice (some ⟨g2,o2,none⟩) n2 k2,.slice a3 n3 k3,.slice a4 n4 k4,.int .i64 lo,.int .i64 st] 35:=HU10.out.q
 have HOF10:Hid (own w0 P mb gf (fun W=>isR3s W (some ⟨gf,0,none⟩) n1 kf fs) (w9.setCell ⟨P,5,none⟩ (.slice (some ⟨gb,0,none⟩) n2 kb))):=HOF.out.put 5 [.slice (some ⟨gb,0,none⟩) n2 kb]
 have HOB10:Hid (own w0 P mb gb (fun W=>dr8 w0 0 gb n2 bx hs 0 W∧n2≤kb) (w9.setCell ⟨P,5,none⟩ (.slice (some ⟨gb,0,none⟩) n2 kb))):=HOB.out.put 5 [.slice (some ⟨gb,0,none⟩) n2 kb]
 generalize (w9.setCell ⟨P,5,none⟩ (.slice (some ⟨gb,0,none⟩) n2 kb))=w10 at *;refine hK.out _ w10 hS1 (fun hS2=>?_)
 clear hS hK K hS1 HU;have hS:=hS2
 have HU:=HU10
 clear hS2 HU10;clear HOF HOB;have HOF:=HOF10
 have HOB:=HOB10
 clear HOF10 HOB10;refine wpAnyH_done (by kernel_rfl) ?_ _
 clear hS;have u1:=HU.out.q.cell 1 _ rfl
 have u6:=HU.out.q.cell 6 _ rfl
 go_wp2_with (first
  | (go_at_call 171;refine (HR5.out _ HU.out.b).mono ?_;rintro o w11 ⟨gr,rfl,q1,q2,q3,q4,b11⟩;have HOR11:Hid (own w0 P mb gr (fun W=>ring5 w0 W gr r1 0 ff∧rowZ W gr (r1*5)) w11):=⟨q2,fun e=>absurd HU.out.p.lt (by omega),fun e=>absurd (lt_of_some HU.out.m) (by omega),fun W' e _=>⟨q4.keep e,q3.up e⟩⟩;have HGR:Hid (gb<gr):=Nat.lt_of_lt_of_le HOB.out.lt q1;have HU11:Hid (suS w0 P mb PH [.int .i64 c0,.int .i64 (r1:Int),.int .i64 c2,.int .i64 (r3:Int),.slice (some ⟨gf,0,none⟩) n1 kf,.slice (some ⟨gb,0,none⟩) n2 kb,.map (some mb),.slice none 0 0,.int .i64 0,.int .i64 0,.slice none 0 0,.int .i64 0,.int .i64 0,.int .i64 lo,.int .i64 st] [.int .i64 c0,.int .i64 (r1:Int),.int .i64 c2,.int .i64 (r3:Int),.slice (some ⟨g1,0,none⟩) n1 k1,.slice (some ⟨g2,o2,none⟩) n2 k2,.slice a3 n3 k3,.slice a4 n4 k4,.int .i64 lo,.int .i64 st] w11):=HU.out.below b11;have HOF11:Hid (own w0 P mb gf (fun W=>isR3s W (some ⟨gf,0,none⟩) n1 kf fs) (w11)):=HOF.out.below b11;have HOB11:Hid (own w0 P mb gb (fun W=>dr8 w0 0 gb n2 bx hs 0 W∧n2≤kb) (w11)):=HOB.out.below b11;clear HOF HOB;clear HU b11 q1 q2 q3 q4)
  | (refine wpList_store_mid (P:=Tryz.prog) rfl 130 (.tmp 45) (.tmp 43) rfl P 7 _ rfl rfl (HU11.out.p.there 7 3 (by simp)) sz130r (all_oneCell_toArray (by simp[Value.oneCell'])) ?_;have HU12:Hid (suS w0 P mb PH [.int .i64 c0,.int .i64 (r1:Int),.int .i64 c2,.int .i64 (r3:Int),.slice (some ⟨gf,0,none⟩) n1 kf,.slice (some ⟨gb,0,none⟩) n2 kb,.map (some mb),.slice (some ⟨gr,0,none⟩) r1 r1,.int .i64 0,.int .i64 (n3:Int),.slice none 0 0,.int .i64 0,.int .i64 0,.int .i64 lo,.int .i64 st] [.int .i64 c0,.int .i64 (r1:Int),.int .i64 c2,.int .i64 (r3:Int),.slice (some ⟨g1,0,none⟩) n1 k1,.slice (some ⟨g2,o2,none⟩) n2 k2,.slice a3 n3 k3,.slice a4 n4 k4,.int .i64 lo,.int .i64 st] (World.setCells w11 P 7 [.slice (some ⟨gr,0,none⟩) r1 r1,.int .i64 0,.int .i64 (n3:Int)])):=HU11.out.put [.int .i64 c0,.int .i64 (r1:Int),.int .i64 c2,.int .i64 (r3:Int),.slice (some ⟨gf,0,none⟩) n1 kf,.slice (some ⟨gb,0,none⟩) n2 kb,.map (some mb)] [.slice none 0 0,.int .i64 0,.int .i64 0] [.slice none 0 0,.int .i64 0,.int .i64 0,.int .i64 lo,.int .i64 st] [.slice (some ⟨gr,0,none⟩) r1 r1,.int .i64 0,.int .i64 (n3:Int)] rfl;have HOF12:Hid (own w0 P mb gf (fun W=>isR3s W (some ⟨gf,0,none⟩) n1 kf fs) (World.setCells w11 P 7 [.slice (some ⟨gr,0,none⟩) r1 r1,.int .i64 0,.int .i64 (n3:Int)])):=HOF11.out.put 7 [.slice (some ⟨gr,0,none⟩) r1 r1,.int .i64 0,.int .i64 (n3:Int)];have HOB12:Hid (own w0 P mb gb (fun W=>dr8 w0 0 gb n2 bx hs 0 W∧n2≤kb) (World.setCells w11 P 7 [.slice (some ⟨gr,0,none⟩) r1 r1,.int .i64 0,.int .i64 (n3:Int)])):=HOB11.out.put 7 [.slice (some ⟨gr,0,none⟩) r1 r1,.int .i64 0,.int .i64 (n3:Int)];clear HOF11 HOB11;have HOR12:Hid (own w0 P mb gr (fun W=>ring5 w0 W gr r1 0 ff∧rowZ W gr (r1*5)) (World.setCells w11 P 7 [.slice (some ⟨gr,0,none⟩) r1 r1,.int .i64 0,.int .i64 (n3:Int)])):=HOR11.out.put 7 [.slice (some ⟨gr,0,none⟩) r1 r1,.int .i64 0,.int .i64 (n3:Int)];clear HOR11;clear HU11;generalize World.setCells w11 P 7 [.slice (some ⟨gr,0,none⟩) r1 r1,.int .i64 0,.int .i64 (n3:Int)]=w12 at *;have u3:=HU12.out.q.cell 3 _ rfl;have u7:=HU12.out.q.cell 7 _ rfl)
  | (go_at_call 172;refine (HR8.out _ HU12.out.b).mono ?_;rintro o w13 ⟨gq,rfl,q1,q2,q3,q4,b11⟩;have HOQ13:Hid (own w0 P mb gq (fun W=>ring8 w0 W gq r3 0 qu∧rowZ W gq (r3*8)) w13):=⟨q2,fun e=>absurd HU12.out.p.lt (by omega),fun e=>absurd (lt_of_some HU12.out.m) (by omega),fun W' e _=>⟨q4.keep e,q3.up e⟩⟩;have HGQ:Hid (gr<gq):=Nat.lt_of_lt_of_le HOR12.out.lt q1;have HU13:Hid (suS w0 P mb PH [.int .i64 c0,.int .i64 (r1:Int),.int .i64 c2,.int .i64 (r3:Int),.slice (some ⟨gf,0,none⟩) n1 kf,.slice (some ⟨gb,0,none⟩) n2 kb,.map (some mb),.slice (some ⟨gr,0,none⟩) r1 r1,.int .i64 0,.int .i64 (n3:Int),.slice none 0 0,.int .i64 0,.int .i64 0,.int .i64 lo,.int .i64 st] [.int .i64 c0,.int .i64 (r1:Int),.int .i64 c2,.int .i64 (r3:Int),.slice (some ⟨g1,0,none⟩) n1 k1,.slice (some ⟨g2,o2,none⟩) n2 k2,.slice a3 n3 k3,.slice a4 n4 k4,.int .i64 lo,.int .i64 st] w13):=HU12.out.below b11;have HOF13:Hid (own w0 P mb gf (fun W=>isR3s W (some ⟨gf,0,none⟩) n1 kf fs) (w13)):=HOF12.out.below b11;have HOB13:Hid (own w0 P mb gb (fun W=>dr8 w0 0 gb n2 bx hs 0 W∧n2≤kb) (w13)):=HOB12.out.below b11;clear HOF12 HOB12;have HOR13:Hid (own w0 P mb gr (fun W=>ring5 w0 W gr r1 0 ff∧rowZ W gr (r1*5)) (w13)):=HOR12.out.below b11;clear HOR12;clear HU12 b11 q1 q2 q3 q4)
  | (refine wpList_store_mid (P:=Tryz.prog) rfl 132 (.tmp 54) (.tmp 52) rfl P 10 _ rfl rfl (HU13.out.p.there 10 3 (by simp)) sz132r (all_oneCell_toArray (by simp[Value.oneCell'])) ?_;have HU14:Hid (suS w0 P mb PH [.int .i64 c0,.int .i64 (r1:Int),.int .i64 c2,.int .i64 (r3:Int),.slice (some ⟨gf,0,none⟩) n1 kf,.slice (some ⟨gb,0,none⟩) n2 kb,.map (some mb),.slice (some ⟨gr,0,none⟩) r1 r1,.int .i64 0,.int .i64 (n3:Int),.slice (some ⟨gq,0,none⟩) r3 r3,.int .i64 0,.int .i64 (n4:Int),.int .i64 lo,.int .i64 st] [.int .i64 c0,.int .i64 (r1:Int),.int .i64 c2,.int .i64 (r3:Int),.slice (some ⟨g1,0,none⟩) n1 k1,.slice (some ⟨g2,o2,none⟩) n2 k2,.slice a3 n3 k3,.slice a4 n4 k4,.int .i64 lo,.int .i64 st] (World.setCells w13 P 10 [.slice (some ⟨gq,0,none⟩) r3 r3,.int .i64 0,.int .i64 (n4:Int)])):=HU13.out.put [.int .i64 c0,.int .i64 (r1:Int),.int .i64 c2,.int .i64 (r3:Int),.slice (some ⟨gf,0,none⟩) n1 kf,.slice (some ⟨gb,0,none⟩) n2 kb,.map (some mb),.slice (some ⟨gr,0,none⟩) r1 r1,.int .i64 0,.int .i64 (n3:Int)] [.slice none 0 0,.int .i64 0,.int .i64 0] [.int .i64 lo,.int .i64 st] [.slice (some ⟨gq,0,none⟩) r3 r3,.int .i64 0,.int .i64 (n4:Int)] rfl;have HOF14:Hid (own w0 P mb gf (fun W=>isR3s W (some ⟨gf,0,none⟩) n1 kf fs) (World.setCells w13 P 10 [.slice (some ⟨gq,0,none⟩) r3 r3,.int .i64 0,.int .i64 (n4:Int)])):=HOF13.out.put 10 [.slice (some ⟨gq,0,none⟩) r3 r3,.int .i64 0,.int .i64 (n4:Int)];have HOB14:Hid (own w0 P mb gb (fun W=>dr8 w0 0 gb n2 bx hs 0 W∧n2≤kb) (World.setCells w13 P 10 [.slice (some ⟨gq,0,none⟩) r3 r3,.int .i64 0,.int .i64 (n4:Int)])):=HOB13.out.put 10 [.slice (some ⟨gq,0,none⟩) r3 r3,.int .i64 0,.int .i64 (n4:Int)];clear HOF13 HOB13;have HOR14:Hid (own w0 P mb gr (fun W=>ring5 w0 W gr r1 0 ff∧rowZ W gr (r1*5)) (World.setCells w13 P 10 [.slice (some ⟨gq,0,none⟩) r3 r3,.int .i64 0,.int .i64 (n4:Int)])):=HOR13.out.put 10 [.slice (some ⟨gq,0,none⟩) r3 r3,.int .i64 0,.int .i64 (n4:Int)];clear HOR13;have HOQ14:Hid (own w0 P mb gq (fun W=>ring8 w0 W gq r3 0 qu∧rowZ W gq (r3*8)) (World.setCells w13 P 10 [.slice (some ⟨gq,0,none⟩) r3 r3,.int .i64 0,.int .i64 (n4:Int)])):=HOQ13.out.put 10 [.slice (some ⟨gq,0,none⟩) r3 r3,.int .i64 0,.int .i64 (n4:Int)];clear HOQ13;clear HU13;generalize World.setCells w13 P 10 [.slice (some ⟨gq,0,none⟩) r3 r3,.int .i64 0,.int .i64 (n4:Int)]=w14 at *;have v5:=HU14.out.p.cell 5 _ rfl))
 have HLV:Hid (lvS H w0 P mb [.int .i64 c0,.int .i64 (r1:Int),.int .i64 c2,.int .i64 (r3:Int),.slice (some ⟨gf,0,none⟩) n1 kf,.slice (some ⟨gb,0,none⟩) n2 kb,.map (some mb),.slice (some ⟨gr,0,none⟩) r1 r1,.int .i64 0,.int .i64 (n3:Int),.slice (some ⟨gq,0,none⟩) r3 r3,.int .i64 0,.int .i64 (n4:Int),.int .i64 lo,.int .i64 st] gf n1 kf fs gb n2 kb bx hs gr r1 ff gq r3 qu 0 w14):=⟨HU14.out.p,HOF14.out,HOB14.out,⟨#[],0,HU14.out.m,⟨by simp,MapKept.stamped_empty 0,by simp⟩,Nat.le_refl _,rfl⟩,HU14.out.b,HU14.out.n4,hmb0,HOR14.out,HOQ14.out,⟨HGB.out,HGR.out,HGQ.out⟩,HGF.out,HU14.out.n1⟩
 clear HU14 HOF14 HOB14 HOR14 HOQ14 HGB HGR HGQ HGF v5 u3 u7 HC1 HC2 HR5 HR8;go_loopw [60] (fun i wr=>∃ k:Nat,k≤n2∧i = .int .i64 (k:Int)∧lvS H w0 P mb [.int .i64 c0,.int .i64 (r1:Int),.int .i64 c2,.int .i64 (r3:Int),.slice (some ⟨gf,0,none⟩) n1 kf,.slice (some ⟨gb,0,none⟩) n2 kb,.map (some mb),.slice (some ⟨gr,0,none⟩) r1 r1,.int .i64 0,.int .i64 (n3:Int),.slice (some ⟨gq,0,none⟩) r3 r3,.int .i64 0,.int .i64 (n4:Int),.int .i64 lo,.int .i64 st] gf n1 kf fs gb n2 kb bx hs gr r1 ff gq r3 qu k wr) (fun i _=>n2-(intOf i).toNat)
 case atStart=>exact⟨0,Nat.zero_le _,rfl,HLV.out⟩
 case round=>
  obtain⟨k,hk,rfl,hS⟩:=hrel
  have HS:Hid (lvS H w0 P mb [.int .i64 c0,.int .i64 (r1:Int),.int .i64 c2,.int .i64 (r3:Int),.slice (some ⟨gf,0,none⟩) n1 kf,.slice (some ⟨gb,0,none⟩) n2 kb,.map (some mb),.slice (some ⟨gr,0,none⟩) r1 r1,.int .i64 0,.int .i64 (n3:Int),.slice (some ⟨gq,0,none⟩) r3 r3,.int .i64 0,.int .i64 (n4:Int),.int .i64 lo,.int .i64 st] gf n1 kf fs gb n2 kb bx hs gr r1 ff gq r3 qu k wr):=hS
  clear hS HLV;by_cases hlt:k<n2
  ·have hkl:k<bx.length:=by have:=HLN.out;omega
   have hkb:n2≤kb:=(HS.out.x.k wr rfl HS.out.b).2
   obtain⟨ao,m,c,hx⟩ : ∃ ao m c,at8 wr gb (0+k*8) bx[k] ao m c:=⟨_,_,_,by rw[Nat.zero_add];exact (HS.out.x.k wr rfl HS.out.b).1.at_ k hkl⟩
   have HRG:=hx.range
   have HSK:Hid (∀ W,lvS H w0 P mb [.int .i64 c0,.int .i64 (r1:Int),.int .i64 c2,.int .i64 (r3:Int),.slice (some ⟨gf,0,none⟩) n1 kf,.slice (some ⟨gb,0,none⟩) n2 kb,.map (some mb),.slice (some ⟨gr,0,none⟩) r1 r1,.int .i64 0,.int .i64 (n3:Int),.slice (some ⟨gq,0,none⟩) r3 r3,.int .i64 0,.int .i64 (n4:Int),.int .i64 lo,.int .i64 st] gf n1 kf fs gb n2 kb bx hs gr r1 ff gq r3 qu k W→bx[k].x=0→lvS H w0 P mb [.int .i64 c0,.int .i64 (r1:Int),.int .i64 c2,.int .i64 (r3:Int),.slice (some ⟨gf,0,none⟩) n1 kf,.slice (some ⟨gb,0,none⟩) n2 kb,.map (some mb),.slice (some ⟨gr,0,none⟩) r1 r1,.int .i64 0,.int .i64 (n3:Int),.slice (some ⟨gq,0,none⟩) r3 r3,.int .i64 0,.int .i64 (n4:Int),.int .i64 lo,.int .i64 st] gf n1 kf fs gb n2 kb bx hs gr r1 ff gq r3 qu (k+1) W):=fun W h hx0=>h.skip hkl hx0
   have HNX:Hid (bx[k].x≠0→tagsD H bx (k+1)=(tagsD H bx k).put (.int .i64 bx[k].y) (.lit (.int .i64 (k:Int)))):=tagsD_put hkl
   have HOKB:Hid (okBx st bx[k]):=HOK.out.1 k hkl
   obtain⟨b,hb⟩ : ∃ b,bx[k]=b:=⟨_,rfl⟩
   rw[hb] at HRG HSK HNX HOKB
   obtain⟨x,y,z,e,i,r,d,l⟩:=b
   rw[Nat.zero_add] at HRG
   have HRG:Hid (wr.rangeAt gb (k*8) [.int .i64 x,.int .i64 y,.int .i64 z,.bool e,.int .u32 (i:Int),.bool r,.int .i64 d,.slice ao m c]):=HRG
   simp only[] at HSK HNX
   clear hx hb;have HW3:Hid (lvS H w0 P mb [.int .i64 c0,.int .i64 (r1:Int),.int .i64 c2,.int .i64 (r3:Int),.slice (some ⟨gf,0,none⟩) n1 kf,.slice (some ⟨gb,0,none⟩) n2 kb,.map (some mb),.slice (some ⟨gr,0,none⟩) r1 r1,.int .i64 0,.int .i64 (n3:Int),.slice (some ⟨gq,0,none⟩) r3 r3,.int .i64 0,.int .i64 (n4:Int),.int .i64 lo,.int .i64 st] gf n1 kf fs gb n2 kb bx hs gr r1 ff gq r3 qu k (wr.alloc (.cells #[.int .i64 x,.int .i64 y,.int .i64 z,.bool e,.int .u32 (i:Int),.bool r,.int .i64 d,.slice ao m c] 97))):=HS.out.below ((Below.refl _ _).alloc (Nat.le_refl _) _)
   have HP3:Hid (blk (wr.alloc (.cells #[.int .i64 x,.int .i64 y,.int .i64 z,.bool e,.int .u32 (i:Int),.bool r,.int .i64 d,.slice ao m c] 97)) wr.heap.size [.int .i64 x,.int .i64 y,.int .i64 z,.bool e,.int .u32 (i:Int),.bool r,.int .i64 d,.slice ao m c] 97):=blk.new wr _ 97
   by_cases hx0:x=0
   ·subst hx0;have HL4:Hid (lvS H w0 P mb [.int .i64 c0,.int .i64 (r1:Int),.int .i64 c2,.int .i64 (r3:Int),.slice (some ⟨gf,0,none⟩) n1 kf,.slice (some ⟨gb,0,none⟩) n2 kb,.map (some mb),.slice (some ⟨gr,0,none⟩) r1 r1,.int .i64 0,.int .i64 (n3:Int),.slice (some ⟨gq,0,none⟩) r3 r3,.int .i64 0,.int .i64 (n4:Int),.int .i64 lo,.int .i64 st] gf n1 kf fs gb n2 kb bx hs gr r1 ff gq r3 qu (k+1) (wr.alloc (.cells #[.int .i64 0,.int .i64 y,.int .i64 z,.bool e,.int .u32 (i:Int),.bool r,.int .i64 d,.slice ao m c] 97))):=HSK.out _ HW3.out rfl
    clear HSK HNX HOKB HW3 HP3;go_wp2_with (first
     | (refine wpList_load_mid (P:=Tryz.prog) rfl 97 _ rfl gb (k*8) rfl _ _ HRG.out Tryz.underlying97 rfl sz95 ?_))
    go_roundw
    case rel=>exact⟨k+1,by omega,by go_num,HL4.out⟩
    case measure=>simp[intOf];omega
   ·have hx0':(x == 0)=false:=by simpa using hx0
    have HY:Hid (0≤y∧y≤9999):=by
     have:=HOKB.out
     unfold okBx at this
     rw[if_neg hx0] at this
     exact this.2.1
    have HNX2:Hid (tagsD H bx (k+1)=(tagsD H bx k).put (.int .i64 y) (.lit (.int .i64 (k:Int)))):=HNX.out hx0
    clear HSK HNX HOKB hx0;go_wp2_with (first
     | (refine wpList_load_mid (P:=Tryz.prog) rfl 97 _ rfl gb (k*8) rfl _ _ HRG.out Tryz.underlying97 rfl sz95 ?_))
    have HBM:Hid (wr.heap.size≠mb):=fun e=>absurd HS.out.m.lt (by omega)
    generalize (wr.alloc (.cells #[.int .i64 x,.int .i64 y,.int .i64 z,.bool e,.int .u32 (i:Int),.bool r,.int .i64 d,.slice ao m c] 97))=w3 at *;generalize wr.heap.size=PB at *;refine wp_region_held (S:=fun W=>blk W PB [.int .i64 x,.int .i64 y,.int .i64 z,.bool e,.int .u32 (i:Int),.bool r,.int .i64 d,.slice ao m c] 97∧blk W P [.int .i64 c0,.int .i64 (r1:Int),.int .i64 c2,.int .i64 (r3:Int),.slice (some ⟨gf,0,none⟩) n1 kf,.slice (some ⟨gb,0,none⟩) n2 kb,.map (some mb),.slice (some ⟨gr,0,none⟩) r1 r1,.int .i64 0,.int .i64 (n3:Int),.slice (some ⟨gq,0,none⟩) r3 r3,.int .i64 0,.int .i64 (n4:Int),.int .i64 lo,.int .i64 st] 134) (by kernel_rfl) ?_
    have hS:blk w3.drew PB [.int .i64 x,.int .i64 y,.int .i64 z,.bool e,.int .u32 (i:Int),.bool r,.int .i64 d,.slice ao m c] 97∧blk w3.drew P [.int .i64 c0,.int .i64 (r1:Int),.int .i64 c2,.int .i64 (r3:Int),.slice (some ⟨gf,0,none⟩) n1 kf,.slice (some ⟨gb,0,none⟩) n2 kb,.map (some mb),.slice (some ⟨gr,0,none⟩) r1 r1,.int .i64 0,.int .i64 (n3:Int),.slice (some ⟨gq,0,none⟩) r3 r3,.int .i64 0,.int .i64 (n4:Int),.int .i64 lo,.int .i64 st] 134:=⟨HP3.out,HW3.out.p⟩
    have HW4:Hid (lvS H w0 P mb [.int .i64 c0,.int .i64 (r1:Int),.int .i64 c2,.int .i64 (r3:Int),.slice (some ⟨gf,0,none⟩) n1 kf,.slice (some ⟨gb,0,none⟩) n2 kb,.map (some mb),.slice (some ⟨gr,0,none⟩) r1 r1,.int .i64 0,.int .i64 (n3:Int),.slice (some ⟨gq,0,none⟩) r3 r3,.int .i64 0,.int .i64 (n4:Int),.int .i64 lo,.int .i64 st] gf n1 kf fs gb n2 kb bx hs gr r1 ff gq r3 qu k w3.drew):=HW3.out.below (Below.refl _ _).drew
    change wpAnyH Tryz.prog _ _ _ _ _ _ _ w3.drew
    have HNB:Hid (some PB≠some mb):=fun e=>HBM.out (by simpa using e)
    generalize w3.drew=w4 at *;refine wT (i:=0) (v:=.pointer (some ⟨P,0,none⟩)) rfl (by kernel_rfl) (by kernel_rfl) (by kernel_rfl) (fun _ _ _ h=>h) (Or.inl ⟨by rfl,?_⟩) hS ?_
    ·intro W hSw;clear hS;go_simp
    simp only[Act.put,aA,aB,aC,aD,aE]
    refine wT (i:=1) (v:=.pointer (some ⟨P,0,none⟩)) rfl (by kernel_rfl) (by kernel_rfl) (by kernel_rfl) (fun _ _ _ h=>h) (Or.inl ⟨by rfl,?_⟩) hS ?_
    ·intro W hSw;clear hS;go_simp
    simp only[Act.put,aA,aB,aC,aD,aE,aF];refine wT (i:=2) (v:=.pointer (some ⟨P,6,none⟩)) rfl (by kernel_rfl) (by kernel_rfl) (by kernel_rfl) (fun _ _ _ h=>h) (Or.inl ⟨by rfl,?_⟩) hS ?_
    ·intro W hSw;clear hS;go_simp
    simp only[Act.put,aA,aB,aC,aD,aE,aF];refine wT (i:=3) (v:=.map (some mb)) rfl (by kernel_rfl) (by kernel_rfl) (by kernel_rfl) (fun _ _ _ h=>h) (Or.inl ⟨by rfl,?_⟩) hS ?_
    ·intro W hSw;have hc:=hSw.2.cell 6 _ rfl
     clear hS;go_simp
    simp only[Act.put,aA,aB,aC,aD,aE,aF];refine wT (i:=4) (v:=.pointer (some ⟨PB,1,none⟩)) rfl (by kernel_rfl) (by kernel_rfl) (by kernel_rfl) (fun _ _ _ h=>h) (Or.inl ⟨by rfl,?_⟩) hS ?_
    ·intro W hSw;clear hS;go_simp
    simp only[Act.put,aA,aB,aC,aD,aE,aF];refine wT (i:=5) (v:=.int .i64 y) rfl (by kernel_rfl) (by kernel_rfl) (by kernel_rfl) (fun _ _ _ h=>h) (Or.inl ⟨by rfl,?_⟩) hS ?_
    ·intro W hSw;have hc:=hSw.1.cell 1 _ rfl
     clear hS;go_simp
    simp only[Act.put,aA,aB,aC,aD,aE,aF];refine wT (i:=6) (v:=.int .i64 (k:Int)) rfl (by kernel_rfl) (by kernel_rfl) (by kernel_rfl) (fun _ _ _ h=>h) (Or.inl ⟨by rfl,?_⟩) hS ?_
    ·intro W hSw;clear hS;go_simp
    simp only[Act.put,aA,aB,aC,aD,aE,aF];refine wpAnyH_all (rs:=[7]) (by kernel_rfl) (by simp) ?_
    refine AllReadyH.cons rfl (fun K hK=>?_) AllReadyH.nil
    rw[if_pos (by rfl)]
    obtain⟨w9,hrun,s1,s2⟩:=HW4.out.m.update (Maps.int_keyed Tryz.underlying3) Tryz.underlying128 (by unfold maxLen;omega) (Maps.keyOf_int_mk Tryz.underlying3 (a:=y) (wf_small (by have:=HY.out;omega) (by have:=HY.out;omega))) (plainElem_int Tryz.underlying3 (a:=(k:Int)) (wf_small (by omega) (by omega)))
    have HL9:Hid (lvS H w0 P mb [.int .i64 c0,.int .i64 (r1:Int),.int .i64 c2,.int .i64 (r3:Int),.slice (some ⟨gf,0,none⟩) n1 kf,.slice (some ⟨gb,0,none⟩) n2 kb,.map (some mb),.slice (some ⟨gr,0,none⟩) r1 r1,.int .i64 0,.int .i64 (n3:Int),.slice (some ⟨gq,0,none⟩) r3 r3,.int .i64 0,.int .i64 (n4:Int),.int .i64 lo,.int .i64 st] gf n1 kf fs gb n2 kb bx hs gr r1 ff gq r3 qu (k+1) w9):=HW4.out.next s2 (by rw[HNX2.out];exact s1)
    have PB9:blk w9 PB [.int .i64 x,.int .i64 y,.int .i64 z,.bool e,.int .u32 (i:Int),.bool r,.int .i64 d,.slice ao m c] 97:=hS.1.kept (s2.block _ hS.1.lt HNB.out)
    go_simp;refine hK.out _ w9 ⟨PB9,HL9.out.p⟩ (fun hS2=>?_)
    clear hS hK K hS2 hrun s1 s2;refine wpAnyH_done (by kernel_rfl) ?_ _
    go_wp2_with fail;go_roundw
    case rel=>exact⟨k+1,by omega,by go_num,HL9.out⟩
    case measure=>simp[intOf];omega
  ·have hkn:k=n2:=by omega
   subst hkn;go_wp2_with fail;first | go_end0 | (simp only[Exit.inBlock,Exit.then];refine bodyPost_ret (results_none rfl _ _ _) rfl ?_) | refine bodyPost_ret (results_none rfl _ _ _) rfl ?_
   exact⟨gf,kf,gb,kb,hs,gr,gq,rfl,HS.out⟩
end Go.Proofs.YtaamahohdnbpiaaGreat
