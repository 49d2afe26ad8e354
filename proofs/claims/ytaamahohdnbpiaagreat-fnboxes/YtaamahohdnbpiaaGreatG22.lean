import Derived.Test.YtaamahohdnbpiaaGreatNF
import Derived.Test.YtaamahohdnbpiaaGreatG18
namespace Go.Proofs.YtaamahohdnbpiaaGreat
open Go.RowKit
set_option linter.unusedVariables false
structure ptS (w:World) (L:List Value) (F:List Value) (W:World):Prop where
 p:blk W w.heap.size L 35
 f:blk W (w.heap.size+1) F 25
 r:blk W (w.heap.size+1+1) Z10 35
 b:Below w.heap.size w W
theorem ptS.below {w:World} {L F:List Value} {W W':World} (h:ptS w L F W) (hb:Below W.heap.size W W'):ptS w L F W':=⟨h.p.below hb,h.f.below hb,h.r.below hb,h.b.trans (hb.mono h.b.size)⟩
theorem ptS.new (w:World) (L F:List Value):ptS w L F (((w.alloc (.cells L.toArray 35)).alloc (.cells F.toArray 25)).alloc (.cells [.int .i64 0,.int .i64 0,.int .i64 0,.int .i64 0,.slice none 0 0,.slice none 0 0,.slice none 0 0,.slice none 0 0,.int .i64 0,.int .i64 0].toArray 35)):=by
 refine⟨((blk.new w _ 35).alloc _).alloc _,?_,?_,(((Below.refl _ _).alloc (Nat.le_refl _) _).alloc (by simp) _).alloc (by simp;omega) _⟩
 ·have:=(blk.new (w.alloc (.cells L.toArray 35)) F 25).alloc (.cells [.int .i64 0,.int .i64 0,.int .i64 0,.int .i64 0,.slice none 0 0,.slice none 0 0,.slice none 0 0,.slice none 0 0,.int .i64 0,.int .i64 0].toArray 35)
  simpa using this
 ·have:=blk.new ((w.alloc (.cells L.toArray 35)).alloc (.cells F.toArray 25)) Z10 35
  have e:((w.alloc (.cells L.toArray 35)).alloc (.cells F.toArray 25)).heap.size=w.heap.size+1+1:=by simp
  rw[e] at this
  exact this
theorem ownG.other {α:Type} {F:Rc α} {w w':World} {B E sz g k q:Nat} {rs:List α} (h:ownG F w B E sz g k rs) (he:∀ b,b≠q→w'.heap[b]?=w.heap[b]?) (hg:g≠q) (hd:∀ p ∈ rs,F.gd p≠q) (hz:w.heap.size≤w'.heap.size):ownG F w' B E sz g k rs:=by
 refine⟨ownsRow_kept h.own (he g hg),fun p hp=>?_⟩
 obtain⟨d1,d2,d3,d4⟩:=h.dat p hp
 exact⟨d1.other (he _ (hd p hp)),d2,d3,Nat.lt_of_lt_of_le d4 hz⟩
set_option maxHeartbeats 4000000 in
set_option maxRecDepth 20000 in
theorem l3post_more (w:World) (c0 c1 c2 c3 lo st:Int) (a1:Option Addr) (n1 k1:Nat) (a2:Option Addr) (n2 k2:Nat) (a3:Option Addr) (n3 k3:Nat) (B g4 n4 k4:Nat) (rs:List (R8 × Nat × Nat)) (x y z:Int) (e:Bool) (i:Nat) (r:Bool) (d:Int) (ao:Option Addr) (c:Nat) (l:List Nat) (hq:(n4:Int)<c3) (hn:n4≤1000) (hO:ownG rc8 w B 46 8 g4 k4 rs) (hrl:rs.length=n4) (hB:B≤w.heap.size) (hf:isBytes w ao l.length c l) (hm:l.length≤1048576) :
  Calls Tryz.prog 143 #[.agg [.int .i64 c0,.int .i64 c1,.int .i64 c2,.int .i64 c3,.slice a1 n1 k1,.slice a2 n2 k2,.slice a3 n3 k3,.slice (some ⟨g4,0,none⟩) n4 k4,.int .i64 lo,.int .i64 st].toArray,.int .i64 x,.int .i64 y,.int .i64 z,frV e i r d ao l.length c] w fun o w'=>∃ g' k' gd kd,o = .returned (.agg [.int .i64 c0,.int .i64 c1,.int .i64 c2,.int .i64 c3,.slice a1 n1 k1,.slice a2 n2 k2,.slice a3 n3 k3,.slice (some ⟨g',0,none⟩) (n4+1) k',.int .i64 lo,.int .i64 st].toArray)∧ownG rc8 w' B 46 8 g' k' (rs++[(⟨x,y,z,e,i,r,d,l⟩,gd,kd)])∧(∀ q,q≠g4→q<w.heap.size→w'.heap[q]?=w.heap[q]?)∧(g'=g4∨w.heap.size≤g')∧w.heap.size≤gd∧Below B w w':=by
 have H0:Hid (ptS w [.int .i64 c0,.int .i64 c1,.int .i64 c2,.int .i64 c3,.slice a1 n1 k1,.slice a2 n2 k2,.slice a3 n3 k3,.slice (some ⟨g4,0,none⟩) n4 k4,.int .i64 lo,.int .i64 st] [.bool e,.int .u32 (i:Int),.bool r,.int .i64 d,.slice ao l.length c] (((w.alloc (.cells [.int .i64 c0,.int .i64 c1,.int .i64 c2,.int .i64 c3,.slice a1 n1 k1,.slice a2 n2 k2,.slice a3 n3 k3,.slice (some ⟨g4,0,none⟩) n4 k4,.int .i64 lo,.int .i64 st].toArray 35)).alloc (.cells [.bool e,.int .u32 (i:Int),.bool r,.int .i64 d,.slice ao l.length c].toArray 25)).alloc (.cells [.int .i64 0,.int .i64 0,.int .i64 0,.int .i64 0,.slice none 0 0,.slice none 0 0,.slice none 0 0,.slice none 0 0,.int .i64 0,.int .i64 0].toArray 35))):=ptS.new w _ _
 have x3:=H0.out.p.cell 3 _ rfl
 have x7:=H0.out.p.cell 7 _ rfl
 have HOW:Hid (∀ W,Below w.heap.size w W→ownG rc8 W B 46 8 g4 k4 rs):=fun W hW=>hO.kept (fun b _ h2=>hW.block b h2) hW.size
 have HCF:Hid (∀ W,Below w.heap.size w W→Calls Tryz.prog 136 #[frV e i r d ao l.length c] W fun o w'=>∃ g k,o = .returned (frV e i r d (some ⟨g,0,none⟩) l.length k)∧(W.heap.size≤g∧g<w'.heap.size∧St (W.heap.size+2) w' (fun V=>isBytes V (some ⟨g,0,none⟩) l.length k l)∧W.heap.size+2≤g)∧Below W.heap.size W w'):=fun W hW=>l1copyFrame_any W e i r d ao l.length c l (hf.below hW) hm
 have HRL:Hid (rs.length=n4):=hrl
 have HRD:Hid (∀ p ∈ rs,rc8.gd p<w.heap.size):=fun p hp=>(hO.dat p hp).2.2.2
 have HG4:Hid (B≤g4∧g4<w.heap.size∧B≤w.heap.size):=⟨hO.lt.1,hO.lt.2,hB⟩
 clear hO hrl hf;go_enter Tryz.func143,Tryz.ntmps143
 go_wp2_with fail;clear x3 x7;refine wp_region_held (S:=fun W=>blk W (w.heap.size+1) [.bool e,.int .u32 (i:Int),.bool r,.int .i64 d,.slice ao l.length c] 25) (by kernel_rfl) ?_
 have hS:blk (World.drew (((w.alloc (.cells [.int .i64 c0,.int .i64 c1,.int .i64 c2,.int .i64 c3,.slice a1 n1 k1,.slice a2 n2 k2,.slice a3 n3 k3,.slice (some ⟨g4,0,none⟩) n4 k4,.int .i64 lo,.int .i64 st].toArray 35)).alloc (.cells [.bool e,.int .u32 (i:Int),.bool r,.int .i64 d,.slice ao l.length c].toArray 25)).alloc (.cells [.int .i64 0,.int .i64 0,.int .i64 0,.int .i64 0,.slice none 0 0,.slice none 0 0,.slice none 0 0,.slice none 0 0,.int .i64 0,.int .i64 0].toArray 35))) (w.heap.size+1) [.bool e,.int .u32 (i:Int),.bool r,.int .i64 d,.slice ao l.length c] 25:=H0.out.f.below (Below.refl _ _).drew
 have HBv0:Hid (Below w.heap.size w (World.drew (((w.alloc (.cells [.int .i64 c0,.int .i64 c1,.int .i64 c2,.int .i64 c3,.slice a1 n1 k1,.slice a2 n2 k2,.slice a3 n3 k3,.slice (some ⟨g4,0,none⟩) n4 k4,.int .i64 lo,.int .i64 st].toArray 35)).alloc (.cells [.bool e,.int .u32 (i:Int),.bool r,.int .i64 d,.slice ao l.length c].toArray 25)).alloc (.cells [.int .i64 0,.int .i64 0,.int .i64 0,.int .i64 0,.slice none 0 0,.slice none 0 0,.slice none 0 0,.slice none 0 0,.int .i64 0,.int .i64 0].toArray 35)))):=(H0.out.below (Below.refl _ _).drew).b
 have HPv0:Hid (blk (World.drew (((w.alloc (.cells [.int .i64 c0,.int .i64 c1,.int .i64 c2,.int .i64 c3,.slice a1 n1 k1,.slice a2 n2 k2,.slice a3 n3 k3,.slice (some ⟨g4,0,none⟩) n4 k4,.int .i64 lo,.int .i64 st].toArray 35)).alloc (.cells [.bool e,.int .u32 (i:Int),.bool r,.int .i64 d,.slice ao l.length c].toArray 25)).alloc (.cells [.int .i64 0,.int .i64 0,.int .i64 0,.int .i64 0,.slice none 0 0,.slice none 0 0,.slice none 0 0,.slice none 0 0,.int .i64 0,.int .i64 0].toArray 35))) w.heap.size [.int .i64 c0,.int .i64 c1,.int .i64 c2,.int .i64 c3,.slice a1 n1 k1,.slice a2 n2 k2,.slice a3 n3 k3,.slice (some ⟨g4,0,none⟩) n4 k4,.int .i64 lo,.int .i64 st] 35∧blk (World.drew (((w.alloc (.cells [.int .i64 c0,.int .i64 c1,.int .i64 c2,.int .i64 c3,.slice a1 n1 k1,.slice a2 n2 k2,.slice a3 n3 k3,.slice (some ⟨g4,0,none⟩) n4 k4,.int .i64 lo,.int .i64 st].toArray 35)).alloc (.cells [.bool e,.int .u32 (i:Int),.bool r,.int .i64 d,.slice ao l.length c].toArray 25)).alloc (.cells [.int .i64 0,.int .i64 0,.int .i64 0,.int .i64 0,.slice none 0 0,.slice none 0 0,.slice none 0 0,.slice none 0 0,.int .i64 0,.int .i64 0].toArray 35))) (w.heap.size+1+1) Z10 35):=⟨H0.out.p.below (Below.refl _ _).drew,H0.out.r.below (Below.refl _ _).drew⟩
 clear H0;change wpAnyH Tryz.prog _ _ _ _ _ _ _ (World.drew (((w.alloc (.cells [.int .i64 c0,.int .i64 c1,.int .i64 c2,.int .i64 c3,.slice a1 n1 k1,.slice a2 n2 k2,.slice a3 n3 k3,.slice (some ⟨g4,0,none⟩) n4 k4,.int .i64 lo,.int .i64 st].toArray 35)).alloc (.cells [.bool e,.int .u32 (i:Int),.bool r,.int .i64 d,.slice ao l.length c].toArray 25)).alloc (.cells [.int .i64 0,.int .i64 0,.int .i64 0,.int .i64 0,.slice none 0 0,.slice none 0 0,.slice none 0 0,.slice none 0 0,.int .i64 0,.int .i64 0].toArray 35)))
 generalize World.drew (((w.alloc (.cells [.int .i64 c0,.int .i64 c1,.int .i64 c2,.int .i64 c3,.slice a1 n1 k1,.slice a2 n2 k2,.slice a3 n3 k3,.slice (some ⟨g4,0,none⟩) n4 k4,.int .i64 lo,.int .i64 st].toArray 35)).alloc (.cells [.bool e,.int .u32 (i:Int),.bool r,.int .i64 d,.slice ao l.length c].toArray 25)).alloc (.cells [.int .i64 0,.int .i64 0,.int .i64 0,.int .i64 0,.slice none 0 0,.slice none 0 0,.slice none 0 0,.slice none 0 0,.int .i64 0,.int .i64 0].toArray 35))=v0 at *;refine wT (i:=0) (v:=.pointer (some ⟨w.heap.size,7,none⟩)) rfl (by kernel_rfl) (by kernel_rfl) (by kernel_rfl) (fun _ _ _ h=>h) (Or.inl ⟨by rfl,?_⟩) hS ?_
 ·intro W hSw;clear hS;go_simp
 simp only[Act.put,aA,aB,aC,aD,aE]
 refine wT (i:=2) (v:=.int .i64 x) rfl (by kernel_rfl) (by kernel_rfl) (by kernel_rfl) (fun _ _ _ h=>h) (Or.inl ⟨by rfl,?_⟩) hS ?_
 ·intro W hSw;clear hS;go_simp
 simp only[Act.put,aA,aB,aC,aD,aE,aF];refine wT (i:=3) (v:=.int .i64 y) rfl (by kernel_rfl) (by kernel_rfl) (by kernel_rfl) (fun _ _ _ h=>h) (Or.inl ⟨by rfl,?_⟩) hS ?_
 ·intro W hSw;clear hS;go_simp
 simp only[Act.put,aA,aB,aC,aD,aE,aF];refine wT (i:=4) (v:=.int .i64 z) rfl (by kernel_rfl) (by kernel_rfl) (by kernel_rfl) (fun _ _ _ h=>h) (Or.inl ⟨by rfl,?_⟩) hS ?_
 ·intro W hSw;clear hS;go_simp
 simp only[Act.put,aA,aB,aC,aD,aE,aF];refine wT (i:=5) (v:=.agg [.bool e,.int .u32 (i:Int),.bool r,.int .i64 d,.slice ao l.length c].toArray) rfl (by kernel_rfl) (by kernel_rfl) (by kernel_rfl) (fun _ _ _ h=>h) (yieldsIf_load_mid (by rfl) 25 (.tmp 9) rfl (w.heap.size+1) 0 rfl [.bool e,.int .u32 (i:Int),.bool r,.int .i64 d,.slice ao l.length c] _ (fun W h=>h.load) Tryz.underlying25 rfl sz93) hS ?_
 simp only[Act.put,aA,aB,aC,aD,aE,aF];refine wpAnyH_all (rs:=[1,6]) (by kernel_rfl) (by simp) ?_
 refine AllReadyH.cons rfl (fun K2 hK2=>?_) (AllReadyH.cons rfl (fun K2 hK2=>?_) AllReadyH.nil)
 ·have xq:=HPv0.out.1.cell 7 _ rfl
  go_simp;clear xq;refine hK2.out _ _ hS (fun hS2=>?_)
  clear hK2 K2 hS2;refine wpAnyH_all (rs:=[6]) (by kernel_rfl) (by simp) ?_
  refine AllReadyH.cons rfl (fun K2 hK2=>?_) AllReadyH.nil
  go_simp;refine (HCF.out _ HBv0.out).mono ?_
  rintro o v1 ⟨gd,kd,rfl,⟨q1,q2,q3,q4⟩,b7⟩;have hS7:blk v1 (w.heap.size+1) [.bool e,.int .u32 (i:Int),.bool r,.int .i64 d,.slice ao l.length c] 25:=hS.below b7
  have HBv1:Hid (Below w.heap.size w v1):=HBv0.out.trans (b7.mono HBv0.out.size)
  have HPv1:Hid (blk v1 w.heap.size [.int .i64 c0,.int .i64 c1,.int .i64 c2,.int .i64 c3,.slice a1 n1 k1,.slice a2 n2 k2,.slice a3 n3 k3,.slice (some ⟨g4,0,none⟩) n4 k4,.int .i64 lo,.int .i64 st] 35∧blk v1 (w.heap.size+1+1) Z10 35):=⟨HPv0.out.1.below b7,HPv0.out.2.below b7⟩
  have HGD:Hid (isBytes v1 (some ⟨gd,0,none⟩) l.length kd l∧w.heap.size+1+1<gd∧gd<v1.heap.size):=⟨q3.now,by have:=HPv0.out.2.lt;omega,q2⟩
  clear q1 q2 q3 q4 b7;go_wp2_with fail;refine hK2.out _ _ hS7 (fun hS2=>?_)
  clear hS hK2 K2 hS7 HPv0 HBv0;have hS:=hS2
  clear hS2;refine wT (i:=7) (v:=.agg [.int .i64 x,.int .i64 y,.int .i64 z,.bool e,.int .u32 (i:Int),.bool r,.int .i64 d,.slice (some ⟨gd,0,none⟩) l.length kd].toArray) rfl (by kernel_rfl) (by kernel_rfl) (by kernel_rfl) (fun _ _ _ h=>h) (Or.inl ⟨by rfl,?_⟩) hS ?_
  ·intro W hSw;clear hS;go_simp
  simp only[Act.put,aA,aB,aC,aD,aE,aF];refine wpAnyH_all (rs:=[8]) (by kernel_rfl) (by simp) ?_
  refine AllReadyH.cons rfl (fun K2 hK2=>?_) AllReadyH.nil
  go_simp;have bA:Below v1.heap.size v1 (v1.alloc (.cells #[.int .i64 x,.int .i64 y,.int .i64 z,.bool e,.int .u32 (i:Int),.bool r,.int .i64 d,.slice (some ⟨gd,0,none⟩) l.length kd] 46)):=(Below.refl _ _).alloc (Nat.le_refl _) _
  have hSA:blk (v1.alloc (.cells #[.int .i64 x,.int .i64 y,.int .i64 z,.bool e,.int .u32 (i:Int),.bool r,.int .i64 d,.slice (some ⟨gd,0,none⟩) l.length kd] 46)) (w.heap.size+1) [.bool e,.int .u32 (i:Int),.bool r,.int .i64 d,.slice ao l.length c] 25:=hS.below bA
  have HBv2:Hid (Below w.heap.size w (v1.alloc (.cells #[.int .i64 x,.int .i64 y,.int .i64 z,.bool e,.int .u32 (i:Int),.bool r,.int .i64 d,.slice (some ⟨gd,0,none⟩) l.length kd] 46))):=HBv1.out.trans (bA.mono HBv1.out.size)
  have HPv2:Hid (blk (v1.alloc (.cells #[.int .i64 x,.int .i64 y,.int .i64 z,.bool e,.int .u32 (i:Int),.bool r,.int .i64 d,.slice (some ⟨gd,0,none⟩) l.length kd] 46)) w.heap.size [.int .i64 c0,.int .i64 c1,.int .i64 c2,.int .i64 c3,.slice a1 n1 k1,.slice a2 n2 k2,.slice a3 n3 k3,.slice (some ⟨g4,0,none⟩) n4 k4,.int .i64 lo,.int .i64 st] 35∧blk (v1.alloc (.cells #[.int .i64 x,.int .i64 y,.int .i64 z,.bool e,.int .u32 (i:Int),.bool r,.int .i64 d,.slice (some ⟨gd,0,none⟩) l.length kd] 46)) (w.heap.size+1+1) Z10 35):=⟨HPv1.out.1.below bA,HPv1.out.2.below bA⟩
  have HGDv2:Hid (isBytes (v1.alloc (.cells #[.int .i64 x,.int .i64 y,.int .i64 z,.bool e,.int .u32 (i:Int),.bool r,.int .i64 d,.slice (some ⟨gd,0,none⟩) l.length kd] 46)) (some ⟨gd,0,none⟩) l.length kd l∧w.heap.size+1+1<gd∧gd<(v1.alloc (.cells #[.int .i64 x,.int .i64 y,.int .i64 z,.bool e,.int .u32 (i:Int),.bool r,.int .i64 d,.slice (some ⟨gd,0,none⟩) l.length kd] 46)).heap.size):=⟨HGD.out.1.below bA,HGD.out.2.1,Nat.lt_of_lt_of_le HGD.out.2.2 bA.size⟩
  have HNB:Hid ((v1.alloc (.cells #[.int .i64 x,.int .i64 y,.int .i64 z,.bool e,.int .u32 (i:Int),.bool r,.int .i64 d,.slice (some ⟨gd,0,none⟩) l.length kd] 46)).heap[v1.heap.size]?=some (.cells #[.int .i64 x,.int .i64 y,.int .i64 z,.bool e,.int .u32 (i:Int),.bool r,.int .i64 d,.slice (some ⟨gd,0,none⟩) l.length kd] 46)):=heap_alloc_new v1 _
  clear bA HPv1 HGD HBv1;refine hK2.out _ _ hSA (fun hS2=>?_)
  clear hK2 K2 hSA hS;have hS:=hS2
  clear hS2;generalize v1.alloc (.cells #[.int .i64 x,.int .i64 y,.int .i64 z,.bool e,.int .u32 (i:Int),.bool r,.int .i64 d,.slice (some ⟨gd,0,none⟩) l.length kd] 46)=v2 at *;generalize v1.heap.size=nb at *;refine wpAnyH_all (rs:=[9]) (by kernel_rfl) (by simp) ?_
  refine AllReadyH.cons rfl (fun K2 hK2=>?_) AllReadyH.nil
  rw[if_pos (by rfl)]
  have hO:ownG rc8 v2 B 46 8 g4 k4 rs:=HOW.out _ HBv2.out
  have hO2:=hO.own
  rw[HRL.out] at hO2
  refine wp_app_rec (w:=v2) (.tmp 27) (.tmp 34) 33 46 _ 8 72 Tryz.info46 Tryz.underlying33 rfl (by decide) (by decide) rfl B g4 n4 k4 (rs.flatMap rc8.enc) rfl hO2 nb [.int .i64 x,.int .i64 y,.int .i64 z,.bool e,.int .u32 (i:Int),.bool r,.int .i64 d,.slice (some ⟨gd,0,none⟩) l.length kd] rfl rfl HNB.out (one8L _ _ _ _ _ _ _ _ _ _) (by omega) (by have:=HBv2.out.size;have:=HG4.out;omega) ?_
  intro g' k' w6 ho6 hg6 hg' hB6;have hg4:=HG4.out
  have hP6:blk w6 w.heap.size [.int .i64 c0,.int .i64 c1,.int .i64 c2,.int .i64 c3,.slice a1 n1 k1,.slice a2 n2 k2,.slice a3 n3 k3,.slice (some ⟨g4,0,none⟩) n4 k4,.int .i64 lo,.int .i64 st] 35:=HPv2.out.1.kept (hg6.block _ HPv2.out.1.lt (by simp;omega))
  have hR6:blk w6 (w.heap.size+1+1) Z10 35:=HPv2.out.2.kept (hg6.block _ HPv2.out.2.lt (by simp;omega))
  have hF6:blk w6 (w.heap.size+1) [.bool e,.int .u32 (i:Int),.bool r,.int .i64 d,.slice ao l.length c] 25:=hS.kept (hg6.block _ hS.lt (by simp;omega))
  have hgd:=HGDv2.out
  have hO6:ownG rc8 w6 B 46 8 g' k' (rs++[(⟨x,y,z,e,i,r,d,l⟩,gd,kd)]):=by
   refine hO.snoc (⟨x,y,z,e,i,r,d,l⟩,gd,kd) hgd.1 ?_ ?_ hgd.2.2 ?_ hg6 hg'
   ·show B≤gd
    omega
   ·show gd≠g4
    omega
   ·rw[HRL.out]
    exact ho6
  have HOTH:Hid (∀ q,q≠g4→q<w.heap.size→w6.heap[q]?=w.heap[q]?):=fun q h1 h2=>(hg6.block q (Nat.lt_of_lt_of_le h2 HBv2.out.size) (by simpa using h1)).trans (HBv2.out.block q h2)
  have HB6:Hid (Below B w w6):=⟨hg6.os.trans HBv2.out.os,hg6.tape.trans HBv2.out.tape,hg6.output.trans HBv2.out.output,Nat.le_trans HBv2.out.size hg6.size,fun q hq=>HOTH.out q (by omega) (by omega)⟩
  have HG':Hid (g'=g4∨w.heap.size≤g'):=by
   rcases hg' with e|e
   ·exact Or.inl e
   ·right;have:=HBv2.out.size;omega
  have hgP:g'≠w.heap.size∧g'≠w.heap.size+1+1:=by
   have h5:=HPv2.out.2.lt
   rcases hg' with e | e <;> constructor <;> omega
  have HGP:Hid (g'≠w.heap.size∧g'≠w.heap.size+1+1):=hgP
  have HDD:Hid (∀ p ∈ rs++[((⟨x,y,z,e,i,r,d,l⟩ : R8),gd,kd)],rc8.gd p≠w.heap.size∧rc8.gd p≠w.heap.size+1+1):=fun p hp=>by
   rcases List.mem_append.1 hp with h|h
   ·have:=HRD.out p h
    omega
   ·rw[List.mem_singleton.1 h]
    show gd≠_∧gd≠_
    omega
  refine hK2.out _ _ hF6 (fun hS2=>?_)
  have HO6:Hid (ownG rc8 w6 B 46 8 g' k' (rs++[(⟨x,y,z,e,i,r,d,l⟩,gd,kd)])):=hO6
  have HGD6:Hid (w.heap.size≤gd):=(by have:=hgd.2.1;show _≤_;omega)
  clear hS hK2 K2 ho6 hg6 hg' hB6 hgd hO hO2 hO6 HNB hgP;have hS:=hS2
  clear hS2;simp only[Act.put,aA,aB,aC,aD,aE,aF];refine wT (i:=10) (v:=.pointer (some ⟨w.heap.size,7,none⟩)) rfl (by kernel_rfl) (by kernel_rfl) (by kernel_rfl) (fun _ _ _ h=>h) (Or.inl ⟨by rfl,?_⟩) hS ?_
  ·intro W hSw;clear hS;go_simp
  simp only[Act.put,aA,aB,aC,aD,aE,aF];refine wpAnyH_all (rs:=[11]) (by kernel_rfl) (by simp) ?_
  refine AllReadyH.cons rfl (fun K2 hK2=>?_) AllReadyH.nil
  have xq:=hP6.cell 7 _ rfl
  have fq:=hP6.free 7
  go_simp;have hS7:blk (w6.setCell ⟨w.heap.size,7,none⟩ (.slice (some ⟨g',0,none⟩) (n4+1) k')) (w.heap.size+1) [.bool e,.int .u32 (i:Int),.bool r,.int .i64 d,.slice ao l.length c] 25:=hF6.setOther (by omega) _ _
  have HP7:Hid (blk (w6.setCell ⟨w.heap.size,7,none⟩ (.slice (some ⟨g',0,none⟩) (n4+1) k')) w.heap.size [.int .i64 c0,.int .i64 c1,.int .i64 c2,.int .i64 c3,.slice a1 n1 k1,.slice a2 n2 k2,.slice a3 n3 k3,.slice (some ⟨g',0,none⟩) (n4+1) k',.int .i64 lo,.int .i64 st] 35∧blk (w6.setCell ⟨w.heap.size,7,none⟩ (.slice (some ⟨g',0,none⟩) (n4+1) k')) (w.heap.size+1+1) Z10 35):=⟨hP6.set 7 _,hR6.setOther (by omega) _ _⟩
  have HW7:Hid (∀ q,q≠w.heap.size→(w6.setCell ⟨w.heap.size,7,none⟩ (.slice (some ⟨g',0,none⟩) (n4+1) k')).heap[q]?=w6.heap[q]?):=fun q hq=>heap_setCell_other w6 ⟨w.heap.size,7,none⟩ q _ hq
  have HZ7:Hid ((w6.setCell ⟨w.heap.size,7,none⟩ (.slice (some ⟨g',0,none⟩) (n4+1) k')).heap.size=w6.heap.size):=(by show _=_;simp)
  have HB7:Hid (Below B w (w6.setCell ⟨w.heap.size,7,none⟩ (.slice (some ⟨g',0,none⟩) (n4+1) k'))):=HB6.out.setCell (by exact hg4.2.2) _
  refine hK2.out _ _ hS7 (fun hS2=>?_)
  clear hS hK2 K2 hS7 hS2 xq fq hP6 hR6 hF6;refine wpAnyH_done (by kernel_rfl) ?_ _
  generalize (w6.setCell ⟨w.heap.size,7,none⟩ (.slice (some ⟨g',0,none⟩) (n4+1) k'))=w7 at *;go_wp2_with (first
   | (refine wpList_load_mid (P:=Tryz.prog) rfl 35 _ rfl w.heap.size 0 rfl [.int .i64 c0,.int .i64 c1,.int .i64 c2,.int .i64 c3,.slice a1 n1 k1,.slice a2 n2 k2,.slice a3 n3 k3,.slice (some ⟨g',0,none⟩) (n4+1) k',.int .i64 lo,.int .i64 st] _ HP7.out.1.load Tryz.underlying35 rfl sz41 ?_)
   | (refine wpList_store_mid (P:=Tryz.prog) rfl 35 _ _ rfl (w.heap.size+1+1) 0 [.int .i64 c0,.int .i64 c1,.int .i64 c2,.int .i64 c3,.slice a1 n1 k1,.slice a2 n2 k2,.slice a3 n3 k3,.slice (some ⟨g',0,none⟩) (n4+1) k',.int .i64 lo,.int .i64 st].toArray rfl rfl (HP7.out.2.there 0 10 (by simp[Z10])) sz41 (all_oneCell_toArray (by simp[Value.oneCell'])) ?_;generalize hW8:World.setCells _ (w.heap.size+1+1) 0 _=w8;have HW8:Hid (World.setCells w7 (w.heap.size+1+1) 0 [.int .i64 c0,.int .i64 c1,.int .i64 c2,.int .i64 c3,.slice a1 n1 k1,.slice a2 n2 k2,.slice a3 n3 k3,.slice (some ⟨g',0,none⟩) (n4+1) k',.int .i64 lo,.int .i64 st]=w8):=hW8;clear hW8))
  have e8:=HW8.out
  have hF:blk w8 (w.heap.size+1+1) [.int .i64 c0,.int .i64 c1,.int .i64 c2,.int .i64 c3,.slice a1 n1 k1,.slice a2 n2 k2,.slice a3 n3 k3,.slice (some ⟨g',0,none⟩) (n4+1) k',.int .i64 lo,.int .i64 st] 35:=by
   rw[← e8]
   have:=blk.put [] Z10 [] [.int .i64 c0,.int .i64 c1,.int .i64 c2,.int .i64 c3,.slice a1 n1 k1,.slice a2 n2 k2,.slice a3 n3 k3,.slice (some ⟨g',0,none⟩) (n4+1) k',.int .i64 lo,.int .i64 st] (w:=w7) (b:=w.heap.size+1+1) (T:=35) (by simpa using HP7.out.2) rfl
   simpa using this
  have hL:=run_loadVar_mid (P:=Tryz.prog) w8 (w.heap.size+1+1) 0 35 _ _ hF.load Tryz.underlying35 rfl sz41
  refine bodyPost_ret (v:=.agg [.int .i64 c0,.int .i64 c1,.int .i64 c2,.int .i64 c3,.slice a1 n1 k1,.slice a2 n2 k2,.slice a3 n3 k3,.slice (some ⟨g',0,none⟩) (n4+1) k',.int .i64 lo,.int .i64 st].toArray) (results_cell Tryz.results143 _ w8 (w.heap.size+1+1) _ rfl hL) rfl ?_
  have o8:∀ q,q≠w.heap.size+1+1→w8.heap[q]?=w7.heap[q]?:=fun q hq=>by rw[← e8];exact setCells_other _ q hq _ _ _
  have z8:w8.heap.size=w7.heap.size:=by rw[← e8];exact setCells_size ..
  refine⟨g',k',gd,kd,rfl,?_,fun q h1 h2=>?_,HG'.out,HGD6.out,?_⟩
  ·exact (HO6.out.other HW7.out HGP.out.1 (fun p hp=>(HDD.out p hp).1) (by rw[HZ7.out];exact Nat.le_refl _)).other o8 HGP.out.2 (fun p hp=>(HDD.out p hp).2) (by rw[z8];exact Nat.le_refl _)
  ·exact (o8 q (by omega)).trans ((HW7.out q (by omega)).trans (HOTH.out q h1 h2))
  ·rw[← e8]
   exact setCells_below (by have:=hg4.2.2;omega) 0 _ HB7.out
 ·go_simp;refine (HCF.out _ HBv0.out).mono ?_
  rintro o v1 ⟨gd,kd,rfl,⟨q1,q2,q3,q4⟩,b7⟩;have hS7:blk v1 (w.heap.size+1) [.bool e,.int .u32 (i:Int),.bool r,.int .i64 d,.slice ao l.length c] 25:=hS.below b7
  have HBv1:Hid (Below w.heap.size w v1):=HBv0.out.trans (b7.mono HBv0.out.size)
  have HPv1:Hid (blk v1 w.heap.size [.int .i64 c0,.int .i64 c1,.int .i64 c2,.int .i64 c3,.slice a1 n1 k1,.slice a2 n2 k2,.slice a3 n3 k3,.slice (some ⟨g4,0,none⟩) n4 k4,.int .i64 lo,.int .i64 st] 35∧blk v1 (w.heap.size+1+1) Z10 35):=⟨HPv0.out.1.below b7,HPv0.out.2.below b7⟩
  have HGD:Hid (isBytes v1 (some ⟨gd,0,none⟩) l.length kd l∧w.heap.size+1+1<gd∧gd<v1.heap.size):=⟨q3.now,by have:=HPv0.out.2.lt;omega,q2⟩
  clear q1 q2 q3 q4 b7;go_wp2_with fail;refine hK2.out _ _ hS7 (fun hS2=>?_)
  clear hS hK2 K2 hS7 HPv0 HBv0;have hS:=hS2
  clear hS2;refine wT (i:=7) (v:=.agg [.int .i64 x,.int .i64 y,.int .i64 z,.bool e,.int .u32 (i:Int),.bool r,.int .i64 d,.slice (some ⟨gd,0,none⟩) l.length kd].toArray) rfl (by kernel_rfl) (by kernel_rfl) (by kernel_rfl) (fun _ _ _ h=>h) (Or.inl ⟨by rfl,?_⟩) hS ?_
  ·intro W hSw;clear hS;go_simp
  simp only[Act.put,aA,aB,aC,aD,aE,aF];refine wpAnyH_all (rs:=[1,8]) (by kernel_rfl) (by simp) ?_
  refine AllReadyH.cons rfl (fun K2 hK2=>?_) (AllReadyH.cons rfl (fun K2 hK2=>?_) AllReadyH.nil)
  ·have xq:=HPv1.out.1.cell 7 _ rfl
   go_simp;clear xq;refine hK2.out _ _ hS (fun hS2=>?_)
   clear hK2 K2 hS2;refine wpAnyH_all (rs:=[8]) (by kernel_rfl) (by simp) ?_
   refine AllReadyH.cons rfl (fun K2 hK2=>?_) AllReadyH.nil
   go_simp;have bA:Below v1.heap.size v1 (v1.alloc (.cells #[.int .i64 x,.int .i64 y,.int .i64 z,.bool e,.int .u32 (i:Int),.bool r,.int .i64 d,.slice (some ⟨gd,0,none⟩) l.length kd] 46)):=(Below.refl _ _).alloc (Nat.le_refl _) _
   have hSA:blk (v1.alloc (.cells #[.int .i64 x,.int .i64 y,.int .i64 z,.bool e,.int .u32 (i:Int),.bool r,.int .i64 d,.slice (some ⟨gd,0,none⟩) l.length kd] 46)) (w.heap.size+1) [.bool e,.int .u32 (i:Int),.bool r,.int .i64 d,.slice ao l.length c] 25:=hS.below bA
   have HBv2:Hid (Below w.heap.size w (v1.alloc (.cells #[.int .i64 x,.int .i64 y,.int .i64 z,.bool e,.int .u32 (i:Int),.bool r,.int .i64 d,.slice (some ⟨gd,0,none⟩) l.length kd] 46))):=HBv1.out.trans (bA.mono HBv1.out.size)
   have HPv2:Hid (blk (v1.alloc (.cells #[.int .i64 x,.int .i64 y,.int .i64 z,.bool e,.int .u32 (i:Int),.bool r,.int .i64 d,.slice (some ⟨gd,0,none⟩) l.length kd] 46)) w.heap.size [.int .i64 c0,.int .i64 c1,.int .i64 c2,.int .i64 c3,.slice a1 n1 k1,.slice a2 n2 k2,.slice a3 n3 k3,.slice (some ⟨g4,0,none⟩) n4 k4,.int .i64 lo,.int .i64 st] 35∧blk (v1.alloc (.cells #[.int .i64 x,.int .i64 y,.int .i64 z,.bool e,.int .u32 (i:Int),.bool r,.int .i64 d,.slice (some ⟨gd,0,none⟩) l.length kd] 46)) (w.heap.size+1+1) Z10 35):=⟨HPv1.out.1.below bA,HPv1.out.2.below bA⟩
   have HGDv2:Hid (isBytes (v1.alloc (.cells #[.int .i64 x,.int .i64 y,.int .i64 z,.bool e,.int .u32 (i:Int),.bool r,.int .i64 d,.slice (some ⟨gd,0,none⟩) l.length kd] 46)) (some ⟨gd,0,none⟩) l.length kd l∧w.heap.size+1+1<gd∧gd<(v1.alloc (.cells #[.int .i64 x,.int .i64 y,.int .i64 z,.bool e,.int .u32 (i:Int),.bool r,.int .i64 d,.slice (some ⟨gd,0,none⟩) l.length kd] 46)).heap.size):=⟨HGD.out.1.below bA,HGD.out.2.1,Nat.lt_of_lt_of_le HGD.out.2.2 bA.size⟩
   have HNB:Hid ((v1.alloc (.cells #[.int .i64 x,.int .i64 y,.int .i64 z,.bool e,.int .u32 (i:Int),.bool r,.int .i64 d,.slice (some ⟨gd,0,none⟩) l.length kd] 46)).heap[v1.heap.size]?=some (.cells #[.int .i64 x,.int .i64 y,.int .i64 z,.bool e,.int .u32 (i:Int),.bool r,.int .i64 d,.slice (some ⟨gd,0,none⟩) l.length kd] 46)):=heap_alloc_new v1 _
   clear bA HPv1 HGD HBv1;refine hK2.out _ _ hSA (fun hS2=>?_)
   clear hK2 K2 hSA hS;have hS:=hS2
   clear hS2;generalize v1.alloc (.cells #[.int .i64 x,.int .i64 y,.int .i64 z,.bool e,.int .u32 (i:Int),.bool r,.int .i64 d,.slice (some ⟨gd,0,none⟩) l.length kd] 46)=v2 at *;generalize v1.heap.size=nb at *;refine wpAnyH_all (rs:=[9]) (by kernel_rfl) (by simp) ?_
   refine AllReadyH.cons rfl (fun K2 hK2=>?_) AllReadyH.nil
   rw[if_pos (by rfl)]
   have hO:ownG rc8 v2 B 46 8 g4 k4 rs:=HOW.out _ HBv2.out
   have hO2:=hO.own
   rw[HRL.out] at hO2
   refine wp_app_rec (w:=v2) (.tmp 27) (.tmp 34) 33 46 _ 8 72 Tryz.info46 Tryz.underlying33 rfl (by decide) (by decide) rfl B g4 n4 k4 (rs.flatMap rc8.enc) rfl hO2 nb [.int .i64 x,.int .i64 y,.int .i64 z,.bool e,.int .u32 (i:Int),.bool r,.int .i64 d,.slice (some ⟨gd,0,none⟩) l.length kd] rfl rfl HNB.out (one8L _ _ _ _ _ _ _ _ _ _) (by omega) (by have:=HBv2.out.size;have:=HG4.out;omega) ?_
   intro g' k' w6 ho6 hg6 hg' hB6;have hg4:=HG4.out
   have hP6:blk w6 w.heap.size [.int .i64 c0,.int .i64 c1,.int .i64 c2,.int .i64 c3,.slice a1 n1 k1,.slice a2 n2 k2,.slice a3 n3 k3,.slice (some ⟨g4,0,none⟩) n4 k4,.int .i64 lo,.int .i64 st] 35:=HPv2.out.1.kept (hg6.block _ HPv2.out.1.lt (by simp;omega))
   have hR6:blk w6 (w.heap.size+1+1) Z10 35:=HPv2.out.2.kept (hg6.block _ HPv2.out.2.lt (by simp;omega))
   have hF6:blk w6 (w.heap.size+1) [.bool e,.int .u32 (i:Int),.bool r,.int .i64 d,.slice ao l.length c] 25:=hS.kept (hg6.block _ hS.lt (by simp;omega))
   have hgd:=HGDv2.out
   have hO6:ownG rc8 w6 B 46 8 g' k' (rs++[(⟨x,y,z,e,i,r,d,l⟩,gd,kd)]):=by
    refine hO.snoc (⟨x,y,z,e,i,r,d,l⟩,gd,kd) hgd.1 ?_ ?_ hgd.2.2 ?_ hg6 hg'
    ·show B≤gd
     omega
    ·show gd≠g4
     omega
    ·rw[HRL.out]
     exact ho6
   have HOTH:Hid (∀ q,q≠g4→q<w.heap.size→w6.heap[q]?=w.heap[q]?):=fun q h1 h2=>(hg6.block q (Nat.lt_of_lt_of_le h2 HBv2.out.size) (by simpa using h1)).trans (HBv2.out.block q h2)
   have HB6:Hid (Below B w w6):=⟨hg6.os.trans HBv2.out.os,hg6.tape.trans HBv2.out.tape,hg6.output.trans HBv2.out.output,Nat.le_trans HBv2.out.size hg6.size,fun q hq=>HOTH.out q (by omega) (by omega)⟩
   have HG':Hid (g'=g4∨w.heap.size≤g'):=by
    rcases hg' with e|e
    ·exact Or.inl e
    ·right;have:=HBv2.out.size;omega
   have hgP:g'≠w.heap.size∧g'≠w.heap.size+1+1:=by
    have h5:=HPv2.out.2.lt
    rcases hg' with e | e <;> constructor <;> omega
   have HGP:Hid (g'≠w.heap.size∧g'≠w.heap.size+1+1):=hgP
   have HDD:Hid (∀ p ∈ rs++[((⟨x,y,z,e,i,r,d,l⟩ : R8),gd,kd)],rc8.gd p≠w.heap.size∧rc8.gd p≠w.heap.size+1+1):=fun p hp=>by
    rcases List.mem_append.1 hp with h|h
    ·have:=HRD.out p h
     omega
    ·rw[List.mem_singleton.1 h]
     show gd≠_∧gd≠_
     omega
   refine hK2.out _ _ hF6 (fun hS2=>?_)
   have HO6:Hid (ownG rc8 w6 B 46 8 g' k' (rs++[(⟨x,y,z,e,i,r,d,l⟩,gd,kd)])):=hO6
   have HGD6:Hid (w.heap.size≤gd):=(by have:=hgd.2.1;show _≤_;omega)
   clear hS hK2 K2 ho6 hg6 hg' hB6 hgd hO hO2 hO6 HNB hgP;have hS:=hS2
   clear hS2;simp only[Act.put,aA,aB,aC,aD,aE,aF];refine wT (i:=10) (v:=.pointer (some ⟨w.heap.size,7,none⟩)) rfl (by kernel_rfl) (by kernel_rfl) (by kernel_rfl) (fun _ _ _ h=>h) (Or.inl ⟨by rfl,?_⟩) hS ?_
   ·intro W hSw;clear hS;go_simp
   simp only[Act.put,aA,aB,aC,aD,aE,aF];refine wpAnyH_all (rs:=[11]) (by kernel_rfl) (by simp) ?_
   refine AllReadyH.cons rfl (fun K2 hK2=>?_) AllReadyH.nil
   have xq:=hP6.cell 7 _ rfl
   have fq:=hP6.free 7
   go_simp;have hS7:blk (w6.setCell ⟨w.heap.size,7,none⟩ (.slice (some ⟨g',0,none⟩) (n4+1) k')) (w.heap.size+1) [.bool e,.int .u32 (i:Int),.bool r,.int .i64 d,.slice ao l.length c] 25:=hF6.setOther (by omega) _ _
   have HP7:Hid (blk (w6.setCell ⟨w.heap.size,7,none⟩ (.slice (some ⟨g',0,none⟩) (n4+1) k')) w.heap.size [.int .i64 c0,.int .i64 c1,.int .i64 c2,.int .i64 c3,.slice a1 n1 k1,.slice a2 n2 k2,.slice a3 n3 k3,.slice (some ⟨g',0,none⟩) (n4+1) k',.int .i64 lo,.int .i64 st] 35∧blk (w6.setCell ⟨w.heap.size,7,none⟩ (.slice (some ⟨g',0,none⟩) (n4+1) k')) (w.heap.size+1+1) Z10 35):=⟨hP6.set 7 _,hR6.setOther (by omega) _ _⟩
   have HW7:Hid (∀ q,q≠w.heap.size→(w6.setCell ⟨w.heap.size,7,none⟩ (.slice (some ⟨g',0,none⟩) (n4+1) k')).heap[q]?=w6.heap[q]?):=fun q hq=>heap_setCell_other w6 ⟨w.heap.size,7,none⟩ q _ hq
   have HZ7:Hid ((w6.setCell ⟨w.heap.size,7,none⟩ (.slice (some ⟨g',0,none⟩) (n4+1) k')).heap.size=w6.heap.size):=(by show _=_;simp)
   have HB7:Hid (Below B w (w6.setCell ⟨w.heap.size,7,none⟩ (.slice (some ⟨g',0,none⟩) (n4+1) k'))):=HB6.out.setCell (by exact hg4.2.2) _
   refine hK2.out _ _ hS7 (fun hS2=>?_)
   clear hS hK2 K2 hS7 hS2 xq fq hP6 hR6 hF6;refine wpAnyH_done (by kernel_rfl) ?_ _
   generalize (w6.setCell ⟨w.heap.size,7,none⟩ (.slice (some ⟨g',0,none⟩) (n4+1) k'))=w7 at *;go_wp2_with (first
    | (refine wpList_load_mid (P:=Tryz.prog) rfl 35 _ rfl w.heap.size 0 rfl [.int .i64 c0,.int .i64 c1,.int .i64 c2,.int .i64 c3,.slice a1 n1 k1,.slice a2 n2 k2,.slice a3 n3 k3,.slice (some ⟨g',0,none⟩) (n4+1) k',.int .i64 lo,.int .i64 st] _ HP7.out.1.load Tryz.underlying35 rfl sz41 ?_)
    | (refine wpList_store_mid (P:=Tryz.prog) rfl 35 _ _ rfl (w.heap.size+1+1) 0 [.int .i64 c0,.int .i64 c1,.int .i64 c2,.int .i64 c3,.slice a1 n1 k1,.slice a2 n2 k2,.slice a3 n3 k3,.slice (some ⟨g',0,none⟩) (n4+1) k',.int .i64 lo,.int .i64 st].toArray rfl rfl (HP7.out.2.there 0 10 (by simp[Z10])) sz41 (all_oneCell_toArray (by simp[Value.oneCell'])) ?_;generalize hW8:World.setCells _ (w.heap.size+1+1) 0 _=w8;have HW8:Hid (World.setCells w7 (w.heap.size+1+1) 0 [.int .i64 c0,.int .i64 c1,.int .i64 c2,.int .i64 c3,.slice a1 n1 k1,.slice a2 n2 k2,.slice a3 n3 k3,.slice (some ⟨g',0,none⟩) (n4+1) k',.int .i64 lo,.int .i64 st]=w8):=hW8;clear hW8))
   have e8:=HW8.out
   have hF:blk w8 (w.heap.size+1+1) [.int .i64 c0,.int .i64 c1,.int .i64 c2,.int .i64 c3,.slice a1 n1 k1,.slice a2 n2 k2,.slice a3 n3 k3,.slice (some ⟨g',0,none⟩) (n4+1) k',.int .i64 lo,.int .i64 st] 35:=by
    rw[← e8]
    have:=blk.put [] Z10 [] [.int .i64 c0,.int .i64 c1,.int .i64 c2,.int .i64 c3,.slice a1 n1 k1,.slice a2 n2 k2,.slice a3 n3 k3,.slice (some ⟨g',0,none⟩) (n4+1) k',.int .i64 lo,.int .i64 st] (w:=w7) (b:=w.heap.size+1+1) (T:=35) (by simpa using HP7.out.2) rfl
    simpa using this
   have hL:=run_loadVar_mid (P:=Tryz.prog) w8 (w.heap.size+1+1) 0 35 _ _ hF.load Tryz.underlying35 rfl sz41
   refine bodyPost_ret (v:=.agg [.int .i64 c0,.int .i64 c1,.int .i64 c2,.int .i64 c3,.slice a1 n1 k1,.slice a2 n2 k2,.slice a3 n3 k3,.slice (some ⟨g',0,none⟩) (n4+1) k',.int .i64 lo,.int .i64 st].toArray) (results_cell Tryz.results143 _ w8 (w.heap.size+1+1) _ rfl hL) rfl ?_
   have o8:∀ q,q≠w.heap.size+1+1→w8.heap[q]?=w7.heap[q]?:=fun q hq=>by rw[← e8];exact setCells_other _ q hq _ _ _
   have z8:w8.heap.size=w7.heap.size:=by rw[← e8];exact setCells_size ..
   refine⟨g',k',gd,kd,rfl,?_,fun q h1 h2=>?_,HG'.out,HGD6.out,?_⟩
   ·exact (HO6.out.other HW7.out HGP.out.1 (fun p hp=>(HDD.out p hp).1) (by rw[HZ7.out];exact Nat.le_refl _)).other o8 HGP.out.2 (fun p hp=>(HDD.out p hp).2) (by rw[z8];exact Nat.le_refl _)
   ·exact (o8 q (by omega)).trans ((HW7.out q (by omega)).trans (HOTH.out q h1 h2))
   ·rw[← e8]
    exact setCells_below (by have:=hg4.2.2;omega) 0 _ HB7.out
  ·go_simp;have bA:Below v1.heap.size v1 (v1.alloc (.cells #[.int .i64 x,.int .i64 y,.int .i64 z,.bool e,.int .u32 (i:Int),.bool r,.int .i64 d,.slice (some ⟨gd,0,none⟩) l.length kd] 46)):=(Below.refl _ _).alloc (Nat.le_refl _) _
   have hSA:blk (v1.alloc (.cells #[.int .i64 x,.int .i64 y,.int .i64 z,.bool e,.int .u32 (i:Int),.bool r,.int .i64 d,.slice (some ⟨gd,0,none⟩) l.length kd] 46)) (w.heap.size+1) [.bool e,.int .u32 (i:Int),.bool r,.int .i64 d,.slice ao l.length c] 25:=hS.below bA
   have HBv2:Hid (Below w.heap.size w (v1.alloc (.cells #[.int .i64 x,.int .i64 y,.int .i64 z,.bool e,.int .u32 (i:Int),.bool r,.int .i64 d,.slice (some ⟨gd,0,none⟩) l.length kd] 46))):=HBv1.out.trans (bA.mono HBv1.out.size)
   have HPv2:Hid (blk (v1.alloc (.cells #[.int .i64 x,.int .i64 y,.int .i64 z,.bool e,.int .u32 (i:Int),.bool r,.int .i64 d,.slice (some ⟨gd,0,none⟩) l.length kd] 46)) w.heap.size [.int .i64 c0,.int .i64 c1,.int .i64 c2,.int .i64 c3,.slice a1 n1 k1,.slice a2 n2 k2,.slice a3 n3 k3,.slice (some ⟨g4,0,none⟩) n4 k4,.int .i64 lo,.int .i64 st] 35∧blk (v1.alloc (.cells #[.int .i64 x,.int .i64 y,.int .i64 z,.bool e,.int .u32 (i:Int),.bool r,.int .i64 d,.slice (some ⟨gd,0,none⟩) l.length kd] 46)) (w.heap.size+1+1) Z10 35):=⟨HPv1.out.1.below bA,HPv1.out.2.below bA⟩
   have HGDv2:Hid (isBytes (v1.alloc (.cells #[.int .i64 x,.int .i64 y,.int .i64 z,.bool e,.int .u32 (i:Int),.bool r,.int .i64 d,.slice (some ⟨gd,0,none⟩) l.length kd] 46)) (some ⟨gd,0,none⟩) l.length kd l∧w.heap.size+1+1<gd∧gd<(v1.alloc (.cells #[.int .i64 x,.int .i64 y,.int .i64 z,.bool e,.int .u32 (i:Int),.bool r,.int .i64 d,.slice (some ⟨gd,0,none⟩) l.length kd] 46)).heap.size):=⟨HGD.out.1.below bA,HGD.out.2.1,Nat.lt_of_lt_of_le HGD.out.2.2 bA.size⟩
   have HNB:Hid ((v1.alloc (.cells #[.int .i64 x,.int .i64 y,.int .i64 z,.bool e,.int .u32 (i:Int),.bool r,.int .i64 d,.slice (some ⟨gd,0,none⟩) l.length kd] 46)).heap[v1.heap.size]?=some (.cells #[.int .i64 x,.int .i64 y,.int .i64 z,.bool e,.int .u32 (i:Int),.bool r,.int .i64 d,.slice (some ⟨gd,0,none⟩) l.length kd] 46)):=heap_alloc_new v1 _
   clear bA HPv1 HGD HBv1;refine hK2.out _ _ hSA (fun hS2=>?_)
   clear hK2 K2 hSA hS;have hS:=hS2
   clear hS2;generalize v1.alloc (.cells #[.int .i64 x,.int .i64 y,.int .i64 z,.bool e,.int .u32 (i:Int),.bool r,.int .i64 d,.slice (some ⟨gd,0,none⟩) l.length kd] 46)=v2 at *;generalize v1.heap.size=nb at *;refine wpAnyH_all (rs:=[1]) (by kernel_rfl) (by simp) ?_
   refine AllReadyH.cons rfl (fun K2 hK2=>?_) AllReadyH.nil
   have xq:=HPv2.out.1.cell 7 _ rfl
   go_simp;clear xq;refine hK2.out _ _ hS (fun hS2=>?_)
   clear hK2 K2 hS2;refine wpAnyH_all (rs:=[9]) (by kernel_rfl) (by simp) ?_
   refine AllReadyH.cons rfl (fun K2 hK2=>?_) AllReadyH.nil
   rw[if_pos (by rfl)]
   have hO:ownG rc8 v2 B 46 8 g4 k4 rs:=HOW.out _ HBv2.out
   have hO2:=hO.own
   rw[HRL.out] at hO2
   refine wp_app_rec (w:=v2) (.tmp 27) (.tmp 34) 33 46 _ 8 72 Tryz.info46 Tryz.underlying33 rfl (by decide) (by decide) rfl B g4 n4 k4 (rs.flatMap rc8.enc) rfl hO2 nb [.int .i64 x,.int .i64 y,.int .i64 z,.bool e,.int .u32 (i:Int),.bool r,.int .i64 d,.slice (some ⟨gd,0,none⟩) l.length kd] rfl rfl HNB.out (one8L _ _ _ _ _ _ _ _ _ _) (by omega) (by have:=HBv2.out.size;have:=HG4.out;omega) ?_
   intro g' k' w6 ho6 hg6 hg' hB6;have hg4:=HG4.out
   have hP6:blk w6 w.heap.size [.int .i64 c0,.int .i64 c1,.int .i64 c2,.int .i64 c3,.slice a1 n1 k1,.slice a2 n2 k2,.slice a3 n3 k3,.slice (some ⟨g4,0,none⟩) n4 k4,.int .i64 lo,.int .i64 st] 35:=HPv2.out.1.kept (hg6.block _ HPv2.out.1.lt (by simp;omega))
   have hR6:blk w6 (w.heap.size+1+1) Z10 35:=HPv2.out.2.kept (hg6.block _ HPv2.out.2.lt (by simp;omega))
   have hF6:blk w6 (w.heap.size+1) [.bool e,.int .u32 (i:Int),.bool r,.int .i64 d,.slice ao l.length c] 25:=hS.kept (hg6.block _ hS.lt (by simp;omega))
   have hgd:=HGDv2.out
   have hO6:ownG rc8 w6 B 46 8 g' k' (rs++[(⟨x,y,z,e,i,r,d,l⟩,gd,kd)]):=by
    refine hO.snoc (⟨x,y,z,e,i,r,d,l⟩,gd,kd) hgd.1 ?_ ?_ hgd.2.2 ?_ hg6 hg'
    ·show B≤gd
     omega
    ·show gd≠g4
     omega
    ·rw[HRL.out]
     exact ho6
   have HOTH:Hid (∀ q,q≠g4→q<w.heap.size→w6.heap[q]?=w.heap[q]?):=fun q h1 h2=>(hg6.block q (Nat.lt_of_lt_of_le h2 HBv2.out.size) (by simpa using h1)).trans (HBv2.out.block q h2)
   have HB6:Hid (Below B w w6):=⟨hg6.os.trans HBv2.out.os,hg6.tape.trans HBv2.out.tape,hg6.output.trans HBv2.out.output,Nat.le_trans HBv2.out.size hg6.size,fun q hq=>HOTH.out q (by omega) (by omega)⟩
   have HG':Hid (g'=g4∨w.heap.size≤g'):=by
    rcases hg' with e|e
    ·exact Or.inl e
    ·right;have:=HBv2.out.size;omega
   have hgP:g'≠w.heap.size∧g'≠w.heap.size+1+1:=by
    have h5:=HPv2.out.2.lt
    rcases hg' with e | e <;> constructor <;> omega
   have HGP:Hid (g'≠w.heap.size∧g'≠w.heap.size+1+1):=hgP
   have HDD:Hid (∀ p ∈ rs++[((⟨x,y,z,e,i,r,d,l⟩ : R8),gd,kd)],rc8.gd p≠w.heap.size∧rc8.gd p≠w.heap.size+1+1):=fun p hp=>by
    rcases List.mem_append.1 hp with h|h
    ·have:=HRD.out p h
     omega
    ·rw[List.mem_singleton.1 h]
     show gd≠_∧gd≠_
     omega
   refine hK2.out _ _ hF6 (fun hS2=>?_)
   have HO6:Hid (ownG rc8 w6 B 46 8 g' k' (rs++[(⟨x,y,z,e,i,r,d,l⟩,gd,kd)])):=hO6
   have HGD6:Hid (w.heap.size≤gd):=(by have:=hgd.2.1;show _≤_;omega)
   clear hS hK2 K2 ho6 hg6 hg' hB6 hgd hO hO2 hO6 HNB hgP;have hS:=hS2
   clear hS2;simp only[Act.put,aA,aB,aC,aD,aE,aF];refine wT (i:=10) (v:=.pointer (some ⟨w.heap.size,7,none⟩)) rfl (by kernel_rfl) (by kernel_rfl) (by kernel_rfl) (fun _ _ _ h=>h) (Or.inl ⟨by rfl,?_⟩) hS ?_
   ·intro W hSw;clear hS;go_simp
   simp only[Act.put,aA,aB,aC,aD,aE,aF];refine wpAnyH_all (rs:=[11]) (by kernel_rfl) (by simp) ?_
   refine AllReadyH.cons rfl (fun K2 hK2=>?_) AllReadyH.nil
   have xq:=hP6.cell 7 _ rfl
   have fq:=hP6.free 7
   go_simp;have hS7:blk (w6.setCell ⟨w.heap.size,7,none⟩ (.slice (some ⟨g',0,none⟩) (n4+1) k')) (w.heap.size+1) [.bool e,.int .u32 (i:Int),.bool r,.int .i64 d,.slice ao l.length c] 25:=hF6.setOther (by omega) _ _
   have HP7:Hid (blk (w6.setCell ⟨w.heap.size,7,none⟩ (.slice (some ⟨g',0,none⟩) (n4+1) k')) w.heap.size [.int .i64 c0,.int .i64 c1,.int .i64 c2,.int .i64 c3,.slice a1 n1 k1,.slice a2 n2 k2,.slice a3 n3 k3,.slice (some ⟨g',0,none⟩) (n4+1) k',.int .i64 lo,.int .i64 st] 35∧blk (w6.setCell ⟨w.heap.size,7,none⟩ (.slice (some ⟨g',0,none⟩) (n4+1) k')) (w.heap.size+1+1) Z10 35):=⟨hP6.set 7 _,hR6.setOther (by omega) _ _⟩
   have HW7:Hid (∀ q,q≠w.heap.size→(w6.setCell ⟨w.heap.size,7,none⟩ (.slice (some ⟨g',0,none⟩) (n4+1) k')).heap[q]?=w6.heap[q]?):=fun q hq=>heap_setCell_other w6 ⟨w.heap.size,7,none⟩ q _ hq
   have HZ7:Hid ((w6.setCell ⟨w.heap.size,7,none⟩ (.slice (some ⟨g',0,none⟩) (n4+1) k')).heap.size=w6.heap.size):=(by show _=_;simp)
   have HB7:Hid (Below B w (w6.setCell ⟨w.heap.size,7,none⟩ (.slice (some ⟨g',0,none⟩) (n4+1) k'))):=HB6.out.setCell (by exact hg4.2.2) _
   refine hK2.out _ _ hS7 (fun hS2=>?_)
   clear hS hK2 K2 hS7 hS2 xq fq hP6 hR6 hF6;refine wpAnyH_done (by kernel_rfl) ?_ _
   generalize (w6.setCell ⟨w.heap.size,7,none⟩ (.slice (some ⟨g',0,none⟩) (n4+1) k'))=w7 at *;go_wp2_with (first
    | (refine wpList_load_mid (P:=Tryz.prog) rfl 35 _ rfl w.heap.size 0 rfl [.int .i64 c0,.int .i64 c1,.int .i64 c2,.int .i64 c3,.slice a1 n1 k1,.slice a2 n2 k2,.slice a3 n3 k3,.slice (some ⟨g',0,none⟩) (n4+1) k',.int .i64 lo,.int .i64 st] _ HP7.out.1.load Tryz.underlying35 rfl sz41 ?_)
    | (refine wpList_store_mid (P:=Tryz.prog) rfl 35 _ _ rfl (w.heap.size+1+1) 0 [.int .i64 c0,.int .i64 c1,.int .i64 c2,.int .i64 c3,.slice a1 n1 k1,.slice a2 n2 k2,.slice a3 n3 k3,.slice (some ⟨g',0,none⟩) (n4+1) k',.int .i64 lo,.int .i64 st].toArray rfl rfl (HP7.out.2.there 0 10 (by simp[Z10])) sz41 (all_oneCell_toArray (by simp[Value.oneCell'])) ?_;generalize hW8:World.setCells _ (w.heap.size+1+1) 0 _=w8;have HW8:Hid (World.setCells w7 (w.heap.size+1+1) 0 [.int .i64 c0,.int .i64 c1,.int .i64 c2,.int .i64 c3,.slice a1 n1 k1,.slice a2 n2 k2,.slice a3 n3 k3,.slice (some ⟨g',0,none⟩) (n4+1) k',.int .i64 lo,.int .i64 st]=w8):=hW8;clear hW8))
   have e8:=HW8.out
   have hF:blk w8 (w.heap.size+1+1) [.int .i64 c0,.int .i64 c1,.int .i64 c2,.int .i64 c3,.slice a1 n1 k1,.slice a2 n2 k2,.slice a3 n3 k3,.slice (some ⟨g',0,none⟩) (n4+1) k',.int .i64 lo,.int .i64 st] 35:=by
    rw[← e8]
    have:=blk.put [] Z10 [] [.int .i64 c0,.int .i64 c1,.int .i64 c2,.int .i64 c3,.slice a1 n1 k1,.slice a2 n2 k2,.slice a3 n3 k3,.slice (some ⟨g',0,none⟩) (n4+1) k',.int .i64 lo,.int .i64 st] (w:=w7) (b:=w.heap.size+1+1) (T:=35) (by simpa using HP7.out.2) rfl
    simpa using this
   have hL:=run_loadVar_mid (P:=Tryz.prog) w8 (w.heap.size+1+1) 0 35 _ _ hF.load Tryz.underlying35 rfl sz41
   refine bodyPost_ret (v:=.agg [.int .i64 c0,.int .i64 c1,.int .i64 c2,.int .i64 c3,.slice a1 n1 k1,.slice a2 n2 k2,.slice a3 n3 k3,.slice (some ⟨g',0,none⟩) (n4+1) k',.int .i64 lo,.int .i64 st].toArray) (results_cell Tryz.results143 _ w8 (w.heap.size+1+1) _ rfl hL) rfl ?_
   have o8:∀ q,q≠w.heap.size+1+1→w8.heap[q]?=w7.heap[q]?:=fun q hq=>by rw[← e8];exact setCells_other _ q hq _ _ _
   have z8:w8.heap.size=w7.heap.size:=by rw[← e8];exact setCells_size ..
   refine⟨g',k',gd,kd,rfl,?_,fun q h1 h2=>?_,HG'.out,HGD6.out,?_⟩
   ·exact (HO6.out.other HW7.out HGP.out.1 (fun p hp=>(HDD.out p hp).1) (by rw[HZ7.out];exact Nat.le_refl _)).other o8 HGP.out.2 (fun p hp=>(HDD.out p hp).2) (by rw[z8];exact Nat.le_refl _)
   ·exact (o8 q (by omega)).trans ((HW7.out q (by omega)).trans (HOTH.out q h1 h2))
   ·rw[← e8]
    exact setCells_below (by have:=hg4.2.2;omega) 0 _ HB7.out
set_option maxHeartbeats 4000000 in
set_option maxRecDepth 20000 in
theorem l3post_full (w:World) (c0 c1 c2 c3 lo st:Int) (a1:Option Addr) (n1 k1:Nat) (a2:Option Addr) (n2 k2:Nat) (a3:Option Addr) (n3 k3:Nat) (a4:Option Addr) (n4 k4:Nat) (x y z:Int) (e:Bool) (i:Nat) (r:Bool) (d:Int) (ao:Option Addr) (m c:Nat) (hq:c3≤(n4:Int)) (hlo:0≤lo∧lo≤100000) :
  Calls Tryz.prog 143 #[.agg [.int .i64 c0,.int .i64 c1,.int .i64 c2,.int .i64 c3,.slice a1 n1 k1,.slice a2 n2 k2,.slice a3 n3 k3,.slice a4 n4 k4,.int .i64 lo,.int .i64 st].toArray,.int .i64 x,.int .i64 y,.int .i64 z,frV e i r d ao m c] w fun o w'=>o = .returned (.agg #[.int .i64 c0,.int .i64 c1,.int .i64 c2,.int .i64 c3,.slice a1 n1 k1,.slice a2 n2 k2,.slice a3 n3 k3,.slice a4 n4 k4,.int .i64 (if lo<100000 then lo+1 else lo),.int .i64 st])∧Below w.heap.size w w':=by
 have H0:Hid (ptS w [.int .i64 c0,.int .i64 c1,.int .i64 c2,.int .i64 c3,.slice a1 n1 k1,.slice a2 n2 k2,.slice a3 n3 k3,.slice a4 n4 k4,.int .i64 lo,.int .i64 st] [.bool e,.int .u32 (i:Int),.bool r,.int .i64 d,.slice ao m c] (((w.alloc (.cells [.int .i64 c0,.int .i64 c1,.int .i64 c2,.int .i64 c3,.slice a1 n1 k1,.slice a2 n2 k2,.slice a3 n3 k3,.slice a4 n4 k4,.int .i64 lo,.int .i64 st].toArray 35)).alloc (.cells [.bool e,.int .u32 (i:Int),.bool r,.int .i64 d,.slice ao m c].toArray 25)).alloc (.cells [.int .i64 0,.int .i64 0,.int .i64 0,.int .i64 0,.slice none 0 0,.slice none 0 0,.slice none 0 0,.slice none 0 0,.int .i64 0,.int .i64 0].toArray 35))):=ptS.new w _ _
 have x3:=H0.out.p.cell 3 _ rfl
 have x7:=H0.out.p.cell 7 _ rfl
 have x8:=H0.out.p.cell 8 _ rfl
 have f8:=H0.out.p.free 8
 obtain⟨hl0,hl1⟩:=hlo
 have hq':decide (c3≤(n4:Int))=true:=by simpa using hq
 by_cases hl:lo<100000
 ·rw[if_pos hl]
  have hwr:IntKind.i64.wrap (lo+1)=lo+1:=by rw[IntKind.wrap_i64];omega
  clear H0;go_enter Tryz.func143,Tryz.ntmps143
  go_wp2_with fail;have hF:blk (((w.alloc (.cells [.int .i64 c0,.int .i64 c1,.int .i64 c2,.int .i64 c3,.slice a1 n1 k1,.slice a2 n2 k2,.slice a3 n3 k3,.slice a4 n4 k4,.int .i64 (lo+1),.int .i64 st].toArray 35)).alloc (.cells [.bool e,.int .u32 (i:Int),.bool r,.int .i64 d,.slice ao m c].toArray 25)).alloc (.cells [.int .i64 c0,.int .i64 c1,.int .i64 c2,.int .i64 c3,.slice a1 n1 k1,.slice a2 n2 k2,.slice a3 n3 k3,.slice a4 n4 k4,.int .i64 (lo+1),.int .i64 st].toArray 35)) (w.heap.size+1+1) [.int .i64 c0,.int .i64 c1,.int .i64 c2,.int .i64 c3,.slice a1 n1 k1,.slice a2 n2 k2,.slice a3 n3 k3,.slice a4 n4 k4,.int .i64 (lo+1),.int .i64 st] 35:=by
   have:=blk.new ((w.alloc (.cells [.int .i64 c0,.int .i64 c1,.int .i64 c2,.int .i64 c3,.slice a1 n1 k1,.slice a2 n2 k2,.slice a3 n3 k3,.slice a4 n4 k4,.int .i64 (lo+1),.int .i64 st].toArray 35)).alloc (.cells [.bool e,.int .u32 (i:Int),.bool r,.int .i64 d,.slice ao m c].toArray 25)) [.int .i64 c0,.int .i64 c1,.int .i64 c2,.int .i64 c3,.slice a1 n1 k1,.slice a2 n2 k2,.slice a3 n3 k3,.slice a4 n4 k4,.int .i64 (lo+1),.int .i64 st] 35
   have e:((w.alloc (.cells [.int .i64 c0,.int .i64 c1,.int .i64 c2,.int .i64 c3,.slice a1 n1 k1,.slice a2 n2 k2,.slice a3 n3 k3,.slice a4 n4 k4,.int .i64 (lo+1),.int .i64 st].toArray 35)).alloc (.cells [.bool e,.int .u32 (i:Int),.bool r,.int .i64 d,.slice ao m c].toArray 25)).heap.size=w.heap.size+1+1:=by simp
   rw[e] at this
   exact this
  have hL:=run_loadVar_mid (P:=Tryz.prog) (((w.alloc (.cells [.int .i64 c0,.int .i64 c1,.int .i64 c2,.int .i64 c3,.slice a1 n1 k1,.slice a2 n2 k2,.slice a3 n3 k3,.slice a4 n4 k4,.int .i64 (lo+1),.int .i64 st].toArray 35)).alloc (.cells [.bool e,.int .u32 (i:Int),.bool r,.int .i64 d,.slice ao m c].toArray 25)).alloc (.cells [.int .i64 c0,.int .i64 c1,.int .i64 c2,.int .i64 c3,.slice a1 n1 k1,.slice a2 n2 k2,.slice a3 n3 k3,.slice a4 n4 k4,.int .i64 (lo+1),.int .i64 st].toArray 35)) (w.heap.size+1+1) 0 35 _ _ hF.load Tryz.underlying35 rfl sz41
  refine bodyPost_ret (v:=.agg [.int .i64 c0,.int .i64 c1,.int .i64 c2,.int .i64 c3,.slice a1 n1 k1,.slice a2 n2 k2,.slice a3 n3 k3,.slice a4 n4 k4,.int .i64 (lo+1),.int .i64 st].toArray) (results_cell Tryz.results143 _ (((w.alloc (.cells [.int .i64 c0,.int .i64 c1,.int .i64 c2,.int .i64 c3,.slice a1 n1 k1,.slice a2 n2 k2,.slice a3 n3 k3,.slice a4 n4 k4,.int .i64 (lo+1),.int .i64 st].toArray 35)).alloc (.cells [.bool e,.int .u32 (i:Int),.bool r,.int .i64 d,.slice ao m c].toArray 25)).alloc (.cells [.int .i64 c0,.int .i64 c1,.int .i64 c2,.int .i64 c3,.slice a1 n1 k1,.slice a2 n2 k2,.slice a3 n3 k3,.slice a4 n4 k4,.int .i64 (lo+1),.int .i64 st].toArray 35)) (w.heap.size+1+1) _ rfl hL) rfl ?_
  exact⟨rfl,(((Below.refl _ _).alloc (Nat.le_refl _) _).alloc (by simp) _).alloc (by simp;omega) _⟩
 ·rw[if_neg hl]
  clear H0;go_enter Tryz.func143,Tryz.ntmps143
  go_wp2_with fail;have hF:blk (((w.alloc (.cells [.int .i64 c0,.int .i64 c1,.int .i64 c2,.int .i64 c3,.slice a1 n1 k1,.slice a2 n2 k2,.slice a3 n3 k3,.slice a4 n4 k4,.int .i64 lo,.int .i64 st].toArray 35)).alloc (.cells [.bool e,.int .u32 (i:Int),.bool r,.int .i64 d,.slice ao m c].toArray 25)).alloc (.cells [.int .i64 c0,.int .i64 c1,.int .i64 c2,.int .i64 c3,.slice a1 n1 k1,.slice a2 n2 k2,.slice a3 n3 k3,.slice a4 n4 k4,.int .i64 lo,.int .i64 st].toArray 35)) (w.heap.size+1+1) [.int .i64 c0,.int .i64 c1,.int .i64 c2,.int .i64 c3,.slice a1 n1 k1,.slice a2 n2 k2,.slice a3 n3 k3,.slice a4 n4 k4,.int .i64 lo,.int .i64 st] 35:=by
   have:=blk.new ((w.alloc (.cells [.int .i64 c0,.int .i64 c1,.int .i64 c2,.int .i64 c3,.slice a1 n1 k1,.slice a2 n2 k2,.slice a3 n3 k3,.slice a4 n4 k4,.int .i64 lo,.int .i64 st].toArray 35)).alloc (.cells [.bool e,.int .u32 (i:Int),.bool r,.int .i64 d,.slice ao m c].toArray 25)) [.int .i64 c0,.int .i64 c1,.int .i64 c2,.int .i64 c3,.slice a1 n1 k1,.slice a2 n2 k2,.slice a3 n3 k3,.slice a4 n4 k4,.int .i64 lo,.int .i64 st] 35
   have e:((w.alloc (.cells [.int .i64 c0,.int .i64 c1,.int .i64 c2,.int .i64 c3,.slice a1 n1 k1,.slice a2 n2 k2,.slice a3 n3 k3,.slice a4 n4 k4,.int .i64 lo,.int .i64 st].toArray 35)).alloc (.cells [.bool e,.int .u32 (i:Int),.bool r,.int .i64 d,.slice ao m c].toArray 25)).heap.size=w.heap.size+1+1:=by simp
   rw[e] at this
   exact this
  have hL:=run_loadVar_mid (P:=Tryz.prog) (((w.alloc (.cells [.int .i64 c0,.int .i64 c1,.int .i64 c2,.int .i64 c3,.slice a1 n1 k1,.slice a2 n2 k2,.slice a3 n3 k3,.slice a4 n4 k4,.int .i64 lo,.int .i64 st].toArray 35)).alloc (.cells [.bool e,.int .u32 (i:Int),.bool r,.int .i64 d,.slice ao m c].toArray 25)).alloc (.cells [.int .i64 c0,.int .i64 c1,.int .i64 c2,.int .i64 c3,.slice a1 n1 k1,.slice a2 n2 k2,.slice a3 n3 k3,.slice a4 n4 k4,.int .i64 lo,.int .i64 st].toArray 35)) (w.heap.size+1+1) 0 35 _ _ hF.load Tryz.underlying35 rfl sz41
  refine bodyPost_ret (v:=.agg [.int .i64 c0,.int .i64 c1,.int .i64 c2,.int .i64 c3,.slice a1 n1 k1,.slice a2 n2 k2,.slice a3 n3 k3,.slice a4 n4 k4,.int .i64 lo,.int .i64 st].toArray) (results_cell Tryz.results143 _ (((w.alloc (.cells [.int .i64 c0,.int .i64 c1,.int .i64 c2,.int .i64 c3,.slice a1 n1 k1,.slice a2 n2 k2,.slice a3 n3 k3,.slice a4 n4 k4,.int .i64 lo,.int .i64 st].toArray 35)).alloc (.cells [.bool e,.int .u32 (i:Int),.bool r,.int .i64 d,.slice ao m c].toArray 25)).alloc (.cells [.int .i64 c0,.int .i64 c1,.int .i64 c2,.int .i64 c3,.slice a1 n1 k1,.slice a2 n2 k2,.slice a3 n3 k3,.slice a4 n4 k4,.int .i64 lo,.int .i64 st].toArray 35)) (w.heap.size+1+1) _ rfl hL) rfl ?_
  exact⟨rfl,(((Below.refl _ _).alloc (Nat.le_refl _) _).alloc (by simp) _).alloc (by simp;omega) _⟩
set_option maxHeartbeats 4000000 in
set_option maxRecDepth 20000 in
theorem l3say_more (w:World) (c0 c1 c2 c3 lo st:Int) (a1:Option Addr) (n1 k1:Nat) (a2:Option Addr) (n2 k2:Nat) (a3:Option Addr) (n3 k3:Nat) (B g4 n4 k4:Nat) (rs:List (R8 × Nat × Nat)) (x y z:Int) (hq:(n4:Int)<c3) (hn:n4≤1000) (hO:ownG rc8 w B 46 8 g4 k4 rs) (hrl:rs.length=n4) (hB:B≤w.heap.size) :
  Calls Tryz.prog 139 #[.agg [.int .i64 c0,.int .i64 c1,.int .i64 c2,.int .i64 c3,.slice a1 n1 k1,.slice a2 n2 k2,.slice a3 n3 k3,.slice (some ⟨g4,0,none⟩) n4 k4,.int .i64 lo,.int .i64 st].toArray,.int .i64 x,.int .i64 y,.int .i64 z] w fun o w'=>∃ g' k' gd kd,o = .returned (.agg [.int .i64 c0,.int .i64 c1,.int .i64 c2,.int .i64 c3,.slice a1 n1 k1,.slice a2 n2 k2,.slice a3 n3 k3,.slice (some ⟨g',0,none⟩) (n4+1) k',.int .i64 lo,.int .i64 st].toArray)∧ownG rc8 w' B 46 8 g' k' (rs++[(⟨x,y,z,false,0,false,0,[]⟩,gd,kd)])∧(∀ q,q≠g4→q<w.heap.size→w'.heap[q]?=w.heap[q]?)∧(g'=g4∨w.heap.size≤g')∧w.heap.size≤gd∧Below B w w':=by
 have HB0:Hid (Below w.heap.size w ((w.alloc (.cells [.int .i64 c0,.int .i64 c1,.int .i64 c2,.int .i64 c3,.slice a1 n1 k1,.slice a2 n2 k2,.slice a3 n3 k3,.slice (some ⟨g4,0,none⟩) n4 k4,.int .i64 lo,.int .i64 st].toArray 35)).alloc (.cells [.int .i64 0,.int .i64 0,.int .i64 0,.int .i64 0,.slice none 0 0,.slice none 0 0,.slice none 0 0,.slice none 0 0,.int .i64 0,.int .i64 0].toArray 35))):=((Below.refl _ _).alloc (Nat.le_refl _) _).alloc (by simp) _
 have HR0:Hid (blk ((w.alloc (.cells [.int .i64 c0,.int .i64 c1,.int .i64 c2,.int .i64 c3,.slice a1 n1 k1,.slice a2 n2 k2,.slice a3 n3 k3,.slice (some ⟨g4,0,none⟩) n4 k4,.int .i64 lo,.int .i64 st].toArray 35)).alloc (.cells [.int .i64 0,.int .i64 0,.int .i64 0,.int .i64 0,.slice none 0 0,.slice none 0 0,.slice none 0 0,.slice none 0 0,.int .i64 0,.int .i64 0].toArray 35)) (w.heap.size+1) Z10 35):=by
  have:=blk.new (w.alloc (.cells [.int .i64 c0,.int .i64 c1,.int .i64 c2,.int .i64 c3,.slice a1 n1 k1,.slice a2 n2 k2,.slice a3 n3 k3,.slice (some ⟨g4,0,none⟩) n4 k4,.int .i64 lo,.int .i64 st].toArray 35)) Z10 35
  have e:(w.alloc (.cells [.int .i64 c0,.int .i64 c1,.int .i64 c2,.int .i64 c3,.slice a1 n1 k1,.slice a2 n2 k2,.slice a3 n3 k3,.slice (some ⟨g4,0,none⟩) n4 k4,.int .i64 lo,.int .i64 st].toArray 35)).heap.size=w.heap.size+1:=by simp
  rw[e] at this
  exact this
 have HC:Hid (∀ X:World,Below w.heap.size w X→Calls Tryz.prog 143 #[.agg [.int .i64 c0,.int .i64 c1,.int .i64 c2,.int .i64 c3,.slice a1 n1 k1,.slice a2 n2 k2,.slice a3 n3 k3,.slice (some ⟨g4,0,none⟩) n4 k4,.int .i64 lo,.int .i64 st].toArray,.int .i64 x,.int .i64 y,.int .i64 z,frV false 0 false 0 none 0 0] X fun o w'=>∃ g' k' gd kd,o = .returned (.agg [.int .i64 c0,.int .i64 c1,.int .i64 c2,.int .i64 c3,.slice a1 n1 k1,.slice a2 n2 k2,.slice a3 n3 k3,.slice (some ⟨g',0,none⟩) (n4+1) k',.int .i64 lo,.int .i64 st].toArray)∧ownG rc8 w' B 46 8 g' k' (rs++[(⟨x,y,z,false,0,false,0,[]⟩,gd,kd)])∧(∀ q,q≠g4→q<X.heap.size→w'.heap[q]?=X.heap[q]?)∧(g'=g4∨X.heap.size≤g')∧X.heap.size≤gd∧Below B X w'):=fun X hX=>l3post_more X c0 c1 c2 c3 lo st a1 n1 k1 a2 n2 k2 a3 n3 k3 B g4 n4 k4 rs x y z false 0 false 0 none 0 [] hq hn (hO.kept (fun b _ h2=>hX.block b h2) hX.size) hrl (Nat.le_trans hB hX.size) ⟨rfl,Nat.le_refl _,fun q hq=>(by cases hq),fun h=>absurd rfl h⟩ (by simp)
 have HG4:Hid (g4<w.heap.size∧∀ p ∈ rs,rc8.gd p<w.heap.size):=⟨hO.lt.2,fun p hp=>(hO.dat p hp).2.2.2⟩
 have HBB:Hid (B≤w.heap.size):=hB
 clear hO hrl hB hq hn;go_enter Tryz.func139,Tryz.ntmps139
 go_wp2_with fail;refine (HC.out _ HB0.out).mono ?_
 rintro o w1 ⟨g',k',gd,kd,rfl,q1,q2,q3,q4,q5⟩;have hz0:=HR0.out.lt
 have HR1:Hid (blk w1 (w.heap.size+1) Z10 35):=HR0.out.kept (q2 _ (by have:=HG4.out.1;omega) hz0)
 have HQ1:Hid (ownG rc8 w1 B 46 8 g' k' (rs++[(⟨x,y,z,false,0,false,0,[]⟩,gd,kd)])):=q1
 have HQ2:Hid ((∀ q,q≠g4→q<w.heap.size→w1.heap[q]?=w.heap[q]?)∧(g'=g4∨w.heap.size+1<g')∧w.heap.size+1<gd∧Below B w w1):=⟨fun q h1 h2=>(q2 q h1 (Nat.lt_of_lt_of_le h2 HB0.out.size)).trans (HB0.out.block q h2),(by rcases q3 with e | e;(exact Or.inl e);(right;omega)),by omega,(HB0.out.mono HBB.out).trans q5⟩
 clear q1 q2 q3 q4 q5 hz0 HR0 HB0 HC;go_wp2_with (first
  | (refine wpList_store_mid (P:=Tryz.prog) rfl 35 _ _ rfl (w.heap.size+1) 0 [.int .i64 c0,.int .i64 c1,.int .i64 c2,.int .i64 c3,.slice a1 n1 k1,.slice a2 n2 k2,.slice a3 n3 k3,.slice (some ⟨g',0,none⟩) (n4+1) k',.int .i64 lo,.int .i64 st].toArray rfl rfl (HR1.out.there 0 10 (by simp[Z10])) sz41 (all_oneCell_toArray (by simp[Value.oneCell'])) ?_;generalize hW8:World.setCells _ (w.heap.size+1) 0 _=w8;have HW8:Hid (World.setCells w1 (w.heap.size+1) 0 [.int .i64 c0,.int .i64 c1,.int .i64 c2,.int .i64 c3,.slice a1 n1 k1,.slice a2 n2 k2,.slice a3 n3 k3,.slice (some ⟨g',0,none⟩) (n4+1) k',.int .i64 lo,.int .i64 st]=w8):=hW8;clear hW8))
 have e8:=HW8.out
 have hF:blk w8 (w.heap.size+1) [.int .i64 c0,.int .i64 c1,.int .i64 c2,.int .i64 c3,.slice a1 n1 k1,.slice a2 n2 k2,.slice a3 n3 k3,.slice (some ⟨g',0,none⟩) (n4+1) k',.int .i64 lo,.int .i64 st] 35:=by
  rw[← e8]
  have:=blk.put [] Z10 [] [.int .i64 c0,.int .i64 c1,.int .i64 c2,.int .i64 c3,.slice a1 n1 k1,.slice a2 n2 k2,.slice a3 n3 k3,.slice (some ⟨g',0,none⟩) (n4+1) k',.int .i64 lo,.int .i64 st] (w:=w1) (b:=w.heap.size+1) (T:=35) (by simpa using HR1.out) rfl
  simpa using this
 have hL:=run_loadVar_mid (P:=Tryz.prog) w8 (w.heap.size+1) 0 35 _ _ hF.load Tryz.underlying35 rfl sz41
 refine bodyPost_ret (v:=.agg [.int .i64 c0,.int .i64 c1,.int .i64 c2,.int .i64 c3,.slice a1 n1 k1,.slice a2 n2 k2,.slice a3 n3 k3,.slice (some ⟨g',0,none⟩) (n4+1) k',.int .i64 lo,.int .i64 st].toArray) (results_cell Tryz.results139 _ w8 (w.heap.size+1) _ rfl hL) rfl ?_
 have o8:∀ q,q≠w.heap.size+1→w8.heap[q]?=w1.heap[q]?:=fun q hq=>by rw[← e8];exact setCells_other _ q hq _ _ _
 have z8:w8.heap.size=w1.heap.size:=by rw[← e8];exact setCells_size ..
 have hg4:=HG4.out
 have hq2:=HQ2.out
 refine⟨g',k',gd,kd,rfl,HQ1.out.other o8 ?_ (fun p hp=>?_) (by rw[z8];exact Nat.le_refl _),fun q h1 h2=>(o8 q (by omega)).trans (hq2.1 q h1 h2),?_,by omega,?_⟩
 ·rcases hq2.2.1 with e | e <;> omega
 ·rcases List.mem_append.1 hp with h|h
  ·have:=hg4.2 p h
   omega
  ·rw[List.mem_singleton.1 h]
   show gd≠_
   omega
 ·rcases hq2.2.1 with e|e
  ·exact Or.inl e
  ·right;omega
 ·rw[← e8]
  exact setCells_below (by have:=HBB.out;omega) 0 _ hq2.2.2.2
end Go.Proofs.YtaamahohdnbpiaaGreat
