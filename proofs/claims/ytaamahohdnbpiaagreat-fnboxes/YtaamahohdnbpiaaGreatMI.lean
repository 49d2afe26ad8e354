import Derived.Test.YtaamahohdnbpiaaGreatG18
namespace Go.Proofs.YtaamahohdnbpiaaGreat
open Go.RowKit
set_option linter.unusedVariables false
def liL (c0:Int) (r1:Nat) (c2:Int) (r3 gf n1 kf gb n2 kb mb gr f1 n3 gq f3 n4:Nat) (lo st:Int):List Value:=[.int .i64 c0,.int .i64 (r1:Int),.int .i64 c2,.int .i64 (r3:Int),.slice (some ⟨gf,0,none⟩) n1 kf,.slice (some ⟨gb,0,none⟩) n2 kb,.map (some mb),.slice (some ⟨gr,0,none⟩) r1 r1,.int .i64 (f1:Int),.int .i64 (n3:Int),.slice (some ⟨gq,0,none⟩) r3 r3,.int .i64 (f3:Int),.int .i64 (n4:Int),.int .i64 lo,.int .i64 st]
theorem liL_cfg {W:World} {P:Nat} {c0:Int} {r1:Nat} {c2:Int} {r3 gf n1 kf gb n2 kb mb gr f1 n3 gq f3 n4:Nat} {lo st:Int} (h:blk W P (liL c0 r1 c2 r3 gf n1 kf gb n2 kb mb gr f1 n3 gq f3 n4 lo st) 134):W.rangeAt P 0 [.int .i64 c0,.int .i64 (r1:Int),.int .i64 c2,.int .i64 (r3:Int)]:=blk.loadAt [] _ [.slice (some ⟨gf,0,none⟩) n1 kf,.slice (some ⟨gb,0,none⟩) n2 kb,.map (some mb),.slice (some ⟨gr,0,none⟩) r1 r1,.int .i64 (f1:Int),.int .i64 (n3:Int),.slice (some ⟨gq,0,none⟩) r3 r3,.int .i64 (f3:Int),.int .i64 (n4:Int),.int .i64 lo,.int .i64 st] h
structure tdS (w:World) (P:Nat) (L:List Value) (W:World):Prop where
 p:blk W P L 134
 b:Below w.heap.size w W
theorem tdS.below {w:World} {P:Nat} {L:List Value} {W W':World} (h:tdS w P L W) (hb:Below W.heap.size W W'):tdS w P L W':=⟨h.p.below hb,h.b.trans (hb.mono h.b.size)⟩
theorem tdS.put {w:World} {P:Nat} {L:List Value} {W:World} (h:tdS w P L W) (Q:Nat) (hq:P≠Q) (hw:w.heap.size≤Q) (o:Nat) (vs:List Value):tdS w P L (World.setCells W Q o vs):=⟨h.p.other hq o vs,setCells_below hw o vs h.b⟩
theorem ring5.below {w0 w W:World} {g room first:Nat} {L:List R5} (h:ring5 w0 w g room first L) (hb:Below w.heap.size w W):ring5 w0 W g room first L:=fun i hi=>by
 obtain⟨ao,m,c,h1,h2⟩:=h i hi
 exact⟨ao,m,c,range_below h1 hb (World.block_lt_of_cell? w _ (h1 0 _ rfl)),h2⟩
theorem ring8.below {w0 w W:World} {g room first:Nat} {L:List R8} (h:ring8 w0 w g room first L) (hb:Below w.heap.size w W):ring8 w0 W g room first L:=fun i hi=>by
 obtain⟨ao,m,c,h1,h2⟩:=h i hi
 exact⟨ao,m,c,range_below h1 hb (World.block_lt_of_cell? w _ (h1 0 _ rfl)),h2⟩
set_option maxHeartbeats 16000000 in
set_option maxRecDepth 20000 in
theorem told_any (w:World) (P mb:Nat) (c0 c2:Int) (r1 r3:Nat) (fs:List R3) (bx:List R8) (ff:List R5) (qu:List R8) (lo st:Int) (gf n1 kf gb n2 kb gr f1 n3 gq f3 n4:Nat)
  (hP:blk w P (liL c0 r1 c2 r3 gf n1 kf gb n2 kb mb gr f1 n3 gq f3 n4 lo st) 134) (h1:isR3s w (some ⟨gf,0,none⟩) n1 kf fs) (h2:isR8s w (some ⟨gb,0,none⟩) n2 kb bx) (h3:ring5 w w gr r1 f1 ff) (h4:ring8 w w gq r3 f3 qu) (e3:n3=ff.length) (e4:n4=qu.length) (m1:n1≤1000) (m2:n2≤1000) (b1:f1<r1∧r1≤1000∧n3≤r1) (b3:f3<r3∧r3≤1000∧n4≤r3) (s2:∀ j (h:j<bx.length),bx[j].l.length≤1048576) (s3:∀ j (h:j<ff.length),ff[j].l.length≤1048576) (s4:∀ j (h:j<qu.length),qu[j].l.length≤1048576) :
  Calls Tryz.prog 118 #[.pointer (some ⟨P,0,none⟩)] w fun e w'=>∃ s:Wh,e = .returned (.agg (hoL ⟨c0,(r1:Int),c2,(r3:Int),fs,bx,ff,qu,lo,st⟩ s.sl).toArray)∧St w.heap.size w' (fun W=>isHo W ⟨c0,(r1:Int),c2,(r3:Int),fs,bx,ff,qu,lo,st⟩ s.sl)∧whS w.heap.size w'.heap.size w' s∧whD s∧whE s∧Below w.heap.size w w':=by
 have HC1:Hid (∀ W,tdS w P (liL c0 r1 c2 r3 gf n1 kf gb n2 kb mb gr f1 n3 gq f3 n4 lo st) W→Calls Tryz.prog 55 #[.slice (some ⟨gf,0,none⟩) n1 kf] W fun e w'=>∃ g' cap',e = .returned (.slice (some ⟨g',0,none⟩) n1 cap')∧W.heap.size≤g'∧n1≤cap'∧dr3 w g' n1 fs w'∧Below W.heap.size W w'):=fun W hW=>clone3_dr W w gf n1 kf fs (h1.below hW.b) (by omega) hW.b.size
 have HC2:Hid (∀ W,tdS w P (liL c0 r1 c2 r3 gf n1 kf gb n2 kb mb gr f1 n3 gq f3 n4 lo st) W→Calls Tryz.prog 160 #[.slice (some ⟨gb,0,none⟩) n2 kb] W fun e w'=>∃ g' cap' hs,e = .returned (.slice (some ⟨g',0,none⟩) n2 cap')∧W.heap.size≤g'∧n2≤cap'∧dr8 w 0 g' n2 bx hs 0 w'∧Below W.heap.size W w'):=fun W hW=>clone8_dr w W gb 0 n2 kb bx h2 hW.b (by omega) s2
 have HC3:Hid (∀ W,tdS w P (liL c0 r1 c2 r3 gf n1 kf gb n2 kb mb gr f1 n3 gq f3 n4 lo st) W→Calls Tryz.prog 161 #[.pointer (some ⟨P,7,none⟩),.int .i64 (n3:Int)] W fun e w'=>∃ a c hs,e = .returned (.slice a n3 c)∧(∀ g,a=some ⟨g,0,none⟩→W.heap.size≤g)∧dx5 w 0 a n3 c ff hs 0 w'∧Below W.heap.size W w'):=fun W hW=>look5_dr w W P 7 gr r1 f1 n3 ff e3 (hW.p.cell 7 _ rfl) (hW.p.cell 8 _ rfl) (hW.p.cell 9 _ rfl) (ring5.below h3 hW.b) b1.1 ⟨by omega,b1.2.1⟩ b1.2.2 hW.b s3
 have HC4:Hid (∀ W,tdS w P (liL c0 r1 c2 r3 gf n1 kf gb n2 kb mb gr f1 n3 gq f3 n4 lo st) W→Calls Tryz.prog 162 #[.pointer (some ⟨P,10,none⟩),.int .i64 (n4:Int)] W fun e w'=>∃ a c hs,e = .returned (.slice a n4 c)∧(∀ g,a=some ⟨g,0,none⟩→W.heap.size≤g)∧dx8 w 0 a n4 c qu hs 0 w'∧Below W.heap.size W w'):=fun W hW=>look8_dr w W P 10 gq r3 f3 n4 qu e4 (hW.p.cell 10 _ rfl) (hW.p.cell 11 _ rfl) (hW.p.cell 12 _ rfl) (ring8.below h4 hW.b) b3.1 ⟨by omega,b3.2.1⟩ b3.2.2 hW.b s4
 have HPL:Hid (P<w.heap.size):=hP.lt
 have hS0:tdS w P (liL c0 r1 c2 r3 gf n1 kf gb n2 kb mb gr f1 n3 gq f3 n4 lo st) (w.alloc (.cells [.int .i64 0,.int .i64 0,.int .i64 0,.int .i64 0,.slice none 0 0,.slice none 0 0,.slice none 0 0,.slice none 0 0,.int .i64 0,.int .i64 0].toArray 35)):=(⟨hP,Below.refl _ _⟩ : tdS w P (liL c0 r1 c2 r3 gf n1 kf gb n2 kb mb gr f1 n3 gq f3 n4 lo st) w).below ((Below.refl _ _).alloc (Nat.le_refl _) _)
 have HR0:Hid (blk (w.alloc (.cells [.int .i64 0,.int .i64 0,.int .i64 0,.int .i64 0,.slice none 0 0,.slice none 0 0,.slice none 0 0,.slice none 0 0,.int .i64 0,.int .i64 0].toArray 35)) w.heap.size [.int .i64 0,.int .i64 0,.int .i64 0,.int .i64 0,.slice none 0 0,.slice none 0 0,.slice none 0 0,.slice none 0 0,.int .i64 0,.int .i64 0] 35):=blk.new w [.int .i64 0,.int .i64 0,.int .i64 0,.int .i64 0,.slice none 0 0,.slice none 0 0,.slice none 0 0,.slice none 0 0,.int .i64 0,.int .i64 0] 35
 have HLN:Hid (n2=bx.length∧n3=ff.length∧n4=qu.length∧n1≤1000∧n2≤1000∧n3≤1000∧n4≤1000):=⟨h2.len,e3,e4,m1,m2,by omega,by omega⟩
 clear hP h1 h2 h3 h4 s2 s3 s4 e3 e4 m1 m2 b1 b3;go_enter Tryz.func118,Tryz.ntmps118
 go_wp2_with fail;rename_i K hKc
 have HFIN:∀ (PH g1 k1 g2 k2:Nat) (h2:Nat→Hd) (a3:Option Addr) (k3:Nat) (h3:Nat→Hd) (a4:Option Addr) (k4:Nat) (h4:Nat→Hd) (W:World),tdE w n1 fs n2 bx n3 ff n4 qu g1 k1 g2 k2 h2 a3 k3 h3 a4 k4 h4 PH W→Below w.heap.size w W→K { tmps:=#[.pointer (some ⟨P,0,none⟩),undef,.pointer (some ⟨w.heap.size,0,none⟩),.pointer (some ⟨PH,0,none⟩),undef,undef,undef,.pointer (some ⟨P,0,none⟩),.pointer (some ⟨P,0,none⟩),.pointer (some ⟨P,0,none⟩),.agg [.int .i64 c0,.int .i64 (r1:Int),.int .i64 c2,.int .i64 (r3:Int)].toArray,.pointer (some ⟨P,0,none⟩),.pointer (some ⟨P,0,none⟩),.pointer (some ⟨P,4,none⟩),.slice (some ⟨gf,0,none⟩) n1 kf,.slice (some ⟨g1,0,none⟩) n1 k1,.pointer (some ⟨P,0,none⟩),.pointer (some ⟨P,0,none⟩),.pointer (some ⟨P,5,none⟩),.slice (some ⟨gb,0,none⟩) n2 kb,.slice (some ⟨g2,0,none⟩) n2 k2,.pointer (some ⟨P,0,none⟩),.pointer (some ⟨P,0,none⟩),.pointer (some ⟨P,7,none⟩),.pointer (some ⟨P,0,none⟩),.pointer (some ⟨P,0,none⟩),.pointer (some ⟨P,7,none⟩),.pointer (some ⟨P,9,none⟩),.int .i64 (n3:Int),.slice a3 n3 k3,.pointer (some ⟨P,0,none⟩),.pointer (some ⟨P,0,none⟩),.pointer (some ⟨P,10,none⟩),.pointer (some ⟨P,0,none⟩),.pointer (some ⟨P,0,none⟩),.pointer (some ⟨P,10,none⟩),.pointer (some ⟨P,12,none⟩),.int .i64 (n4:Int),.slice a4 n4 k4,.pointer (some ⟨P,0,none⟩),.pointer (some ⟨P,0,none⟩),.pointer (some ⟨P,13,none⟩),.int .i64 lo,.pointer (some ⟨P,0,none⟩),.pointer (some ⟨P,0,none⟩),.pointer (some ⟨P,14,none⟩),.int .i64 st,.agg [.int .i64 c0,.int .i64 (r1:Int),.int .i64 c2,.int .i64 (r3:Int),.slice (some ⟨g1,0,none⟩) n1 k1,.slice (some ⟨g2,0,none⟩) n2 k2,.slice a3 n3 k3,.slice a4 n4 k4,.int .i64 lo,.int .i64 st].toArray,undef,undef,undef,undef,undef,undef,undef,undef,undef,undef,undef,undef,undef,undef,undef,undef,undef,undef,undef,undef,undef,undef,undef,undef,undef,undef,undef,undef,undef,undef,undef,undef,undef,undef,undef,undef,undef,undef,undef],defers:=[] } (World.setCells W PH 0 [.int .i64 c0,.int .i64 (r1:Int),.int .i64 c2,.int .i64 (r3:Int),.slice (some ⟨g1,0,none⟩) n1 k1,.slice (some ⟨g2,0,none⟩) n2 k2,.slice a3 n3 k3,.slice a4 n4 k4,.int .i64 lo,.int .i64 st]):=by
  intro PH g1 k1 g2 k2 h2 a3 k3 h3 a4 k4 h4 W E hbW;obtain⟨F0,O⟩:=E.put hbW [.int .i64 c0,.int .i64 (r1:Int),.int .i64 c2,.int .i64 (r3:Int),.slice (some ⟨g1,0,none⟩) n1 k1,.slice (some ⟨g2,0,none⟩) n2 k2,.slice a3 n3 k3,.slice a4 n4 k4,.int .i64 lo,.int .i64 st] rfl W.heap.size 0 0
  have HU:Hid (g1<W.heap.size∧g2<W.heap.size∧(∀ g,a3=some ⟨g,0,none⟩→g<W.heap.size)∧(∀ g,a4=some ⟨g,0,none⟩→g<W.heap.size)∧PH<W.heap.size∧w.heap.size<W.heap.size∧(World.setCells W PH 0 [.int .i64 c0,.int .i64 (r1:Int),.int .i64 c2,.int .i64 (r3:Int),.slice (some ⟨g1,0,none⟩) n1 k1,.slice (some ⟨g2,0,none⟩) n2 k2,.slice a3 n3 k3,.slice a4 n4 k4,.int .i64 lo,.int .i64 st]).heap.size=W.heap.size):=⟨E.f1.hi,E.f2.hi,E.f3.hi,E.f4.hi,E.fh.lt,E.fr.lt,setCells_size ..⟩
  have HO:Hid (tdO w n1 k1 n2 k2 g1 g2 a3 a4 PH):=O
  have HF0:Hid (tdF w n1 fs n2 bx n3 ff n4 qu g1 g2 h2 a3 k3 h3 a4 k4 h4 PH [.int .i64 c0,.int .i64 (r1:Int),.int .i64 c2,.int .i64 (r3:Int),.slice (some ⟨g1,0,none⟩) n1 k1,.slice (some ⟨g2,0,none⟩) n2 k2,.slice a3 n3 k3,.slice a4 n4 k4,.int .i64 lo,.int .i64 st] W.heap.size 0 0 0 0 0 (World.setCells W PH 0 [.int .i64 c0,.int .i64 (r1:Int),.int .i64 c2,.int .i64 (r3:Int),.slice (some ⟨g1,0,none⟩) n1 k1,.slice (some ⟨g2,0,none⟩) n2 k2,.slice a3 n3 k3,.slice a4 n4 k4,.int .i64 lo,.int .i64 st])):=F0
  refine hKc _ _ ?_
  clear E hbW F0 O HC1 HC2 HC3 HC4 hS0 HR0 hKc;generalize World.setCells W PH 0 [.int .i64 c0,.int .i64 (r1:Int),.int .i64 c2,.int .i64 (r3:Int),.slice (some ⟨g1,0,none⟩) n1 k1,.slice (some ⟨g2,0,none⟩) n2 k2,.slice a3 n3 k3,.slice a4 n4 k4,.int .i64 lo,.int .i64 st]=W2 at *;generalize W.heap.size=U at *;have x5:W2.cell? ⟨PH,5,none⟩=some (.slice (some ⟨g2,0,none⟩) n2 k2):=HF0.out.fh.cell 5 _ rfl
  go_wp2_with fail;go_loopw [51] (fun i wr=>∃ (k:Nat) (h2':Nat→Hd),k≤n2∧i = .int .i64 (k:Int)∧tdF w n1 fs n2 bx n3 ff n4 qu g1 g2 h2' a3 k3 h3 a4 k4 h4 PH [.int .i64 c0,.int .i64 (r1:Int),.int .i64 c2,.int .i64 (r3:Int),.slice (some ⟨g1,0,none⟩) n1 k1,.slice (some ⟨g2,0,none⟩) n2 k2,.slice a3 n3 k3,.slice a4 n4 k4,.int .i64 lo,.int .i64 st] U k 0 0 0 0 wr∧U≤wr.heap.size) (fun i _=>n2-(intOf i).toNat)
  case atStart=>exact⟨0,h2,Nat.zero_le _,rfl,HF0.out,by have:=HU.out.2.2.2.2.2.2;omega⟩
  case round=>
   obtain⟨k,h2',hk,rfl,hF,hz⟩:=hrel
   have HF:Hid (tdF w n1 fs n2 bx n3 ff n4 qu g1 g2 h2' a3 k3 h3 a4 k4 h4 PH [.int .i64 c0,.int .i64 (r1:Int),.int .i64 c2,.int .i64 (r3:Int),.slice (some ⟨g1,0,none⟩) n1 k1,.slice (some ⟨g2,0,none⟩) n2 k2,.slice a3 n3 k3,.slice a4 n4 k4,.int .i64 lo,.int .i64 st] U k 0 0 0 0 wr):=hF
   have HZ:Hid (U≤wr.heap.size):=hz
   clear hF hz x5 HF0;have x5:wr.cell? ⟨PH,5,none⟩=some (.slice (some ⟨g2,0,none⟩) n2 k2):=HF.out.fh.cell 5 _ rfl
   have hm2:=HLN.out.2.2.2.2.1
   by_cases hlt:k<n2
   ·have HOD:Hid (Calls Tryz.prog 134 #[.pointer (some ⟨g2,k*8+3,none⟩)] wr fun e w'=>∃ h2',e = .returned (.tuple #[])∧tdF w n1 fs n2 bx n3 ff n4 qu g1 g2 h2' a3 k3 h3 a4 k4 h4 PH [.int .i64 c0,.int .i64 (r1:Int),.int .i64 c2,.int .i64 (r3:Int),.slice (some ⟨g1,0,none⟩) n1 k1,.slice (some ⟨g2,0,none⟩) n2 k2,.slice a3 n3 k3,.slice a4 n4 k4,.int .i64 lo,.int .i64 st] U (k+1) 0 0 0 0 w'∧U≤w'.heap.size):=HF.out.own2 HO.out HU.out.2.1 HZ.out hlt
    go_wp2_with (first | (go_at_call 134;refine HOD.out.mono ?_;rintro o w5 ⟨h2'',rfl,hF5,hz5⟩;have HF5:Hid (tdF w n1 fs n2 bx n3 ff n4 qu g1 g2 h2'' a3 k3 h3 a4 k4 h4 PH [.int .i64 c0,.int .i64 (r1:Int),.int .i64 c2,.int .i64 (r3:Int),.slice (some ⟨g1,0,none⟩) n1 k1,.slice (some ⟨g2,0,none⟩) n2 k2,.slice a3 n3 k3,.slice a4 n4 k4,.int .i64 lo,.int .i64 st] U (k+1) 0 0 0 0 w5):=hF5;have HZ5:Hid (U≤w5.heap.size):=hz5;clear hF5 hz5))
    go_roundw
    case rel=>exact⟨k+1,h2'',by omega,by go_num,HF5.out,HZ5.out⟩
    case measure=>simp[intOf];omega
   ·have hkn:n2=k:=by omega
    subst hkn;have HF3:Hid (tdF w n1 fs n2 bx n3 ff n4 qu g1 g2 h2' a3 k3 h3 a4 k4 h4 PH [.int .i64 c0,.int .i64 (r1:Int),.int .i64 c2,.int .i64 (r3:Int),.slice (some ⟨g1,0,none⟩) n1 k1,.slice (some ⟨g2,0,none⟩) n2 k2,.slice a3 n3 k3,.slice a4 n4 k4,.int .i64 lo,.int .i64 st] U n2 wr.heap.size 0 0 0 wr):=HF.out.u3
    have HD2:Hid (∀ j,j<n2→∀ b,(h2' j).1=some ⟨b,0,none⟩→b<wr.heap.size):=fun j hj b hb=>((HF.out.f2.sh HU.out.2.1).2 j hj b hb).2
    clear HF x5;have HZ3:Hid (U≤wr.heap.size):=HZ.out
    clear HZ;generalize hU3:wr.heap.size=U3 at *;have HU3:Hid (U3≤wr.heap.size):=by have:=hU3;show _≤_;omega
    clear hU3;have x6:wr.cell? ⟨PH,6,none⟩=some (.slice a3 n3 k3):=HF3.out.fh.cell 6 _ rfl
    go_wp2_with fail;clear hm2;have HU23:Hid (U≤U3):=HZ3.out
    go_loopw [64] (fun i wr=>∃ (k:Nat) (h3':Nat→Hd),k≤n3∧i = .int .i64 (k:Int)∧tdF w n1 fs n2 bx n3 ff n4 qu g1 g2 h2' a3 k3 h3' a4 k4 h4 PH [.int .i64 c0,.int .i64 (r1:Int),.int .i64 c2,.int .i64 (r3:Int),.slice (some ⟨g1,0,none⟩) n1 k1,.slice (some ⟨g2,0,none⟩) n2 k2,.slice a3 n3 k3,.slice a4 n4 k4,.int .i64 lo,.int .i64 st] U n2 U3 k 0 0 wr∧U3≤wr.heap.size) (fun i _=>n3-(intOf i).toNat)
    case atStart=>exact⟨0,h3,Nat.zero_le _,rfl,HF3.out,HU3.out⟩
    case round=>
     obtain⟨k,h3',hk,rfl,hF,hz⟩:=hrel
     have HF:Hid (tdF w n1 fs n2 bx n3 ff n4 qu g1 g2 h2' a3 k3 h3' a4 k4 h4 PH [.int .i64 c0,.int .i64 (r1:Int),.int .i64 c2,.int .i64 (r3:Int),.slice (some ⟨g1,0,none⟩) n1 k1,.slice (some ⟨g2,0,none⟩) n2 k2,.slice a3 n3 k3,.slice a4 n4 k4,.int .i64 lo,.int .i64 st] U n2 U3 k 0 0 wr):=hF
     have HZ:Hid (U3≤wr.heap.size):=hz
     clear hF hz x6 HF3 HU3;have x6:wr.cell? ⟨PH,6,none⟩=some (.slice a3 n3 k3):=HF.out.fh.cell 6 _ rfl
     have hm2:=HLN.out.2.2.2.2.2.1
     by_cases hlt:k<n3
     ·obtain⟨gx,hgx⟩ : ∃ gx,a3=some ⟨gx,0,none⟩:=by
       rcases HF.out.f3 with⟨_,e,_⟩|⟨g,e,_⟩
       ·omega
       ·exact⟨g,e⟩
      have HOD:Hid (Calls Tryz.prog 134 #[.pointer (some ⟨gx,k*5,none⟩)] wr fun e w'=>∃ h3'',e = .returned (.tuple #[])∧tdF w n1 fs n2 bx n3 ff n4 qu g1 g2 h2' a3 k3 h3'' a4 k4 h4 PH [.int .i64 c0,.int .i64 (r1:Int),.int .i64 c2,.int .i64 (r3:Int),.slice (some ⟨g1,0,none⟩) n1 k1,.slice (some ⟨g2,0,none⟩) n2 k2,.slice a3 n3 k3,.slice a4 n4 k4,.int .i64 lo,.int .i64 st] U n2 U3 (k+1) 0 0 w'∧U3≤w'.heap.size):=HF.out.own3 HO.out hgx (HU.out.2.2.1 gx hgx) HU23.out HZ.out hlt
      rw[hgx] at x6
      have HGX:Hid (a3=some ⟨gx,0,none⟩):=hgx
      clear hgx;go_wp2_with (first | (go_at_call 134;refine HOD.out.mono ?_;rintro o w5 ⟨h3'',rfl,hF5,hz5⟩;have HF5:Hid (tdF w n1 fs n2 bx n3 ff n4 qu g1 g2 h2' a3 k3 h3'' a4 k4 h4 PH [.int .i64 c0,.int .i64 (r1:Int),.int .i64 c2,.int .i64 (r3:Int),.slice (some ⟨g1,0,none⟩) n1 k1,.slice (some ⟨g2,0,none⟩) n2 k2,.slice a3 n3 k3,.slice a4 n4 k4,.int .i64 lo,.int .i64 st] U n2 U3 (k+1) 0 0 w5):=hF5;have HZ5:Hid (U3≤w5.heap.size):=hz5;clear hF5 hz5))
      go_roundw
      case rel=>exact⟨k+1,h3'',by omega,by go_num,HF5.out,HZ5.out⟩
      case measure=>simp[intOf];omega
     ·have hkn:n3=k:=by omega
      subst hkn;have HF4:Hid (tdF w n1 fs n2 bx n3 ff n4 qu g1 g2 h2' a3 k3 h3' a4 k4 h4 PH [.int .i64 c0,.int .i64 (r1:Int),.int .i64 c2,.int .i64 (r3:Int),.slice (some ⟨g1,0,none⟩) n1 k1,.slice (some ⟨g2,0,none⟩) n2 k2,.slice a3 n3 k3,.slice a4 n4 k4,.int .i64 lo,.int .i64 st] U n2 U3 n3 wr.heap.size 0 wr):=HF.out.u4
      have HD3:Hid (∀ j,j<n3→∀ b,(h3' j).1=some ⟨b,0,none⟩→b<wr.heap.size):=fun j hj b hb=>((HF.out.f3.sx (fun g hg=>Nat.lt_of_lt_of_le (HU.out.2.2.1 g hg) HU23.out)).2.2.2 j hj b hb).2
      clear HF x6 hm2;have HU34:Hid (U3≤wr.heap.size):=HZ.out
      clear HZ;generalize hU4:wr.heap.size=U4 at *;have HU4:Hid (U4≤wr.heap.size):=by have:=hU4;show _≤_;omega
      clear hU4;have x7:wr.cell? ⟨PH,7,none⟩=some (.slice a4 n4 k4):=HF4.out.fh.cell 7 _ rfl
      go_wp2_with fail;go_loopw [76] (fun i wr=>∃ (k:Nat) (h4':Nat→Hd),k≤n4∧i = .int .i64 (k:Int)∧tdF w n1 fs n2 bx n3 ff n4 qu g1 g2 h2' a3 k3 h3' a4 k4 h4' PH [.int .i64 c0,.int .i64 (r1:Int),.int .i64 c2,.int .i64 (r3:Int),.slice (some ⟨g1,0,none⟩) n1 k1,.slice (some ⟨g2,0,none⟩) n2 k2,.slice a3 n3 k3,.slice a4 n4 k4,.int .i64 lo,.int .i64 st] U n2 U3 n3 U4 k wr∧U4≤wr.heap.size) (fun i _=>n4-(intOf i).toNat)
      case atStart=>exact⟨0,h4,Nat.zero_le _,rfl,HF4.out,HU4.out⟩
      case round=>
       obtain⟨k,h4',hk,rfl,hF,hz⟩:=hrel
       have HF:Hid (tdF w n1 fs n2 bx n3 ff n4 qu g1 g2 h2' a3 k3 h3' a4 k4 h4' PH [.int .i64 c0,.int .i64 (r1:Int),.int .i64 c2,.int .i64 (r3:Int),.slice (some ⟨g1,0,none⟩) n1 k1,.slice (some ⟨g2,0,none⟩) n2 k2,.slice a3 n3 k3,.slice a4 n4 k4,.int .i64 lo,.int .i64 st] U n2 U3 n3 U4 k wr):=hF
       have HZ:Hid (U4≤wr.heap.size):=hz
       clear hF hz x7 HF4 HU4;have x7:wr.cell? ⟨PH,7,none⟩=some (.slice a4 n4 k4):=HF.out.fh.cell 7 _ rfl
       have hm2:=HLN.out.2.2.2.2.2.2
       by_cases hlt:k<n4
       ·obtain⟨gx,hgx⟩ : ∃ gx,a4=some ⟨gx,0,none⟩:=by
         rcases HF.out.f4 with⟨_,e,_⟩|⟨g,e,_⟩
         ·omega
         ·exact⟨g,e⟩
        have HOD:Hid (Calls Tryz.prog 134 #[.pointer (some ⟨gx,k*8+3,none⟩)] wr fun e w'=>∃ h4'',e = .returned (.tuple #[])∧tdF w n1 fs n2 bx n3 ff n4 qu g1 g2 h2' a3 k3 h3' a4 k4 h4'' PH [.int .i64 c0,.int .i64 (r1:Int),.int .i64 c2,.int .i64 (r3:Int),.slice (some ⟨g1,0,none⟩) n1 k1,.slice (some ⟨g2,0,none⟩) n2 k2,.slice a3 n3 k3,.slice a4 n4 k4,.int .i64 lo,.int .i64 st] U n2 U3 n3 U4 (k+1) w'∧U4≤w'.heap.size):=HF.out.own4 HO.out hgx (HU.out.2.2.2.1 gx hgx) ⟨HU23.out,HU34.out⟩ HZ.out hlt
        rw[hgx] at x7
        have HGX:Hid (a4=some ⟨gx,0,none⟩):=hgx
        clear hgx;go_wp2_with (first | (go_at_call 134;refine HOD.out.mono ?_;rintro o w5 ⟨h4'',rfl,hF5,hz5⟩;have HF5:Hid (tdF w n1 fs n2 bx n3 ff n4 qu g1 g2 h2' a3 k3 h3' a4 k4 h4'' PH [.int .i64 c0,.int .i64 (r1:Int),.int .i64 c2,.int .i64 (r3:Int),.slice (some ⟨g1,0,none⟩) n1 k1,.slice (some ⟨g2,0,none⟩) n2 k2,.slice a3 n3 k3,.slice a4 n4 k4,.int .i64 lo,.int .i64 st] U n2 U3 n3 U4 (k+1) w5):=hF5;have HZ5:Hid (U4≤w5.heap.size):=hz5;clear hF5 hz5))
        go_roundw
        case rel=>exact⟨k+1,h4'',by omega,by go_num,HF5.out,HZ5.out⟩
        case measure=>simp[intOf];omega
       ·have hkn:n4=k:=by omega
        subst hkn;clear x7 hm2;go_wp2_with (first
         | (refine wpList_load_mid (P:=Tryz.prog) rfl 35 (.tmp 3) rfl PH 0 rfl [.int .i64 c0,.int .i64 (r1:Int),.int .i64 c2,.int .i64 (r3:Int),.slice (some ⟨g1,0,none⟩) n1 k1,.slice (some ⟨g2,0,none⟩) n2 k2,.slice a3 n3 k3,.slice a4 n4 k4,.int .i64 lo,.int .i64 st] _ HF.out.fh.load Tryz.underlying35 rfl sz41 ?_)
         | (refine wpList_store_mid (P:=Tryz.prog) rfl 35 (.tmp 2) (.tmp 86) rfl w.heap.size 0 [.int .i64 c0,.int .i64 (r1:Int),.int .i64 c2,.int .i64 (r3:Int),.slice (some ⟨g1,0,none⟩) n1 k1,.slice (some ⟨g2,0,none⟩) n2 k2,.slice a3 n3 k3,.slice a4 n4 k4,.int .i64 lo,.int .i64 st].toArray rfl rfl (HF.out.fr.there 0 10 (by simp[Z10])) sz41 (one10 _ _ _ _ _ _ _ _ _ _ _ _ _ _ _ _ _ _) ?_;generalize hW9:World.setCells wr w.heap.size 0 _=w9;have HW9:Hid (World.setCells wr w.heap.size 0 [.int .i64 c0,.int .i64 (r1:Int),.int .i64 c2,.int .i64 (r3:Int),.slice (some ⟨g1,0,none⟩) n1 k1,.slice (some ⟨g2,0,none⟩) n2 k2,.slice a3 n3 k3,.slice a4 n4 k4,.int .i64 lo,.int .i64 st]=w9):=hW9;clear hW9))
        have hW9:=HW9.out
        have R9:blk w9 w.heap.size [.int .i64 c0,.int .i64 (r1:Int),.int .i64 c2,.int .i64 (r3:Int),.slice (some ⟨g1,0,none⟩) n1 k1,.slice (some ⟨g2,0,none⟩) n2 k2,.slice a3 n3 k3,.slice a4 n4 k4,.int .i64 lo,.int .i64 st] 35:=by
         rw[← hW9]
         have:=blk.put [] Z10 [] [.int .i64 c0,.int .i64 (r1:Int),.int .i64 c2,.int .i64 (r3:Int),.slice (some ⟨g1,0,none⟩) n1 k1,.slice (some ⟨g2,0,none⟩) n2 k2,.slice a3 n3 k3,.slice a4 n4 k4,.int .i64 lo,.int .i64 st] (w:=wr) (b:=w.heap.size) (T:=35) (by simpa using HF.out.fr) rfl
         simpa using this
        have HOT:∀ x,x≠w.heap.size→x<wr.heap.size→w9.heap[x]?=wr.heap[x]?:=fun x hx _=>by rw[← hW9];exact setCells_other w.heap.size x hx _ wr 0
        have HSZ:w9.heap.size=wr.heap.size:=by rw[← hW9];exact setCells_size ..
        have HBL:Below w.heap.size w w9:=by rw[← hW9];exact setCells_below (Nat.le_refl _) 0 _ HF.out.b
        have y0:=R9.cell 0 _ rfl
        have y1:=R9.cell 1 _ rfl
        have y2:=R9.cell 2 _ rfl
        have y3:=R9.cell 3 _ rfl
        have y4:=R9.cell 4 _ rfl
        have y5:=R9.cell 5 _ rfl
        have y6:=R9.cell 6 _ rfl
        have y7:=R9.cell 7 _ rfl
        have y8:=R9.cell 8 _ rfl
        have y9:=R9.cell 9 _ rfl
        refine bodyPost_ret (v:=.agg [.int .i64 c0,.int .i64 (r1:Int),.int .i64 c2,.int .i64 (r3:Int),.slice (some ⟨g1,0,none⟩) n1 k1,.slice (some ⟨g2,0,none⟩) n2 k2,.slice a3 n3 k3,.slice a4 n4 k4,.int .i64 lo,.int .i64 st].toArray) (by simp[results,Tryz.results118,go_sem,y0,y1,y2,y3,y4,y5,y6,y7,y8,y9]) rfl ?_
        obtain⟨s,hs,q1,q2,q3,q4⟩:=HF.out.fin c0 (r1:Int) c2 (r3:Int) lo st HO.out ⟨HU.out.1,HU.out.2.1,HU.out.2.2.1,HU.out.2.2.2.1,HU.out.2.2.2.2.2.1⟩ ⟨HU23.out,HU34.out⟩ HD2.out HD3.out ⟨HLN.out.2.2.2.2.1,HLN.out.2.2.2.2.2.1,HLN.out.2.2.2.2.2.2⟩ HOT HSZ
        exact⟨s,by rw[hs];rfl,q1,q2,q3,q4,HBL⟩
 refine wp_region_held (S:=tdS w P (liL c0 r1 c2 r3 gf n1 kf gb n2 kb mb gr f1 n3 gq f3 n4 lo st)) (by kernel_rfl) ?_
 have hS:=hS0.below (W':=(w.alloc (.cells [.int .i64 0,.int .i64 0,.int .i64 0,.int .i64 0,.slice none 0 0,.slice none 0 0,.slice none 0 0,.slice none 0 0,.int .i64 0,.int .i64 0].toArray 35)).drew) (Below.refl _ _).drew
 have FR0:Hid (blk (w.alloc (.cells [.int .i64 0,.int .i64 0,.int .i64 0,.int .i64 0,.slice none 0 0,.slice none 0 0,.slice none 0 0,.slice none 0 0,.int .i64 0,.int .i64 0].toArray 35)).drew w.heap.size [.int .i64 0,.int .i64 0,.int .i64 0,.int .i64 0,.slice none 0 0,.slice none 0 0,.slice none 0 0,.slice none 0 0,.int .i64 0,.int .i64 0] 35):=HR0.out.below (Below.refl _ _).drew
 clear hS0 HR0;change wpAnyH Tryz.prog _ _ _ _ _ _ _ (w.alloc (.cells [.int .i64 0,.int .i64 0,.int .i64 0,.int .i64 0,.slice none 0 0,.slice none 0 0,.slice none 0 0,.slice none 0 0,.int .i64 0,.int .i64 0].toArray 35)).drew
 generalize (w.alloc (.cells [.int .i64 0,.int .i64 0,.int .i64 0,.int .i64 0,.slice none 0 0,.slice none 0 0,.slice none 0 0,.slice none 0 0,.int .i64 0,.int .i64 0].toArray 35)).drew=v0 at *;refine wT (i:=0) (v:=.pointer (some ⟨P,0,none⟩)) rfl (by kernel_rfl) (by kernel_rfl) (by kernel_rfl) (fun _ _ _ h=>h) (Or.inl ⟨by rfl,?_⟩) hS ?_
 ·intro W hSw;clear hS;go_simp
 simp only[Act.put,aA,aB,aC,aD,aE]
 refine wT (i:=1) (v:=.pointer (some ⟨P,0,none⟩)) rfl (by kernel_rfl) (by kernel_rfl) (by kernel_rfl) (fun _ _ _ h=>h) (Or.inl ⟨by rfl,?_⟩) hS ?_
 ·intro W hSw;clear hS;go_simp
 simp only[Act.put,aA,aB,aC,aD,aE,aF];refine wT (i:=2) (v:=.pointer (some ⟨P,0,none⟩)) rfl (by kernel_rfl) (by kernel_rfl) (by kernel_rfl) (fun _ _ _ h=>h) (Or.inl ⟨by rfl,?_⟩) hS ?_
 ·intro W hSw;clear hS;go_simp
 simp only[Act.put,aA,aB,aC,aD,aE,aF];refine wT (i:=3) (v:=.agg [.int .i64 c0,.int .i64 (r1:Int),.int .i64 c2,.int .i64 (r3:Int)].toArray) rfl (by kernel_rfl) (by kernel_rfl) (by kernel_rfl) (fun _ _ _ h=>h) (yieldsIf_load_mid (by rfl) 29 (.tmp 9) rfl P 0 rfl [.int .i64 c0,.int .i64 (r1:Int),.int .i64 c2,.int .i64 (r3:Int)] _ (fun W h=>liL_cfg h.p) Tryz.underlying29 rfl sz35) hS ?_
 simp only[Act.put,aA,aB,aC,aD,aE,aF];refine wT (i:=4) (v:=.pointer (some ⟨P,0,none⟩)) rfl (by kernel_rfl) (by kernel_rfl) (by kernel_rfl) (fun _ _ _ h=>h) (Or.inl ⟨by rfl,?_⟩) hS ?_
 ·intro W hSw;clear hS;go_simp
 simp only[Act.put,aA,aB,aC,aD,aE,aF];refine wT (i:=5) (v:=.pointer (some ⟨P,0,none⟩)) rfl (by kernel_rfl) (by kernel_rfl) (by kernel_rfl) (fun _ _ _ h=>h) (Or.inl ⟨by rfl,?_⟩) hS ?_
 ·intro W hSw;clear hS;go_simp
 simp only[Act.put,aA,aB,aC,aD,aE,aF];refine wT (i:=6) (v:=.pointer (some ⟨P,4,none⟩)) rfl (by kernel_rfl) (by kernel_rfl) (by kernel_rfl) (fun _ _ _ h=>h) (Or.inl ⟨by rfl,?_⟩) hS ?_
 ·intro W hSw;clear hS;go_simp
 simp only[Act.put,aA,aB,aC,aD,aE,aF];refine wT (i:=7) (v:=.slice (some ⟨gf,0,none⟩) n1 kf) rfl (by kernel_rfl) (by kernel_rfl) (by kernel_rfl) (fun _ _ _ h=>h) (Or.inl ⟨by rfl,?_⟩) hS ?_
 ·intro W hSw;have hc:W.cell? ⟨P,4,none⟩=some (.slice (some ⟨gf,0,none⟩) n1 kf):=hSw.p.cell 4 _ rfl
  clear hS;go_simp
 simp only[Act.put,aA,aB,aC,aD,aE,aF];refine wT (i:=9) (v:=.pointer (some ⟨P,0,none⟩)) rfl (by kernel_rfl) (by kernel_rfl) (by kernel_rfl) (fun _ _ _ h=>h) (Or.inl ⟨by rfl,?_⟩) hS ?_
 ·intro W hSw;clear hS;go_simp
 simp only[Act.put,aA,aB,aC,aD,aE,aF];refine wT (i:=10) (v:=.pointer (some ⟨P,0,none⟩)) rfl (by kernel_rfl) (by kernel_rfl) (by kernel_rfl) (fun _ _ _ h=>h) (Or.inl ⟨by rfl,?_⟩) hS ?_
 ·intro W hSw;clear hS;go_simp
 simp only[Act.put,aA,aB,aC,aD,aE,aF];refine wT (i:=11) (v:=.pointer (some ⟨P,5,none⟩)) rfl (by kernel_rfl) (by kernel_rfl) (by kernel_rfl) (fun _ _ _ h=>h) (Or.inl ⟨by rfl,?_⟩) hS ?_
 ·intro W hSw;clear hS;go_simp
 simp only[Act.put,aA,aB,aC,aD,aE,aF];refine wT (i:=12) (v:=.slice (some ⟨gb,0,none⟩) n2 kb) rfl (by kernel_rfl) (by kernel_rfl) (by kernel_rfl) (fun _ _ _ h=>h) (Or.inl ⟨by rfl,?_⟩) hS ?_
 ·intro W hSw;have hc:W.cell? ⟨P,5,none⟩=some (.slice (some ⟨gb,0,none⟩) n2 kb):=hSw.p.cell 5 _ rfl
  clear hS;go_simp
 simp only[Act.put,aA,aB,aC,aD,aE,aF];refine wT (i:=14) (v:=.pointer (some ⟨P,0,none⟩)) rfl (by kernel_rfl) (by kernel_rfl) (by kernel_rfl) (fun _ _ _ h=>h) (Or.inl ⟨by rfl,?_⟩) hS ?_
 ·intro W hSw;clear hS;go_simp
 simp only[Act.put,aA,aB,aC,aD,aE,aF];refine wT (i:=15) (v:=.pointer (some ⟨P,0,none⟩)) rfl (by kernel_rfl) (by kernel_rfl) (by kernel_rfl) (fun _ _ _ h=>h) (Or.inl ⟨by rfl,?_⟩) hS ?_
 ·intro W hSw;clear hS;go_simp
 simp only[Act.put,aA,aB,aC,aD,aE,aF];refine wT (i:=16) (v:=.pointer (some ⟨P,7,none⟩)) rfl (by kernel_rfl) (by kernel_rfl) (by kernel_rfl) (fun _ _ _ h=>h) (Or.inl ⟨by rfl,?_⟩) hS ?_
 ·intro W hSw;clear hS;go_simp
 simp only[Act.put,aA,aB,aC,aD,aE,aF];refine wT (i:=17) (v:=.pointer (some ⟨P,0,none⟩)) rfl (by kernel_rfl) (by kernel_rfl) (by kernel_rfl) (fun _ _ _ h=>h) (Or.inl ⟨by rfl,?_⟩) hS ?_
 ·intro W hSw;clear hS;go_simp
 simp only[Act.put,aA,aB,aC,aD,aE,aF];refine wT (i:=18) (v:=.pointer (some ⟨P,0,none⟩)) rfl (by kernel_rfl) (by kernel_rfl) (by kernel_rfl) (fun _ _ _ h=>h) (Or.inl ⟨by rfl,?_⟩) hS ?_
 ·intro W hSw;clear hS;go_simp
 simp only[Act.put,aA,aB,aC,aD,aE,aF];refine wT (i:=19) (v:=.pointer (some ⟨P,7,none⟩)) rfl (by kernel_rfl) (by kernel_rfl) (by kernel_rfl) (fun _ _ _ h=>h) (Or.inl ⟨by rfl,?_⟩) hS ?_
 ·intro W hSw;clear hS;go_simp
 simp only[Act.put,aA,aB,aC,aD,aE,aF];refine wT (i:=20) (v:=.pointer (some ⟨P,9,none⟩)) rfl (by kernel_rfl) (by kernel_rfl) (by kernel_rfl) (fun _ _ _ h=>h) (Or.inl ⟨by rfl,?_⟩) hS ?_
 ·intro W hSw;clear hS;go_simp
 simp only[Act.put,aA,aB,aC,aD,aE,aF];refine wT (i:=21) (v:=.int .i64 (n3:Int)) rfl (by kernel_rfl) (by kernel_rfl) (by kernel_rfl) (fun _ _ _ h=>h) (Or.inl ⟨by rfl,?_⟩) hS ?_
 ·intro W hSw;have hc:W.cell? ⟨P,9,none⟩=some (.int .i64 (n3:Int)):=hSw.p.cell 9 _ rfl
  clear hS;go_simp
 simp only[Act.put,aA,aB,aC,aD,aE,aF];refine wT (i:=23) (v:=.pointer (some ⟨P,0,none⟩)) rfl (by kernel_rfl) (by kernel_rfl) (by kernel_rfl) (fun _ _ _ h=>h) (Or.inl ⟨by rfl,?_⟩) hS ?_
 ·intro W hSw;clear hS;go_simp
 simp only[Act.put,aA,aB,aC,aD,aE,aF];refine wT (i:=24) (v:=.pointer (some ⟨P,0,none⟩)) rfl (by kernel_rfl) (by kernel_rfl) (by kernel_rfl) (fun _ _ _ h=>h) (Or.inl ⟨by rfl,?_⟩) hS ?_
 ·intro W hSw;clear hS;go_simp
 simp only[Act.put,aA,aB,aC,aD,aE,aF];refine wT (i:=25) (v:=.pointer (some ⟨P,10,none⟩)) rfl (by kernel_rfl) (by kernel_rfl) (by kernel_rfl) (fun _ _ _ h=>h) (Or.inl ⟨by rfl,?_⟩) hS ?_
 ·intro W hSw;clear hS;go_simp
 simp only[Act.put,aA,aB,aC,aD,aE,aF];refine wT (i:=26) (v:=.pointer (some ⟨P,0,none⟩)) rfl (by kernel_rfl) (by kernel_rfl) (by kernel_rfl) (fun _ _ _ h=>h) (Or.inl ⟨by rfl,?_⟩) hS ?_
 ·intro W hSw;clear hS;go_simp
 simp only[Act.put,aA,aB,aC,aD,aE,aF];refine wT (i:=27) (v:=.pointer (some ⟨P,0,none⟩)) rfl (by kernel_rfl) (by kernel_rfl) (by kernel_rfl) (fun _ _ _ h=>h) (Or.inl ⟨by rfl,?_⟩) hS ?_
 ·intro W hSw;clear hS;go_simp
 simp only[Act.put,aA,aB,aC,aD,aE,aF];refine wT (i:=28) (v:=.pointer (some ⟨P,10,none⟩)) rfl (by kernel_rfl) (by kernel_rfl) (by kernel_rfl) (fun _ _ _ h=>h) (Or.inl ⟨by rfl,?_⟩) hS ?_
 ·intro W hSw;clear hS;go_simp
 simp only[Act.put,aA,aB,aC,aD,aE,aF];refine wT (i:=29) (v:=.pointer (some ⟨P,12,none⟩)) rfl (by kernel_rfl) (by kernel_rfl) (by kernel_rfl) (fun _ _ _ h=>h) (Or.inl ⟨by rfl,?_⟩) hS ?_
 ·intro W hSw;clear hS;go_simp
 simp only[Act.put,aA,aB,aC,aD,aE,aF];refine wT (i:=30) (v:=.int .i64 (n4:Int)) rfl (by kernel_rfl) (by kernel_rfl) (by kernel_rfl) (fun _ _ _ h=>h) (Or.inl ⟨by rfl,?_⟩) hS ?_
 ·intro W hSw;have hc:W.cell? ⟨P,12,none⟩=some (.int .i64 (n4:Int)):=hSw.p.cell 12 _ rfl
  clear hS;go_simp
 simp only[Act.put,aA,aB,aC,aD,aE,aF];refine wT (i:=32) (v:=.pointer (some ⟨P,0,none⟩)) rfl (by kernel_rfl) (by kernel_rfl) (by kernel_rfl) (fun _ _ _ h=>h) (Or.inl ⟨by rfl,?_⟩) hS ?_
 ·intro W hSw;clear hS;go_simp
 simp only[Act.put,aA,aB,aC,aD,aE,aF];refine wT (i:=33) (v:=.pointer (some ⟨P,0,none⟩)) rfl (by kernel_rfl) (by kernel_rfl) (by kernel_rfl) (fun _ _ _ h=>h) (Or.inl ⟨by rfl,?_⟩) hS ?_
 ·intro W hSw;clear hS;go_simp
 simp only[Act.put,aA,aB,aC,aD,aE,aF];refine wT (i:=34) (v:=.pointer (some ⟨P,13,none⟩)) rfl (by kernel_rfl) (by kernel_rfl) (by kernel_rfl) (fun _ _ _ h=>h) (Or.inl ⟨by rfl,?_⟩) hS ?_
 ·intro W hSw;clear hS;go_simp
 simp only[Act.put,aA,aB,aC,aD,aE,aF];refine wT (i:=35) (v:=.int .i64 lo) rfl (by kernel_rfl) (by kernel_rfl) (by kernel_rfl) (fun _ _ _ h=>h) (Or.inl ⟨by rfl,?_⟩) hS ?_
 ·intro W hSw;have hc:W.cell? ⟨P,13,none⟩=some (.int .i64 lo):=hSw.p.cell 13 _ rfl
  clear hS;go_simp
 simp only[Act.put,aA,aB,aC,aD,aE,aF];refine wT (i:=36) (v:=.pointer (some ⟨P,0,none⟩)) rfl (by kernel_rfl) (by kernel_rfl) (by kernel_rfl) (fun _ _ _ h=>h) (Or.inl ⟨by rfl,?_⟩) hS ?_
 ·intro W hSw;clear hS;go_simp
 simp only[Act.put,aA,aB,aC,aD,aE,aF];refine wT (i:=37) (v:=.pointer (some ⟨P,0,none⟩)) rfl (by kernel_rfl) (by kernel_rfl) (by kernel_rfl) (fun _ _ _ h=>h) (Or.inl ⟨by rfl,?_⟩) hS ?_
 ·intro W hSw;clear hS;go_simp
 simp only[Act.put,aA,aB,aC,aD,aE,aF];refine wT (i:=38) (v:=.pointer (some ⟨P,14,none⟩)) rfl (by kernel_rfl) (by kernel_rfl) (by kernel_rfl) (fun _ _ _ h=>h) (Or.inl ⟨by rfl,?_⟩) hS ?_
 ·intro W hSw;clear hS;go_simp
 simp only[Act.put,aA,aB,aC,aD,aE,aF];refine wT (i:=39) (v:=.int .i64 st) rfl (by kernel_rfl) (by kernel_rfl) (by kernel_rfl) (fun _ _ _ h=>h) (Or.inl ⟨by rfl,?_⟩) hS ?_
 ·intro W hSw;have hc:W.cell? ⟨P,14,none⟩=some (.int .i64 st):=hSw.p.cell 14 _ rfl
  clear hS;go_simp
 simp only[Act.put,aA,aB,aC,aD,aE,aF];refine wpAnyH_all (rs:=[8,41]) (by kernel_rfl) (by simp) ?_
 refine AllReadyH.cons rfl (fun K2 hK2=>?_) (AllReadyH.cons rfl (fun K2 hK2=>?_) AllReadyH.nil)
 ·go_simp;refine (HC1.out _ hS).mono ?_
  rintro o v1 ⟨g1,k1,rfl,q1,q2,q3,b7⟩;have hS7:=hS.below b7
  have R1:Hid (w.heap.size<g1):=Nat.lt_of_lt_of_le FR0.out.lt q1
  have C1:Hid (n1≤k1):=q2
  have FR_2:Hid (blk v1 w.heap.size [.int .i64 0,.int .i64 0,.int .i64 0,.int .i64 0,.slice none 0 0,.slice none 0 0,.slice none 0 0,.slice none 0 0,.int .i64 0,.int .i64 0] 35):=FR0.out.below b7
  clear FR0;have F1_3:Hid (dr3 w g1 n1 fs v1):=q3
  clear q1 q2 q3 b7;go_wp2_with fail;refine hK2.out _ _ hS7 (fun hS2=>?_)
  clear hS hK2 K2 hS7;have hS:=hS2
  clear hS2;refine wpAnyH_all (rs:=[13,41]) (by kernel_rfl) (by simp) ?_
  refine AllReadyH.cons rfl (fun K2 hK2=>?_) (AllReadyH.cons rfl (fun K2 hK2=>?_) AllReadyH.nil)
  ·go_simp;refine (HC2.out _ hS).mono ?_
   rintro o v4 ⟨g2,k2,h2,rfl,q1,q2,q3,b7⟩;have hS7:=hS.below b7
   have O1:Hid (g1<g2):=Nat.lt_of_lt_of_le F1_3.out.hi q1
   have C2:Hid (n2≤k2):=q2
   have FR_5:Hid (blk v4 w.heap.size [.int .i64 0,.int .i64 0,.int .i64 0,.int .i64 0,.slice none 0 0,.slice none 0 0,.slice none 0 0,.slice none 0 0,.int .i64 0,.int .i64 0] 35):=FR_2.out.below b7
   have F1_6:Hid (dr3 w g1 n1 fs v4):=F1_3.out.below b7
   clear FR_2 F1_3;have F2_7:Hid (dr8 w 0 g2 n2 bx h2 0 v4):=q3
   clear q1 q2 q3 b7;go_wp2_with fail;refine hK2.out _ _ hS7 (fun hS2=>?_)
   clear hS hK2 K2 hS7;have hS:=hS2
   clear hS2;refine wpAnyH_all (rs:=[22,41]) (by kernel_rfl) (by simp) ?_
   refine AllReadyH.cons rfl (fun K2 hK2=>?_) (AllReadyH.cons rfl (fun K2 hK2=>?_) AllReadyH.nil)
   ·go_simp;refine (HC3.out _ hS).mono ?_
    rintro o v8 ⟨a3,k3,h3,rfl,q1,q3,b7⟩;have hS7:=hS.below b7
    have O2:Hid (∀ g,a3=some ⟨g,0,none⟩→g2<g):=fun g hg=>Nat.lt_of_lt_of_le F2_7.out.hi (q1 g hg)
    have FR_9:Hid (blk v8 w.heap.size [.int .i64 0,.int .i64 0,.int .i64 0,.int .i64 0,.slice none 0 0,.slice none 0 0,.slice none 0 0,.slice none 0 0,.int .i64 0,.int .i64 0] 35):=FR_5.out.below b7
    have F1_10:Hid (dr3 w g1 n1 fs v8):=F1_6.out.below b7
    have F2_11:Hid (dr8 w 0 g2 n2 bx h2 0 v8):=F2_7.out.below b7
    clear FR_5 F1_6 F2_7;have F3_12:Hid (dx5 w 0 a3 n3 k3 ff h3 0 v8):=q3
    clear q1 q3 b7;go_wp2_with fail;refine hK2.out _ _ hS7 (fun hS2=>?_)
    clear hS hK2 K2 hS7;have hS:=hS2
    clear hS2;refine wpAnyH_all (rs:=[31,41]) (by kernel_rfl) (by simp) ?_
    refine AllReadyH.cons rfl (fun K2 hK2=>?_) (AllReadyH.cons rfl (fun K2 hK2=>?_) AllReadyH.nil)
    ·go_simp;refine (HC4.out _ hS).mono ?_
     rintro o v13 ⟨a4,k4,h4,rfl,q1,q3,b7⟩;have hS7:=hS.below b7
     have O3:Hid (∀ g,a4=some ⟨g,0,none⟩→g2<g∧∀ g',a3=some ⟨g',0,none⟩→g'<g):=fun g hg=>⟨Nat.lt_of_lt_of_le F2_11.out.hi (q1 g hg),fun g' hg'=>Nat.lt_of_lt_of_le (F3_12.out.hi g' hg') (q1 g hg)⟩
     have FR_14:Hid (blk v13 w.heap.size [.int .i64 0,.int .i64 0,.int .i64 0,.int .i64 0,.slice none 0 0,.slice none 0 0,.slice none 0 0,.slice none 0 0,.int .i64 0,.int .i64 0] 35):=FR_9.out.below b7
     have F1_15:Hid (dr3 w g1 n1 fs v13):=F1_10.out.below b7
     have F2_16:Hid (dr8 w 0 g2 n2 bx h2 0 v13):=F2_11.out.below b7
     have F3_17:Hid (dx5 w 0 a3 n3 k3 ff h3 0 v13):=F3_12.out.below b7
     clear FR_9 F1_10 F2_11 F3_12;have F4_18:Hid (dx8 w 0 a4 n4 k4 qu h4 0 v13):=q3
     clear q1 q3 b7;go_wp2_with fail;refine hK2.out _ _ hS7 (fun hS2=>?_)
     clear hS hK2 K2 hS7;have hS:=hS2
     clear hS2;refine wT (i:=40) (v:=.agg [.int .i64 c0,.int .i64 (r1:Int),.int .i64 c2,.int .i64 (r3:Int),.slice (some ⟨g1,0,none⟩) n1 k1,.slice (some ⟨g2,0,none⟩) n2 k2,.slice a3 n3 k3,.slice a4 n4 k4,.int .i64 lo,.int .i64 st].toArray) rfl (by kernel_rfl) (by kernel_rfl) (by kernel_rfl) (fun _ _ _ h=>h) (Or.inl ⟨by rfl,?_⟩) hS ?_
     ·intro W hSw;clear hS;go_simp
     simp only[Act.put,aA,aB,aC,aD,aE,aF];refine wpAnyH_all (rs:=[41]) (by kernel_rfl) (by simp) ?_
     refine AllReadyH.cons rfl (fun K2 hK2=>?_) AllReadyH.nil
     go_simp;have hbA:Below v13.heap.size v13 (v13.alloc (.cells [.int .i64 0,.int .i64 0,.int .i64 0,.int .i64 0,.slice none 0 0,.slice none 0 0,.slice none 0 0,.slice none 0 0,.int .i64 0,.int .i64 0].toArray 35)):=(Below.refl _ _).alloc (Nat.le_refl _) _
     have hS7:=hS.below hbA
     have RP:Hid (w.heap.size<v13.heap.size):=FR_14.out.lt
     have P1:Hid (v13.heap.size≠g1):=by have:=F1_15.out.hi;exact fun e=>by omega
     have P2:Hid (v13.heap.size≠g2):=by have:=F2_16.out.hi;exact fun e=>by omega
     have P3:Hid (∀ g,a3=some ⟨g,0,none⟩→v13.heap.size≠g):=fun g hg e=>by have:=F3_17.out.hi g hg;omega
     have P4:Hid (∀ g,a4=some ⟨g,0,none⟩→v13.heap.size≠g):=fun g hg e=>by have:=F4_18.out.hi g hg;omega
     have FR_20:Hid (blk (v13.alloc (.cells [.int .i64 0,.int .i64 0,.int .i64 0,.int .i64 0,.slice none 0 0,.slice none 0 0,.slice none 0 0,.slice none 0 0,.int .i64 0,.int .i64 0].toArray 35)) w.heap.size [.int .i64 0,.int .i64 0,.int .i64 0,.int .i64 0,.slice none 0 0,.slice none 0 0,.slice none 0 0,.slice none 0 0,.int .i64 0,.int .i64 0] 35):=FR_14.out.below hbA
     have F1_21:Hid (dr3 w g1 n1 fs (v13.alloc (.cells [.int .i64 0,.int .i64 0,.int .i64 0,.int .i64 0,.slice none 0 0,.slice none 0 0,.slice none 0 0,.slice none 0 0,.int .i64 0,.int .i64 0].toArray 35))):=F1_15.out.below hbA
     have F2_22:Hid (dr8 w 0 g2 n2 bx h2 0 (v13.alloc (.cells [.int .i64 0,.int .i64 0,.int .i64 0,.int .i64 0,.slice none 0 0,.slice none 0 0,.slice none 0 0,.slice none 0 0,.int .i64 0,.int .i64 0].toArray 35))):=F2_16.out.below hbA
     have F3_23:Hid (dx5 w 0 a3 n3 k3 ff h3 0 (v13.alloc (.cells [.int .i64 0,.int .i64 0,.int .i64 0,.int .i64 0,.slice none 0 0,.slice none 0 0,.slice none 0 0,.slice none 0 0,.int .i64 0,.int .i64 0].toArray 35))):=F3_17.out.below hbA
     have F4_24:Hid (dx8 w 0 a4 n4 k4 qu h4 0 (v13.alloc (.cells [.int .i64 0,.int .i64 0,.int .i64 0,.int .i64 0,.slice none 0 0,.slice none 0 0,.slice none 0 0,.slice none 0 0,.int .i64 0,.int .i64 0].toArray 35))):=F4_18.out.below hbA
     clear FR_14 F1_15 F2_16 F3_17 F4_18;have FH0:Hid (blk (v13.alloc (.cells [.int .i64 0,.int .i64 0,.int .i64 0,.int .i64 0,.slice none 0 0,.slice none 0 0,.slice none 0 0,.slice none 0 0,.int .i64 0,.int .i64 0].toArray 35)) v13.heap.size [.int .i64 0,.int .i64 0,.int .i64 0,.int .i64 0,.slice none 0 0,.slice none 0 0,.slice none 0 0,.slice none 0 0,.int .i64 0,.int .i64 0] 35):=blk.new v13 [.int .i64 0,.int .i64 0,.int .i64 0,.int .i64 0,.slice none 0 0,.slice none 0 0,.slice none 0 0,.slice none 0 0,.int .i64 0,.int .i64 0] 35
     clear hbA;generalize v13.alloc (.cells [.int .i64 0,.int .i64 0,.int .i64 0,.int .i64 0,.slice none 0 0,.slice none 0 0,.slice none 0 0,.slice none 0 0,.int .i64 0,.int .i64 0].toArray 35)=v19 at *;generalize v13.heap.size=PH at *;refine hK2.out _ _ hS7 (fun hS2=>?_)
     clear hS hK2 K2 hS7;have hS:=hS2
     clear hS2;refine wpAnyH_all (rs:=[42]) (by kernel_rfl) (by simp) ?_
     refine AllReadyH.cons rfl (fun K2 hK2=>?_) AllReadyH.nil
     rw[if_pos (by rfl)]
     refine wp_store_mid (P:=Tryz.prog) 35 (.tmp 3) (.tmp 47) rfl PH 0 [.int .i64 c0,.int .i64 (r1:Int),.int .i64 c2,.int .i64 (r3:Int),.slice (some ⟨g1,0,none⟩) n1 k1,.slice (some ⟨g2,0,none⟩) n2 k2,.slice a3 n3 k3,.slice a4 n4 k4,.int .i64 lo,.int .i64 st].toArray rfl rfl (FH0.out.there 0 10 (by simp)) sz41 (one10 _ _ _ _ _ _ _ _ _ _ _ _ _ _ _ _ _ _) ?_
     have hS9:tdS w P (liL c0 r1 c2 r3 gf n1 kf gb n2 kb mb gr f1 n3 gq f3 n4 lo st) (World.setCells v19 PH 0 [.int .i64 c0,.int .i64 (r1:Int),.int .i64 c2,.int .i64 (r3:Int),.slice (some ⟨g1,0,none⟩) n1 k1,.slice (some ⟨g2,0,none⟩) n2 k2,.slice a3 n3 k3,.slice a4 n4 k4,.int .i64 lo,.int .i64 st]):=hS.put PH (by have:=RP.out;have:=HPL.out;omega) (by have:=RP.out;omega) _ _
     refine hK2.out _ _ hS9 (fun hS2=>?_)
     refine wpAnyH_done (by kernel_rfl) ?_ _
     exact HFIN PH g1 k1 g2 k2 h2 a3 k3 h3 a4 k4 h4 v19 ⟨F1_21.out,C1.out,F2_22.out,C2.out,F3_23.out,F4_24.out,FH0.out,FR_20.out,O1.out,O2.out,O3.out,⟨P1.out,P2.out,P3.out,P4.out⟩,⟨R1.out,RP.out⟩⟩ hS.b
    ·go_simp;have hbA:Below v8.heap.size v8 (v8.alloc (.cells [.int .i64 0,.int .i64 0,.int .i64 0,.int .i64 0,.slice none 0 0,.slice none 0 0,.slice none 0 0,.slice none 0 0,.int .i64 0,.int .i64 0].toArray 35)):=(Below.refl _ _).alloc (Nat.le_refl _) _
     have hS7:=hS.below hbA
     have RP:Hid (w.heap.size<v8.heap.size):=FR_9.out.lt
     have P1:Hid (v8.heap.size≠g1):=by have:=F1_10.out.hi;exact fun e=>by omega
     have P2:Hid (v8.heap.size≠g2):=by have:=F2_11.out.hi;exact fun e=>by omega
     have P3:Hid (∀ g,a3=some ⟨g,0,none⟩→v8.heap.size≠g):=fun g hg e=>by have:=F3_12.out.hi g hg;omega
     have FR_26:Hid (blk (v8.alloc (.cells [.int .i64 0,.int .i64 0,.int .i64 0,.int .i64 0,.slice none 0 0,.slice none 0 0,.slice none 0 0,.slice none 0 0,.int .i64 0,.int .i64 0].toArray 35)) w.heap.size [.int .i64 0,.int .i64 0,.int .i64 0,.int .i64 0,.slice none 0 0,.slice none 0 0,.slice none 0 0,.slice none 0 0,.int .i64 0,.int .i64 0] 35):=FR_9.out.below hbA
     have F1_27:Hid (dr3 w g1 n1 fs (v8.alloc (.cells [.int .i64 0,.int .i64 0,.int .i64 0,.int .i64 0,.slice none 0 0,.slice none 0 0,.slice none 0 0,.slice none 0 0,.int .i64 0,.int .i64 0].toArray 35))):=F1_10.out.below hbA
     have F2_28:Hid (dr8 w 0 g2 n2 bx h2 0 (v8.alloc (.cells [.int .i64 0,.int .i64 0,.int .i64 0,.int .i64 0,.slice none 0 0,.slice none 0 0,.slice none 0 0,.slice none 0 0,.int .i64 0,.int .i64 0].toArray 35))):=F2_11.out.below hbA
     have F3_29:Hid (dx5 w 0 a3 n3 k3 ff h3 0 (v8.alloc (.cells [.int .i64 0,.int .i64 0,.int .i64 0,.int .i64 0,.slice none 0 0,.slice none 0 0,.slice none 0 0,.slice none 0 0,.int .i64 0,.int .i64 0].toArray 35))):=F3_12.out.below hbA
     clear FR_9 F1_10 F2_11 F3_12;have FH0:Hid (blk (v8.alloc (.cells [.int .i64 0,.int .i64 0,.int .i64 0,.int .i64 0,.slice none 0 0,.slice none 0 0,.slice none 0 0,.slice none 0 0,.int .i64 0,.int .i64 0].toArray 35)) v8.heap.size [.int .i64 0,.int .i64 0,.int .i64 0,.int .i64 0,.slice none 0 0,.slice none 0 0,.slice none 0 0,.slice none 0 0,.int .i64 0,.int .i64 0] 35):=blk.new v8 [.int .i64 0,.int .i64 0,.int .i64 0,.int .i64 0,.slice none 0 0,.slice none 0 0,.slice none 0 0,.slice none 0 0,.int .i64 0,.int .i64 0] 35
     clear hbA;generalize v8.alloc (.cells [.int .i64 0,.int .i64 0,.int .i64 0,.int .i64 0,.slice none 0 0,.slice none 0 0,.slice none 0 0,.slice none 0 0,.int .i64 0,.int .i64 0].toArray 35)=v25 at *;generalize v8.heap.size=PH at *;refine hK2.out _ _ hS7 (fun hS2=>?_)
     clear hS hK2 K2 hS7;have hS:=hS2
     clear hS2;refine wpAnyH_all (rs:=[31]) (by kernel_rfl) (by simp) ?_
     refine AllReadyH.cons rfl (fun K2 hK2=>?_) AllReadyH.nil
     go_simp;refine (HC4.out _ hS).mono ?_
     rintro o v30 ⟨a4,k4,h4,rfl,q1,q3,b7⟩;have hS7:=hS.below b7
     have O3:Hid (∀ g,a4=some ⟨g,0,none⟩→g2<g∧∀ g',a3=some ⟨g',0,none⟩→g'<g):=fun g hg=>⟨Nat.lt_of_lt_of_le F2_28.out.hi (q1 g hg),fun g' hg'=>Nat.lt_of_lt_of_le (F3_29.out.hi g' hg') (q1 g hg)⟩
     have P4:Hid (∀ g,a4=some ⟨g,0,none⟩→PH≠g):=fun g hg e=>by have:=FH0.out.lt;have:=q1 g hg;omega
     have FR_31:Hid (blk v30 w.heap.size [.int .i64 0,.int .i64 0,.int .i64 0,.int .i64 0,.slice none 0 0,.slice none 0 0,.slice none 0 0,.slice none 0 0,.int .i64 0,.int .i64 0] 35):=FR_26.out.below b7
     have F1_32:Hid (dr3 w g1 n1 fs v30):=F1_27.out.below b7
     have F2_33:Hid (dr8 w 0 g2 n2 bx h2 0 v30):=F2_28.out.below b7
     have F3_34:Hid (dx5 w 0 a3 n3 k3 ff h3 0 v30):=F3_29.out.below b7
     have FH_35:Hid (blk v30 PH [.int .i64 0,.int .i64 0,.int .i64 0,.int .i64 0,.slice none 0 0,.slice none 0 0,.slice none 0 0,.slice none 0 0,.int .i64 0,.int .i64 0] 35):=FH0.out.below b7
     clear FR_26 F1_27 F2_28 F3_29 FH0;have F4_36:Hid (dx8 w 0 a4 n4 k4 qu h4 0 v30):=q3
     clear q1 q3 b7;go_wp2_with fail;refine hK2.out _ _ hS7 (fun hS2=>?_)
     clear hS hK2 K2 hS7;have hS:=hS2
     clear hS2;refine wT (i:=40) (v:=.agg [.int .i64 c0,.int .i64 (r1:Int),.int .i64 c2,.int .i64 (r3:Int),.slice (some ⟨g1,0,none⟩) n1 k1,.slice (some ⟨g2,0,none⟩) n2 k2,.slice a3 n3 k3,.slice a4 n4 k4,.int .i64 lo,.int .i64 st].toArray) rfl (by kernel_rfl) (by kernel_rfl) (by kernel_rfl) (fun _ _ _ h=>h) (Or.inl ⟨by rfl,?_⟩) hS ?_
     ·intro W hSw;clear hS;go_simp
     simp only[Act.put,aA,aB,aC,aD,aE,aF];refine wpAnyH_all (rs:=[42]) (by kernel_rfl) (by simp) ?_
     refine AllReadyH.cons rfl (fun K2 hK2=>?_) AllReadyH.nil
     rw[if_pos (by rfl)]
     refine wp_store_mid (P:=Tryz.prog) 35 (.tmp 3) (.tmp 47) rfl PH 0 [.int .i64 c0,.int .i64 (r1:Int),.int .i64 c2,.int .i64 (r3:Int),.slice (some ⟨g1,0,none⟩) n1 k1,.slice (some ⟨g2,0,none⟩) n2 k2,.slice a3 n3 k3,.slice a4 n4 k4,.int .i64 lo,.int .i64 st].toArray rfl rfl (FH_35.out.there 0 10 (by simp)) sz41 (one10 _ _ _ _ _ _ _ _ _ _ _ _ _ _ _ _ _ _) ?_
     have hS9:tdS w P (liL c0 r1 c2 r3 gf n1 kf gb n2 kb mb gr f1 n3 gq f3 n4 lo st) (World.setCells v30 PH 0 [.int .i64 c0,.int .i64 (r1:Int),.int .i64 c2,.int .i64 (r3:Int),.slice (some ⟨g1,0,none⟩) n1 k1,.slice (some ⟨g2,0,none⟩) n2 k2,.slice a3 n3 k3,.slice a4 n4 k4,.int .i64 lo,.int .i64 st]):=hS.put PH (by have:=RP.out;have:=HPL.out;omega) (by have:=RP.out;omega) _ _
     refine hK2.out _ _ hS9 (fun hS2=>?_)
     refine wpAnyH_done (by kernel_rfl) ?_ _
     exact HFIN PH g1 k1 g2 k2 h2 a3 k3 h3 a4 k4 h4 v30 ⟨F1_32.out,C1.out,F2_33.out,C2.out,F3_34.out,F4_36.out,FH_35.out,FR_31.out,O1.out,O2.out,O3.out,⟨P1.out,P2.out,P3.out,P4.out⟩,⟨R1.out,RP.out⟩⟩ hS.b
   ·go_simp;have hbA:Below v4.heap.size v4 (v4.alloc (.cells [.int .i64 0,.int .i64 0,.int .i64 0,.int .i64 0,.slice none 0 0,.slice none 0 0,.slice none 0 0,.slice none 0 0,.int .i64 0,.int .i64 0].toArray 35)):=(Below.refl _ _).alloc (Nat.le_refl _) _
    have hS7:=hS.below hbA
    have RP:Hid (w.heap.size<v4.heap.size):=FR_5.out.lt
    have P1:Hid (v4.heap.size≠g1):=by have:=F1_6.out.hi;exact fun e=>by omega
    have P2:Hid (v4.heap.size≠g2):=by have:=F2_7.out.hi;exact fun e=>by omega
    have FR_38:Hid (blk (v4.alloc (.cells [.int .i64 0,.int .i64 0,.int .i64 0,.int .i64 0,.slice none 0 0,.slice none 0 0,.slice none 0 0,.slice none 0 0,.int .i64 0,.int .i64 0].toArray 35)) w.heap.size [.int .i64 0,.int .i64 0,.int .i64 0,.int .i64 0,.slice none 0 0,.slice none 0 0,.slice none 0 0,.slice none 0 0,.int .i64 0,.int .i64 0] 35):=FR_5.out.below hbA
    have F1_39:Hid (dr3 w g1 n1 fs (v4.alloc (.cells [.int .i64 0,.int .i64 0,.int .i64 0,.int .i64 0,.slice none 0 0,.slice none 0 0,.slice none 0 0,.slice none 0 0,.int .i64 0,.int .i64 0].toArray 35))):=F1_6.out.below hbA
    have F2_40:Hid (dr8 w 0 g2 n2 bx h2 0 (v4.alloc (.cells [.int .i64 0,.int .i64 0,.int .i64 0,.int .i64 0,.slice none 0 0,.slice none 0 0,.slice none 0 0,.slice none 0 0,.int .i64 0,.int .i64 0].toArray 35))):=F2_7.out.below hbA
    clear FR_5 F1_6 F2_7;have FH0:Hid (blk (v4.alloc (.cells [.int .i64 0,.int .i64 0,.int .i64 0,.int .i64 0,.slice none 0 0,.slice none 0 0,.slice none 0 0,.slice none 0 0,.int .i64 0,.int .i64 0].toArray 35)) v4.heap.size [.int .i64 0,.int .i64 0,.int .i64 0,.int .i64 0,.slice none 0 0,.slice none 0 0,.slice none 0 0,.slice none 0 0,.int .i64 0,.int .i64 0] 35):=blk.new v4 [.int .i64 0,.int .i64 0,.int .i64 0,.int .i64 0,.slice none 0 0,.slice none 0 0,.slice none 0 0,.slice none 0 0,.int .i64 0,.int .i64 0] 35
    clear hbA;generalize v4.alloc (.cells [.int .i64 0,.int .i64 0,.int .i64 0,.int .i64 0,.slice none 0 0,.slice none 0 0,.slice none 0 0,.slice none 0 0,.int .i64 0,.int .i64 0].toArray 35)=v37 at *;generalize v4.heap.size=PH at *;refine hK2.out _ _ hS7 (fun hS2=>?_)
    clear hS hK2 K2 hS7;have hS:=hS2
    clear hS2;refine wpAnyH_all (rs:=[22]) (by kernel_rfl) (by simp) ?_
    refine AllReadyH.cons rfl (fun K2 hK2=>?_) AllReadyH.nil
    go_simp;refine (HC3.out _ hS).mono ?_
    rintro o v41 ⟨a3,k3,h3,rfl,q1,q3,b7⟩;have hS7:=hS.below b7
    have O2:Hid (∀ g,a3=some ⟨g,0,none⟩→g2<g):=fun g hg=>Nat.lt_of_lt_of_le F2_40.out.hi (q1 g hg)
    have P3:Hid (∀ g,a3=some ⟨g,0,none⟩→PH≠g):=fun g hg e=>by have:=FH0.out.lt;have:=q1 g hg;omega
    have FR_42:Hid (blk v41 w.heap.size [.int .i64 0,.int .i64 0,.int .i64 0,.int .i64 0,.slice none 0 0,.slice none 0 0,.slice none 0 0,.slice none 0 0,.int .i64 0,.int .i64 0] 35):=FR_38.out.below b7
    have F1_43:Hid (dr3 w g1 n1 fs v41):=F1_39.out.below b7
    have F2_44:Hid (dr8 w 0 g2 n2 bx h2 0 v41):=F2_40.out.below b7
    have FH_45:Hid (blk v41 PH [.int .i64 0,.int .i64 0,.int .i64 0,.int .i64 0,.slice none 0 0,.slice none 0 0,.slice none 0 0,.slice none 0 0,.int .i64 0,.int .i64 0] 35):=FH0.out.below b7
    clear FR_38 F1_39 F2_40 FH0;have F3_46:Hid (dx5 w 0 a3 n3 k3 ff h3 0 v41):=q3
    clear q1 q3 b7;go_wp2_with fail;refine hK2.out _ _ hS7 (fun hS2=>?_)
    clear hS hK2 K2 hS7;have hS:=hS2
    clear hS2;refine wpAnyH_all (rs:=[31]) (by kernel_rfl) (by simp) ?_
    refine AllReadyH.cons rfl (fun K2 hK2=>?_) AllReadyH.nil
    go_simp;refine (HC4.out _ hS).mono ?_
    rintro o v47 ⟨a4,k4,h4,rfl,q1,q3,b7⟩;have hS7:=hS.below b7
    have O3:Hid (∀ g,a4=some ⟨g,0,none⟩→g2<g∧∀ g',a3=some ⟨g',0,none⟩→g'<g):=fun g hg=>⟨Nat.lt_of_lt_of_le F2_44.out.hi (q1 g hg),fun g' hg'=>Nat.lt_of_lt_of_le (F3_46.out.hi g' hg') (q1 g hg)⟩
    have P4:Hid (∀ g,a4=some ⟨g,0,none⟩→PH≠g):=fun g hg e=>by have:=FH_45.out.lt;have:=q1 g hg;omega
    have FR_48:Hid (blk v47 w.heap.size [.int .i64 0,.int .i64 0,.int .i64 0,.int .i64 0,.slice none 0 0,.slice none 0 0,.slice none 0 0,.slice none 0 0,.int .i64 0,.int .i64 0] 35):=FR_42.out.below b7
    have F1_49:Hid (dr3 w g1 n1 fs v47):=F1_43.out.below b7
    have F2_50:Hid (dr8 w 0 g2 n2 bx h2 0 v47):=F2_44.out.below b7
    have FH_51:Hid (blk v47 PH [.int .i64 0,.int .i64 0,.int .i64 0,.int .i64 0,.slice none 0 0,.slice none 0 0,.slice none 0 0,.slice none 0 0,.int .i64 0,.int .i64 0] 35):=FH_45.out.below b7
    have F3_52:Hid (dx5 w 0 a3 n3 k3 ff h3 0 v47):=F3_46.out.below b7
    clear FR_42 F1_43 F2_44 FH_45 F3_46;have F4_53:Hid (dx8 w 0 a4 n4 k4 qu h4 0 v47):=q3
    clear q1 q3 b7;go_wp2_with fail;refine hK2.out _ _ hS7 (fun hS2=>?_)
    clear hS hK2 K2 hS7;have hS:=hS2
    clear hS2;refine wT (i:=40) (v:=.agg [.int .i64 c0,.int .i64 (r1:Int),.int .i64 c2,.int .i64 (r3:Int),.slice (some ⟨g1,0,none⟩) n1 k1,.slice (some ⟨g2,0,none⟩) n2 k2,.slice a3 n3 k3,.slice a4 n4 k4,.int .i64 lo,.int .i64 st].toArray) rfl (by kernel_rfl) (by kernel_rfl) (by kernel_rfl) (fun _ _ _ h=>h) (Or.inl ⟨by rfl,?_⟩) hS ?_
    ·intro W hSw;clear hS;go_simp
    simp only[Act.put,aA,aB,aC,aD,aE,aF];refine wpAnyH_all (rs:=[42]) (by kernel_rfl) (by simp) ?_
    refine AllReadyH.cons rfl (fun K2 hK2=>?_) AllReadyH.nil
    rw[if_pos (by rfl)]
    refine wp_store_mid (P:=Tryz.prog) 35 (.tmp 3) (.tmp 47) rfl PH 0 [.int .i64 c0,.int .i64 (r1:Int),.int .i64 c2,.int .i64 (r3:Int),.slice (some ⟨g1,0,none⟩) n1 k1,.slice (some ⟨g2,0,none⟩) n2 k2,.slice a3 n3 k3,.slice a4 n4 k4,.int .i64 lo,.int .i64 st].toArray rfl rfl (FH_51.out.there 0 10 (by simp)) sz41 (one10 _ _ _ _ _ _ _ _ _ _ _ _ _ _ _ _ _ _) ?_
    have hS9:tdS w P (liL c0 r1 c2 r3 gf n1 kf gb n2 kb mb gr f1 n3 gq f3 n4 lo st) (World.setCells v47 PH 0 [.int .i64 c0,.int .i64 (r1:Int),.int .i64 c2,.int .i64 (r3:Int),.slice (some ⟨g1,0,none⟩) n1 k1,.slice (some ⟨g2,0,none⟩) n2 k2,.slice a3 n3 k3,.slice a4 n4 k4,.int .i64 lo,.int .i64 st]):=hS.put PH (by have:=RP.out;have:=HPL.out;omega) (by have:=RP.out;omega) _ _
    refine hK2.out _ _ hS9 (fun hS2=>?_)
    refine wpAnyH_done (by kernel_rfl) ?_ _
    exact HFIN PH g1 k1 g2 k2 h2 a3 k3 h3 a4 k4 h4 v47 ⟨F1_49.out,C1.out,F2_50.out,C2.out,F3_52.out,F4_53.out,FH_51.out,FR_48.out,O1.out,O2.out,O3.out,⟨P1.out,P2.out,P3.out,P4.out⟩,⟨R1.out,RP.out⟩⟩ hS.b
  ·go_simp;have hbA:Below v1.heap.size v1 (v1.alloc (.cells [.int .i64 0,.int .i64 0,.int .i64 0,.int .i64 0,.slice none 0 0,.slice none 0 0,.slice none 0 0,.slice none 0 0,.int .i64 0,.int .i64 0].toArray 35)):=(Below.refl _ _).alloc (Nat.le_refl _) _
   have hS7:=hS.below hbA
   have RP:Hid (w.heap.size<v1.heap.size):=FR_2.out.lt
   have P1:Hid (v1.heap.size≠g1):=by have:=F1_3.out.hi;exact fun e=>by omega
   have FR_55:Hid (blk (v1.alloc (.cells [.int .i64 0,.int .i64 0,.int .i64 0,.int .i64 0,.slice none 0 0,.slice none 0 0,.slice none 0 0,.slice none 0 0,.int .i64 0,.int .i64 0].toArray 35)) w.heap.size [.int .i64 0,.int .i64 0,.int .i64 0,.int .i64 0,.slice none 0 0,.slice none 0 0,.slice none 0 0,.slice none 0 0,.int .i64 0,.int .i64 0] 35):=FR_2.out.below hbA
   have F1_56:Hid (dr3 w g1 n1 fs (v1.alloc (.cells [.int .i64 0,.int .i64 0,.int .i64 0,.int .i64 0,.slice none 0 0,.slice none 0 0,.slice none 0 0,.slice none 0 0,.int .i64 0,.int .i64 0].toArray 35))):=F1_3.out.below hbA
   clear FR_2 F1_3;have FH0:Hid (blk (v1.alloc (.cells [.int .i64 0,.int .i64 0,.int .i64 0,.int .i64 0,.slice none 0 0,.slice none 0 0,.slice none 0 0,.slice none 0 0,.int .i64 0,.int .i64 0].toArray 35)) v1.heap.size [.int .i64 0,.int .i64 0,.int .i64 0,.int .i64 0,.slice none 0 0,.slice none 0 0,.slice none 0 0,.slice none 0 0,.int .i64 0,.int .i64 0] 35):=blk.new v1 [.int .i64 0,.int .i64 0,.int .i64 0,.int .i64 0,.slice none 0 0,.slice none 0 0,.slice none 0 0,.slice none 0 0,.int .i64 0,.int .i64 0] 35
   clear hbA;generalize v1.alloc (.cells [.int .i64 0,.int .i64 0,.int .i64 0,.int .i64 0,.slice none 0 0,.slice none 0 0,.slice none 0 0,.slice none 0 0,.int .i64 0,.int .i64 0].toArray 35)=v54 at *;generalize v1.heap.size=PH at *;refine hK2.out _ _ hS7 (fun hS2=>?_)
   clear hS hK2 K2 hS7;have hS:=hS2
   clear hS2;refine wpAnyH_all (rs:=[13]) (by kernel_rfl) (by simp) ?_
   refine AllReadyH.cons rfl (fun K2 hK2=>?_) AllReadyH.nil
   go_simp;refine (HC2.out _ hS).mono ?_
   rintro o v57 ⟨g2,k2,h2,rfl,q1,q2,q3,b7⟩;have hS7:=hS.below b7
   have O1:Hid (g1<g2):=Nat.lt_of_lt_of_le F1_56.out.hi q1
   have C2:Hid (n2≤k2):=q2
   have P2:Hid (PH≠g2):=by have:=FH0.out.lt;exact fun e=>by omega
   have FR_58:Hid (blk v57 w.heap.size [.int .i64 0,.int .i64 0,.int .i64 0,.int .i64 0,.slice none 0 0,.slice none 0 0,.slice none 0 0,.slice none 0 0,.int .i64 0,.int .i64 0] 35):=FR_55.out.below b7
   have F1_59:Hid (dr3 w g1 n1 fs v57):=F1_56.out.below b7
   have FH_60:Hid (blk v57 PH [.int .i64 0,.int .i64 0,.int .i64 0,.int .i64 0,.slice none 0 0,.slice none 0 0,.slice none 0 0,.slice none 0 0,.int .i64 0,.int .i64 0] 35):=FH0.out.below b7
   clear FR_55 F1_56 FH0;have F2_61:Hid (dr8 w 0 g2 n2 bx h2 0 v57):=q3
   clear q1 q2 q3 b7;go_wp2_with fail;refine hK2.out _ _ hS7 (fun hS2=>?_)
   clear hS hK2 K2 hS7;have hS:=hS2
   clear hS2;refine wpAnyH_all (rs:=[22]) (by kernel_rfl) (by simp) ?_
   refine AllReadyH.cons rfl (fun K2 hK2=>?_) AllReadyH.nil
   go_simp;refine (HC3.out _ hS).mono ?_
   rintro o v62 ⟨a3,k3,h3,rfl,q1,q3,b7⟩;have hS7:=hS.below b7
   have O2:Hid (∀ g,a3=some ⟨g,0,none⟩→g2<g):=fun g hg=>Nat.lt_of_lt_of_le F2_61.out.hi (q1 g hg)
   have P3:Hid (∀ g,a3=some ⟨g,0,none⟩→PH≠g):=fun g hg e=>by have:=FH_60.out.lt;have:=q1 g hg;omega
   have FR_63:Hid (blk v62 w.heap.size [.int .i64 0,.int .i64 0,.int .i64 0,.int .i64 0,.slice none 0 0,.slice none 0 0,.slice none 0 0,.slice none 0 0,.int .i64 0,.int .i64 0] 35):=FR_58.out.below b7
   have F1_64:Hid (dr3 w g1 n1 fs v62):=F1_59.out.below b7
   have FH_65:Hid (blk v62 PH [.int .i64 0,.int .i64 0,.int .i64 0,.int .i64 0,.slice none 0 0,.slice none 0 0,.slice none 0 0,.slice none 0 0,.int .i64 0,.int .i64 0] 35):=FH_60.out.below b7
   have F2_66:Hid (dr8 w 0 g2 n2 bx h2 0 v62):=F2_61.out.below b7
   clear FR_58 F1_59 FH_60 F2_61;have F3_67:Hid (dx5 w 0 a3 n3 k3 ff h3 0 v62):=q3
   clear q1 q3 b7;go_wp2_with fail;refine hK2.out _ _ hS7 (fun hS2=>?_)
   clear hS hK2 K2 hS7;have hS:=hS2
   clear hS2;refine wpAnyH_all (rs:=[31]) (by kernel_rfl) (by simp) ?_
   refine AllReadyH.cons rfl (fun K2 hK2=>?_) AllReadyH.nil
   go_simp;refine (HC4.out _ hS).mono ?_
   rintro o v68 ⟨a4,k4,h4,rfl,q1,q3,b7⟩;have hS7:=hS.below b7
   have O3:Hid (∀ g,a4=some ⟨g,0,none⟩→g2<g∧∀ g',a3=some ⟨g',0,none⟩→g'<g):=fun g hg=>⟨Nat.lt_of_lt_of_le F2_66.out.hi (q1 g hg),fun g' hg'=>Nat.lt_of_lt_of_le (F3_67.out.hi g' hg') (q1 g hg)⟩
   have P4:Hid (∀ g,a4=some ⟨g,0,none⟩→PH≠g):=fun g hg e=>by have:=FH_65.out.lt;have:=q1 g hg;omega
   have FR_69:Hid (blk v68 w.heap.size [.int .i64 0,.int .i64 0,.int .i64 0,.int .i64 0,.slice none 0 0,.slice none 0 0,.slice none 0 0,.slice none 0 0,.int .i64 0,.int .i64 0] 35):=FR_63.out.below b7
   have F1_70:Hid (dr3 w g1 n1 fs v68):=F1_64.out.below b7
   have FH_71:Hid (blk v68 PH [.int .i64 0,.int .i64 0,.int .i64 0,.int .i64 0,.slice none 0 0,.slice none 0 0,.slice none 0 0,.slice none 0 0,.int .i64 0,.int .i64 0] 35):=FH_65.out.below b7
   have F2_72:Hid (dr8 w 0 g2 n2 bx h2 0 v68):=F2_66.out.below b7
   have F3_73:Hid (dx5 w 0 a3 n3 k3 ff h3 0 v68):=F3_67.out.below b7
   clear FR_63 F1_64 FH_65 F2_66 F3_67;have F4_74:Hid (dx8 w 0 a4 n4 k4 qu h4 0 v68):=q3
   clear q1 q3 b7;go_wp2_with fail;refine hK2.out _ _ hS7 (fun hS2=>?_)
   clear hS hK2 K2 hS7;have hS:=hS2
   clear hS2;refine wT (i:=40) (v:=.agg [.int .i64 c0,.int .i64 (r1:Int),.int .i64 c2,.int .i64 (r3:Int),.slice (some ⟨g1,0,none⟩) n1 k1,.slice (some ⟨g2,0,none⟩) n2 k2,.slice a3 n3 k3,.slice a4 n4 k4,.int .i64 lo,.int .i64 st].toArray) rfl (by kernel_rfl) (by kernel_rfl) (by kernel_rfl) (fun _ _ _ h=>h) (Or.inl ⟨by rfl,?_⟩) hS ?_
   ·intro W hSw;clear hS;go_simp
   simp only[Act.put,aA,aB,aC,aD,aE,aF];refine wpAnyH_all (rs:=[42]) (by kernel_rfl) (by simp) ?_
   refine AllReadyH.cons rfl (fun K2 hK2=>?_) AllReadyH.nil
   rw[if_pos (by rfl)]
   refine wp_store_mid (P:=Tryz.prog) 35 (.tmp 3) (.tmp 47) rfl PH 0 [.int .i64 c0,.int .i64 (r1:Int),.int .i64 c2,.int .i64 (r3:Int),.slice (some ⟨g1,0,none⟩) n1 k1,.slice (some ⟨g2,0,none⟩) n2 k2,.slice a3 n3 k3,.slice a4 n4 k4,.int .i64 lo,.int .i64 st].toArray rfl rfl (FH_71.out.there 0 10 (by simp)) sz41 (one10 _ _ _ _ _ _ _ _ _ _ _ _ _ _ _ _ _ _) ?_
   have hS9:tdS w P (liL c0 r1 c2 r3 gf n1 kf gb n2 kb mb gr f1 n3 gq f3 n4 lo st) (World.setCells v68 PH 0 [.int .i64 c0,.int .i64 (r1:Int),.int .i64 c2,.int .i64 (r3:Int),.slice (some ⟨g1,0,none⟩) n1 k1,.slice (some ⟨g2,0,none⟩) n2 k2,.slice a3 n3 k3,.slice a4 n4 k4,.int .i64 lo,.int .i64 st]):=hS.put PH (by have:=RP.out;have:=HPL.out;omega) (by have:=RP.out;omega) _ _
   refine hK2.out _ _ hS9 (fun hS2=>?_)
   refine wpAnyH_done (by kernel_rfl) ?_ _
   exact HFIN PH g1 k1 g2 k2 h2 a3 k3 h3 a4 k4 h4 v68 ⟨F1_70.out,C1.out,F2_72.out,C2.out,F3_73.out,F4_74.out,FH_71.out,FR_69.out,O1.out,O2.out,O3.out,⟨P1.out,P2.out,P3.out,P4.out⟩,⟨R1.out,RP.out⟩⟩ hS.b
 ·go_simp;have hbA:Below v0.heap.size v0 (v0.alloc (.cells [.int .i64 0,.int .i64 0,.int .i64 0,.int .i64 0,.slice none 0 0,.slice none 0 0,.slice none 0 0,.slice none 0 0,.int .i64 0,.int .i64 0].toArray 35)):=(Below.refl _ _).alloc (Nat.le_refl _) _
  have hS7:=hS.below hbA
  have RP:Hid (w.heap.size<v0.heap.size):=FR0.out.lt
  have FR_76:Hid (blk (v0.alloc (.cells [.int .i64 0,.int .i64 0,.int .i64 0,.int .i64 0,.slice none 0 0,.slice none 0 0,.slice none 0 0,.slice none 0 0,.int .i64 0,.int .i64 0].toArray 35)) w.heap.size [.int .i64 0,.int .i64 0,.int .i64 0,.int .i64 0,.slice none 0 0,.slice none 0 0,.slice none 0 0,.slice none 0 0,.int .i64 0,.int .i64 0] 35):=FR0.out.below hbA
  clear FR0;have FH0:Hid (blk (v0.alloc (.cells [.int .i64 0,.int .i64 0,.int .i64 0,.int .i64 0,.slice none 0 0,.slice none 0 0,.slice none 0 0,.slice none 0 0,.int .i64 0,.int .i64 0].toArray 35)) v0.heap.size [.int .i64 0,.int .i64 0,.int .i64 0,.int .i64 0,.slice none 0 0,.slice none 0 0,.slice none 0 0,.slice none 0 0,.int .i64 0,.int .i64 0] 35):=blk.new v0 [.int .i64 0,.int .i64 0,.int .i64 0,.int .i64 0,.slice none 0 0,.slice none 0 0,.slice none 0 0,.slice none 0 0,.int .i64 0,.int .i64 0] 35
  clear hbA;generalize v0.alloc (.cells [.int .i64 0,.int .i64 0,.int .i64 0,.int .i64 0,.slice none 0 0,.slice none 0 0,.slice none 0 0,.slice none 0 0,.int .i64 0,.int .i64 0].toArray 35)=v75 at *;generalize v0.heap.size=PH at *;refine hK2.out _ _ hS7 (fun hS2=>?_)
  clear hS hK2 K2 hS7;have hS:=hS2
  clear hS2;refine wpAnyH_all (rs:=[8]) (by kernel_rfl) (by simp) ?_
  refine AllReadyH.cons rfl (fun K2 hK2=>?_) AllReadyH.nil
  go_simp;refine (HC1.out _ hS).mono ?_
  rintro o v77 ⟨g1,k1,rfl,q1,q2,q3,b7⟩;have hS7:=hS.below b7
  have R1:Hid (w.heap.size<g1):=Nat.lt_of_lt_of_le FR_76.out.lt q1
  have C1:Hid (n1≤k1):=q2
  have P1:Hid (PH≠g1):=by have:=FH0.out.lt;exact fun e=>by omega
  have FR_78:Hid (blk v77 w.heap.size [.int .i64 0,.int .i64 0,.int .i64 0,.int .i64 0,.slice none 0 0,.slice none 0 0,.slice none 0 0,.slice none 0 0,.int .i64 0,.int .i64 0] 35):=FR_76.out.below b7
  have FH_79:Hid (blk v77 PH [.int .i64 0,.int .i64 0,.int .i64 0,.int .i64 0,.slice none 0 0,.slice none 0 0,.slice none 0 0,.slice none 0 0,.int .i64 0,.int .i64 0] 35):=FH0.out.below b7
  clear FR_76 FH0;have F1_80:Hid (dr3 w g1 n1 fs v77):=q3
  clear q1 q2 q3 b7;go_wp2_with fail;refine hK2.out _ _ hS7 (fun hS2=>?_)
  clear hS hK2 K2 hS7;have hS:=hS2
  clear hS2;refine wpAnyH_all (rs:=[13]) (by kernel_rfl) (by simp) ?_
  refine AllReadyH.cons rfl (fun K2 hK2=>?_) AllReadyH.nil
  go_simp;refine (HC2.out _ hS).mono ?_
  rintro o v81 ⟨g2,k2,h2,rfl,q1,q2,q3,b7⟩;have hS7:=hS.below b7
  have O1:Hid (g1<g2):=Nat.lt_of_lt_of_le F1_80.out.hi q1
  have C2:Hid (n2≤k2):=q2
  have P2:Hid (PH≠g2):=by have:=FH_79.out.lt;exact fun e=>by omega
  have FR_82:Hid (blk v81 w.heap.size [.int .i64 0,.int .i64 0,.int .i64 0,.int .i64 0,.slice none 0 0,.slice none 0 0,.slice none 0 0,.slice none 0 0,.int .i64 0,.int .i64 0] 35):=FR_78.out.below b7
  have FH_83:Hid (blk v81 PH [.int .i64 0,.int .i64 0,.int .i64 0,.int .i64 0,.slice none 0 0,.slice none 0 0,.slice none 0 0,.slice none 0 0,.int .i64 0,.int .i64 0] 35):=FH_79.out.below b7
  have F1_84:Hid (dr3 w g1 n1 fs v81):=F1_80.out.below b7
  clear FR_78 FH_79 F1_80;have F2_85:Hid (dr8 w 0 g2 n2 bx h2 0 v81):=q3
  clear q1 q2 q3 b7;go_wp2_with fail;refine hK2.out _ _ hS7 (fun hS2=>?_)
  clear hS hK2 K2 hS7;have hS:=hS2
  clear hS2;refine wpAnyH_all (rs:=[22]) (by kernel_rfl) (by simp) ?_
  refine AllReadyH.cons rfl (fun K2 hK2=>?_) AllReadyH.nil
  go_simp;refine (HC3.out _ hS).mono ?_
  rintro o v86 ⟨a3,k3,h3,rfl,q1,q3,b7⟩;have hS7:=hS.below b7
  have O2:Hid (∀ g,a3=some ⟨g,0,none⟩→g2<g):=fun g hg=>Nat.lt_of_lt_of_le F2_85.out.hi (q1 g hg)
  have P3:Hid (∀ g,a3=some ⟨g,0,none⟩→PH≠g):=fun g hg e=>by have:=FH_83.out.lt;have:=q1 g hg;omega
  have FR_87:Hid (blk v86 w.heap.size [.int .i64 0,.int .i64 0,.int .i64 0,.int .i64 0,.slice none 0 0,.slice none 0 0,.slice none 0 0,.slice none 0 0,.int .i64 0,.int .i64 0] 35):=FR_82.out.below b7
  have FH_88:Hid (blk v86 PH [.int .i64 0,.int .i64 0,.int .i64 0,.int .i64 0,.slice none 0 0,.slice none 0 0,.slice none 0 0,.slice none 0 0,.int .i64 0,.int .i64 0] 35):=FH_83.out.below b7
  have F1_89:Hid (dr3 w g1 n1 fs v86):=F1_84.out.below b7
  have F2_90:Hid (dr8 w 0 g2 n2 bx h2 0 v86):=F2_85.out.below b7
  clear FR_82 FH_83 F1_84 F2_85;have F3_91:Hid (dx5 w 0 a3 n3 k3 ff h3 0 v86):=q3
  clear q1 q3 b7;go_wp2_with fail;refine hK2.out _ _ hS7 (fun hS2=>?_)
  clear hS hK2 K2 hS7;have hS:=hS2
  clear hS2;refine wpAnyH_all (rs:=[31]) (by kernel_rfl) (by simp) ?_
  refine AllReadyH.cons rfl (fun K2 hK2=>?_) AllReadyH.nil
  go_simp;refine (HC4.out _ hS).mono ?_
  rintro o v92 ⟨a4,k4,h4,rfl,q1,q3,b7⟩;have hS7:=hS.below b7
  have O3:Hid (∀ g,a4=some ⟨g,0,none⟩→g2<g∧∀ g',a3=some ⟨g',0,none⟩→g'<g):=fun g hg=>⟨Nat.lt_of_lt_of_le F2_90.out.hi (q1 g hg),fun g' hg'=>Nat.lt_of_lt_of_le (F3_91.out.hi g' hg') (q1 g hg)⟩
  have P4:Hid (∀ g,a4=some ⟨g,0,none⟩→PH≠g):=fun g hg e=>by have:=FH_88.out.lt;have:=q1 g hg;omega
  have FR_93:Hid (blk v92 w.heap.size [.int .i64 0,.int .i64 0,.int .i64 0,.int .i64 0,.slice none 0 0,.slice none 0 0,.slice none 0 0,.slice none 0 0,.int .i64 0,.int .i64 0] 35):=FR_87.out.below b7
  have FH_94:Hid (blk v92 PH [.int .i64 0,.int .i64 0,.int .i64 0,.int .i64 0,.slice none 0 0,.slice none 0 0,.slice none 0 0,.slice none 0 0,.int .i64 0,.int .i64 0] 35):=FH_88.out.below b7
  have F1_95:Hid (dr3 w g1 n1 fs v92):=F1_89.out.below b7
  have F2_96:Hid (dr8 w 0 g2 n2 bx h2 0 v92):=F2_90.out.below b7
  have F3_97:Hid (dx5 w 0 a3 n3 k3 ff h3 0 v92):=F3_91.out.below b7
  clear FR_87 FH_88 F1_89 F2_90 F3_91;have F4_98:Hid (dx8 w 0 a4 n4 k4 qu h4 0 v92):=q3
  clear q1 q3 b7;go_wp2_with fail;refine hK2.out _ _ hS7 (fun hS2=>?_)
  clear hS hK2 K2 hS7;have hS:=hS2
  clear hS2;refine wT (i:=40) (v:=.agg [.int .i64 c0,.int .i64 (r1:Int),.int .i64 c2,.int .i64 (r3:Int),.slice (some ⟨g1,0,none⟩) n1 k1,.slice (some ⟨g2,0,none⟩) n2 k2,.slice a3 n3 k3,.slice a4 n4 k4,.int .i64 lo,.int .i64 st].toArray) rfl (by kernel_rfl) (by kernel_rfl) (by kernel_rfl) (fun _ _ _ h=>h) (Or.inl ⟨by rfl,?_⟩) hS ?_
  ·intro W hSw;clear hS;go_simp
  simp only[Act.put,aA,aB,aC,aD,aE,aF];refine wpAnyH_all (rs:=[42]) (by kernel_rfl) (by simp) ?_
  refine AllReadyH.cons rfl (fun K2 hK2=>?_) AllReadyH.nil
  rw[if_pos (by rfl)]
  refine wp_store_mid (P:=Tryz.prog) 35 (.tmp 3) (.tmp 47) rfl PH 0 [.int .i64 c0,.int .i64 (r1:Int),.int .i64 c2,.int .i64 (r3:Int),.slice (some ⟨g1,0,none⟩) n1 k1,.slice (some ⟨g2,0,none⟩) n2 k2,.slice a3 n3 k3,.slice a4 n4 k4,.int .i64 lo,.int .i64 st].toArray rfl rfl (FH_94.out.there 0 10 (by simp)) sz41 (one10 _ _ _ _ _ _ _ _ _ _ _ _ _ _ _ _ _ _) ?_
  have hS9:tdS w P (liL c0 r1 c2 r3 gf n1 kf gb n2 kb mb gr f1 n3 gq f3 n4 lo st) (World.setCells v92 PH 0 [.int .i64 c0,.int .i64 (r1:Int),.int .i64 c2,.int .i64 (r3:Int),.slice (some ⟨g1,0,none⟩) n1 k1,.slice (some ⟨g2,0,none⟩) n2 k2,.slice a3 n3 k3,.slice a4 n4 k4,.int .i64 lo,.int .i64 st]):=hS.put PH (by have:=RP.out;have:=HPL.out;omega) (by have:=RP.out;omega) _ _
  refine hK2.out _ _ hS9 (fun hS2=>?_)
  refine wpAnyH_done (by kernel_rfl) ?_ _
  exact HFIN PH g1 k1 g2 k2 h2 a3 k3 h3 a4 k4 h4 v92 ⟨F1_95.out,C1.out,F2_96.out,C2.out,F3_97.out,F4_98.out,FH_94.out,FR_93.out,O1.out,O2.out,O3.out,⟨P1.out,P2.out,P3.out,P4.out⟩,⟨R1.out,RP.out⟩⟩ hS.b
end Go.Proofs.YtaamahohdnbpiaaGreat
