import Derived.Test.YtaamahohdnbpiaaGreatKF
import Derived.Test.YtaamahohdnbpiaaGreatG27
namespace Go.Proofs.YtaamahohdnbpiaaGreat
open Go.RowKit
structure nS (w:World) (m b c d:Int) (P:Nat) (gv:List Value) (W:World):Prop where
 p:blk W w.heap.size [.int .i64 m,.int .i64 b,.int .i64 c,.int .i64 d] 29
 r:blk W (w.heap.size+1) z10 35
 q:blk W P gv 35
 b:Below w.heap.size w W
theorem nS.belowB {w W W':World} {m b c d:Int} {P B:Nat} {gv:List Value} (h:nS w m b c d P gv W) (hP:w.heap.size+2≤P) (hB:P<B) (hb:Below B W W'):nS w m b c d P gv W':=
 ⟨h.p.kept (hb.block _ (by omega)),h.r.kept (hb.block _ (by omega)),h.q.kept (hb.block _ (by omega)),h.b.trans (hb.mono (by omega))⟩
theorem nS.set {w W:World} {m b c d:Int} {P:Nat} {gv:List Value} (h:nS w m b c d P gv W) (hP:w.heap.size+2≤P) (o:Nat) (v:Value):nS w m b c d P (gv.set o v) (W.setCell ⟨P,o,none⟩ v):=
 ⟨h.p.setOther (by omega) _ _,h.r.setOther (by omega) _ _,h.q.set _ _,h.b.setCell (by show _≤P;omega) _⟩
set_option maxHeartbeats 4000000 in
set_option maxRecDepth 40000 in
theorem specNewHost_ok (w:World) (m:Nat) (b c d:Int) (g n cap:Nat) (bs:List R3) (h:okCf m b c d=true) (hf:isR3s w (some ⟨g,0,none⟩) n cap bs) (hn:n≤1048576) (hm:m≤8) (h2:okFs bs=true) :
  Calls Tryz.prog 23 #[cfV m b c d,.slice (some ⟨g,0,none⟩) n cap] w fun o w'=>∃ s',o = .returned (.tuple #[hoV ⟨m,b,c,d,bs,List.replicate m bx0,[],[],0,0⟩ s',.int .i64 0])∧St (w.heap.size+2) w' (fun W=>isHo W ⟨m,b,c,d,bs,List.replicate m bx0,[],[],0,0⟩ s')∧Below w.heap.size w w':=by
 have HE:Hid (∀ W,Calls Tryz.prog 69 #[cfV m b c d] W fun o w'=>o = .returned (.bool true)∧Below W.heap.size W w'):=fun W=>by have:=l3okConfig_any W m b c d;rw[h] at this;exact this
 have HF:Hid (∀ W,Below w.heap.size w W→Calls Tryz.prog 70 #[.slice (some ⟨g,0,none⟩) n cap] W fun o w'=>o = .returned (.bool true)∧Below W.heap.size W w'):=fun W hW=>by have:=l3okFilters_any W _ n cap bs (hf.below hW) hn;rw[h2] at this;exact this
 have HFS:Hid (isR3s w (some ⟨g,0,none⟩) n cap bs):=hf
 have HLE:Hid (Ho.le ⟨m,b,c,d,bs,List.replicate m bx0,[],[],0,0⟩ 1048576):=⟨(by rw[← hf.len];exact hn),(by simp;omega),(by simp),(by simp),(by intro j hj;simp[bx0]),(by intro j hj;cases hj),(by intro j hj;cases hj)⟩
 clear h hf h2;go_enter Tryz.func23,Tryz.ntmps23
 go_wp2_with fail;refine (HE.out _).mono ?_
 rintro o w1 ⟨rfl,hb1⟩;have HP1:Hid (blk w1 w.heap.size [.int .i64 m,.int .i64 b,.int .i64 c,.int .i64 d] 29∧blk w1 (w.heap.size+1) z10 35∧Below w.heap.size w w1):=by
  refine⟨((blk.new w _ 29).alloc _).below hb1,?_,(((Below.refl _ _).alloc (Nat.le_refl _) _).alloc (by simp) _).trans (hb1.mono (by simp;try omega))⟩
  have:=(blk.new (w.alloc (.cells [.int .i64 m,.int .i64 b,.int .i64 c,.int .i64 d].toArray 29)) z10 35).below hb1
  simpa using this
 clear hb1;go_wp2_with fail;refine (HF.out _ HP1.out.2.2).mono ?_
 rintro o w2 ⟨rfl,hb2⟩;have HP2:Hid (blk w2 w.heap.size [.int .i64 m,.int .i64 b,.int .i64 c,.int .i64 d] 29∧blk w2 (w.heap.size+1) z10 35∧Below w.heap.size w w2):=⟨HP1.out.1.below hb2,HP1.out.2.1.below hb2,HP1.out.2.2.trans (hb2.mono HP1.out.2.2.size)⟩
 clear hb2 HP1;have HZ2:Hid (w.heap.size+2≤w2.heap.size):=HP2.out.2.1.lt
 have HQ2:Hid (nS w m b c d w2.heap.size ([]++z10++[]) (w2.alloc (.cells z10.toArray 35))):=⟨HP2.out.1.alloc _,HP2.out.2.1.alloc _,blk.new w2 _ 35,HP2.out.2.2.alloc HP2.out.2.2.size _⟩
 go_wp2_with (first
  | (refine wpList_load_mid (P:=Tryz.prog) rfl 29 (.tmp 2) rfl w.heap.size 0 rfl _ _ HP2.out.1.load Tryz.underlying29 rfl sz35 ?_)
  | (refine wpList_store_mid (P:=Tryz.prog) rfl 35 (.tmp 6) (.tmp 18) rfl w2.heap.size 0 _ rfl rfl (HQ2.out.q.there 0 10 (by simp)) sz41 (one10 _ _ _ _ _ _ _ _ _ _ _ _ _ _ _ _ _ _) ?_;generalize hW3:World.setCells (World.alloc _ _) w2.heap.size 0 _=w3;have HN3:Hid (nS w m b c d w2.heap.size [.int .i64 m,.int .i64 b,.int .i64 c,.int .i64 d,.slice (some ⟨g,0,none⟩) n cap,.slice none 0 0,.slice none 0 0,.slice none 0 0,.int .i64 0,.int .i64 0] w3):=(hW3 ▸ ⟨HQ2.out.p.other (by have:=HZ2.out;omega) _ _,HQ2.out.r.other (by have:=HZ2.out;omega) _ _,blk.put [] z10 [] [.int .i64 m,.int .i64 b,.int .i64 c,.int .i64 d,.slice (some ⟨g,0,none⟩) n cap,.slice none 0 0,.slice none 0 0,.slice none 0 0,.int .i64 0,.int .i64 0] HQ2.out.q rfl,setCells_below (by have:=HZ2.out;omega) _ _ HQ2.out.b⟩);clear hW3))
 clear HQ2;go_loopw [7] (fun t wr=>∃ (k kc:Nat) (ao:Option Addr),k≤m∧t = .int .i64 (k:Int)∧nS w m b c d w2.heap.size [.int .i64 m,.int .i64 b,.int .i64 c,.int .i64 d,.slice (some ⟨g,0,none⟩) n cap,.slice ao k kc,.slice none 0 0,.slice none 0 0,.int .i64 0,.int .i64 0] wr∧wr.ownsRow (w2.heap.size+1) 97 8 (.slice ao k kc) k ((List.replicate k bx0).flatMap e80)) (fun t _=>m-(intOf t).toNat)
 case atStart=>exact⟨0,0,none,Nat.zero_le _,rfl,HN3.out,World.ownsRow_nil _ _ _ _⟩
 case round=>
  clear HN3;obtain⟨k,kc,ao,hk,rfl,hN,ho⟩:=hrel
  have y0:=hN.p.cell 0 _ rfl
  have y5:=hN.q.cell 5 _ rfl
  have HN:Hid _:=hN
  have HO:Hid (wr.ownsRow (w2.heap.size+1) 97 8 (.slice ao k kc) k ((List.replicate k bx0).flatMap e80)):=ho
  have hz:w2.heap.size<wr.heap.size:=hN.q.lt
  have HZ:Hid (w2.heap.size<wr.heap.size):=hz
  clear hN ho hz;by_cases hlt:k<m
  ·have HLT:Hid (k<m):=hlt
   have y5a:(wr.alloc (.cells #[.int .i64 0,.int .i64 0,.int .i64 0,.bool false,.int .u32 0,.bool false,.int .i64 0,.slice none 0 0] 97)).cell? ⟨w2.heap.size,5,none⟩=some (.slice ao k kc):=(HN.out.q.alloc _).cell 5 _ rfl
   go_wp2_with (first
    | (at_builtin;refine app_recO (w:=wr.alloc (.cells #[.int .i64 0,.int .i64 0,.int .i64 0,.bool false,.int .u32 0,.bool false,.int .i64 0,.slice none 0 0] 97)) rfl (.tmp 26) (.tmp 28) 31 97 _ 8 72 Tryz.info97 Tryz.underlying31 rfl (by decide) (by decide) rfl (w2.heap.size+1) k (.slice ao k kc) _ rfl (HO.out.alloc _) wr.heap.size [.int .i64 0,.int .i64 0,.int .i64 0,.bool false,.int .u32 0,.bool false,.int .i64 0,.slice none 0 0] rfl rfl (blk.new wr _ 97) (one8L _ _ _ _ _ _ _ _ _ _) (by omega) (by have:=HZ.out;simp;omega) ?_;intro g' k' w6 ho6 hs6 hb6;have N6:=((HN.out.belowB HZ2.out HZ.out ((Below.refl wr.heap.size wr).alloc (Nat.le_refl _) (.cells #[.int .i64 0,.int .i64 0,.int .i64 0,.bool false,.int .u32 0,.bool false,.int .i64 0,.slice none 0 0] 97))).belowB HZ2.out (Nat.lt_succ_self _) hb6);have x6:=N6.q.cell 5 _ rfl;have f6:=N6.q.free 5;have HN6:Hid _:=N6;have HO6:Hid (w6.ownsRow (w2.heap.size+1) 97 8 (.slice (some ⟨g',0,none⟩) (k+1) k') (k+1) ((List.replicate k bx0).flatMap e80++[.int .i64 0,.int .i64 0,.int .i64 0,.bool false,.int .u32 0,.bool false,.int .i64 0,.slice none 0 0])):=ho6;clear N6 ho6 hs6 hb6))
   go_roundw
   case rel=>
    refine⟨k+1,k',some ⟨g',0,none⟩,HLT.out,by go_num,HN6.out.set HZ2.out 5 (.slice (some ⟨g',0,none⟩) (k+1) k'),?_⟩
    rw[← e80_snoc]
    refine ownsRow_kept HO6.out ?_
    rw[heap_setCell_other _ _ _ _ (by have:=(World.ownsRow.lt HO6.out g' rfl).1;show g'≠w2.heap.size;omega)]
   case measure=>have:=HLT.out;simp[intOf];omega
  ·have hkm:m=k:=by omega
   subst hkm;have HIS:Hid (isHo wr ⟨m,b,c,d,bs,List.replicate m bx0,[],[],0,0⟩ ⟨some ⟨g,0,none⟩,n,cap,ao,m,kc,none,0,0,none,0,0⟩):=⟨HFS.out.below HN.out.b,e80_row HO.out,⟨rfl,Nat.le_refl _,fun e=>absurd rfl e⟩,⟨rfl,Nat.le_refl _,fun e=>absurd rfl e⟩⟩
   go_wp2_with (first
    | (refine wpList_load_mid (P:=Tryz.prog) rfl 35 (.tmp 6) rfl w2.heap.size 0 rfl _ _ HN.out.q.load Tryz.underlying35 rfl sz41 ?_)
    | (go_at_call 71;refine (l3copy_anyN wr ⟨m,b,c,d,bs,List.replicate m bx0,[],[],0,0⟩ ⟨some ⟨g,0,none⟩,n,cap,ao,m,kc,none,0,0,none,0,0⟩ HIS.out HLE.out).mono ?_;rintro o w7 ⟨⟨b1,m1,l1,b2,m2,l2,b3,m3,l3,b4,m4,l4⟩,rfl,S7,hb7⟩;have HS7:Hid _:=S7;have HN7:Hid _:=HN.out.belowB HZ2.out HZ.out hb7;clear S7 hb7)
    | (refine wpList_store_mid (P:=Tryz.prog) rfl 35 (.tmp 4) (.tmp 32) rfl (w.heap.size+1) 0 _ rfl rfl (HN7.out.r.there 0 10 (by simp)) sz41 (one10 _ _ _ _ _ _ _ _ _ _ _ _ _ _ _ _ _ _) ?_;generalize hW8:World.setCells w7 (w.heap.size+1) 0 _=w8;have HW8:Hid (World.setCells w7 (w.heap.size+1) 0 [.int .i64 m,.int .i64 b,.int .i64 c,.int .i64 d,.slice b1 m1 l1,.slice b2 m2 l2,.slice b3 m3 l3,.slice b4 m4 l4,.int .i64 0,.int .i64 0]=w8):=hW8;clear hW8))
   have e8:=HW8.out
   have hF:blk w8 (w.heap.size+1) [.int .i64 m,.int .i64 b,.int .i64 c,.int .i64 d,.slice b1 m1 l1,.slice b2 m2 l2,.slice b3 m3 l3,.slice b4 m4 l4,.int .i64 0,.int .i64 0] 35:=e8 ▸ blk.put [] z10 [] _ HN7.out.r rfl
   have hL:=run_loadVar_mid (P:=Tryz.prog) w8 (w.heap.size+1) 0 35 _ _ hF.load Tryz.underlying35 rfl sz41
   refine bodyPost_ret (results_cell_tmp Tryz.results23 _ w8 (w.heap.size+1) _ rfl hL) rfl ?_
   refine⟨⟨b1,m1,l1,b2,m2,l2,b3,m3,l3,b4,m4,l4⟩,rfl,?_,?_⟩
   ·rw[← e8]
    have h1:=HZ.out
    have h2:=HZ2.out
    exact St.mono (St.setCells HS7.out _ _ (by omega) _) (by omega)
   ·rw[← e8]
    exact setCells_below (by omega) _ _ HN7.out.b
end Go.Proofs.YtaamahohdnbpiaaGreat
