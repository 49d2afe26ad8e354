import Derived.Test.YtgkkcpgocbcbaaaGreatK33
namespace Go.Proofs.YtgkkcpgocbcbaaaGreat
open Go.RowKit
set_option linter.unusedVariables false
structure sbT (w:World) (L F:List Value) (W:World):Prop where
 s:sbS w L F W
 b:Below w.heap.size w W
theorem sbT.below {w:World} {L F:List Value} {W W':World} (h:sbT w L F W) (hb:Below W.heap.size W W'):sbT w L F W':=⟨h.s.below hb,h.b.trans (hb.mono h.b.size)⟩
theorem sbT.new (w:World) (L F:List Value):sbT w L F (((w.alloc (.cells L.toArray 30)).alloc (.cells F.toArray 37)).alloc (.cells Z10.toArray 30)):=⟨sbS.new w L F,(((Below.refl _ _).alloc (Nat.le_refl _) _).alloc (by simp) _).alloc (by simp;omega) _⟩
set_option maxHeartbeats 4000000 in
set_option maxRecDepth 20000 in
theorem specSubmit_any (w:World) (H:Ho) (s:Sl) (t:Int) (F:R5) (fa:Option Addr) (fm fc:Nat) (hok:okHo H) (h:isHo w H s) (hn:H.le 1048576) (hf:isBytes w fa fm fc F.l) (hfm:fm≤1048576) :
  Calls Tryz.prog 6 #[.agg (hoL H s).toArray,.int .i64 t,frV F.e F.i F.r F.d fa fm fc] w fun o w'=>∃ s',o = .returned (.agg (hoL (subHo H t F) s').toArray)∧St w.heap.size w' (fun V=>isHo V (subHo H t F) s'∧slSome s')∧Below w.heap.size w w':=by
 have H0:Hid (sbT w (hoL H s) [.bool F.e,.int .u32 (F.i:Int),.bool F.r,.int .i64 F.d,.slice fa fm fc] (((w.alloc (.cells (hoL H s).toArray 30)).alloc (.cells [.bool F.e,.int .u32 (F.i:Int),.bool F.r,.int .i64 F.d,.slice fa fm fc].toArray 37)).alloc (.cells [.int .i64 0,.int .i64 0,.int .i64 0,.int .i64 0,.slice none 0 0,.slice none 0 0,.slice none 0 0,.slice none 0 0,.int .i64 0,.int .i64 0].toArray 30))):=sbT.new w _ _
 ·have HV:Hid (∀ W,Below w.heap.size w W→Calls Tryz.prog 15 #[.agg (hoL H s).toArray] W fun o w'=>o = .returned (.bool true)∧Below W.heap.size W w'):=fun W hW=>okL W H s (h.below hW) hn hok
  have HC:Hid (∀ W,Below w.heap.size w W→Calls Tryz.prog 14 #[.agg (hoL H s).toArray] W fun o w'=>∃ s' T0 T1 T2,o = .returned (.agg (hoL H s').toArray)∧spS (W.heap.size+3) T0 T1 T2 H s' w'∧s'.n2=H.bx.length∧s'.n4=H.qu.length∧Below W.heap.size W w'):=fun W hW=>copyS W H s (h.below hW) hn
  have HFB:Hid (isBytes w fa fm fc F.l):=hf
  have HOK:Hid (okHo H):=hok
  clear h hn hok hf
  go_enter Tryz.func6,Tryz.ntmps6
  go_wp2_with (first
   | (refine wpList_load_mid (P:=Tryz.prog) rfl 30 _ rfl w.heap.size 0 rfl _ _ H0.out.s.p.load Tryz.underlying30 rfl (sz41L H s) ?_))
  refine (HV.out _ H0.out.b).mono ?_
  rintro o w1 ⟨rfl,hb1⟩
  have H1:Hid (sbT w (hoL H s) [.bool F.e,.int .u32 (F.i:Int),.bool F.r,.int .i64 F.d,.slice fa fm fc] w1):=H0.out.below hb1
  clear H0 hb1 HV
  go_wp2_with fail
  refine wp_region_held (S:=fun X=>blk X w.heap.size (hoL H s) 30∧blk X (w.heap.size+1) [.bool F.e,.int .u32 (F.i:Int),.bool F.r,.int .i64 F.d,.slice fa fm fc] 37) (by kernel_rfl) ?_
  have H1:Hid (sbT w (hoL H s) [.bool F.e,.int .u32 (F.i:Int),.bool F.r,.int .i64 F.d,.slice fa fm fc] (World.drew w1)):=H1.out.below (Below.refl _ _).drew
  change wpAnyH Tryz.prog _ _ _ _ _ _ _ (World.drew w1)
  generalize World.drew w1=v0 at *
  have hS:blk v0 w.heap.size (hoL H s) 30∧blk v0 (w.heap.size+1) [.bool F.e,.int .u32 (F.i:Int),.bool F.r,.int .i64 F.d,.slice fa fm fc] 37:=⟨H1.out.s.p,H1.out.s.f⟩
  refine wT (i:=0) (v:=.agg (hoL H s).toArray) rfl (by kernel_rfl) (by kernel_rfl) (by kernel_rfl) (fun _ _ _ h=>h) (yieldsIf_load_mid (by rfl) 30 _ rfl w.heap.size 0 rfl (hoL H s) _ (fun X h=>h.1.load) Tryz.underlying30 rfl (sz41L H s)) hS ?_
  simp only[Act.put,aA,aB,aC,aD,aE]
  refine wT (i:=2) (v:=.int .i64 t) rfl (by kernel_rfl) (by kernel_rfl) (by kernel_rfl) (fun _ _ _ h=>h) (Or.inl ⟨by rfl,?_⟩) hS ?_
  ·intro W hSw
   clear hS
   go_simp
  simp only[Act.put,aA,aB,aC,aD,aE,aF]
  refine wT (i:=3) (v:=.agg [.bool F.e,.int .u32 (F.i:Int),.bool F.r,.int .i64 F.d,.slice fa fm fc].toArray) rfl (by kernel_rfl) (by kernel_rfl) (by kernel_rfl) (fun _ _ _ h=>h) (yieldsIf_load_mid (by rfl) 37 _ rfl (w.heap.size+1) 0 rfl [.bool F.e,.int .u32 (F.i:Int),.bool F.r,.int .i64 F.d,.slice fa fm fc] _ (fun X h=>h.2.load) Tryz.underlying37 rfl sz93) hS ?_
  simp only[Act.put,aA,aB,aC,aD,aE,aF]
  refine wpAnyH_all (rs:=[1]) (by kernel_rfl) (by simp) ?_
  refine AllReadyH.cons rfl (fun K2 hK2=>?_) AllReadyH.nil
  go_simp
  refine (HC.out v0 H1.out.b).mono ?_
  rintro o w2 ⟨s2,T0,T1,T2,rfl,e4,e2,e3,hb2⟩
  have hn2:s2.n2≤1000:=by rw[e2];have:=HOK.out.n2;omega
  have hn4:s2.n4≤1000:=by rw[e3];exact HOK.out.n4
  have HD:Hid (Calls Tryz.prog 16 #[.agg (hoL H s2).toArray,.int .i64 t,frV F.e F.i F.r F.d fa fm fc] w2 fun o w'=>∃ s',o = .returned (.agg (hoL (subHo H t F) s').toArray)∧St (v0.heap.size+3) w' (fun V=>isHo V (subHo H t F) s'∧slSome s')∧Below (v0.heap.size+3) w2 w'):=l3doSubmit_any (v0.heap.size+3) T0 T1 T2 w2 H s2 t F fa fm fc e4 hn2 hn4 ⟨HOK.out.l0,HOK.out.l1⟩ ⟨HOK.out.s0,HOK.out.s1⟩ (HFB.out.below (H1.out.b.trans (hb2.mono H1.out.b.size))) hfm
  have H2:Hid (sbT w (hoL H s) [.bool F.e,.int .u32 (F.i:Int),.bool F.r,.int .i64 F.d,.slice fa fm fc] w2):=H1.out.below hb2
  have HZ2:Hid (w.heap.size+1+1<v0.heap.size):=H1.out.s.r.lt
  clear e2 e3 e4 hb2 hn2 hn4 H1 HC
  go_wp2_with fail
  refine hK2.out _ _ ⟨H2.out.s.p,H2.out.s.f⟩ (fun hS2=>?_)
  clear hK2 K2 hS
  have hS:=hS2
  clear hS2
  refine wpAnyH_all (rs:=[4]) (by kernel_rfl) (by simp) ?_
  refine AllReadyH.cons rfl (fun K2 hK2=>?_) AllReadyH.nil
  go_simp
  refine HD.out.mono ?_
  rintro o w3 ⟨s3,rfl,q1,q2⟩
  have hS5:blk w3 w.heap.size (hoL H s) 30∧blk w3 (w.heap.size+1) [.bool F.e,.int .u32 (F.i:Int),.bool F.r,.int .i64 F.d,.slice fa fm fc] 37:=⟨hS.1.kept (q2.block _ (by have:=HZ2.out;omega)),hS.2.kept (q2.block _ (by have:=HZ2.out;omega))⟩
  have H3:Hid (blk w3 (w.heap.size+1+1) Z10 30):=H2.out.s.r.kept (q2.block _ (by have:=HZ2.out;omega))
  have HB3:Hid (Below w.heap.size w w3):=H2.out.b.trans (q2.mono (by have:=HZ2.out;omega))
  have HST:Hid (St (v0.heap.size+3) w3 (fun V=>isHo V (subHo H t F) s3∧slSome s3)):=q1
  clear q1 q2 H2 HD
  go_wp2_with fail
  refine hK2.out _ _ hS5 (fun hS2=>?_)
  clear hK2 K2 hS hS5
  have hS:=hS2
  clear hS2
  refine wpAnyH_all (rs:=[5]) (by kernel_rfl) (by simp) ?_
  refine AllReadyH.cons rfl (fun K2 hK2=>?_) AllReadyH.nil
  rw[if_pos (by rfl)]
  refine wp_store_mid 30 _ _ rfl (w.heap.size+1+1) 0 (hoL (subHo H t F) s3).toArray rfl rfl (H3.out.there 0 _ (by rw[List.size_toArray,hoL_len];decide)) (sz41A _ _) (hoL_one _ _) ?_
  have hS5:blk (w3.setCells (w.heap.size+1+1) 0 (hoL (subHo H t F) s3)) w.heap.size (hoL H s) 30∧blk (w3.setCells (w.heap.size+1+1) 0 (hoL (subHo H t F) s3)) (w.heap.size+1) [.bool F.e,.int .u32 (F.i:Int),.bool F.r,.int .i64 F.d,.slice fa fm fc] 37:=⟨hS.1.other (by omega) _ _,hS.2.other (by omega) _ _⟩
  refine hK2.out _ _ hS5 (fun hS2=>?_)
  clear hK2 K2 hS hS5 hS2
  refine wpAnyH_done (by kernel_rfl) ?_ _
  simp only[Act.put]
  generalize hW8:World.setCells w3 (w.heap.size+1+1) 0 (hoL (subHo H t F) s3)=w8
  have HW8:Hid (World.setCells w3 (w.heap.size+1+1) 0 (hoL (subHo H t F) s3)=w8):=hW8
  clear hW8
  go_wp2_with fail
  have e8:=HW8.out
  have hF:blk w8 (w.heap.size+1+1) (hoL (subHo H t F) s3) 30:=by
   rw[← e8]
   have:=blk.put [] Z10 [] (hoL (subHo H t F) s3) (w:=w3) (b:=w.heap.size+1+1) (T:=30) (by simpa using H3.out) (by rw[hoL_len];rfl)
   rw[List.nil_append,List.append_nil] at this
   exact this
  have hL:=run_loadVar_mid (P:=Tryz.prog) w8 (w.heap.size+1+1) 0 30 _ _ hF.load Tryz.underlying30 rfl (sz41L _ _)
  refine bodyPost_ret (v:=.agg (hoL (subHo H t F) s3).toArray) (results_cell Tryz.results6 _ w8 (w.heap.size+1+1) _ rfl hL) rfl ?_
  refine⟨s3,rfl,fun V hV=>HST.out _ (fun x h1 h2=>?_),?_⟩
  ·rw[hV x (by have:=HZ2.out;omega) (by rw[← e8,setCells_size];exact h2),← e8]
   exact setCells_other _ x (by have:=HZ2.out;omega) _ _ _
  ·rw[← e8]
   exact setCells_below (by omega) 0 _ HB3.out
end Go.Proofs.YtgkkcpgocbcbaaaGreat
