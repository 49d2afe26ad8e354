import Derived.Test.YtaamahohdnbpiaaGreatG25
namespace Go.Proofs.YtaamahohdnbpiaaGreat
open Go.RowKit
set_option linter.unusedVariables false
structure beS (w:World) (PB:Nat) (L:List Value) (W:World):Prop where
 p:blk W PB L 97
 b:Below w.heap.size w W
theorem beS.below {w:World} {PB:Nat} {L:List Value} {W W':World} (h:beS w PB L W) (hb:Below W.heap.size W W'):beS w PB L W':=⟨h.p.below hb,h.b.trans (hb.mono h.b.size)⟩
set_option maxHeartbeats 4000000 in
set_option maxRecDepth 20000 in
theorem best_any (w:World) (LB:Nat) (a:Option Addr) (n cap:Nat) (bx:List R8) (st:Int) (hc5:w.cell? ⟨LB,5,none⟩=some (.slice a n cap)) (h:isR8s w a n cap bx) (hn:n≤8) (hok:okBxs st bx) :
  Calls Tryz.prog 62 #[.pointer (some ⟨LB,0,none⟩)] w fun o w'=>∃ r:Int,o = .returned (.int .i64 r)∧bestR bx r∧Below w.heap.size w w':=by
 have hcp:=h.cap
 have HL:Hid (n=bx.length):=h.len
 have HOK:Hid (okBxs st bx):=hok
 have HC5:Hid (∀ W,Below w.heap.size w W→W.cell? ⟨LB,5,none⟩=some (.slice a n cap)):=fun W hW=>(hW.cell (by exact World.block_lt_of_cell? w _ hc5)).trans hc5
 clear hok;by_cases hl:bx=[]
 ·subst hl;have hn0:n=0:=HL.out
  subst hn0;clear h;go_enter Tryz.func62,Tryz.ntmps62
  go_wp2_with fail;go_loopw [3,11] (fun b i wr=>b = .int .i64 (-1)∧i = .int .i64 0∧w=wr) (fun _ _ _=>0)
  case atStart=>exact⟨rfl,rfl,rfl⟩
  case round=>
   obtain⟨rfl,rfl,rfl⟩:=hrel
   go_wp2
   go_ret;exact⟨-1,rfl,Or.inl ⟨rfl,fun i hb=>by obtain⟨hi,_⟩:=hb;cases hi⟩,Below.refl _ _⟩
 obtain⟨g,off,rfl,hc⟩:=h.cells hl
 have HC:Hid (∀ j (h:j<bx.length),∃ ao m c,at8 w g (off+j*8) bx[j] ao m c):=hc
 clear hc h hl;go_enter Tryz.func62,Tryz.ntmps62
 go_wp2_with fail;clear hc5;go_loopw [3,11] (fun b i wr=>∃ (k:Nat) (rr:Int),k≤n∧i = .int .i64 (k:Int)∧b = .int .i64 rr∧bestK bx k rr∧Below w.heap.size w wr) (fun _ i _=>n-(intOf i).toNat)
 case atStart=>exact⟨0,-1,Nat.zero_le _,rfl,rfl,Or.inl ⟨rfl,fun j hj h=>absurd h (Nat.not_lt_zero _)⟩,Below.refl _ _⟩
 case round=>
  obtain⟨k,rr,hk,rfl,rfl,hbk,hbw⟩:=hrel
  have HBK:Hid (bestK bx k rr):=hbk
  have HBW:Hid (Below w.heap.size w wr):=hbw
  clear hbk hbw;by_cases hlt:k<n
  ·have hkl:k<bx.length:=by have:=HL.out;omega
   obtain⟨ao,m,c,hx⟩:=HC.out k hkl
   have HRG:=(hx.below HBW.out).range
   have HDK:Hid (isBytes w ao m c bx[k].l):=hx.dat
   have HSK0:Hid (bx[k].x≠1→bestK bx (k+1) rr):=bestK_skip HBK.out hkl
   have HFI0:Hid (rr = -1→bx[k].x=1→bestK bx (k+1) k):=fun e hx1=>bestK_first (e ▸ HBK.out) hkl hx1
   have HAH0:Hid (∀ q:Nat,rr=q→∀ hq:q<bx.length,bx[k].x=1→befS bx[k] bx[q]=true→bestK bx (k+1) k):=fun q e hq hx1 hb=>bestK_ahead (e ▸ HBK.out) hkl hq hx1 hb
   have HBE0:Hid (∀ q:Nat,rr=q→∀ hq:q<bx.length,bx[k].x=1→befS bx[k] bx[q]=false→bestK bx (k+1) q):=fun q e hq hx1 hb=>bestK_behind HOK.out (e ▸ HBK.out) hkl hq hx1 hb
   obtain⟨b,hb⟩ : ∃ b,bx[k]=b:=⟨_,rfl⟩
   rw[hb] at HRG HDK HSK0 HFI0 HAH0 HBE0
   obtain⟨x,y,z,e,i,r,d,l⟩:=b
   have HRG:Hid (wr.rangeAt g (off+k*8) [.int .i64 x,.int .i64 y,.int .i64 z,.bool e,.int .u32 (i:Int),.bool r,.int .i64 d,.slice ao m c]):=HRG
   simp only[] at HDK HSK0 HFI0 HAH0 HBE0
   clear hx hb;by_cases hx1:x=1
   ·subst hx1;have HRC:Hid (rr = -1∨∃ q:Nat,rr=q∧q<n):=by
     rcases HBK.out with⟨h,_⟩|⟨q,h,hqk,_⟩
     ·exact Or.inl h
     ·exact Or.inr ⟨q,h,by omega⟩
    clear HSK0;by_cases hr1:rr = -1
    ·have HFI:Hid (bestK bx (k+1) (k:Int)):=HFI0.out hr1 rfl
     subst hr1;clear HFI0 HAH0 HBE0 HBK HRC HDK;have HS0:Hid (beS w wr.heap.size [.int .i64 1,.int .i64 y,.int .i64 z,.bool e,.int .u32 (i:Int),.bool r,.int .i64 d,.slice ao m c] (wr.alloc (.cells #[.int .i64 1,.int .i64 y,.int .i64 z,.bool e,.int .u32 (i:Int),.bool r,.int .i64 d,.slice ao m c] 97))):=⟨blk.new wr _ 97,HBW.out.trans (((Below.refl _ wr).alloc (Nat.le_refl _) _).mono HBW.out.size)⟩
     go_wp2_with (first
      | (refine wpList_load_mid (P:=Tryz.prog) rfl 97 _ rfl g (off+k*8) rfl _ _ HRG.out Tryz.underlying97 rfl sz95 ?_))
     generalize (wr.alloc (.cells #[.int .i64 1,.int .i64 y,.int .i64 z,.bool e,.int .u32 (i:Int),.bool r,.int .i64 d,.slice ao m c] 97))=w3 at *;generalize wr.heap.size=PB at *;refine wp_region_held (S:=beS w PB [.int .i64 1,.int .i64 y,.int .i64 z,.bool e,.int .u32 (i:Int),.bool r,.int .i64 d,.slice ao m c]) (by kernel_rfl) ?_
     have hS:beS w PB [.int .i64 1,.int .i64 y,.int .i64 z,.bool e,.int .u32 (i:Int),.bool r,.int .i64 d,.slice ao m c] w3.drew:=HS0.out.below (Below.refl _ _).drew
     refine wT (i:=0) (v:=.pointer (some ⟨PB,0,none⟩)) rfl (by kernel_rfl) (by kernel_rfl) (by kernel_rfl) (fun _ _ _ h=>h) (Or.inl ⟨by rfl,?_⟩) hS ?_
     ·intro W hSw;clear hS;go_simp
     simp only[Act.put,aA,aB,aC,aD,aE]
     refine wT (i:=1) (v:=.int .i64 1) rfl (by kernel_rfl) (by kernel_rfl) (by kernel_rfl) (fun _ _ _ h=>h) (Or.inl ⟨by rfl,?_⟩) hS ?_
     ·intro W hSw;have hc:=hSw.p.cell 0 _ rfl
      clear hS;go_simp
     simp only[Act.put,aA,aB,aC,aD,aE,aF];refine wT (i:=2) (v:=.bool true) rfl (by kernel_rfl) (by kernel_rfl) (by kernel_rfl) (fun _ _ _ h=>h) (Or.inl ⟨by rfl,?_⟩) hS ?_
     ·intro W hSw;clear hS;go_simp
     simp only[Act.put,aA,aB,aC,aD,aE,aF];refine wT (i:=3) (v:=.bool true) rfl (by kernel_rfl) (by kernel_rfl) (by kernel_rfl) (fun _ _ _ h=>h) (Or.inl ⟨by rfl,?_⟩) hS ?_
     ·intro W hSw;clear hS;go_simp
     simp only[Act.put,aA,aB,aC,aD,aE,aF];refine wT (i:=4) (v:=.int .i64 (-1)) rfl (by kernel_rfl) (by kernel_rfl) (by kernel_rfl) (fun _ _ _ h=>h) (Or.inl ⟨by rfl,?_⟩) hS ?_
     ·intro W hSw;clear hS;go_simp
     simp only[Act.put,aA,aB,aC,aD,aE,aF];refine wT (i:=5) (v:=.bool true) rfl (by kernel_rfl) (by kernel_rfl) (by kernel_rfl) (fun _ _ _ h=>h) (Or.inl ⟨by rfl,?_⟩) hS ?_
     ·intro W hSw;clear hS;go_simp
     simp only[Act.put,aA,aB,aC,aD,aE,aF];refine wT (i:=6) (v:=.bool true) rfl (by kernel_rfl) (by kernel_rfl) (by kernel_rfl) (fun _ _ _ h=>h) (Or.inl ⟨by rfl,?_⟩) hS ?_
     ·intro W hSw;clear hS;go_simp
     simp only[Act.put,aA,aB,aC,aD,aE,aF];refine wT (i:=7) (v:=undef) rfl (by kernel_rfl) (by kernel_rfl) (by kernel_rfl) (fun _ _ _ h=>h) (Or.inr ⟨by rfl,rfl⟩) hS ?_
     simp only[Act.put,aA,aB,aC,aD,aE,aF];refine wT (i:=8) (v:=undef) rfl (by kernel_rfl) (by kernel_rfl) (by kernel_rfl) (fun _ _ _ h=>h) (Or.inr ⟨by rfl,rfl⟩) hS ?_
     simp only[Act.put,aA,aB,aC,aD,aE,aF];refine wT (i:=9) (v:=undef) rfl (by kernel_rfl) (by kernel_rfl) (by kernel_rfl) (fun _ _ _ h=>h) (Or.inr ⟨by rfl,rfl⟩) hS ?_
     simp only[Act.put,aA,aB,aC,aD,aE,aF];refine wT (i:=10) (v:=undef) rfl (by kernel_rfl) (by kernel_rfl) (by kernel_rfl) (fun _ _ _ h=>h) (Or.inr ⟨by rfl,rfl⟩) hS ?_
     simp only[Act.put,aA,aB,aC,aD,aE,aF];refine wT (i:=11) (v:=undef) rfl (by kernel_rfl) (by kernel_rfl) (by kernel_rfl) (fun _ _ _ h=>h) (Or.inr ⟨by rfl,rfl⟩) hS ?_
     simp only[Act.put,aA,aB,aC,aD,aE,aF];refine wT (i:=12) (v:=undef) rfl (by kernel_rfl) (by kernel_rfl) (by kernel_rfl) (fun _ _ _ h=>h) (Or.inr ⟨by rfl,rfl⟩) hS ?_
     simp only[Act.put,aA,aB,aC,aD,aE,aF];refine wT (i:=13) (v:=undef) rfl (by kernel_rfl) (by kernel_rfl) (by kernel_rfl) (fun _ _ _ h=>h) (Or.inr ⟨by rfl,rfl⟩) hS ?_
     simp only[Act.put,aA,aB,aC,aD,aE,aF];refine wT (i:=14) (v:=undef) rfl (by kernel_rfl) (by kernel_rfl) (by kernel_rfl) (fun _ _ _ h=>h) (Or.inr ⟨by rfl,rfl⟩) hS ?_
     simp only[Act.put,aA,aB,aC,aD,aE,aF];refine wT (i:=15) (v:=undef) rfl (by kernel_rfl) (by kernel_rfl) (by kernel_rfl) (fun _ _ _ h=>h) (Or.inr ⟨by rfl,rfl⟩) hS ?_
     simp only[Act.put,aA,aB,aC,aD,aE,aF];refine wT (i:=16) (v:=.bool true) rfl (by kernel_rfl) (by kernel_rfl) (by kernel_rfl) (fun _ _ _ h=>h) (Or.inl ⟨by rfl,?_⟩) hS ?_
     ·intro W hSw;clear hS;go_simp
     simp only[Act.put,aA,aB,aC,aD,aE,aF];refine wT (i:=17) (v:=.bool true) rfl (by kernel_rfl) (by kernel_rfl) (by kernel_rfl) (fun _ _ _ h=>h) (Or.inl ⟨by rfl,?_⟩) hS ?_
     ·intro W hSw;clear hS;go_simp
     simp only[Act.put,aA,aB,aC,aD,aE,aF];refine wpAnyH_done (by kernel_rfl) ?_ _
     have HB9:Hid (Below w.heap.size w _):=hS.b
     clear hS;go_wp2
     go_roundw
     case rel=>exact⟨k+1,(k:Int),by omega,by go_num,rfl,HFI.out,HB9.out⟩
     case measure=>simp[intOf];omega
    ·obtain⟨q,hrq,hqn⟩ : ∃ q:Nat,rr=q∧q<n:=HRC.out.resolve_left hr1
     subst hrq;have hql:q<bx.length:=by have:=HL.out;omega
     obtain⟨ao',m',c',hxq⟩:=HC.out q hql
     have HAH:Hid (befS ⟨1,y,z,e,i,r,d,l⟩ bx[q]=true→bestK bx (k+1) (k:Int)):=HAH0.out q rfl hql rfl
     have HBE:Hid (befS ⟨1,y,z,e,i,r,d,l⟩ bx[q]=false→bestK bx (k+1) (q:Int)):=HBE0.out q rfl hql rfl
     have HRQ:=fun W (hW:Below w.heap.size w W)=>(hxq.below hW).range
     have HGA:=fun W (hW:Below w.heap.size w W)=>goesAhead_any W ⟨1,y,z,e,i,r,d,l⟩ bx[q] ao m c ao' m' c' (HDK.out.below hW) (hxq.dat.below hW)
     obtain⟨b',hb'⟩ : ∃ b,bx[q]=b:=⟨_,rfl⟩
     rw[hb'] at HAH HBE HRQ HGA
     obtain⟨x',y',z',e',i',r',d',l'⟩:=b'
     have HRQ:Hid (∀ W,Below w.heap.size w W→W.rangeAt g (off+q*8) [.int .i64 x',.int .i64 y',.int .i64 z',.bool e',.int .u32 (i':Int),.bool r',.int .i64 d',.slice ao' m' c']):=HRQ
     have HGA:Hid (∀ W,Below w.heap.size w W→Calls Tryz.prog 130 #[.agg #[.int .i64 1,.int .i64 y,.int .i64 z,.bool e,.int .u32 (i:Int),.bool r,.int .i64 d,.slice ao m c],.agg #[.int .i64 x',.int .i64 y',.int .i64 z',.bool e',.int .u32 (i':Int),.bool r',.int .i64 d',.slice ao' m' c']] W fun o w'=>o = .returned (.bool (befS ⟨1,y,z,e,i,r,d,l⟩ ⟨x',y',z',e',i',r',d',l'⟩))∧Below W.heap.size W w'):=HGA
     have hq0:decide ((q:Int)<0)=false:=by simp
     clear HFI0 HAH0 HBE0 HBK HRC HDK hxq hb' hr1;generalize befS ⟨1,y,z,e,i,r,d,l⟩ ⟨x',y',z',e',i',r',d',l'⟩=bf at *;cases bf with
     | true=>
      have HAH2:Hid (bestK bx (k+1) (k:Int)):=HAH.out rfl
      clear HAH HBE;have HS0:Hid (beS w wr.heap.size [.int .i64 1,.int .i64 y,.int .i64 z,.bool e,.int .u32 (i:Int),.bool r,.int .i64 d,.slice ao m c] (wr.alloc (.cells #[.int .i64 1,.int .i64 y,.int .i64 z,.bool e,.int .u32 (i:Int),.bool r,.int .i64 d,.slice ao m c] 97))):=⟨blk.new wr _ 97,HBW.out.trans (((Below.refl _ wr).alloc (Nat.le_refl _) _).mono HBW.out.size)⟩
      go_wp2_with (first
       | (refine wpList_load_mid (P:=Tryz.prog) rfl 97 _ rfl g (off+k*8) rfl _ _ HRG.out Tryz.underlying97 rfl sz95 ?_))
      generalize (wr.alloc (.cells #[.int .i64 1,.int .i64 y,.int .i64 z,.bool e,.int .u32 (i:Int),.bool r,.int .i64 d,.slice ao m c] 97))=w3 at *;generalize wr.heap.size=PB at *;refine wp_region_held (S:=beS w PB [.int .i64 1,.int .i64 y,.int .i64 z,.bool e,.int .u32 (i:Int),.bool r,.int .i64 d,.slice ao m c]) (by kernel_rfl) ?_
      have hS:beS w PB [.int .i64 1,.int .i64 y,.int .i64 z,.bool e,.int .u32 (i:Int),.bool r,.int .i64 d,.slice ao m c] w3.drew:=HS0.out.below (Below.refl _ _).drew
      refine wT (i:=0) (v:=.pointer (some ⟨PB,0,none⟩)) rfl (by kernel_rfl) (by kernel_rfl) (by kernel_rfl) (fun _ _ _ h=>h) (Or.inl ⟨by rfl,?_⟩) hS ?_
      ·intro W hSw;clear hS;go_simp
      simp only[Act.put,aA,aB,aC,aD,aE]
      refine wT (i:=1) (v:=.int .i64 1) rfl (by kernel_rfl) (by kernel_rfl) (by kernel_rfl) (fun _ _ _ h=>h) (Or.inl ⟨by rfl,?_⟩) hS ?_
      ·intro W hSw;have hc:=hSw.p.cell 0 _ rfl
       clear hS;go_simp
      simp only[Act.put,aA,aB,aC,aD,aE,aF];refine wT (i:=2) (v:=.bool true) rfl (by kernel_rfl) (by kernel_rfl) (by kernel_rfl) (fun _ _ _ h=>h) (Or.inl ⟨by rfl,?_⟩) hS ?_
      ·intro W hSw;clear hS;go_simp
      simp only[Act.put,aA,aB,aC,aD,aE,aF];refine wT (i:=3) (v:=.bool true) rfl (by kernel_rfl) (by kernel_rfl) (by kernel_rfl) (fun _ _ _ h=>h) (Or.inl ⟨by rfl,?_⟩) hS ?_
      ·intro W hSw;clear hS;go_simp
      simp only[Act.put,aA,aB,aC,aD,aE,aF];refine wT (i:=4) (v:=.int .i64 (q:Int)) rfl (by kernel_rfl) (by kernel_rfl) (by kernel_rfl) (fun _ _ _ h=>h) (Or.inl ⟨by rfl,?_⟩) hS ?_
      ·intro W hSw;clear hS;go_simp
      simp only[Act.put,aA,aB,aC,aD,aE,aF];refine wT (i:=5) (v:=.bool false) rfl (by kernel_rfl) (by kernel_rfl) (by kernel_rfl) (fun _ _ _ h=>h) (Or.inl ⟨by rfl,?_⟩) hS ?_
      ·intro W hSw;clear hS;go_simp
      simp only[Act.put,aA,aB,aC,aD,aE,aF];refine wT (i:=6) (v:=.bool false) rfl (by kernel_rfl) (by kernel_rfl) (by kernel_rfl) (fun _ _ _ h=>h) (Or.inl ⟨by rfl,?_⟩) hS ?_
      ·intro W hSw;clear hS;go_simp
      simp only[Act.put,aA,aB,aC,aD,aE,aF];refine wT (i:=7) (v:=.agg [.int .i64 1,.int .i64 y,.int .i64 z,.bool e,.int .u32 (i:Int),.bool r,.int .i64 d,.slice ao m c].toArray) rfl (by kernel_rfl) (by kernel_rfl) (by kernel_rfl) (fun _ _ _ h=>h) (yieldsIf_load_mid (by rfl) 97 (.tmp 5) rfl PB 0 rfl [.int .i64 1,.int .i64 y,.int .i64 z,.bool e,.int .u32 (i:Int),.bool r,.int .i64 d,.slice ao m c] _ (fun W h=>h.p.load) Tryz.underlying97 rfl sz95) hS ?_
      simp only[Act.put,aA,aB,aC,aD,aE,aF];refine wT (i:=8) (v:=.pointer (some ⟨LB,0,none⟩)) rfl (by kernel_rfl) (by kernel_rfl) (by kernel_rfl) (fun _ _ _ h=>h) (Or.inl ⟨by rfl,?_⟩) hS ?_
      ·intro W hSw;clear hS;go_simp
      simp only[Act.put,aA,aB,aC,aD,aE,aF];refine wT (i:=9) (v:=.pointer (some ⟨LB,0,none⟩)) rfl (by kernel_rfl) (by kernel_rfl) (by kernel_rfl) (fun _ _ _ h=>h) (Or.inl ⟨by rfl,?_⟩) hS ?_
      ·intro W hSw;clear hS;go_simp
      simp only[Act.put,aA,aB,aC,aD,aE,aF];refine wT (i:=10) (v:=.pointer (some ⟨LB,5,none⟩)) rfl (by kernel_rfl) (by kernel_rfl) (by kernel_rfl) (fun _ _ _ h=>h) (Or.inl ⟨by rfl,?_⟩) hS ?_
      ·intro W hSw;clear hS;go_simp
      simp only[Act.put,aA,aB,aC,aD,aE,aF];refine wT (i:=11) (v:=.slice (some ⟨g,off,none⟩) n cap) rfl (by kernel_rfl) (by kernel_rfl) (by kernel_rfl) (fun _ _ _ h=>h) (Or.inl ⟨by rfl,?_⟩) hS ?_
      ·intro W hSw;have hc:=HC5.out W hSw.b
       clear hS;go_simp
      simp only[Act.put,aA,aB,aC,aD,aE,aF];refine wT (i:=12) (v:=.int .i64 (q:Int)) rfl (by kernel_rfl) (by kernel_rfl) (by kernel_rfl) (fun _ _ _ h=>h) (Or.inl ⟨by rfl,?_⟩) hS ?_
      ·intro W hSw;clear hS;go_simp
      simp only[Act.put,aA,aB,aC,aD,aE,aF];refine wT (i:=13) (v:=.pointer (some ⟨g,off+q*8,none⟩)) rfl (by kernel_rfl) (by kernel_rfl) (by kernel_rfl) (fun _ _ _ h=>h) (Or.inl ⟨by rfl,?_⟩) hS ?_
      ·intro W hSw;clear hS;go_simp
      simp only[Act.put,aA,aB,aC,aD,aE,aF];refine wT (i:=14) (v:=.agg [.int .i64 x',.int .i64 y',.int .i64 z',.bool e',.int .u32 (i':Int),.bool r',.int .i64 d',.slice ao' m' c'].toArray) rfl (by kernel_rfl) (by kernel_rfl) (by kernel_rfl) (fun _ _ _ h=>h) (yieldsIf_load_mid (by rfl) 97 (.tmp 29) rfl g (off+q*8) rfl [.int .i64 x',.int .i64 y',.int .i64 z',.bool e',.int .u32 (i':Int),.bool r',.int .i64 d',.slice ao' m' c'] _ (fun W h=>HRQ.out W h.b) Tryz.underlying97 rfl sz95) hS ?_
      simp only[Act.put,aA,aB,aC,aD,aE,aF];refine wpAnyH_all (rs:=[15]) (by kernel_rfl) (by simp) ?_
      refine AllReadyH.cons rfl (fun K hK=>?_) AllReadyH.nil
      go_simp;refine (HGA.out _ hS.b).mono ?_
      rintro o w6 ⟨rfl,hb6⟩;have hS1:=hS.below hb6
      go_wp2_with fail;refine hK.out _ _ hS1 (fun hS2=>?_)
      clear hS hK K hS1 hb6;have hS:=hS2
      clear hS2;refine wT (i:=16) (v:=.bool true) rfl (by kernel_rfl) (by kernel_rfl) (by kernel_rfl) (fun _ _ _ h=>h) (Or.inl ⟨by rfl,?_⟩) hS ?_
      ·intro W hSw;clear hS;go_simp
      simp only[Act.put,aA,aB,aC,aD,aE,aF];refine wT (i:=17) (v:=.bool true) rfl (by kernel_rfl) (by kernel_rfl) (by kernel_rfl) (fun _ _ _ h=>h) (Or.inl ⟨by rfl,?_⟩) hS ?_
      ·intro W hSw;clear hS;go_simp
      simp only[Act.put,aA,aB,aC,aD,aE,aF];refine wpAnyH_done (by kernel_rfl) ?_ _
      have HB9:Hid (Below w.heap.size w _):=hS.b
      clear hS;go_wp2
      go_roundw
      case rel=>exact⟨k+1,(k:Int),by omega,by go_num,rfl,HAH2.out,HB9.out⟩
      case measure=>simp[intOf];omega
     | false=>
      have HBE2:Hid (bestK bx (k+1) (q:Int)):=HBE.out rfl
      clear HAH HBE;have HS0:Hid (beS w wr.heap.size [.int .i64 1,.int .i64 y,.int .i64 z,.bool e,.int .u32 (i:Int),.bool r,.int .i64 d,.slice ao m c] (wr.alloc (.cells #[.int .i64 1,.int .i64 y,.int .i64 z,.bool e,.int .u32 (i:Int),.bool r,.int .i64 d,.slice ao m c] 97))):=⟨blk.new wr _ 97,HBW.out.trans (((Below.refl _ wr).alloc (Nat.le_refl _) _).mono HBW.out.size)⟩
      go_wp2_with (first
       | (refine wpList_load_mid (P:=Tryz.prog) rfl 97 _ rfl g (off+k*8) rfl _ _ HRG.out Tryz.underlying97 rfl sz95 ?_))
      generalize (wr.alloc (.cells #[.int .i64 1,.int .i64 y,.int .i64 z,.bool e,.int .u32 (i:Int),.bool r,.int .i64 d,.slice ao m c] 97))=w3 at *;generalize wr.heap.size=PB at *;refine wp_region_held (S:=beS w PB [.int .i64 1,.int .i64 y,.int .i64 z,.bool e,.int .u32 (i:Int),.bool r,.int .i64 d,.slice ao m c]) (by kernel_rfl) ?_
      have hS:beS w PB [.int .i64 1,.int .i64 y,.int .i64 z,.bool e,.int .u32 (i:Int),.bool r,.int .i64 d,.slice ao m c] w3.drew:=HS0.out.below (Below.refl _ _).drew
      refine wT (i:=0) (v:=.pointer (some ⟨PB,0,none⟩)) rfl (by kernel_rfl) (by kernel_rfl) (by kernel_rfl) (fun _ _ _ h=>h) (Or.inl ⟨by rfl,?_⟩) hS ?_
      ·intro W hSw;clear hS;go_simp
      simp only[Act.put,aA,aB,aC,aD,aE]
      refine wT (i:=1) (v:=.int .i64 1) rfl (by kernel_rfl) (by kernel_rfl) (by kernel_rfl) (fun _ _ _ h=>h) (Or.inl ⟨by rfl,?_⟩) hS ?_
      ·intro W hSw;have hc:=hSw.p.cell 0 _ rfl
       clear hS;go_simp
      simp only[Act.put,aA,aB,aC,aD,aE,aF];refine wT (i:=2) (v:=.bool true) rfl (by kernel_rfl) (by kernel_rfl) (by kernel_rfl) (fun _ _ _ h=>h) (Or.inl ⟨by rfl,?_⟩) hS ?_
      ·intro W hSw;clear hS;go_simp
      simp only[Act.put,aA,aB,aC,aD,aE,aF];refine wT (i:=3) (v:=.bool true) rfl (by kernel_rfl) (by kernel_rfl) (by kernel_rfl) (fun _ _ _ h=>h) (Or.inl ⟨by rfl,?_⟩) hS ?_
      ·intro W hSw;clear hS;go_simp
      simp only[Act.put,aA,aB,aC,aD,aE,aF];refine wT (i:=4) (v:=.int .i64 (q:Int)) rfl (by kernel_rfl) (by kernel_rfl) (by kernel_rfl) (fun _ _ _ h=>h) (Or.inl ⟨by rfl,?_⟩) hS ?_
      ·intro W hSw;clear hS;go_simp
      simp only[Act.put,aA,aB,aC,aD,aE,aF];refine wT (i:=5) (v:=.bool false) rfl (by kernel_rfl) (by kernel_rfl) (by kernel_rfl) (fun _ _ _ h=>h) (Or.inl ⟨by rfl,?_⟩) hS ?_
      ·intro W hSw;clear hS;go_simp
      simp only[Act.put,aA,aB,aC,aD,aE,aF];refine wT (i:=6) (v:=.bool false) rfl (by kernel_rfl) (by kernel_rfl) (by kernel_rfl) (fun _ _ _ h=>h) (Or.inl ⟨by rfl,?_⟩) hS ?_
      ·intro W hSw;clear hS;go_simp
      simp only[Act.put,aA,aB,aC,aD,aE,aF];refine wT (i:=7) (v:=.agg [.int .i64 1,.int .i64 y,.int .i64 z,.bool e,.int .u32 (i:Int),.bool r,.int .i64 d,.slice ao m c].toArray) rfl (by kernel_rfl) (by kernel_rfl) (by kernel_rfl) (fun _ _ _ h=>h) (yieldsIf_load_mid (by rfl) 97 (.tmp 5) rfl PB 0 rfl [.int .i64 1,.int .i64 y,.int .i64 z,.bool e,.int .u32 (i:Int),.bool r,.int .i64 d,.slice ao m c] _ (fun W h=>h.p.load) Tryz.underlying97 rfl sz95) hS ?_
      simp only[Act.put,aA,aB,aC,aD,aE,aF];refine wT (i:=8) (v:=.pointer (some ⟨LB,0,none⟩)) rfl (by kernel_rfl) (by kernel_rfl) (by kernel_rfl) (fun _ _ _ h=>h) (Or.inl ⟨by rfl,?_⟩) hS ?_
      ·intro W hSw;clear hS;go_simp
      simp only[Act.put,aA,aB,aC,aD,aE,aF];refine wT (i:=9) (v:=.pointer (some ⟨LB,0,none⟩)) rfl (by kernel_rfl) (by kernel_rfl) (by kernel_rfl) (fun _ _ _ h=>h) (Or.inl ⟨by rfl,?_⟩) hS ?_
      ·intro W hSw;clear hS;go_simp
      simp only[Act.put,aA,aB,aC,aD,aE,aF];refine wT (i:=10) (v:=.pointer (some ⟨LB,5,none⟩)) rfl (by kernel_rfl) (by kernel_rfl) (by kernel_rfl) (fun _ _ _ h=>h) (Or.inl ⟨by rfl,?_⟩) hS ?_
      ·intro W hSw;clear hS;go_simp
      simp only[Act.put,aA,aB,aC,aD,aE,aF];refine wT (i:=11) (v:=.slice (some ⟨g,off,none⟩) n cap) rfl (by kernel_rfl) (by kernel_rfl) (by kernel_rfl) (fun _ _ _ h=>h) (Or.inl ⟨by rfl,?_⟩) hS ?_
      ·intro W hSw;have hc:=HC5.out W hSw.b
       clear hS;go_simp
      simp only[Act.put,aA,aB,aC,aD,aE,aF];refine wT (i:=12) (v:=.int .i64 (q:Int)) rfl (by kernel_rfl) (by kernel_rfl) (by kernel_rfl) (fun _ _ _ h=>h) (Or.inl ⟨by rfl,?_⟩) hS ?_
      ·intro W hSw;clear hS;go_simp
      simp only[Act.put,aA,aB,aC,aD,aE,aF];refine wT (i:=13) (v:=.pointer (some ⟨g,off+q*8,none⟩)) rfl (by kernel_rfl) (by kernel_rfl) (by kernel_rfl) (fun _ _ _ h=>h) (Or.inl ⟨by rfl,?_⟩) hS ?_
      ·intro W hSw;clear hS;go_simp
      simp only[Act.put,aA,aB,aC,aD,aE,aF];refine wT (i:=14) (v:=.agg [.int .i64 x',.int .i64 y',.int .i64 z',.bool e',.int .u32 (i':Int),.bool r',.int .i64 d',.slice ao' m' c'].toArray) rfl (by kernel_rfl) (by kernel_rfl) (by kernel_rfl) (fun _ _ _ h=>h) (yieldsIf_load_mid (by rfl) 97 (.tmp 29) rfl g (off+q*8) rfl [.int .i64 x',.int .i64 y',.int .i64 z',.bool e',.int .u32 (i':Int),.bool r',.int .i64 d',.slice ao' m' c'] _ (fun W h=>HRQ.out W h.b) Tryz.underlying97 rfl sz95) hS ?_
      simp only[Act.put,aA,aB,aC,aD,aE,aF];refine wpAnyH_all (rs:=[15]) (by kernel_rfl) (by simp) ?_
      refine AllReadyH.cons rfl (fun K hK=>?_) AllReadyH.nil
      go_simp;refine (HGA.out _ hS.b).mono ?_
      rintro o w6 ⟨rfl,hb6⟩;have hS1:=hS.below hb6
      go_wp2_with fail;refine hK.out _ _ hS1 (fun hS2=>?_)
      clear hS hK K hS1 hb6;have hS:=hS2
      clear hS2;refine wT (i:=16) (v:=.bool false) rfl (by kernel_rfl) (by kernel_rfl) (by kernel_rfl) (fun _ _ _ h=>h) (Or.inl ⟨by rfl,?_⟩) hS ?_
      ·intro W hSw;clear hS;go_simp
      simp only[Act.put,aA,aB,aC,aD,aE,aF];refine wT (i:=17) (v:=.bool false) rfl (by kernel_rfl) (by kernel_rfl) (by kernel_rfl) (fun _ _ _ h=>h) (Or.inl ⟨by rfl,?_⟩) hS ?_
      ·intro W hSw;clear hS;go_simp
      simp only[Act.put,aA,aB,aC,aD,aE,aF];refine wpAnyH_done (by kernel_rfl) ?_ _
      have HB9:Hid (Below w.heap.size w _):=hS.b
      clear hS;go_wp2
      go_roundw
      case rel=>exact⟨k+1,(q:Int),by omega,by go_num,rfl,HBE2.out,HB9.out⟩
      case measure=>simp[intOf];omega
   ·have HSK:Hid (bestK bx (k+1) rr):=HSK0.out hx1
    have hx1':(x == 1)=false:=by simpa using hx1
    clear HSK0 HFI0 HAH0 HBE0 HBK HDK hx1;have HS0:Hid (beS w wr.heap.size [.int .i64 x,.int .i64 y,.int .i64 z,.bool e,.int .u32 (i:Int),.bool r,.int .i64 d,.slice ao m c] (wr.alloc (.cells #[.int .i64 x,.int .i64 y,.int .i64 z,.bool e,.int .u32 (i:Int),.bool r,.int .i64 d,.slice ao m c] 97))):=⟨blk.new wr _ 97,HBW.out.trans (((Below.refl _ wr).alloc (Nat.le_refl _) _).mono HBW.out.size)⟩
    go_wp2_with (first
     | (refine wpList_load_mid (P:=Tryz.prog) rfl 97 _ rfl g (off+k*8) rfl _ _ HRG.out Tryz.underlying97 rfl sz95 ?_))
    generalize (wr.alloc (.cells #[.int .i64 x,.int .i64 y,.int .i64 z,.bool e,.int .u32 (i:Int),.bool r,.int .i64 d,.slice ao m c] 97))=w3 at *;generalize wr.heap.size=PB at *;refine wp_region_held (S:=beS w PB [.int .i64 x,.int .i64 y,.int .i64 z,.bool e,.int .u32 (i:Int),.bool r,.int .i64 d,.slice ao m c]) (by kernel_rfl) ?_
    have hS:beS w PB [.int .i64 x,.int .i64 y,.int .i64 z,.bool e,.int .u32 (i:Int),.bool r,.int .i64 d,.slice ao m c] w3.drew:=HS0.out.below (Below.refl _ _).drew
    refine wT (i:=0) (v:=.pointer (some ⟨PB,0,none⟩)) rfl (by kernel_rfl) (by kernel_rfl) (by kernel_rfl) (fun _ _ _ h=>h) (Or.inl ⟨by rfl,?_⟩) hS ?_
    ·intro W hSw;clear hS;go_simp
    simp only[Act.put,aA,aB,aC,aD,aE]
    refine wT (i:=1) (v:=.int .i64 x) rfl (by kernel_rfl) (by kernel_rfl) (by kernel_rfl) (fun _ _ _ h=>h) (Or.inl ⟨by rfl,?_⟩) hS ?_
    ·intro W hSw;have hc:=hSw.p.cell 0 _ rfl
     clear hS;go_simp
    simp only[Act.put,aA,aB,aC,aD,aE,aF];refine wT (i:=2) (v:=.bool false) rfl (by kernel_rfl) (by kernel_rfl) (by kernel_rfl) (fun _ _ _ h=>h) (Or.inl ⟨by rfl,?_⟩) hS ?_
    ·intro W hSw;clear hS;go_simp
    simp only[Act.put,aA,aB,aC,aD,aE,aF];refine wT (i:=3) (v:=.bool false) rfl (by kernel_rfl) (by kernel_rfl) (by kernel_rfl) (fun _ _ _ h=>h) (Or.inl ⟨by rfl,?_⟩) hS ?_
    ·intro W hSw;clear hS;go_simp
    simp only[Act.put,aA,aB,aC,aD,aE,aF];refine wT (i:=4) (v:=undef) rfl (by kernel_rfl) (by kernel_rfl) (by kernel_rfl) (fun _ _ _ h=>h) (Or.inr ⟨by rfl,rfl⟩) hS ?_
    simp only[Act.put,aA,aB,aC,aD,aE,aF];refine wT (i:=5) (v:=undef) rfl (by kernel_rfl) (by kernel_rfl) (by kernel_rfl) (fun _ _ _ h=>h) (Or.inr ⟨by rfl,rfl⟩) hS ?_
    simp only[Act.put,aA,aB,aC,aD,aE,aF];refine wT (i:=6) (v:=undef) rfl (by kernel_rfl) (by kernel_rfl) (by kernel_rfl) (fun _ _ _ h=>h) (Or.inr ⟨by rfl,rfl⟩) hS ?_
    simp only[Act.put,aA,aB,aC,aD,aE,aF];refine wT (i:=7) (v:=undef) rfl (by kernel_rfl) (by kernel_rfl) (by kernel_rfl) (fun _ _ _ h=>h) (Or.inr ⟨by rfl,rfl⟩) hS ?_
    simp only[Act.put,aA,aB,aC,aD,aE,aF];refine wT (i:=8) (v:=undef) rfl (by kernel_rfl) (by kernel_rfl) (by kernel_rfl) (fun _ _ _ h=>h) (Or.inr ⟨by rfl,rfl⟩) hS ?_
    simp only[Act.put,aA,aB,aC,aD,aE,aF];refine wT (i:=9) (v:=undef) rfl (by kernel_rfl) (by kernel_rfl) (by kernel_rfl) (fun _ _ _ h=>h) (Or.inr ⟨by rfl,rfl⟩) hS ?_
    simp only[Act.put,aA,aB,aC,aD,aE,aF];refine wT (i:=10) (v:=undef) rfl (by kernel_rfl) (by kernel_rfl) (by kernel_rfl) (fun _ _ _ h=>h) (Or.inr ⟨by rfl,rfl⟩) hS ?_
    simp only[Act.put,aA,aB,aC,aD,aE,aF];refine wT (i:=11) (v:=undef) rfl (by kernel_rfl) (by kernel_rfl) (by kernel_rfl) (fun _ _ _ h=>h) (Or.inr ⟨by rfl,rfl⟩) hS ?_
    simp only[Act.put,aA,aB,aC,aD,aE,aF];refine wT (i:=12) (v:=undef) rfl (by kernel_rfl) (by kernel_rfl) (by kernel_rfl) (fun _ _ _ h=>h) (Or.inr ⟨by rfl,rfl⟩) hS ?_
    simp only[Act.put,aA,aB,aC,aD,aE,aF];refine wT (i:=13) (v:=undef) rfl (by kernel_rfl) (by kernel_rfl) (by kernel_rfl) (fun _ _ _ h=>h) (Or.inr ⟨by rfl,rfl⟩) hS ?_
    simp only[Act.put,aA,aB,aC,aD,aE,aF];refine wT (i:=14) (v:=undef) rfl (by kernel_rfl) (by kernel_rfl) (by kernel_rfl) (fun _ _ _ h=>h) (Or.inr ⟨by rfl,rfl⟩) hS ?_
    simp only[Act.put,aA,aB,aC,aD,aE,aF];refine wT (i:=15) (v:=undef) rfl (by kernel_rfl) (by kernel_rfl) (by kernel_rfl) (fun _ _ _ h=>h) (Or.inr ⟨by rfl,rfl⟩) hS ?_
    simp only[Act.put,aA,aB,aC,aD,aE,aF];refine wT (i:=16) (v:=undef) rfl (by kernel_rfl) (by kernel_rfl) (by kernel_rfl) (fun _ _ _ h=>h) (Or.inr ⟨by rfl,rfl⟩) hS ?_
    simp only[Act.put,aA,aB,aC,aD,aE,aF];refine wT (i:=17) (v:=.bool false) rfl (by kernel_rfl) (by kernel_rfl) (by kernel_rfl) (fun _ _ _ h=>h) (Or.inl ⟨by rfl,?_⟩) hS ?_
    ·intro W hSw;clear hS;go_simp
    simp only[Act.put,aA,aB,aC,aD,aE,aF];refine wpAnyH_done (by kernel_rfl) ?_ _
    have HB9:Hid (Below w.heap.size w _):=hS.b
    clear hS;go_wp2
    go_roundw
    case rel=>exact⟨k+1,rr,by omega,by go_num,rfl,HSK.out,HB9.out⟩
    case measure=>simp[intOf];omega
  ·have HF:Hid (bestR bx rr):=bestK_end HBK.out (by have:=HL.out;omega)
   go_wp2
   go_ret;exact⟨rr,rfl,HF.out,HBW.out⟩
end Go.Proofs.YtaamahohdnbpiaaGreat
