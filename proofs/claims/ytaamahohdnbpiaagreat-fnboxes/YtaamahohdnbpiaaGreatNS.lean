import Derived.Test.YtaamahohdnbpiaaGreatNR
import Derived.StillTailTactics
namespace Go.Proofs.YtaamahohdnbpiaaGreat
open Go.RowKit
set_option linter.unusedVariables false
def lhU (G:Lg) (B:Nat):Prop:=G.P<B∧G.mb<B∧G.gf<B∧G.gb<B∧G.gr<B∧G.gq<B
theorem lh.lts {w0:World} {G:Lg} {H:Ho} {f1 f3:Nat} {hs:Nat→Hd} {nm:Nat} {D:DataW Unit} {W:World} (h:lh w0 G H f1 f3 hs nm D W):lhU G W.heap.size:=⟨h.p.lt,h.m.lt,h.hi.1,h.x.hi,h.hi.2.1,h.hi.2.2⟩
theorem lh.put {w0:World} {G:Lg} {H:Ho} {f1 f3:Nat} {hs:Nat→Hd} {nm:Nat} {D:DataW Unit} {W:World} (h:lh w0 G H f1 f3 hs nm D W) {B x:Nat} (hB:lhU G B) (hx:B≤x) (o:Nat) (l:List Value):lh w0 G H f1 f3 hs nm D (W.setCells x o l):=by
 obtain⟨b1,b2,b3,b4,b5,b6⟩:=hB
 have hlo:=h.d.lo
 have he:∀ q,q<B→(W.setCells x o l).heap[q]?=W.heap[q]?:=fun q hq=>setCells_other _ q (by omega) _ _ _
 have hb:Below w0.heap.size w0 (W.setCells x o l):=setCells_below (by omega) o l h.b
 have hz:(W.setCells x o l).heap.size=W.heap.size:=setCells_size ..
 refine⟨h.p.kept (he _ b1),h.f.same (he _ b3),h.x.at0 (he _ b4) hb,h.r.keep (he _ b5),h.rz.up (he _ b5),h.q.keep (he _ b6),h.qz.up (he _ b6),?_,hb,by rw[hz];exact h.hi,h.d,h.bd⟩
 obtain⟨es,clock,q1,q2⟩:=h.m
 exact⟨es,clock,(he _ b2).trans q1,q2⟩
theorem key3 {a:Int} (hw:(Lit.int .i64 a).wf=true):keyOf Tryz.prog 3 (.int .i64 a)=some (.int .i64 a):=Maps.keyOf_int_mk Tryz.underlying3 hw
theorem keyed3:Maps.Keyed Tryz.prog 3:=Maps.int_keyed Tryz.underlying3
set_option maxHeartbeats 4000000 in
set_option maxRecDepth 20000 in
theorem vacate_any {w0:World} {G:Lg} {H:Ho} {f1 f3:Nat} {hs:Nat→Hd} {nm:Nat} {D:DataW Unit} {W:World} (h:lh w0 G H f1 f3 hs nm D W) (k:Nat) (hk:k<H.bx.length) (b:R8) (eb:H.bx[k]=b) (ao:Option Addr) (m c:Nat) (eh:hs k=(ao,m,c)) (hw:(Lit.int .i64 b.y).wf=true) :
  Calls Tryz.prog 132 #[.pointer (some ⟨G.P,0,none⟩),.int .i64 (k:Int)] W fun o w'=>o = .returned (.agg #[.int .i64 b.x,.int .i64 b.y,.int .i64 b.z,.bool b.e,.int .u32 (b.i:Int),.bool b.r,.int .i64 b.d,.slice ao m c])∧lh w0 G (freeHo H k) f1 f3 (fun j=>if j=k then (none,0,0) else hs j) nm (D.del (.int .i64 b.y)) w'∧(∀ q,q≠G.gb→q≠G.mb→q<W.heap.size→w'.heap[q]?=W.heap[q]?)∧W.heap.size≤w'.heap.size:=by
 have y5:=h.p.cell 5 _ rfl
 have y6:=h.p.cell 6 _ rfl
 have hr:=h.x.rng k hk
 rw[eb,eh] at hr
 have hln:=h.x.len
 have hkn:k<G.n2:=by omega
 have hcp:=h.bd.nk
 have hm2:=h.bd.m2
 have HU:Hid (lhU G W.heap.size):=h.lts
 have HL:Hid (lh w0 G H f1 f3 hs nm D W):=h
 have HKK:Hid (k<H.bx.length):=hk
 have HW:Hid (keyOf Tryz.prog 3 (.int .i64 b.y)=some (.int .i64 b.y)):=key3 hw
 clear h hk eb eh hw hln;obtain⟨bX,bY,bZ,bE,bI,bR,bD,bL⟩:=b
 simp only[] at HW
 have HRG:Hid (W.rangeAt G.gb (k*8) [.int .i64 bX,.int .i64 bY,.int .i64 bZ,.bool bE,.int .u32 (bI:Int),.bool bR,.int .i64 bD,.slice ao m c]):=hr
 clear hr;have HBA:Hid (Below W.heap.size W (W.alloc (.cells [.int .i64 0,.int .i64 0,.int .i64 0,.bool false,.int .u32 0,.bool false,.int .i64 0,.slice none 0 0].toArray 97))):=(Below.refl _ _).alloc (Nat.le_refl _) _
 have HLA:Hid (lh w0 G H f1 f3 hs nm D (W.alloc (.cells [.int .i64 0,.int .i64 0,.int .i64 0,.bool false,.int .u32 0,.bool false,.int .i64 0,.slice none 0 0].toArray 97))):=HL.out.below HBA.out
 have HRA:Hid (blk (W.alloc (.cells [.int .i64 0,.int .i64 0,.int .i64 0,.bool false,.int .u32 0,.bool false,.int .i64 0,.slice none 0 0].toArray 97)) W.heap.size [.int .i64 0,.int .i64 0,.int .i64 0,.bool false,.int .u32 0,.bool false,.int .i64 0,.slice none 0 0] 97):=blk.new W _ 97
 have y5:(W.alloc (.cells [.int .i64 0,.int .i64 0,.int .i64 0,.bool false,.int .u32 0,.bool false,.int .i64 0,.slice none 0 0].toArray 97)).cell? ⟨G.P,5,none⟩=some (.slice (some ⟨G.gb,0,none⟩) G.n2 G.kb):=HLA.out.p.cell 5 _ rfl
 have HRG:Hid ((W.alloc (.cells [.int .i64 0,.int .i64 0,.int .i64 0,.bool false,.int .u32 0,.bool false,.int .i64 0,.slice none 0 0].toArray 97)).rangeAt G.gb (k*8) [.int .i64 bX,.int .i64 bY,.int .i64 bZ,.bool bE,.int .u32 (bI:Int),.bool bR,.int .i64 bD,.slice ao m c]):=range_below HRG.out HBA.out HU.out.2.2.2.1
 have HBB:Hid (Below (W.alloc (.cells [.int .i64 0,.int .i64 0,.int .i64 0,.bool false,.int .u32 0,.bool false,.int .i64 0,.slice none 0 0].toArray 97)).heap.size (W.alloc (.cells [.int .i64 0,.int .i64 0,.int .i64 0,.bool false,.int .u32 0,.bool false,.int .i64 0,.slice none 0 0].toArray 97)) ((W.alloc (.cells [.int .i64 0,.int .i64 0,.int .i64 0,.bool false,.int .u32 0,.bool false,.int .i64 0,.slice none 0 0].toArray 97)).alloc (.cells [.int .i64 bX,.int .i64 bY,.int .i64 bZ,.bool bE,.int .u32 (bI:Int),.bool bR,.int .i64 bD,.slice ao m c].toArray 97))):=(Below.refl _ _).alloc (Nat.le_refl _) _
 have HRB:Hid (blk ((W.alloc (.cells [.int .i64 0,.int .i64 0,.int .i64 0,.bool false,.int .u32 0,.bool false,.int .i64 0,.slice none 0 0].toArray 97)).alloc (.cells [.int .i64 bX,.int .i64 bY,.int .i64 bZ,.bool bE,.int .u32 (bI:Int),.bool bR,.int .i64 bD,.slice ao m c].toArray 97)) (W.heap.size+1) [.int .i64 bX,.int .i64 bY,.int .i64 bZ,.bool bE,.int .u32 (bI:Int),.bool bR,.int .i64 bD,.slice ao m c] 97):=by
  have:=blk.new (W.alloc (.cells [.int .i64 0,.int .i64 0,.int .i64 0,.bool false,.int .u32 0,.bool false,.int .i64 0,.slice none 0 0].toArray 97)) [.int .i64 bX,.int .i64 bY,.int .i64 bZ,.bool bE,.int .u32 (bI:Int),.bool bR,.int .i64 bD,.slice ao m c] 97
  have e:(W.alloc (.cells [.int .i64 0,.int .i64 0,.int .i64 0,.bool false,.int .u32 0,.bool false,.int .i64 0,.slice none 0 0].toArray 97)).heap.size=W.heap.size+1:=by simp
  rw[e] at this
  exact this
 have HR2:Hid (blk ((W.alloc (.cells [.int .i64 0,.int .i64 0,.int .i64 0,.bool false,.int .u32 0,.bool false,.int .i64 0,.slice none 0 0].toArray 97)).alloc (.cells [.int .i64 bX,.int .i64 bY,.int .i64 bZ,.bool bE,.int .u32 (bI:Int),.bool bR,.int .i64 bD,.slice ao m c].toArray 97)) W.heap.size [.int .i64 0,.int .i64 0,.int .i64 0,.bool false,.int .u32 0,.bool false,.int .i64 0,.slice none 0 0] 97):=HRA.out.below HBB.out
 have HL2:Hid (lh w0 G H f1 f3 hs nm D ((W.alloc (.cells [.int .i64 0,.int .i64 0,.int .i64 0,.bool false,.int .u32 0,.bool false,.int .i64 0,.slice none 0 0].toArray 97)).alloc (.cells [.int .i64 bX,.int .i64 bY,.int .i64 bZ,.bool bE,.int .u32 (bI:Int),.bool bR,.int .i64 bD,.slice ao m c].toArray 97))):=HLA.out.below HBB.out
 have HB2:Hid (Below W.heap.size W ((W.alloc (.cells [.int .i64 0,.int .i64 0,.int .i64 0,.bool false,.int .u32 0,.bool false,.int .i64 0,.slice none 0 0].toArray 97)).alloc (.cells [.int .i64 bX,.int .i64 bY,.int .i64 bZ,.bool bE,.int .u32 (bI:Int),.bool bR,.int .i64 bD,.slice ao m c].toArray 97))):=HBA.out.trans (HBB.out.mono HBA.out.size)
 clear y6;go_enter Tryz.func132,Tryz.ntmps132
 go_wp2_with (first
  | (refine wpList_load_mid (P:=Tryz.prog) rfl 97 _ rfl G.gb (k*8) rfl [.int .i64 bX,.int .i64 bY,.int .i64 bZ,.bool bE,.int .u32 (bI:Int),.bool bR,.int .i64 bD,.slice ao m c] _ HRG.out Tryz.underlying97 rfl sz95 ?_))
 clear HRG HBB HLA HRA HBA;clear y5;refine wp_region_still_tail 6 (by kernel_rfl) (by kernel_rfl) ?_
 change wpStill Tryz.prog _ (World.drew ((W.alloc (.cells [.int .i64 0,.int .i64 0,.int .i64 0,.bool false,.int .u32 0,.bool false,.int .i64 0,.slice none 0 0].toArray 97)).alloc (.cells [.int .i64 bX,.int .i64 bY,.int .i64 bZ,.bool bE,.int .u32 (bI:Int),.bool bR,.int .i64 bD,.slice ao m c].toArray 97))) (fun a'=>wpList Tryz.prog _ _ _ a' (World.drew ((W.alloc (.cells [.int .i64 0,.int .i64 0,.int .i64 0,.bool false,.int .u32 0,.bool false,.int .i64 0,.slice none 0 0].toArray 97)).alloc (.cells [.int .i64 bX,.int .i64 bY,.int .i64 bZ,.bool bE,.int .u32 (bI:Int),.bool bR,.int .i64 bD,.slice ao m c].toArray 97)))) _ _
 have HB2:Hid (Below W.heap.size W (World.drew ((W.alloc (.cells [.int .i64 0,.int .i64 0,.int .i64 0,.bool false,.int .u32 0,.bool false,.int .i64 0,.slice none 0 0].toArray 97)).alloc (.cells [.int .i64 bX,.int .i64 bY,.int .i64 bZ,.bool bE,.int .u32 (bI:Int),.bool bR,.int .i64 bD,.slice ao m c].toArray 97)))):=HB2.out.drew
 have HR2:Hid (blk (World.drew ((W.alloc (.cells [.int .i64 0,.int .i64 0,.int .i64 0,.bool false,.int .u32 0,.bool false,.int .i64 0,.slice none 0 0].toArray 97)).alloc (.cells [.int .i64 bX,.int .i64 bY,.int .i64 bZ,.bool bE,.int .u32 (bI:Int),.bool bR,.int .i64 bD,.slice ao m c].toArray 97))) W.heap.size [.int .i64 0,.int .i64 0,.int .i64 0,.bool false,.int .u32 0,.bool false,.int .i64 0,.slice none 0 0] 97):=HR2.out.below (Below.refl _ _).drew
 have HRB:Hid (blk (World.drew ((W.alloc (.cells [.int .i64 0,.int .i64 0,.int .i64 0,.bool false,.int .u32 0,.bool false,.int .i64 0,.slice none 0 0].toArray 97)).alloc (.cells [.int .i64 bX,.int .i64 bY,.int .i64 bZ,.bool bE,.int .u32 (bI:Int),.bool bR,.int .i64 bD,.slice ao m c].toArray 97))) (W.heap.size+1) [.int .i64 bX,.int .i64 bY,.int .i64 bZ,.bool bE,.int .u32 (bI:Int),.bool bR,.int .i64 bD,.slice ao m c] 97):=HRB.out.below (Below.refl _ _).drew
 have HL2:Hid (lh w0 G H f1 f3 hs nm D (World.drew ((W.alloc (.cells [.int .i64 0,.int .i64 0,.int .i64 0,.bool false,.int .u32 0,.bool false,.int .i64 0,.slice none 0 0].toArray 97)).alloc (.cells [.int .i64 bX,.int .i64 bY,.int .i64 bZ,.bool bE,.int .u32 (bI:Int),.bool bR,.int .i64 bD,.slice ao m c].toArray 97)))):=HL2.out.below (Below.refl _ _).drew
 generalize World.drew ((W.alloc (.cells [.int .i64 0,.int .i64 0,.int .i64 0,.bool false,.int .u32 0,.bool false,.int .i64 0,.slice none 0 0].toArray 97)).alloc (.cells [.int .i64 bX,.int .i64 bY,.int .i64 bZ,.bool bE,.int .u32 (bI:Int),.bool bR,.int .i64 bD,.slice ao m c].toArray 97))=w2 at *;have y6:=HL2.out.p.cell 6 _ rfl
 have y1:=HRB.out.cell 1 _ rfl
 simp only[List.take_succ_cons,List.take_zero,List.drop_succ_cons,List.drop_zero]
 repeat still_step
 refine wpStill_nil ?_
 refine wpList_delete_own _ rfl _ _ 128 3 rfl 3 keyed3 Tryz.underlying128 _ G.mb nm D rfl HL2.out.m _ _ rfl HW.out ?_
 intro w3 hm3 ht3;have hg3:=ht3.grown
 have HL3:Hid (lh w0 G H f1 f3 hs nm (D.del (.int .i64 bY)) w3):=HL2.out.tags hg3 hm3
 have HO3:Hid (∀ q,q≠G.mb→q<W.heap.size→w3.heap[q]?=W.heap[q]?):=fun q h1 h2=>(hg3.block q (Nat.lt_of_lt_of_le h2 HB2.out.size) (by simpa using h1)).trans (HB2.out.block q h2)
 have HR3:Hid (blk w3 W.heap.size [.int .i64 0,.int .i64 0,.int .i64 0,.bool false,.int .u32 0,.bool false,.int .i64 0,.slice none 0 0] 97):=HR2.out.kept (hg3.block _ HR2.out.lt (by have:=HU.out.2.1;simp;omega))
 have HB3:Hid (blk w3 (W.heap.size+1) [.int .i64 bX,.int .i64 bY,.int .i64 bZ,.bool bE,.int .u32 (bI:Int),.bool bR,.int .i64 bD,.slice ao m c] 97):=HRB.out.kept (hg3.block _ HRB.out.lt (by have:=HU.out.2.1;simp;omega))
 have HZ3:Hid (W.heap.size≤w3.heap.size):=Nat.le_trans HB2.out.size hg3.size
 have y5:=HL3.out.p.cell 5 _ rfl
 have HT3:Hid (w3.there G.gb (k*8) 8):=fun j hj=>by
  obtain⟨⟨v,hv⟩,hf⟩:=HL3.out.x.row (k*8+j) (by omega)
  exact⟨by rw[hv];rfl,hf⟩
 clear hm3 ht3 hg3 HB2 HR2 HRB HL2 y6 y1 HW;have HO4:Hid (∀ w4,World.setCells w3 G.gb (k*8) [.int .i64 0,.int .i64 0,.int .i64 0,.bool false,.int .u32 0,.bool false,.int .i64 0,.slice none 0 0]=w4→lh w0 G (freeHo H k) f1 f3 (fun j=>if j=k then (none,0,0) else hs j) nm (D.del (.int .i64 bY)) w4∧blk w4 W.heap.size [.int .i64 0,.int .i64 0,.int .i64 0,.bool false,.int .u32 0,.bool false,.int .i64 0,.slice none 0 0] 97∧blk w4 (W.heap.size+1) [.int .i64 bX,.int .i64 bY,.int .i64 bZ,.bool bE,.int .u32 (bI:Int),.bool bR,.int .i64 bD,.slice ao m c] 97∧(∀ q,q≠G.gb→w4.heap[q]?=w3.heap[q]?)∧w4.heap.size=w3.heap.size):=fun w4 e4=>by
  have oth:∀ q,q≠G.gb→w4.heap[q]?=w3.heap[q]?:=fun q hq=>by rw[← e4];exact setCells_other _ q hq _ _ _
  have hu:=HU.out.2.2.2.1
  refine⟨by rw[← e4];exact HL3.out.free k HKK.out,HR3.out.kept (oth _ (by omega)),HB3.out.kept (oth _ (by omega)),oth,by rw[← e4];exact setCells_size ..⟩
 go_wp2_with (first
  | (refine wpList_store_mid (P:=Tryz.prog) rfl 97 _ _ rfl G.gb (k*8) [.int .i64 0,.int .i64 0,.int .i64 0,.bool false,.int .u32 0,.bool false,.int .i64 0,.slice none 0 0].toArray rfl rfl HT3.out sz95 (one8 _ _ _ _ _ _ _ _ _ _) ?_;generalize hW4:World.setCells w3 G.gb (k*8) _=w4;have HW4:Hid (lh w0 G (freeHo H k) f1 f3 (fun j=>if j=k then (none,0,0) else hs j) nm (D.del (.int .i64 bY)) w4∧blk w4 W.heap.size [.int .i64 0,.int .i64 0,.int .i64 0,.bool false,.int .u32 0,.bool false,.int .i64 0,.slice none 0 0] 97∧blk w4 (W.heap.size+1) [.int .i64 bX,.int .i64 bY,.int .i64 bZ,.bool bE,.int .u32 (bI:Int),.bool bR,.int .i64 bD,.slice ao m c] 97∧(∀ q,q≠G.gb→w4.heap[q]?=w3.heap[q]?)∧w4.heap.size=w3.heap.size):=HO4.out _ hW4;clear hW4)
  | (refine wpList_load_mid (P:=Tryz.prog) rfl 97 _ rfl (W.heap.size+1) 0 rfl [.int .i64 bX,.int .i64 bY,.int .i64 bZ,.bool bE,.int .u32 (bI:Int),.bool bR,.int .i64 bD,.slice ao m c] _ HW4.out.2.2.1.load Tryz.underlying97 rfl sz95 ?_)
  | (refine wpList_store_mid (P:=Tryz.prog) rfl 97 _ _ rfl W.heap.size 0 [.int .i64 bX,.int .i64 bY,.int .i64 bZ,.bool bE,.int .u32 (bI:Int),.bool bR,.int .i64 bD,.slice ao m c].toArray rfl rfl (HW4.out.2.1.there 0 8 (by simp)) sz95 (one8 _ _ _ _ _ _ _ _ _ _) ?_;generalize hW9:World.setCells w4 W.heap.size 0 _=w9;have HW9:Hid (_=w9):=hW9;clear hW9))
 have e9:=HW9.out
 have hF:blk w9 W.heap.size [.int .i64 bX,.int .i64 bY,.int .i64 bZ,.bool bE,.int .u32 (bI:Int),.bool bR,.int .i64 bD,.slice ao m c] 97:=by
  rw[← e9]
  have:=blk.put [] [.int .i64 0,.int .i64 0,.int .i64 0,.bool false,.int .u32 0,.bool false,.int .i64 0,.slice none 0 0] [] [.int .i64 bX,.int .i64 bY,.int .i64 bZ,.bool bE,.int .u32 (bI:Int),.bool bR,.int .i64 bD,.slice ao m c] (w:=w4) (b:=W.heap.size) (T:=97) (by simpa using HW4.out.2.1) rfl
  simpa using this
 have hL:=run_loadVar_mid (P:=Tryz.prog) w9 W.heap.size 0 97 _ _ hF.load Tryz.underlying97 rfl sz95
 refine bodyPost_ret (v:=.agg [.int .i64 bX,.int .i64 bY,.int .i64 bZ,.bool bE,.int .u32 (bI:Int),.bool bR,.int .i64 bD,.slice ao m c].toArray) (results_cell Tryz.results132 _ w9 W.heap.size _ rfl hL) rfl ?_
 refine⟨rfl,?_,fun q h1 h2 h3=>?_,?_⟩
 ·rw[← e9]
  exact HW4.out.1.put HU.out (Nat.le_refl _) 0 _
 ·rw[← e9,setCells_other _ q (by omega) _ _ _,HW4.out.2.2.2.1 q h1]
  exact HO3.out q h2 h3
 ·rw[← e9,setCells_size,HW4.out.2.2.2.2]
  exact HZ3.out
end Go.Proofs.YtaamahohdnbpiaaGreat
