import Derived.Test.YtkfcfigbgmbaiaaGreatG33
import Derived.StillTailTactics
import Derived.Deep.RegionHeld3
namespace Go.Proofs.YtkfcfigbgmbaiaaGreat
open Go.RowKit
set_option linter.unusedVariables false
set_option maxHeartbeats 16000000
def lhU (G:Lg) (B:Nat):Prop:=G.P<B∧G.mb<B∧G.gf<B∧G.gb<B∧G.gr<B∧G.gq<B
theorem lh.lts {w0:World} {G:Lg} {H:Ho} {f1 f3:Nat} {hs:Nat→Hd} {nm:Nat} {D:DataW Unit} {W:World} (h:lh w0 G H f1 f3 hs nm D W):lhU G W.heap.size:=⟨h.p.lt,h.m.lt,h.hi.1,h.x.hi,h.hi.2.1,h.hi.2.2⟩
theorem lh.put {w0:World} {G:Lg} {H:Ho} {f1 f3:Nat} {hs:Nat→Hd} {nm:Nat} {D:DataW Unit} {W:World} (h:lh w0 G H f1 f3 hs nm D W) {B x:Nat} (hB:lhU G B) (hx:B≤x) (o:Nat) (l:List Value):lh w0 G H f1 f3 hs nm D (W.setCells x o l):=by
 obtain⟨b1,b2,b3,b4,b5,b6⟩:=hB
 have hlo:=h.d.lo
 have he:∀ q,q<B→(W.setCells x o l).heap[q]?=W.heap[q]?:=fun q hq=>setCells_other _ q (by omega) _ _ _
 have hb:Below w0.heap.size w0 (W.setCells x o l):=setCells_below (by omega) o l h.b
 have hz:(W.setCells x o l).heap.size=W.heap.size:=setCells_size ..
 refine⟨h.p.kept (he _ b1),h.f.same (he _ b3),h.x.at0 (he _ b4) hb,h.r.keep (he _ b5),h.rz.up (he _ b5),h.q.keep (he _ b6),h.qz.up (he _ b6),?_,hb,by rw[hz];exact h.hi,h.d,h.bd⟩
 obtain⟨es,clock,q1,q2⟩:=h.m
 exact⟨es,clock,(he _ b2).trans q1,q2⟩
theorem key3 {a:Int} (hw:(Lit.int .i64 a).wf=true):keyOf Tryz.prog 3 (.int .i64 a)=some (.int .i64 a):=Maps.keyOf_int_mk Tryz.underlying3 hw
theorem keyed3:Maps.Keyed Tryz.prog 3:=Maps.int_keyed Tryz.underlying3
set_option maxRecDepth 20000 in
theorem vacate_any {w0:World} {G:Lg} {H:Ho} {f1 f3:Nat} {hs:Nat→Hd} {nm:Nat} {D:DataW Unit} {W:World} (h:lh w0 G H f1 f3 hs nm D W) (k:Nat) (hk:k<H.bx.length) (b:R8) (eb:H.bx[k]=b) (ao:Option Addr) (m c:Nat) (eh:hs k=(ao,m,c)) (hw:(Lit.int .i64 b.y).wf=true) :
  Calls Tryz.prog 153 #[.pointer (some ⟨G.P,0,none⟩),.int .i64 (k:Int)] W fun o w'=>o = .returned (.agg #[.int .i64 b.x,.int .i64 b.y,.int .i64 b.z,.bool b.e,.int .u32 (b.i:Int),.bool b.r,.int .i64 b.d,.slice ao m c])∧lh w0 G (freeHo H k) f1 f3 (fun j=>if j=k then (none,0,0) else hs j) nm (D.del (.int .i64 b.y)) w'∧(∀ q,q≠G.gb→q≠G.mb→q<W.heap.size→w'.heap[q]?=W.heap[q]?)∧W.heap.size≤w'.heap.size:=by
 have y5:=h.p.cell 5 _ rfl
 have y6:=h.p.cell 6 _ rfl
 have hr:=h.x.rng k hk
 rw[eb,eh] at hr
 have hln:=h.x.len
 have hkn:k<G.n2:=by omega
 have hcp:=h.bd.nk
 have hm2:=h.bd.m2
 have HU:Hid (lhU G W.heap.size):=h.lts
 have HL:Hid (lh w0 G H f1 f3 hs nm D W):=h
 have HKK:Hid (k<H.bx.length):=hk
 have HW:Hid (keyOf Tryz.prog 3 (.int .i64 b.y)=some (.int .i64 b.y)):=key3 hw
 clear h hk eb eh hw hln;obtain⟨bX,bY,bZ,bE,bI,bR,bD,bL⟩:=b
 simp only[] at HW
 have HRG:Hid (W.rangeAt G.gb (k*8) [.int .i64 bX,.int .i64 bY,.int .i64 bZ,.bool bE,.int .u32 (bI:Int),.bool bR,.int .i64 bD,.slice ao m c]):=hr
 clear hr;have HBA:Hid (Below W.heap.size W (W.alloc (.cells [.int .i64 0,.int .i64 0,.int .i64 0,.bool false,.int .u32 0,.bool false,.int .i64 0,.slice none 0 0].toArray 166))):=(Below.refl _ _).alloc (Nat.le_refl _) _
 have HLA:Hid (lh w0 G H f1 f3 hs nm D (W.alloc (.cells [.int .i64 0,.int .i64 0,.int .i64 0,.bool false,.int .u32 0,.bool false,.int .i64 0,.slice none 0 0].toArray 166))):=HL.out.below HBA.out
 have HRA:Hid (blk (W.alloc (.cells [.int .i64 0,.int .i64 0,.int .i64 0,.bool false,.int .u32 0,.bool false,.int .i64 0,.slice none 0 0].toArray 166)) W.heap.size [.int .i64 0,.int .i64 0,.int .i64 0,.bool false,.int .u32 0,.bool false,.int .i64 0,.slice none 0 0] 166):=blk.new W _ 166
 have y5:(W.alloc (.cells [.int .i64 0,.int .i64 0,.int .i64 0,.bool false,.int .u32 0,.bool false,.int .i64 0,.slice none 0 0].toArray 166)).cell? ⟨G.P,5,none⟩=some (.slice (some ⟨G.gb,0,none⟩) G.n2 G.kb):=HLA.out.p.cell 5 _ rfl
 have HRG:Hid ((W.alloc (.cells [.int .i64 0,.int .i64 0,.int .i64 0,.bool false,.int .u32 0,.bool false,.int .i64 0,.slice none 0 0].toArray 166)).rangeAt G.gb (k*8) [.int .i64 bX,.int .i64 bY,.int .i64 bZ,.bool bE,.int .u32 (bI:Int),.bool bR,.int .i64 bD,.slice ao m c]):=range_below HRG.out HBA.out HU.out.2.2.2.1
 have HBB:Hid (Below (W.alloc (.cells [.int .i64 0,.int .i64 0,.int .i64 0,.bool false,.int .u32 0,.bool false,.int .i64 0,.slice none 0 0].toArray 166)).heap.size (W.alloc (.cells [.int .i64 0,.int .i64 0,.int .i64 0,.bool false,.int .u32 0,.bool false,.int .i64 0,.slice none 0 0].toArray 166)) ((W.alloc (.cells [.int .i64 0,.int .i64 0,.int .i64 0,.bool false,.int .u32 0,.bool false,.int .i64 0,.slice none 0 0].toArray 166)).alloc (.cells [.int .i64 bX,.int .i64 bY,.int .i64 bZ,.bool bE,.int .u32 (bI:Int),.bool bR,.int .i64 bD,.slice ao m c].toArray 166))):=(Below.refl _ _).alloc (Nat.le_refl _) _
 have HRB:Hid (blk ((W.alloc (.cells [.int .i64 0,.int .i64 0,.int .i64 0,.bool false,.int .u32 0,.bool false,.int .i64 0,.slice none 0 0].toArray 166)).alloc (.cells [.int .i64 bX,.int .i64 bY,.int .i64 bZ,.bool bE,.int .u32 (bI:Int),.bool bR,.int .i64 bD,.slice ao m c].toArray 166)) (W.heap.size+1) [.int .i64 bX,.int .i64 bY,.int .i64 bZ,.bool bE,.int .u32 (bI:Int),.bool bR,.int .i64 bD,.slice ao m c] 166):=by
  have:=blk.new (W.alloc (.cells [.int .i64 0,.int .i64 0,.int .i64 0,.bool false,.int .u32 0,.bool false,.int .i64 0,.slice none 0 0].toArray 166)) [.int .i64 bX,.int .i64 bY,.int .i64 bZ,.bool bE,.int .u32 (bI:Int),.bool bR,.int .i64 bD,.slice ao m c] 166
  have e:(W.alloc (.cells [.int .i64 0,.int .i64 0,.int .i64 0,.bool false,.int .u32 0,.bool false,.int .i64 0,.slice none 0 0].toArray 166)).heap.size=W.heap.size+1:=by simp
  rw[e] at this
  exact this
 have HR2:Hid (blk ((W.alloc (.cells [.int .i64 0,.int .i64 0,.int .i64 0,.bool false,.int .u32 0,.bool false,.int .i64 0,.slice none 0 0].toArray 166)).alloc (.cells [.int .i64 bX,.int .i64 bY,.int .i64 bZ,.bool bE,.int .u32 (bI:Int),.bool bR,.int .i64 bD,.slice ao m c].toArray 166)) W.heap.size [.int .i64 0,.int .i64 0,.int .i64 0,.bool false,.int .u32 0,.bool false,.int .i64 0,.slice none 0 0] 166):=HRA.out.below HBB.out
 have HL2:Hid (lh w0 G H f1 f3 hs nm D ((W.alloc (.cells [.int .i64 0,.int .i64 0,.int .i64 0,.bool false,.int .u32 0,.bool false,.int .i64 0,.slice none 0 0].toArray 166)).alloc (.cells [.int .i64 bX,.int .i64 bY,.int .i64 bZ,.bool bE,.int .u32 (bI:Int),.bool bR,.int .i64 bD,.slice ao m c].toArray 166))):=HLA.out.below HBB.out
 have HB2:Hid (Below W.heap.size W ((W.alloc (.cells [.int .i64 0,.int .i64 0,.int .i64 0,.bool false,.int .u32 0,.bool false,.int .i64 0,.slice none 0 0].toArray 166)).alloc (.cells [.int .i64 bX,.int .i64 bY,.int .i64 bZ,.bool bE,.int .u32 (bI:Int),.bool bR,.int .i64 bD,.slice ao m c].toArray 166))):=HBA.out.trans (HBB.out.mono HBA.out.size)
 clear y6;go_enter Tryz.func153,Tryz.ntmps153
 go_wp2_with (first
  | (refine wpList_load_mid (P:=Tryz.prog) rfl 166 _ rfl G.gb (k*8) rfl [.int .i64 bX,.int .i64 bY,.int .i64 bZ,.bool bE,.int .u32 (bI:Int),.bool bR,.int .i64 bD,.slice ao m c] _ HRG.out Tryz.underlying166 rfl sz95 ?_))
 clear HRG HBB HLA HRA HBA;clear y5;refine wp_region_still_tail 6 (by kernel_rfl) (by kernel_rfl) ?_
 change wpStill Tryz.prog _ (World.drew ((W.alloc (.cells [.int .i64 0,.int .i64 0,.int .i64 0,.bool false,.int .u32 0,.bool false,.int .i64 0,.slice none 0 0].toArray 166)).alloc (.cells [.int .i64 bX,.int .i64 bY,.int .i64 bZ,.bool bE,.int .u32 (bI:Int),.bool bR,.int .i64 bD,.slice ao m c].toArray 166))) (fun a'=>wpList Tryz.prog _ _ _ a' (World.drew ((W.alloc (.cells [.int .i64 0,.int .i64 0,.int .i64 0,.bool false,.int .u32 0,.bool false,.int .i64 0,.slice none 0 0].toArray 166)).alloc (.cells [.int .i64 bX,.int .i64 bY,.int .i64 bZ,.bool bE,.int .u32 (bI:Int),.bool bR,.int .i64 bD,.slice ao m c].toArray 166)))) _ _
 have HB2:Hid (Below W.heap.size W (World.drew ((W.alloc (.cells [.int .i64 0,.int .i64 0,.int .i64 0,.bool false,.int .u32 0,.bool false,.int .i64 0,.slice none 0 0].toArray 166)).alloc (.cells [.int .i64 bX,.int .i64 bY,.int .i64 bZ,.bool bE,.int .u32 (bI:Int),.bool bR,.int .i64 bD,.slice ao m c].toArray 166)))):=HB2.out.drew
 have HR2:Hid (blk (World.drew ((W.alloc (.cells [.int .i64 0,.int .i64 0,.int .i64 0,.bool false,.int .u32 0,.bool false,.int .i64 0,.slice none 0 0].toArray 166)).alloc (.cells [.int .i64 bX,.int .i64 bY,.int .i64 bZ,.bool bE,.int .u32 (bI:Int),.bool bR,.int .i64 bD,.slice ao m c].toArray 166))) W.heap.size [.int .i64 0,.int .i64 0,.int .i64 0,.bool false,.int .u32 0,.bool false,.int .i64 0,.slice none 0 0] 166):=HR2.out.below (Below.refl _ _).drew
 have HRB:Hid (blk (World.drew ((W.alloc (.cells [.int .i64 0,.int .i64 0,.int .i64 0,.bool false,.int .u32 0,.bool false,.int .i64 0,.slice none 0 0].toArray 166)).alloc (.cells [.int .i64 bX,.int .i64 bY,.int .i64 bZ,.bool bE,.int .u32 (bI:Int),.bool bR,.int .i64 bD,.slice ao m c].toArray 166))) (W.heap.size+1) [.int .i64 bX,.int .i64 bY,.int .i64 bZ,.bool bE,.int .u32 (bI:Int),.bool bR,.int .i64 bD,.slice ao m c] 166):=HRB.out.below (Below.refl _ _).drew
 have HL2:Hid (lh w0 G H f1 f3 hs nm D (World.drew ((W.alloc (.cells [.int .i64 0,.int .i64 0,.int .i64 0,.bool false,.int .u32 0,.bool false,.int .i64 0,.slice none 0 0].toArray 166)).alloc (.cells [.int .i64 bX,.int .i64 bY,.int .i64 bZ,.bool bE,.int .u32 (bI:Int),.bool bR,.int .i64 bD,.slice ao m c].toArray 166)))):=HL2.out.below (Below.refl _ _).drew
 generalize World.drew ((W.alloc (.cells [.int .i64 0,.int .i64 0,.int .i64 0,.bool false,.int .u32 0,.bool false,.int .i64 0,.slice none 0 0].toArray 166)).alloc (.cells [.int .i64 bX,.int .i64 bY,.int .i64 bZ,.bool bE,.int .u32 (bI:Int),.bool bR,.int .i64 bD,.slice ao m c].toArray 166))=w2 at *;have y6:=HL2.out.p.cell 6 _ rfl
 have y1:=HRB.out.cell 1 _ rfl
 simp only[List.take_succ_cons,List.take_zero,List.drop_succ_cons,List.drop_zero]
 repeat still_step
 refine wpStill_nil ?_
 refine wpList_delete_own _ rfl _ _ 151 3 rfl 3 keyed3 Tryz.underlying151 _ G.mb nm D rfl HL2.out.m _ _ rfl HW.out ?_
 intro w3 hm3 ht3;have hg3:=ht3.grown
 have HL3:Hid (lh w0 G H f1 f3 hs nm (D.del (.int .i64 bY)) w3):=HL2.out.tags hg3 hm3
 have HO3:Hid (∀ q,q≠G.mb→q<W.heap.size→w3.heap[q]?=W.heap[q]?):=fun q h1 h2=>(hg3.block q (Nat.lt_of_lt_of_le h2 HB2.out.size) (by simpa using h1)).trans (HB2.out.block q h2)
 have HR3:Hid (blk w3 W.heap.size [.int .i64 0,.int .i64 0,.int .i64 0,.bool false,.int .u32 0,.bool false,.int .i64 0,.slice none 0 0] 166):=HR2.out.kept (hg3.block _ HR2.out.lt (by have:=HU.out.2.1;simp;omega))
 have HB3:Hid (blk w3 (W.heap.size+1) [.int .i64 bX,.int .i64 bY,.int .i64 bZ,.bool bE,.int .u32 (bI:Int),.bool bR,.int .i64 bD,.slice ao m c] 166):=HRB.out.kept (hg3.block _ HRB.out.lt (by have:=HU.out.2.1;simp;omega))
 have HZ3:Hid (W.heap.size≤w3.heap.size):=Nat.le_trans HB2.out.size hg3.size
 have y5:=HL3.out.p.cell 5 _ rfl
 have HT3:Hid (w3.there G.gb (k*8) 8):=fun j hj=>by
  obtain⟨⟨v,hv⟩,hf⟩:=HL3.out.x.row (k*8+j) (by omega)
  exact⟨by rw[hv];rfl,hf⟩
 clear hm3 ht3 hg3 HB2 HR2 HRB HL2 y6 y1 HW;have HO4:Hid (∀ w4,World.setCells w3 G.gb (k*8) [.int .i64 0,.int .i64 0,.int .i64 0,.bool false,.int .u32 0,.bool false,.int .i64 0,.slice none 0 0]=w4→lh w0 G (freeHo H k) f1 f3 (fun j=>if j=k then (none,0,0) else hs j) nm (D.del (.int .i64 bY)) w4∧blk w4 W.heap.size [.int .i64 0,.int .i64 0,.int .i64 0,.bool false,.int .u32 0,.bool false,.int .i64 0,.slice none 0 0] 166∧blk w4 (W.heap.size+1) [.int .i64 bX,.int .i64 bY,.int .i64 bZ,.bool bE,.int .u32 (bI:Int),.bool bR,.int .i64 bD,.slice ao m c] 166∧(∀ q,q≠G.gb→w4.heap[q]?=w3.heap[q]?)∧w4.heap.size=w3.heap.size):=fun w4 e4=>by
  have oth:∀ q,q≠G.gb→w4.heap[q]?=w3.heap[q]?:=fun q hq=>by rw[← e4];exact setCells_other _ q hq _ _ _
  have hu:=HU.out.2.2.2.1
  refine⟨by rw[← e4];exact HL3.out.free k HKK.out,HR3.out.kept (oth _ (by omega)),HB3.out.kept (oth _ (by omega)),oth,by rw[← e4];exact setCells_size ..⟩
 go_wp2_with (first
  | (refine wpList_store_mid (P:=Tryz.prog) rfl 166 _ _ rfl G.gb (k*8) [.int .i64 0,.int .i64 0,.int .i64 0,.bool false,.int .u32 0,.bool false,.int .i64 0,.slice none 0 0].toArray rfl rfl HT3.out sz95 (one8 _ _ _ _ _ _ _ _ _ _) ?_;generalize hW4:World.setCells w3 G.gb (k*8) _=w4;have HW4:Hid (lh w0 G (freeHo H k) f1 f3 (fun j=>if j=k then (none,0,0) else hs j) nm (D.del (.int .i64 bY)) w4∧blk w4 W.heap.size [.int .i64 0,.int .i64 0,.int .i64 0,.bool false,.int .u32 0,.bool false,.int .i64 0,.slice none 0 0] 166∧blk w4 (W.heap.size+1) [.int .i64 bX,.int .i64 bY,.int .i64 bZ,.bool bE,.int .u32 (bI:Int),.bool bR,.int .i64 bD,.slice ao m c] 166∧(∀ q,q≠G.gb→w4.heap[q]?=w3.heap[q]?)∧w4.heap.size=w3.heap.size):=HO4.out _ hW4;clear hW4)
  | (refine wpList_load_mid (P:=Tryz.prog) rfl 166 _ rfl (W.heap.size+1) 0 rfl [.int .i64 bX,.int .i64 bY,.int .i64 bZ,.bool bE,.int .u32 (bI:Int),.bool bR,.int .i64 bD,.slice ao m c] _ HW4.out.2.2.1.load Tryz.underlying166 rfl sz95 ?_)
  | (refine wpList_store_mid (P:=Tryz.prog) rfl 166 _ _ rfl W.heap.size 0 [.int .i64 bX,.int .i64 bY,.int .i64 bZ,.bool bE,.int .u32 (bI:Int),.bool bR,.int .i64 bD,.slice ao m c].toArray rfl rfl (HW4.out.2.1.there 0 8 (by simp)) sz95 (one8 _ _ _ _ _ _ _ _ _ _) ?_;generalize hW9:World.setCells w4 W.heap.size 0 _=w9;have HW9:Hid (_=w9):=hW9;clear hW9))
 have e9:=HW9.out
 have hF:blk w9 W.heap.size [.int .i64 bX,.int .i64 bY,.int .i64 bZ,.bool bE,.int .u32 (bI:Int),.bool bR,.int .i64 bD,.slice ao m c] 166:=by
  rw[← e9]
  have:=blk.put [] [.int .i64 0,.int .i64 0,.int .i64 0,.bool false,.int .u32 0,.bool false,.int .i64 0,.slice none 0 0] [] [.int .i64 bX,.int .i64 bY,.int .i64 bZ,.bool bE,.int .u32 (bI:Int),.bool bR,.int .i64 bD,.slice ao m c] (w:=w4) (b:=W.heap.size) (T:=166) (by simpa using HW4.out.2.1) rfl
  simpa using this
 have hL:=run_loadVar_mid (P:=Tryz.prog) w9 W.heap.size 0 166 _ _ hF.load Tryz.underlying166 rfl sz95
 refine bodyPost_ret (v:=.agg [.int .i64 bX,.int .i64 bY,.int .i64 bZ,.bool bE,.int .u32 (bI:Int),.bool bR,.int .i64 bD,.slice ao m c].toArray) (results_cell Tryz.results153 _ w9 W.heap.size _ rfl hL) rfl ?_
 refine⟨rfl,?_,fun q h1 h2 h3=>?_,?_⟩
 ·rw[← e9]
  exact HW4.out.1.put HU.out (Nat.le_refl _) 0 _
 ·rw[← e9,setCells_other _ q (by omega) _ _ _,HW4.out.2.2.2.1 q h1]
  exact HO3.out q h2 h3
 ·rw[← e9,setCells_size,HW4.out.2.2.2.2]
  exact HZ3.out
theorem field97 (x y z:Int) (e:Bool) (i:Nat) (r:Bool) (d:Int) (ao:Option Addr) (m c:Nat):∀ w:World,(Instr.field 166 (.agg #[.int .i64 x,.int .i64 y,.int .i64 z,.bool e,.int .u32 (i:Int),.bool r,.int .i64 d,.slice ao m c]) 1).run Tryz.prog w = .ok (.int .i64 y) w:=fun _=>by kernel_rfl
theorem relHo_sent {H:Ho} {k:Nat} {b:R8} (hk:k<H.bx.length) (ek:wireIx H.bx=k) (eb:H.bx[k]=b):relHo H true=postHo (freeHo H k) ⟨1,b.y,0,b.e,b.i,b.r,b.d,b.l⟩:=by
 subst ek;subst eb;unfold relHo
 rw[dif_pos hk,if_pos rfl]
theorem relHo_doom {H:Ho} {k:Nat} {b:R8} (hk:k<H.bx.length) (ek:wireIx H.bx=k) (eb:H.bx[k]=b) (hx:b.x=3):relHo H false=postHo (freeHo H k) (ev3 6 b.y 0):=by
 subst ek;subst eb;unfold relHo
 rw[dif_pos hk,if_neg (by simp),if_pos hx]
theorem relHo_wait {H:Ho} {k:Nat} {b:R8} (hk:k<H.bx.length) (ek:wireIx H.bx=k) (eb:H.bx[k]=b) (hx:b.x=2):relHo H false=stHo H k 1:=by
 subst ek;subst eb;unfold relHo
 rw[dif_pos hk,if_neg (by simp),if_neg (by omega)]
theorem okBxs.wf {st:Int} {bx:List R8} (h:okBxs st bx):∀ j (hj:j<bx.length),(Lit.int .i64 bx[j].y).wf=true:=fun j hj=>by
 have:=h.1 j hj
 unfold okBx at this
 split at this
 ·rw[this.1]
  exact wf_small (by omega) (by omega)
 ·exact wf_small (by omega) (by omega)
def tellC (C:Co) (b:Int):Co:=if stZ C.te C.re=b then C else { C with ho:=postHo C.ho ⟨10,stZ C.te C.re,0,false,0,false,0,[]⟩ }
set_option maxRecDepth 20000 in
theorem tell_any {w0:World} {M:Nat} {G:Lg} {C:Co} {f1 f3:Nat} {hs:Nat→Hd} {nm:Nat} {D:DataW Unit} {W:World} (h:mc w0 M G C f1 f3 hs nm D W) (b:Int):Calls Tryz.prog 145 #[.pointer (some ⟨M,0,none⟩),.int .i64 b] W fun o w'=>o = .returned (.tuple #[])∧mc w0 M G (tellC C b) f1 f3 hs nm D w':=by
 have HS:Hid (Calls Tryz.prog 106 #[.pointer (some ⟨M,0,none⟩)] W fun o w'=>o = .returned (.int .i64 (stZ C.te C.re))∧mc w0 M G C f1 f3 hs nm D w'∧Below W.heap.size W w'):=state_any h
 have HP:Hid (∀ X,mc w0 M G C f1 f3 hs nm D X→Calls Tryz.prog 87 #[.pointer (some ⟨G.P,0,none⟩),.agg #[.int .i64 10,.int .i64 (stZ C.te C.re),.int .i64 0,.bool false,.int .u32 0,.bool false,.int .i64 0,.slice none 0 0]] X fun o w'=>o = .returned (.tuple #[])∧mc w0 M G { C with ho:=postHo C.ho ⟨10,stZ C.te C.re,0,false,0,false,0,[]⟩ } f1 f3 hs nm D w'):=fun X hX=>hX.post 10 (stZ C.te C.re)
 have HT:Hid (tellC C b=if stZ C.te C.re=b then C else { C with ho:=postHo C.ho ⟨10,stZ C.te C.re,0,false,0,false,0,[]⟩ }):=rfl
 clear h;generalize stZ C.te C.re=z at *;by_cases e:z=b
 ·subst e;have HT2:Hid (tellC C z=C):=by have:=HT.out;rw[if_pos rfl] at this;exact this
  go_enter Tryz.func145,Tryz.ntmps145
  go_wp2_with fail;refine HS.out.mono ?_
  rintro o w1 ⟨rfl,h1,hb⟩;have H1:Hid (mc w0 M G C f1 f3 hs nm D w1):=h1
  clear h1 hb HS;go_wp2_with fail;first | go_end0 | (try simp only[Exit.inBlock,Exit.then]);refine bodyPost_ret (results_none rfl _ _ _) rfl ?_
  exact⟨rfl,by rw[HT2.out];exact H1.out⟩
 ·have d1:(z == b)=false:=by simpa using e
  have d2:(z != b)=true:=by simpa using e
  have HT2:Hid (tellC C b = { C with ho:=postHo C.ho ⟨10,z,0,false,0,false,0,[]⟩ }):=by have:=HT.out;rw[if_neg e] at this;exact this
  go_enter Tryz.func145,Tryz.ntmps145
  go_wp2_with fail;refine HS.out.mono ?_
  rintro o w1 ⟨rfl,h1,hb⟩;have H1:Hid (mc w0 M G C f1 f3 hs nm D w1):=h1
  have y0:=h1.m.cell 0 (.pointer (some ⟨G.P,0,none⟩)) rfl
  clear h1 hb HS;go_wp2_with fail;refine (HP.out _ H1.out).mono ?_
  rintro o w2 ⟨rfl,h2⟩;have H2:Hid (mc w0 M G { C with ho:=postHo C.ho ⟨10,z,0,false,0,false,0,[]⟩ } f1 f3 hs nm D w2):=h2
  clear h2 HP;go_wp2_with fail;first | go_end0 | (try simp only[Exit.inBlock,Exit.then]);refine bodyPost_ret (results_none rfl _ _ _) rfl ?_
  exact⟨rfl,by rw[HT2.out];exact H2.out⟩
theorem flagValue_any (w:World) (b:Bool):Calls Tryz.prog 88 #[.bool b] w fun o w'=>o = .returned (.int .u64 (if b then 1 else 0))∧w=w':=by
 cases b
 ·go_enter Tryz.func88,Tryz.ntmps88
  go_wp2
  go_ret;exact⟨rfl,rfl⟩
 ·go_enter Tryz.func88,Tryz.ntmps88
  go_wp2
  go_ret;exact⟨rfl,rfl⟩
theorem goOff_any {w0:World} {M:Nat} {G:Lg} {C:Co} {f1 f3:Nat} {hs:Nat→Hd} {nm:Nat} {D:DataW Unit} {W:World} (h:mc w0 M G C f1 f3 hs nm D W):Calls Tryz.prog 154 #[.pointer (some ⟨M,0,none⟩)] W fun o w'=>o = .returned (.tuple #[])∧mc w0 M G { C with te:=256 } f1 f3 hs nm D w':=by
 have H1:Hid (mc w0 M G { C with te:=256 } f1 f3 hs nm D (W.setCell ⟨M,1,none⟩ (.int .i64 256))):=h.set 1 (.int .i64 256) rfl rfl
 have y1:=h.m.cell 1 (.int .i64 C.te) rfl
 have f1:=h.m.free 1
 clear h;go_enter Tryz.func154,Tryz.ntmps154
 go_wp2_with fail;first | go_end0 | (try simp only[Exit.inBlock,Exit.then]);refine bodyPost_ret (results_none rfl _ _ _) rfl ?_
 exact⟨rfl,H1.out⟩
def addC (C:Co) (tx:Bool) (n:Int):Co:=if tx then { C with te:=if 256≤C.te+n then 256 else C.te+n } else { C with re:=min (C.re+n) 255 }
set_option maxRecDepth 20000 in
theorem add_any {w0:World} {M:Nat} {G:Lg} {C:Co} {f1 f3:Nat} {hs:Nat→Hd} {nm:Nat} {D:DataW Unit} {W:World} (h:mc w0 M G C f1 f3 hs nm D W) (tx:Bool) (n:Int) (hn:0≤n∧n≤8) (ht:0≤C.te∧C.te≤256) (hr:0≤C.re∧C.re≤255):Calls Tryz.prog 107 #[.pointer (some ⟨M,0,none⟩),.bool tx,.int .i64 n] W fun o w'=>o = .returned (.tuple #[])∧mc w0 M G (addC C tx n) f1 f3 hs nm D w':=by
 have y1:=h.m.cell 1 (.int .i64 C.te) rfl
 have y2:=h.m.cell 2 (.int .i64 C.re) rfl
 have g1:=h.m.free 1
 have g2:=h.m.free 2
 cases tx
 ·have HA:Hid (addC C false n = { C with re:=min (C.re+n) 255 }):=rfl
  have H1:Hid (mc w0 M G { C with re:=min (C.re+n) 255 } f1 f3 hs nm D (W.setCell ⟨M,2,none⟩ (.int .i64 (min (C.re+n) 255)))):=h.set 2 (.int .i64 (min (C.re+n) 255)) rfl rfl
  have hw:IntKind.i64.wrap (C.re+n)=C.re+n:=by rw[IntKind.wrap_i64];omega
  generalize C.re=re at *;clear h ht hr hn;go_enter Tryz.func107,Tryz.ntmps107
  go_wp2_with fail;first | go_end0 | (try simp only[Exit.inBlock,Exit.then]);refine bodyPost_ret (results_none rfl _ _ _) rfl ?_
  exact⟨rfl,by rw[HA.out];exact H1.out⟩
 ·have h1:mc w0 M G { C with te:=C.te+n } f1 f3 hs nm D (W.setCell ⟨M,1,none⟩ (.int .i64 (C.te+n))):=h.set 1 (.int .i64 (C.te+n)) rfl rfl
  have hw:IntKind.i64.wrap (C.te+n)=C.te+n:=by rw[IntKind.wrap_i64];omega
  by_cases hb:256≤C.te+n
  ·have HA:Hid (addC C true n = { C with te:=256 }):=by show addC C true n=_;unfold addC;rw[if_pos rfl,if_pos hb]
   have HG:Hid (Calls Tryz.prog 154 #[.pointer (some ⟨M,0,none⟩)] (W.setCell ⟨M,1,none⟩ (.int .i64 (C.te+n))) fun o w'=>o = .returned (.tuple #[])∧mc w0 M G { C with te:=256 } f1 f3 hs nm D w'):=goOff_any (C:={ C with te:=C.te+n }) h1
   have db:decide (256≤C.te+n)=true:=by simpa using hb
   clear h ht hr hn h1;generalize C.te=te at *;go_enter Tryz.func107,Tryz.ntmps107
   go_wp2_with fail;refine HG.out.mono ?_
   rintro o w2 ⟨rfl,h2⟩;have H2:Hid (mc w0 M G { C with te:=256 } f1 f3 hs nm D w2):=h2
   clear h2;go_wp2_with fail;first | go_end0 | (try simp only[Exit.inBlock,Exit.then]);refine bodyPost_ret (results_none rfl _ _ _) rfl ?_
   exact⟨rfl,by rw[HA.out];exact H2.out⟩
  ·have HA:Hid (addC C true n = { C with te:=C.te+n }):=by show addC C true n=_;unfold addC;rw[if_pos rfl,if_neg hb]
   have H1:Hid (mc w0 M G { C with te:=C.te+n } f1 f3 hs nm D (W.setCell ⟨M,1,none⟩ (.int .i64 (C.te+n)))):=h1
   have db:decide (256≤C.te+n)=false:=by simpa using hb
   clear h ht hr hn h1;generalize C.te=te at *;go_enter Tryz.func107,Tryz.ntmps107
   go_wp2_with fail;first | go_end0 | (try simp only[Exit.inBlock,Exit.then]);refine bodyPost_ret (results_none rfl _ _ _) rfl ?_
   exact⟨rfl,by rw[HA.out];exact H1.out⟩
def fwZ (tx ow:Bool) (p k:Int):Int:=if tx && (ow || k == 6) then 0 else if tx || p == 2 then 8 else 1
set_option maxRecDepth 20000 in
theorem faultWeight_any {w0:World} {M:Nat} {G:Lg} {C:Co} {f1 f3:Nat} {hs:Nat→Hd} {nm:Nat} {D:DataW Unit} {W:World} (h:mc w0 M G C f1 f3 hs nm D W) (k:Int):Calls Tryz.prog 108 #[.pointer (some ⟨M,0,none⟩),.int .i64 k] W fun o w'=>o = .returned (.int .i64 (fwZ C.tx C.ow C.p k))∧W=w':=by
 have y3:=h.m.cell 3 (.int .i64 C.p) rfl
 have y8:=h.m.cell 8 (.bool C.ow) rfl
 have y9:=h.m.cell 9 (.bool C.tx) rfl
 clear h;unfold fwZ
 generalize C.tx=tx at *;generalize C.ow=ow at *;generalize C.p=p at *;obtain⟨q6,e6⟩ : ∃ q,(k == 6)=q:=⟨_,rfl⟩
 obtain⟨q2,e2⟩ : ∃ q,(p == 2)=q:=⟨_,rfl⟩
 rw[e6,e2]
 cases tx <;> cases ow <;> cases q6 <;> cases q2
 all_goals
  go_enter Tryz.func108,Tryz.ntmps108
  go_wp2_with fail;go_ret;exact⟨rfl,rfl⟩
set_option maxRecDepth 20000 in
theorem release_fr {w0:World} {G:Lg} {H:Ho} {f1 f3:Nat} {hs:Nat→Hd} {nm:Nat} {D:DataW Unit} {W:World} (h:lh w0 G H f1 f3 hs nm D W) (sent:Bool) (hwf:∀ j (hj:j<H.bx.length),(Lit.int .i64 H.bx[j].y).wf=true) :
  Calls Tryz.prog 105 #[.pointer (some ⟨G.P,0,none⟩),.bool sent] W fun o w'=>o = .returned (.tuple #[])∧(∃ hs' D',lh w0 G (relHo H sent) f1 f3 hs' nm D' w')∧(∀ q,q≠G.P→q≠G.gq→q≠G.gb→q≠G.mb→q<W.heap.size→w'.heap[q]?=W.heap[q]?):=by
 have HOW:Hid (Calls Tryz.prog 152 #[.pointer (some ⟨G.P,0,none⟩)] W fun o w'=>∃ z:Int,o = .returned (.int .i64 z)∧bsy H.bx z∧Below W.heap.size W w'):=onWire_any W G.P _ G.n2 G.kb H.bx (h.p.cell 5 _ rfl) (h.x.is h.bd.nk) (by have:=h.bd.m2;omega)
 have HL:Hid (lh w0 G H f1 f3 hs nm D W):=h
 have HWF:Hid (∀ j (hj:j<H.bx.length),(Lit.int .i64 H.bx[j].y).wf=true):=hwf
 clear h hwf;go_enter Tryz.func105,Tryz.ntmps105
 go_wp2_with fail;refine HOW.out.mono ?_
 rintro o w5 ⟨z,rfl,hz,hb5⟩;have HL5:Hid (lh w0 G H f1 f3 hs nm D w5):=HL.out.below hb5
 have HF5:Hid (Below W.heap.size W w5):=hb5
 have hR:=hz.ix
 clear HOW HL hz hb5;rcases hR with⟨rfl,hno⟩|⟨rfl,hk⟩
 ·have HT:Hid (relHo H sent=H):=relHo_none hno
  go_wp2_with fail;first | go_end0 | (try simp only[Exit.inBlock,Exit.then]);refine bodyPost_ret (results_none rfl _ _ _) rfl ?_
  exact⟨rfl,⟨hs,D,by rw[HT.out];exact HL5.out⟩,fun q _ _ _ _ h=>HF5.out.block q h⟩
 ·have hon:=wireIx_on hk
  generalize ek:wireIx H.bx=k at *;have HEK:Hid (wireIx H.bx=k):=ek
  clear ek;obtain⟨b,eb⟩ : ∃ b,H.bx[k]=b:=⟨_,rfl⟩
  obtain⟨ao,m,c,eh⟩ : ∃ ao m c,hs k=(ao,m,c):=⟨_,_,_,rfl⟩
  have HV:Hid (Calls Tryz.prog 153 #[.pointer (some ⟨G.P,0,none⟩),.int .i64 (k:Int)] w5 fun o w'=>o = .returned (.agg #[.int .i64 b.x,.int .i64 b.y,.int .i64 b.z,.bool b.e,.int .u32 (b.i:Int),.bool b.r,.int .i64 b.d,.slice ao m c])∧lh w0 G (freeHo H k) f1 f3 (fun j=>if j=k then (none,0,0) else hs j) nm (D.del (.int .i64 b.y)) w'∧(∀ q,q≠G.gb→q≠G.mb→q<w5.heap.size→w'.heap[q]?=w5.heap[q]?)∧w5.heap.size≤w'.heap.size):=vacate_any HL5.out k hk b eb ao m c eh (by rw[← eb];exact HWF.out k hk)
  have HBY:Hid (isBytes w0 ao m c b.l∧b.l.length≤1048576):=by
   have h1:=HL5.out.x.old k hk (Nat.zero_le _)
   have h2:=HL5.out.x.sm k hk
   rw[eb,eh] at h1
   rw[eb] at h2
   exact⟨h1,h2⟩
  have HY0:Hid (w5.cell? ⟨G.gb,k*8,none⟩=some (.int .i64 b.x)):=by
   have:=HL5.out.x.rng k hk 0 _ rfl
   rw[eb] at this
   exact this
  have hf0:w5.frozen? ⟨G.gb,k*8,none⟩=false:=(HL5.out.x.row (k*8) (by have:=HL5.out.x.len;omega)).2
  have y5:=HL5.out.p.cell 5 _ rfl
  have hkn:k<G.n2:=by have:=HL5.out.x.len;omega
  have hcp:=HL5.out.bd.nk
  have hm2:=HL5.out.bd.m2
  have HEB:Hid (∃ hk:k<H.bx.length,H.bx[k]=b):=⟨hk,eb⟩
  have HKK:Hid (k<H.bx.length):=hk
  rw[eb] at hon
  clear eb eh;cases sent
  ·rcases hon with e0|e0
   ·have HT:Hid (relHo H false=stHo H k 1):=relHo_wait HKK.out HEK.out HEB.out.2 e0
    have y0:=HY0.out
    rw[e0] at y0
    go_wp2_with fail;first | go_end0 | (try simp only[Exit.inBlock,Exit.then]);refine bodyPost_ret (results_none rfl _ _ _) rfl ?_
    exact⟨rfl,⟨hs,D,by rw[HT.out];exact HL5.out.state k HKK.out 1⟩,fun q _ _ h3 _ h5=>(heap_setCell_other w5 ⟨G.gb,k*8,none⟩ q _ h3).trans (HF5.out.block q h5)⟩
   ·have HT:Hid (relHo H false=postHo (freeHo H k) (ev3 6 b.y 0)):=relHo_doom HKK.out HEK.out HEB.out.2 e0
    have y0:=HY0.out
    rw[e0] at y0
    go_wp2_with fail;refine HV.out.mono ?_
    rintro o w6 ⟨rfl,hl6,hk6,hz6⟩;have HF6:Hid ((∀ q,q≠G.gb→q≠G.mb→q<w5.heap.size→w6.heap[q]?=w5.heap[q]?)∧w5.heap.size≤w6.heap.size):=⟨hk6,hz6⟩
    clear hk6 hz6;have HP:Hid (Calls Tryz.prog 87 #[.pointer (some ⟨G.P,0,none⟩),.agg #[.int .i64 6,.int .i64 b.y,.int .i64 0,.bool false,.int .u32 0,.bool false,.int .i64 0,.slice none 0 0]] w6 fun o w'=>o = .returned (.tuple #[])∧lh w0 G (postHo (freeHo H k) (ev3 6 b.y 0)) f1 f3 (fun j=>if j=k then (none,0,0) else hs j) nm (D.del (.int .i64 b.y)) w'∧(∀ q,q≠G.P→q≠G.gq→q<w6.heap.size→w'.heap[q]?=w6.heap[q]?)∧w6.heap.size≤w'.heap.size):=hl6.post (ev3 6 b.y 0) none 0 0 (none8 _) (Nat.zero_le _)
    clear hl6 HV;have hfd:=field97 3 b.y b.z b.e b.i b.r b.d ao m c
    go_wp2_with fail;refine HP.out.mono ?_
    rintro o w7 ⟨rfl,hl7,hk7,_⟩;have HF7:Hid (∀ q,q≠G.P→q≠G.gq→q<w6.heap.size→w7.heap[q]?=w6.heap[q]?):=hk7
    clear hk7;have HL7:Hid (lh w0 G (postHo (freeHo H k) (ev3 6 b.y 0)) f1 f3 (fun j=>if j=k then (none,0,0) else hs j) nm (D.del (.int .i64 b.y)) w7):=hl7
    clear hl7 HP;go_wp2_with fail;first | go_end0 | (try simp only[Exit.inBlock,Exit.then]);refine bodyPost_ret (results_none rfl _ _ _) rfl ?_
    exact⟨rfl,⟨_,_,by rw[HT.out];exact HL7.out⟩,fun q a1 a2 a3 a4 a5=>(HF7.out q a1 a2 (by have:=HF6.out.2;have:=HF5.out.size;omega)).trans ((HF6.out.1 q a3 a4 (by have:=HF5.out.size;omega)).trans (HF5.out.block q a5))⟩
  ·have HT:Hid (relHo H true=postHo (freeHo H k) ⟨1,b.y,0,b.e,b.i,b.r,b.d,b.l⟩):=relHo_sent HKK.out HEK.out HEB.out.2
   obtain⟨bX,bY,bZ,bE,bI,bR,bD,bL⟩:=b
   go_wp2_with fail;refine HV.out.mono ?_
   rintro o w6 ⟨rfl,hl6,hk6,hz6⟩;have HF6:Hid ((∀ q,q≠G.gb→q≠G.mb→q<w5.heap.size→w6.heap[q]?=w5.heap[q]?)∧w5.heap.size≤w6.heap.size):=⟨hk6,hz6⟩
   clear hk6 hz6;have hbA:Below w6.heap.size w6 (w6.alloc (.cells [.int .i64 bX,.int .i64 bY,.int .i64 bZ,.bool bE,.int .u32 (bI:Int),.bool bR,.int .i64 bD,.slice ao m c].toArray 166)):=(Below.refl _ _).alloc (Nat.le_refl _) _
   have HP:Hid (Calls Tryz.prog 87 #[.pointer (some ⟨G.P,0,none⟩),.agg #[.int .i64 1,.int .i64 bY,.int .i64 0,.bool bE,.int .u32 (bI:Int),.bool bR,.int .i64 bD,.slice ao m c]] (w6.alloc (.cells [.int .i64 bX,.int .i64 bY,.int .i64 bZ,.bool bE,.int .u32 (bI:Int),.bool bR,.int .i64 bD,.slice ao m c].toArray 166)) fun o w'=>o = .returned (.tuple #[])∧lh w0 G (postHo (freeHo H k) ⟨1,bY,0,bE,bI,bR,bD,bL⟩) f1 f3 (fun j=>if j=k then (none,0,0) else hs j) nm (D.del (.int .i64 bY)) w'∧(∀ q,q≠G.P→q≠G.gq→q<(w6.alloc (.cells [.int .i64 bX,.int .i64 bY,.int .i64 bZ,.bool bE,.int .u32 (bI:Int),.bool bR,.int .i64 bD,.slice ao m c].toArray 166)).heap.size→w'.heap[q]?=(w6.alloc (.cells [.int .i64 bX,.int .i64 bY,.int .i64 bZ,.bool bE,.int .u32 (bI:Int),.bool bR,.int .i64 bD,.slice ao m c].toArray 166)).heap[q]?)∧(w6.alloc (.cells [.int .i64 bX,.int .i64 bY,.int .i64 bZ,.bool bE,.int .u32 (bI:Int),.bool bR,.int .i64 bD,.slice ao m c].toArray 166)).heap.size≤w'.heap.size):=(hl6.below hbA).post ⟨1,bY,0,bE,bI,bR,bD,bL⟩ ao m c HBY.out.1 HBY.out.2
   have HPB:Hid (blk (w6.alloc (.cells [.int .i64 bX,.int .i64 bY,.int .i64 bZ,.bool bE,.int .u32 (bI:Int),.bool bR,.int .i64 bD,.slice ao m c].toArray 166)) w6.heap.size [.int .i64 bX,.int .i64 bY,.int .i64 bZ,.bool bE,.int .u32 (bI:Int),.bool bR,.int .i64 bD,.slice ao m c] 166):=blk.new w6 _ 166
   have y1:(w6.alloc (.cells [.int .i64 bX,.int .i64 bY,.int .i64 bZ,.bool bE,.int .u32 (bI:Int),.bool bR,.int .i64 bD,.slice ao m c].toArray 166)).cell? ⟨w6.heap.size,1,none⟩=some (.int .i64 bY):=HPB.out.cell 1 _ rfl
   have HBA:Hid (Below w6.heap.size w6 (w6.alloc (.cells [.int .i64 bX,.int .i64 bY,.int .i64 bZ,.bool bE,.int .u32 (bI:Int),.bool bR,.int .i64 bD,.slice ao m c].toArray 166))):=hbA
   clear hl6 hbA HV;go_wp2_with (first
    | (refine wpList_load_mid (P:=Tryz.prog) rfl 55 _ rfl w6.heap.size 3 rfl [.bool bE,.int .u32 (bI:Int),.bool bR,.int .i64 bD,.slice ao m c] _ (blk.loadAt [.int .i64 bX,.int .i64 bY,.int .i64 bZ] [.bool bE,.int .u32 (bI:Int),.bool bR,.int .i64 bD,.slice ao m c] [] HPB.out) Tryz.underlying55 rfl sz93 ?_))
   refine HP.out.mono ?_
   rintro o w7 ⟨rfl,hl7,hk7,_⟩;have HF7:Hid (∀ q,q≠G.P→q≠G.gq→q<w6.heap.size→w7.heap[q]?=w6.heap[q]?):=fun q h1 h2 h3=>(hk7 q h1 h2 (Nat.lt_of_lt_of_le h3 HBA.out.size)).trans (HBA.out.block q h3)
   clear hk7 HBA;have HL7:Hid (lh w0 G (postHo (freeHo H k) ⟨1,bY,0,bE,bI,bR,bD,bL⟩) f1 f3 (fun j=>if j=k then (none,0,0) else hs j) nm (D.del (.int .i64 bY)) w7):=hl7
   clear hl7 HP;go_wp2_with fail;first | go_end0 | (try simp only[Exit.inBlock,Exit.then]);refine bodyPost_ret (results_none rfl _ _ _) rfl ?_
   exact⟨rfl,⟨_,_,by rw[HT.out];exact HL7.out⟩,fun q a1 a2 a3 a4 a5=>(HF7.out q a1 a2 (by have:=HF6.out.2;have:=HF5.out.size;omega)).trans ((HF6.out.1 q a3 a4 (by have:=HF5.out.size;omega)).trans (HF5.out.block q a5))⟩
theorem mc.release {w0:World} {M:Nat} {G:Lg} {C:Co} {f1 f3:Nat} {hs:Nat→Hd} {nm:Nat} {D:DataW Unit} {W:World} (h:mc w0 M G C f1 f3 hs nm D W) (sent:Bool) (hwf:∀ j (hj:j<C.ho.bx.length),(Lit.int .i64 C.ho.bx[j].y).wf=true) :
  Calls Tryz.prog 105 #[.pointer (some ⟨G.P,0,none⟩),.bool sent] W fun o w'=>o = .returned (.tuple #[])∧∃ hs' D',mc w0 M G { C with ho:=relHo C.ho sent } f1 f3 hs' nm D' w':=by
 refine (release_fr h.h sent hwf).mono ?_
 rintro o w' ⟨rfl,⟨hs',D',h1⟩,h2⟩;exact⟨rfl,hs',D',h.m.kept (h2 M h.o.1 h.o.2.2.2.2.2.1 h.o.2.2.2.1 h.o.2.1 h.m.lt),h1,h.o⟩
theorem mc.post2 {w0:World} {M:Nat} {G:Lg} {C:Co} {f1 f3:Nat} {hs:Nat→Hd} {nm:Nat} {D:DataW Unit} {W:World} (h:mc w0 M G C f1 f3 hs nm D W) (k a b:Int) :
  Calls Tryz.prog 87 #[.pointer (some ⟨G.P,0,none⟩),.agg #[.int .i64 k,.int .i64 a,.int .i64 b,.bool false,.int .u32 0,.bool false,.int .i64 0,.slice none 0 0]] W fun o w'=>o = .returned (.tuple #[])∧mc w0 M G { C with ho:=postHo C.ho (ev3 k a b) } f1 f3 hs nm D w':=by
 refine (h.h.post (ev3 k a b) none 0 0 (none8 _) (Nat.zero_le _)).mono ?_
 rintro o w' ⟨rfl,h1,h2,h3⟩;exact⟨rfl,h.m.kept (h2 M h.o.1 h.o.2.2.2.2.2.1 h.m.lt),h1,h.o⟩
end Go.Proofs.YtkfcfigbgmbaiaaGreat
