import Derived.Test.YtgkkcpgocbcbaaaGreatK31
import Derived.StillTailTactics
import Derived.Deep.RegionHeld3
namespace Go.Proofs.YtgkkcpgocbcbaaaGreat
open Go.RowKit
set_option linter.unusedVariables false
def lhU (G:Lg) (B:Nat):Prop:=G.P<B∧G.mb<B∧G.gf<B∧G.gb<B∧G.gr<B∧G.gq<B
theorem lh.lts {w0:World} {G:Lg} {H:Ho} {f1 f3:Nat} {hs:Nat→Hd} {nm:Nat} {D:DataW Unit} {W:World} (h:lh w0 G H f1 f3 hs nm D W):lhU G W.heap.size:=⟨h.p.lt,h.m.lt,h.hi.1,h.x.hi,h.hi.2.1,h.hi.2.2⟩
theorem lh.put {w0:World} {G:Lg} {H:Ho} {f1 f3:Nat} {hs:Nat→Hd} {nm:Nat} {D:DataW Unit} {W:World} (h:lh w0 G H f1 f3 hs nm D W) {B x:Nat} (hB:lhU G B) (hx:B≤x) (o:Nat) (l:List Value):lh w0 G H f1 f3 hs nm D (W.setCells x o l):=by
 obtain⟨b1,b2,b3,b4,b5,b6⟩:=hB
 have hlo:=h.d.lo
 have he:∀ q,q<B→(W.setCells x o l).heap[q]?=W.heap[q]?:=fun q hq=>setCells_other _ q (by omega) _ _ _
 have hb:Below w0.heap.size w0 (W.setCells x o l):=setCells_below (by omega) o l h.b
 have hz:(W.setCells x o l).heap.size=W.heap.size:=setCells_size ..
 refine⟨h.p.kept (he _ b1),h.f.same (he _ b3),h.x.at0 (he _ b4) hb,h.r.keep (he _ b5),h.rz.up (he _ b5),h.q.keep (he _ b6),h.qz.up (he _ b6),?_,hb,by rw[hz];exact h.hi,h.d,h.bd⟩
 obtain⟨es,clock,q1,q2⟩:=h.m
 exact⟨es,clock,(he _ b2).trans q1,q2⟩
theorem key3 {a:Int} (hw:(Lit.int .i64 a).wf=true):keyOf Tryz.prog 3 (.int .i64 a)=some (.int .i64 a):=Maps.keyOf_int_mk Tryz.underlying3 hw
theorem keyed3:Maps.Keyed Tryz.prog 3:=Maps.int_keyed Tryz.underlying3
set_option maxHeartbeats 4000000 in
set_option maxRecDepth 20000 in
theorem vacate_any {w0:World} {G:Lg} {H:Ho} {f1 f3:Nat} {hs:Nat→Hd} {nm:Nat} {D:DataW Unit} {W:World} (h:lh w0 G H f1 f3 hs nm D W) (k:Nat) (hk:k<H.bx.length) (b:R8) (eb:H.bx[k]=b) (ao:Option Addr) (m c:Nat) (eh:hs k=(ao,m,c)) (hw:(Lit.int .i64 b.y).wf=true) :
  Calls Tryz.prog 150 #[.pointer (some ⟨G.P,0,none⟩),.int .i64 (k:Int)] W fun o w'=>o = .returned (.agg #[.int .i64 b.x,.int .i64 b.y,.int .i64 b.z,.bool b.e,.int .u32 (b.i:Int),.bool b.r,.int .i64 b.d,.slice ao m c])∧lh w0 G (freeHo H k) f1 f3 (fun j=>if j=k then (none,0,0) else hs j) nm (D.del (.int .i64 b.y)) w'∧(∀ q,q≠G.gb→q≠G.mb→q<W.heap.size→w'.heap[q]?=W.heap[q]?)∧W.heap.size≤w'.heap.size:=by
 have y5:=h.p.cell 5 _ rfl
 have y6:=h.p.cell 6 _ rfl
 have hr:=h.x.rng k hk
 rw[eb,eh] at hr
 have hln:=h.x.len
 have hkn:k<G.n2:=by omega
 have hcp:=h.bd.nk
 have hm2:=h.bd.m2
 have HU:Hid (lhU G W.heap.size):=h.lts
 have HL:Hid (lh w0 G H f1 f3 hs nm D W):=h
 have HKK:Hid (k<H.bx.length):=hk
 have HW:Hid (keyOf Tryz.prog 3 (.int .i64 b.y)=some (.int .i64 b.y)):=key3 hw
 clear h hk eb eh hw hln
 obtain⟨bX,bY,bZ,bE,bI,bR,bD,bL⟩:=b
 simp only[] at HW
 have HRG:Hid (W.rangeAt G.gb (k*8) [.int .i64 bX,.int .i64 bY,.int .i64 bZ,.bool bE,.int .u32 (bI:Int),.bool bR,.int .i64 bD,.slice ao m c]):=hr
 clear hr
 have HBA:Hid (Below W.heap.size W (W.alloc (.cells [.int .i64 0,.int .i64 0,.int .i64 0,.bool false,.int .u32 0,.bool false,.int .i64 0,.slice none 0 0].toArray 55))):=(Below.refl _ _).alloc (Nat.le_refl _) _
 have HLA:Hid (lh w0 G H f1 f3 hs nm D (W.alloc (.cells [.int .i64 0,.int .i64 0,.int .i64 0,.bool false,.int .u32 0,.bool false,.int .i64 0,.slice none 0 0].toArray 55))):=HL.out.below HBA.out
 have HRA:Hid (blk (W.alloc (.cells [.int .i64 0,.int .i64 0,.int .i64 0,.bool false,.int .u32 0,.bool false,.int .i64 0,.slice none 0 0].toArray 55)) W.heap.size [.int .i64 0,.int .i64 0,.int .i64 0,.bool false,.int .u32 0,.bool false,.int .i64 0,.slice none 0 0] 55):=blk.new W _ 55
 have y5:(W.alloc (.cells [.int .i64 0,.int .i64 0,.int .i64 0,.bool false,.int .u32 0,.bool false,.int .i64 0,.slice none 0 0].toArray 55)).cell? ⟨G.P,5,none⟩=some (.slice (some ⟨G.gb,0,none⟩) G.n2 G.kb):=HLA.out.p.cell 5 _ rfl
 have HRG:Hid ((W.alloc (.cells [.int .i64 0,.int .i64 0,.int .i64 0,.bool false,.int .u32 0,.bool false,.int .i64 0,.slice none 0 0].toArray 55)).rangeAt G.gb (k*8) [.int .i64 bX,.int .i64 bY,.int .i64 bZ,.bool bE,.int .u32 (bI:Int),.bool bR,.int .i64 bD,.slice ao m c]):=range_below HRG.out HBA.out HU.out.2.2.2.1
 have HBB:Hid (Below (W.alloc (.cells [.int .i64 0,.int .i64 0,.int .i64 0,.bool false,.int .u32 0,.bool false,.int .i64 0,.slice none 0 0].toArray 55)).heap.size (W.alloc (.cells [.int .i64 0,.int .i64 0,.int .i64 0,.bool false,.int .u32 0,.bool false,.int .i64 0,.slice none 0 0].toArray 55)) ((W.alloc (.cells [.int .i64 0,.int .i64 0,.int .i64 0,.bool false,.int .u32 0,.bool false,.int .i64 0,.slice none 0 0].toArray 55)).alloc (.cells [.int .i64 bX,.int .i64 bY,.int .i64 bZ,.bool bE,.int .u32 (bI:Int),.bool bR,.int .i64 bD,.slice ao m c].toArray 55))):=(Below.refl _ _).alloc (Nat.le_refl _) _
 have HRB:Hid (blk ((W.alloc (.cells [.int .i64 0,.int .i64 0,.int .i64 0,.bool false,.int .u32 0,.bool false,.int .i64 0,.slice none 0 0].toArray 55)).alloc (.cells [.int .i64 bX,.int .i64 bY,.int .i64 bZ,.bool bE,.int .u32 (bI:Int),.bool bR,.int .i64 bD,.slice ao m c].toArray 55)) (W.heap.size+1) [.int .i64 bX,.int .i64 bY,.int .i64 bZ,.bool bE,.int .u32 (bI:Int),.bool bR,.int .i64 bD,.slice ao m c] 55):=by
  have:=blk.new (W.alloc (.cells [.int .i64 0,.int .i64 0,.int .i64 0,.bool false,.int .u32 0,.bool false,.int .i64 0,.slice none 0 0].toArray 55)) [.int .i64 bX,.int .i64 bY,.int .i64 bZ,.bool bE,.int .u32 (bI:Int),.bool bR,.int .i64 bD,.slice ao m c] 55
  have e:(W.alloc (.cells [.int .i64 0,.int .i64 0,.int .i64 0,.bool false,.int .u32 0,.bool false,.int .i64 0,.slice none 0 0].toArray 55)).heap.size=W.heap.size+1:=by simp
  rw[e] at this
  exact this
 have HR2:Hid (blk ((W.alloc (.cells [.int .i64 0,.int .i64 0,.int .i64 0,.bool false,.int .u32 0,.bool false,.int .i64 0,.slice none 0 0].toArray 55)).alloc (.cells [.int .i64 bX,.int .i64 bY,.int .i64 bZ,.bool bE,.int .u32 (bI:Int),.bool bR,.int .i64 bD,.slice ao m c].toArray 55)) W.heap.size [.int .i64 0,.int .i64 0,.int .i64 0,.bool false,.int .u32 0,.bool false,.int .i64 0,.slice none 0 0] 55):=HRA.out.below HBB.out
 have HL2:Hid (lh w0 G H f1 f3 hs nm D ((W.alloc (.cells [.int .i64 0,.int .i64 0,.int .i64 0,.bool false,.int .u32 0,.bool false,.int .i64 0,.slice none 0 0].toArray 55)).alloc (.cells [.int .i64 bX,.int .i64 bY,.int .i64 bZ,.bool bE,.int .u32 (bI:Int),.bool bR,.int .i64 bD,.slice ao m c].toArray 55))):=HLA.out.below HBB.out
 have HB2:Hid (Below W.heap.size W ((W.alloc (.cells [.int .i64 0,.int .i64 0,.int .i64 0,.bool false,.int .u32 0,.bool false,.int .i64 0,.slice none 0 0].toArray 55)).alloc (.cells [.int .i64 bX,.int .i64 bY,.int .i64 bZ,.bool bE,.int .u32 (bI:Int),.bool bR,.int .i64 bD,.slice ao m c].toArray 55))):=HBA.out.trans (HBB.out.mono HBA.out.size)
 clear y6
 go_enter Tryz.func150,Tryz.ntmps150
 go_wp2_with (first
  | (refine wpList_load_mid (P:=Tryz.prog) rfl 55 _ rfl G.gb (k*8) rfl [.int .i64 bX,.int .i64 bY,.int .i64 bZ,.bool bE,.int .u32 (bI:Int),.bool bR,.int .i64 bD,.slice ao m c] _ HRG.out Tryz.underlying55 rfl sz95 ?_))
 clear HRG HBB HLA HRA HBA
 clear y5
 refine wp_region_still_tail 6 (by kernel_rfl) (by kernel_rfl) ?_
 change wpStill Tryz.prog _ (World.drew ((W.alloc (.cells [.int .i64 0,.int .i64 0,.int .i64 0,.bool false,.int .u32 0,.bool false,.int .i64 0,.slice none 0 0].toArray 55)).alloc (.cells [.int .i64 bX,.int .i64 bY,.int .i64 bZ,.bool bE,.int .u32 (bI:Int),.bool bR,.int .i64 bD,.slice ao m c].toArray 55))) (fun a'=>wpList Tryz.prog _ _ _ a' (World.drew ((W.alloc (.cells [.int .i64 0,.int .i64 0,.int .i64 0,.bool false,.int .u32 0,.bool false,.int .i64 0,.slice none 0 0].toArray 55)).alloc (.cells [.int .i64 bX,.int .i64 bY,.int .i64 bZ,.bool bE,.int .u32 (bI:Int),.bool bR,.int .i64 bD,.slice ao m c].toArray 55)))) _ _
 have HB2:Hid (Below W.heap.size W (World.drew ((W.alloc (.cells [.int .i64 0,.int .i64 0,.int .i64 0,.bool false,.int .u32 0,.bool false,.int .i64 0,.slice none 0 0].toArray 55)).alloc (.cells [.int .i64 bX,.int .i64 bY,.int .i64 bZ,.bool bE,.int .u32 (bI:Int),.bool bR,.int .i64 bD,.slice ao m c].toArray 55)))):=HB2.out.drew
 have HR2:Hid (blk (World.drew ((W.alloc (.cells [.int .i64 0,.int .i64 0,.int .i64 0,.bool false,.int .u32 0,.bool false,.int .i64 0,.slice none 0 0].toArray 55)).alloc (.cells [.int .i64 bX,.int .i64 bY,.int .i64 bZ,.bool bE,.int .u32 (bI:Int),.bool bR,.int .i64 bD,.slice ao m c].toArray 55))) W.heap.size [.int .i64 0,.int .i64 0,.int .i64 0,.bool false,.int .u32 0,.bool false,.int .i64 0,.slice none 0 0] 55):=HR2.out.below (Below.refl _ _).drew
 have HRB:Hid (blk (World.drew ((W.alloc (.cells [.int .i64 0,.int .i64 0,.int .i64 0,.bool false,.int .u32 0,.bool false,.int .i64 0,.slice none 0 0].toArray 55)).alloc (.cells [.int .i64 bX,.int .i64 bY,.int .i64 bZ,.bool bE,.int .u32 (bI:Int),.bool bR,.int .i64 bD,.slice ao m c].toArray 55))) (W.heap.size+1) [.int .i64 bX,.int .i64 bY,.int .i64 bZ,.bool bE,.int .u32 (bI:Int),.bool bR,.int .i64 bD,.slice ao m c] 55):=HRB.out.below (Below.refl _ _).drew
 have HL2:Hid (lh w0 G H f1 f3 hs nm D (World.drew ((W.alloc (.cells [.int .i64 0,.int .i64 0,.int .i64 0,.bool false,.int .u32 0,.bool false,.int .i64 0,.slice none 0 0].toArray 55)).alloc (.cells [.int .i64 bX,.int .i64 bY,.int .i64 bZ,.bool bE,.int .u32 (bI:Int),.bool bR,.int .i64 bD,.slice ao m c].toArray 55)))):=HL2.out.below (Below.refl _ _).drew
 generalize World.drew ((W.alloc (.cells [.int .i64 0,.int .i64 0,.int .i64 0,.bool false,.int .u32 0,.bool false,.int .i64 0,.slice none 0 0].toArray 55)).alloc (.cells [.int .i64 bX,.int .i64 bY,.int .i64 bZ,.bool bE,.int .u32 (bI:Int),.bool bR,.int .i64 bD,.slice ao m c].toArray 55))=w2 at *
 have y6:=HL2.out.p.cell 6 _ rfl
 have y1:=HRB.out.cell 1 _ rfl
 simp only[List.take_succ_cons,List.take_zero,List.drop_succ_cons,List.drop_zero]
 repeat still_step
 refine wpStill_nil ?_
 refine wpList_delete_own _ rfl _ _ 119 3 rfl 3 keyed3 Tryz.underlying119 _ G.mb nm D rfl HL2.out.m _ _ rfl HW.out ?_
 intro w3 hm3 ht3
 have hg3:=ht3.grown
 have HL3:Hid (lh w0 G H f1 f3 hs nm (D.del (.int .i64 bY)) w3):=HL2.out.tags hg3 hm3
 have HO3:Hid (∀ q,q≠G.mb→q<W.heap.size→w3.heap[q]?=W.heap[q]?):=fun q h1 h2=>(hg3.block q (Nat.lt_of_lt_of_le h2 HB2.out.size) (by simpa using h1)).trans (HB2.out.block q h2)
 have HR3:Hid (blk w3 W.heap.size [.int .i64 0,.int .i64 0,.int .i64 0,.bool false,.int .u32 0,.bool false,.int .i64 0,.slice none 0 0] 55):=HR2.out.kept (hg3.block _ HR2.out.lt (by have:=HU.out.2.1;simp;omega))
 have HB3:Hid (blk w3 (W.heap.size+1) [.int .i64 bX,.int .i64 bY,.int .i64 bZ,.bool bE,.int .u32 (bI:Int),.bool bR,.int .i64 bD,.slice ao m c] 55):=HRB.out.kept (hg3.block _ HRB.out.lt (by have:=HU.out.2.1;simp;omega))
 have HZ3:Hid (W.heap.size≤w3.heap.size):=Nat.le_trans HB2.out.size hg3.size
 have y5:=HL3.out.p.cell 5 _ rfl
 have HT3:Hid (w3.there G.gb (k*8) 8):=fun j hj=>by
  obtain⟨⟨v,hv⟩,hf⟩:=HL3.out.x.row (k*8+j) (by omega)
  exact⟨by rw[hv];rfl,hf⟩
 clear hm3 ht3 hg3 HB2 HR2 HRB HL2 y6 y1 HW
 have HO4:Hid (∀ w4,World.setCells w3 G.gb (k*8) [.int .i64 0,.int .i64 0,.int .i64 0,.bool false,.int .u32 0,.bool false,.int .i64 0,.slice none 0 0]=w4→lh w0 G (freeHo H k) f1 f3 (fun j=>if j=k then (none,0,0) else hs j) nm (D.del (.int .i64 bY)) w4∧blk w4 W.heap.size [.int .i64 0,.int .i64 0,.int .i64 0,.bool false,.int .u32 0,.bool false,.int .i64 0,.slice none 0 0] 55∧blk w4 (W.heap.size+1) [.int .i64 bX,.int .i64 bY,.int .i64 bZ,.bool bE,.int .u32 (bI:Int),.bool bR,.int .i64 bD,.slice ao m c] 55∧(∀ q,q≠G.gb→w4.heap[q]?=w3.heap[q]?)∧w4.heap.size=w3.heap.size):=fun w4 e4=>by
  have oth:∀ q,q≠G.gb→w4.heap[q]?=w3.heap[q]?:=fun q hq=>by rw[← e4];exact setCells_other _ q hq _ _ _
  have hu:=HU.out.2.2.2.1
  refine⟨by rw[← e4];exact HL3.out.free k HKK.out,HR3.out.kept (oth _ (by omega)),HB3.out.kept (oth _ (by omega)),oth,by rw[← e4];exact setCells_size ..⟩
 go_wp2_with (first
  | (refine wpList_store_mid (P:=Tryz.prog) rfl 55 _ _ rfl G.gb (k*8) [.int .i64 0,.int .i64 0,.int .i64 0,.bool false,.int .u32 0,.bool false,.int .i64 0,.slice none 0 0].toArray rfl rfl HT3.out sz95 (one8 _ _ _ _ _ _ _ _ _ _) ?_;generalize hW4:World.setCells w3 G.gb (k*8) _=w4;have HW4:Hid (lh w0 G (freeHo H k) f1 f3 (fun j=>if j=k then (none,0,0) else hs j) nm (D.del (.int .i64 bY)) w4∧blk w4 W.heap.size [.int .i64 0,.int .i64 0,.int .i64 0,.bool false,.int .u32 0,.bool false,.int .i64 0,.slice none 0 0] 55∧blk w4 (W.heap.size+1) [.int .i64 bX,.int .i64 bY,.int .i64 bZ,.bool bE,.int .u32 (bI:Int),.bool bR,.int .i64 bD,.slice ao m c] 55∧(∀ q,q≠G.gb→w4.heap[q]?=w3.heap[q]?)∧w4.heap.size=w3.heap.size):=HO4.out _ hW4;clear hW4)
  | (refine wpList_load_mid (P:=Tryz.prog) rfl 55 _ rfl (W.heap.size+1) 0 rfl [.int .i64 bX,.int .i64 bY,.int .i64 bZ,.bool bE,.int .u32 (bI:Int),.bool bR,.int .i64 bD,.slice ao m c] _ HW4.out.2.2.1.load Tryz.underlying55 rfl sz95 ?_)
  | (refine wpList_store_mid (P:=Tryz.prog) rfl 55 _ _ rfl W.heap.size 0 [.int .i64 bX,.int .i64 bY,.int .i64 bZ,.bool bE,.int .u32 (bI:Int),.bool bR,.int .i64 bD,.slice ao m c].toArray rfl rfl (HW4.out.2.1.there 0 8 (by simp)) sz95 (one8 _ _ _ _ _ _ _ _ _ _) ?_;generalize hW9:World.setCells w4 W.heap.size 0 _=w9;have HW9:Hid (_=w9):=hW9;clear hW9))
 have e9:=HW9.out
 have hF:blk w9 W.heap.size [.int .i64 bX,.int .i64 bY,.int .i64 bZ,.bool bE,.int .u32 (bI:Int),.bool bR,.int .i64 bD,.slice ao m c] 55:=by
  rw[← e9]
  have:=blk.put [] [.int .i64 0,.int .i64 0,.int .i64 0,.bool false,.int .u32 0,.bool false,.int .i64 0,.slice none 0 0] [] [.int .i64 bX,.int .i64 bY,.int .i64 bZ,.bool bE,.int .u32 (bI:Int),.bool bR,.int .i64 bD,.slice ao m c] (w:=w4) (b:=W.heap.size) (T:=55) (by simpa using HW4.out.2.1) rfl
  simpa using this
 have hL:=run_loadVar_mid (P:=Tryz.prog) w9 W.heap.size 0 55 _ _ hF.load Tryz.underlying55 rfl sz95
 refine bodyPost_ret (v:=.agg [.int .i64 bX,.int .i64 bY,.int .i64 bZ,.bool bE,.int .u32 (bI:Int),.bool bR,.int .i64 bD,.slice ao m c].toArray) (results_cell Tryz.results150 _ w9 W.heap.size _ rfl hL) rfl ?_
 refine⟨rfl,?_,fun q h1 h2 h3=>?_,?_⟩
 ·rw[← e9]
  exact HW4.out.1.put HU.out (Nat.le_refl _) 0 _
 ·rw[← e9,setCells_other _ q (by omega) _ _ _,HW4.out.2.2.2.1 q h1]
  exact HO3.out q h2 h3
 ·rw[← e9,setCells_size,HW4.out.2.2.2.2]
  exact HZ3.out
theorem field97 (x y z:Int) (e:Bool) (i:Nat) (r:Bool) (d:Int) (ao:Option Addr) (m c:Nat):∀ w:World,(Instr.field 55 (.agg #[.int .i64 x,.int .i64 y,.int .i64 z,.bool e,.int .u32 (i:Int),.bool r,.int .i64 d,.slice ao m c]) 1).run Tryz.prog w = .ok (.int .i64 y) w:=fun _=>by kernel_rfl
theorem relHo_sent {H:Ho} {k:Nat} {b:R8} (hk:k<H.bx.length) (ek:wireIx H.bx=k) (eb:H.bx[k]=b):relHo H true=postHo (freeHo H k) ⟨1,b.y,0,b.e,b.i,b.r,b.d,b.l⟩:=by
 subst ek
 subst eb
 unfold relHo
 rw[dif_pos hk,if_pos rfl]
theorem relHo_doom {H:Ho} {k:Nat} {b:R8} (hk:k<H.bx.length) (ek:wireIx H.bx=k) (eb:H.bx[k]=b) (hx:b.x=3):relHo H false=postHo (freeHo H k) (ev3 6 b.y 0):=by
 subst ek
 subst eb
 unfold relHo
 rw[dif_pos hk,if_neg (by simp),if_pos hx]
theorem relHo_wait {H:Ho} {k:Nat} {b:R8} (hk:k<H.bx.length) (ek:wireIx H.bx=k) (eb:H.bx[k]=b) (hx:b.x=2):relHo H false=stHo H k 1:=by
 subst ek
 subst eb
 unfold relHo
 rw[dif_pos hk,if_neg (by simp),if_neg (by omega)]
theorem okBxs.wf {st:Int} {bx:List R8} (h:okBxs st bx):∀ j (hj:j<bx.length),(Lit.int .i64 bx[j].y).wf=true:=fun j hj=>by
 have:=h.1 j hj
 unfold okBx at this
 split at this
 ·rw[this.1]
  exact wf_small (by omega) (by omega)
 ·exact wf_small (by omega) (by omega)
def tellC (C:Co) (b:Int):Co:=if stZ C.te C.re=b then C else { C with ho:=postHo C.ho ⟨10,stZ C.te C.re,0,false,0,false,0,[]⟩ }
set_option maxHeartbeats 8000000 in
set_option maxRecDepth 20000 in
theorem tell_any {w0:World} {M:Nat} {G:Lg} {C:Co} {f1 f3:Nat} {hs:Nat→Hd} {nm:Nat} {D:DataW Unit} {W:World} (h:mc w0 M G C f1 f3 hs nm D W) (b:Int):Calls Tryz.prog 57 #[.pointer (some ⟨M,0,none⟩),.int .i64 b] W fun o w'=>o = .returned (.tuple #[])∧mc w0 M G (tellC C b) f1 f3 hs nm D w':=by
 have HS:Hid (Calls Tryz.prog 56 #[.pointer (some ⟨M,0,none⟩)] W fun o w'=>o = .returned (.int .i64 (stZ C.te C.re))∧mc w0 M G C f1 f3 hs nm D w'∧Below W.heap.size W w'):=state_any h
 have HP:Hid (∀ X,mc w0 M G C f1 f3 hs nm D X→Calls Tryz.prog 40 #[.pointer (some ⟨G.P,0,none⟩),.agg #[.int .i64 10,.int .i64 (stZ C.te C.re),.int .i64 0,.bool false,.int .u32 0,.bool false,.int .i64 0,.slice none 0 0]] X fun o w'=>o = .returned (.tuple #[])∧mc w0 M G { C with ho:=postHo C.ho ⟨10,stZ C.te C.re,0,false,0,false,0,[]⟩ } f1 f3 hs nm D w'):=fun X hX=>hX.post 10 (stZ C.te C.re)
 have HT:Hid (tellC C b=if stZ C.te C.re=b then C else { C with ho:=postHo C.ho ⟨10,stZ C.te C.re,0,false,0,false,0,[]⟩ }):=rfl
 clear h
 generalize stZ C.te C.re=z at *
 by_cases e:z=b
 ·subst e
  have HT2:Hid (tellC C z=C):=by have:=HT.out;rw[if_pos rfl] at this;exact this
  go_enter Tryz.func57,Tryz.ntmps57
  go_wp2_with fail
  refine HS.out.mono ?_
  rintro o w1 ⟨rfl,h1,hb⟩
  have H1:Hid (mc w0 M G C f1 f3 hs nm D w1):=h1
  clear h1 hb HS
  go_wp2_with fail
  first | go_end0 | (simp only[Exit.inBlock,Exit.then];refine bodyPost_ret (results_none rfl _ _ _) rfl ?_) | refine bodyPost_ret (results_none rfl _ _ _) rfl ?_
  exact⟨rfl,by rw[HT2.out];exact H1.out⟩
 ·have d1:(z == b)=false:=by simpa using e
  have d2:(z != b)=true:=by simpa using e
  have HT2:Hid (tellC C b = { C with ho:=postHo C.ho ⟨10,z,0,false,0,false,0,[]⟩ }):=by have:=HT.out;rw[if_neg e] at this;exact this
  go_enter Tryz.func57,Tryz.ntmps57
  go_wp2_with fail
  refine HS.out.mono ?_
  rintro o w1 ⟨rfl,h1,hb⟩
  have H1:Hid (mc w0 M G C f1 f3 hs nm D w1):=h1
  have y0:=h1.m.cell 0 (.pointer (some ⟨G.P,0,none⟩)) rfl
  clear h1 hb HS
  go_wp2_with fail
  refine (HP.out _ H1.out).mono ?_
  rintro o w2 ⟨rfl,h2⟩
  have H2:Hid (mc w0 M G { C with ho:=postHo C.ho ⟨10,z,0,false,0,false,0,[]⟩ } f1 f3 hs nm D w2):=h2
  clear h2 HP
  go_wp2_with fail
  first | go_end0 | (simp only[Exit.inBlock,Exit.then];refine bodyPost_ret (results_none rfl _ _ _) rfl ?_) | refine bodyPost_ret (results_none rfl _ _ _) rfl ?_
  exact⟨rfl,by rw[HT2.out];exact H2.out⟩
theorem flagValue_any (w:World) (b:Bool):Calls Tryz.prog 41 #[.bool b] w fun o w'=>o = .returned (.int .u64 (if b then 1 else 0))∧w=w':=by
 cases b
 ·go_enter Tryz.func41,Tryz.ntmps41
  go_wp2
  go_ret
  exact⟨rfl,rfl⟩
 ·go_enter Tryz.func41,Tryz.ntmps41
  go_wp2
  go_ret
  exact⟨rfl,rfl⟩
theorem flag_true (w:World):Calls Tryz.prog 41 #[.bool true] w fun o w'=>o = .returned (.int .u64 1)∧w=w':=flagValue_any w true
theorem flag_false (w:World):Calls Tryz.prog 41 #[.bool false] w fun o w'=>o = .returned (.int .u64 0)∧w=w':=flagValue_any w false
def rstT (C:Co):Bool:=C.p == 7 && !C.ak
def rstC (C:Co):Co:={ C with ak:=C.ak || rstT C,ho:=postHo C.ho ⟨11,if rstT C then 1 else 0,0,false,0,false,0,[]⟩ }
set_option maxHeartbeats 8000000 in
set_option maxRecDepth 20000 in
theorem rst_yes {w0:World} {M:Nat} {G:Lg} {C:Co} {f1 f3:Nat} {hs:Nat→Hd} {nm:Nat} {D:DataW Unit} {W:World} (h:mc w0 M G C f1 f3 hs nm D W) (ep:(C.p == 7)=true) (ea:C.ak=false):Calls Tryz.prog 21 #[.pointer (some ⟨M,0,none⟩)] W fun o w'=>o = .returned (.tuple #[])∧mc w0 M G { C with ak:=true,ho:=postHo C.ho ⟨11,1,0,false,0,false,0,[]⟩ } f1 f3 hs nm D w':=by
 obtain⟨C1,e1⟩ : ∃ C1:Co,C1 = { C with ak:=true }:=⟨_,rfl⟩
 have e2:(mcL G.P C).set 10 (.bool true)=mcL G.P C1:=by rw[e1];rfl
 have HM:Hid (mc w0 M G C1 f1 f3 hs nm D (W.setCell ⟨M,10,none⟩ (.bool true))):=h.set 10 (.bool true) e2 (by rw[e1])
 have HE:Hid ({ C with ak:=true,ho:=postHo C.ho ⟨11,1,0,false,0,false,0,[]⟩ } = { C1 with ho:=postHo C1.ho ⟨11,1,0,false,0,false,0,[]⟩ }):=by rw[e1];rfl
 have y3:=h.m.cell 3 (.int .i64 C.p) rfl
 have y10:=h.m.cell 10 (.bool C.ak) rfl
 have f10:=h.m.free 10
 rw[ea] at y10
 generalize C.p=p at *
 clear h e1 e2 ea
 go_enter Tryz.func21,Tryz.ntmps21
 go_wp2_with fail
 have hm1:=HM.out
 clear HM y3 y10 f10
 generalize W.setCell ⟨M,10,none⟩ (.bool true)=v0 at *
 have H1:Hid (mc w0 M G C1 f1 f3 hs nm D v0):=hm1
 refine wp_region_held (S:=fun X=>blk X M (mcL G.P C1) 106) (by kernel_rfl) ?_
 have hS:blk (World.drew v0) M (mcL G.P C1) 106:=H1.out.m.below (Below.refl _ _).drew
 have H2:Hid (mc w0 M G C1 f1 f3 hs nm D (World.drew v0)):=H1.out.below (Below.refl _ _).drew
 clear H1 hm1
 change wpAnyH Tryz.prog _ _ _ _ _ _ _ (World.drew v0)
 generalize World.drew v0=v1 at *
 refine wT (i:=0) (v:=.pointer (some ⟨M,0,none⟩)) rfl (by kernel_rfl) (by kernel_rfl) (by kernel_rfl) (fun _ _ _ h=>h) (Or.inl ⟨by rfl,?_⟩) hS ?_
 ·intro W hSw
  clear hS
  go_simp
 simp only[Act.put,aA,aB,aC,aD,aE]
 refine wT (i:=1) (v:=.pointer (some ⟨M,0,none⟩)) rfl (by kernel_rfl) (by kernel_rfl) (by kernel_rfl) (fun _ _ _ h=>h) (Or.inl ⟨by rfl,?_⟩) hS ?_
 ·intro W hSw
  clear hS
  go_simp
 simp only[Act.put,aA,aB,aC,aD,aE,aF]
 refine wT (i:=2) (v:=.pointer (some ⟨M,0,none⟩)) rfl (by kernel_rfl) (by kernel_rfl) (by kernel_rfl) (fun _ _ _ h=>h) (Or.inl ⟨by rfl,?_⟩) hS ?_
 ·intro W hSw
  clear hS
  go_simp
 simp only[Act.put,aA,aB,aC,aD,aE,aF]
 refine wT (i:=3) (v:=.pointer (some ⟨M,0,none⟩)) rfl (by kernel_rfl) (by kernel_rfl) (by kernel_rfl) (fun _ _ _ h=>h) (Or.inl ⟨by rfl,?_⟩) hS ?_
 ·intro W hSw
  clear hS
  go_simp
 simp only[Act.put,aA,aB,aC,aD,aE,aF]
 refine wT (i:=4) (v:=.pointer (some ⟨G.P,0,none⟩)) rfl (by kernel_rfl) (by kernel_rfl) (by kernel_rfl) (fun _ _ _ h=>h) (Or.inl ⟨by rfl,?_⟩) hS ?_
 ·intro W hSw
  clear hS
  have y:=hSw.cell 0 (.pointer (some ⟨G.P,0,none⟩)) rfl
  go_simp
 simp only[Act.put,aA,aB,aC,aD,aE,aF]
 refine wT (i:=5) (v:=.bool true) rfl (by kernel_rfl) (by kernel_rfl) (by kernel_rfl) (fun _ _ _ h=>h) (Or.inl ⟨by rfl,?_⟩) hS ?_
 ·intro W hSw
  clear hS
  go_simp
 simp only[Act.put,aA,aB,aC,aD,aE,aF]
 refine wpAnyH_all (rs:=[6]) (by kernel_rfl) (by simp) ?_
 refine AllReadyH.cons rfl (fun K2 hK2=>?_) AllReadyH.nil
 go_simp
 refine (flag_true v1).mono ?_
 rintro o v2 ⟨rfl,rfl⟩
 go_wp2_with fail
 refine hK2.out _ _ hS (fun hS2=>?_)
 clear hK2 K2 hS
 have hS:=hS2
 clear hS2
 refine wT (i:=7) (v:=.int .i64 1) rfl (by kernel_rfl) (by kernel_rfl) (by kernel_rfl) (fun _ _ _ h=>h) (Or.inl ⟨by rfl,?_⟩) hS ?_
 ·intro W hSw
  clear hS
  go_simp
  decide
 simp only[Act.put,aA,aB,aC,aD,aE,aF]
 refine wT (i:=8) (v:=.agg #[.int .i64 11,.int .i64 1,.int .i64 0,.bool false,.int .u32 0,.bool false,.int .i64 0,.slice none 0 0]) rfl (by kernel_rfl) (by kernel_rfl) (by kernel_rfl) (fun _ _ _ h=>h) (Or.inl ⟨by rfl,?_⟩) hS ?_
 ·intro W hSw
  clear hS
  go_simp
 simp only[Act.put,aA,aB,aC,aD,aE,aF]
 refine wpAnyH_all (rs:=[9]) (by kernel_rfl) (by simp) ?_
 refine AllReadyH.cons rfl (fun K2 hK2=>?_) AllReadyH.nil
 go_simp
 refine (H2.out.post 11 1).mono ?_
 rintro o v3 ⟨rfl,h3⟩
 have H3:Hid (mc w0 M G { C1 with ho:=postHo C1.ho ⟨11,1,0,false,0,false,0,[]⟩ } f1 f3 hs nm D v3):=h3
 have hS3:blk v3 M (mcL G.P C1) 106:=h3.m
 clear h3 H2
 go_wp2_with fail
 refine hK2.out _ _ hS3 (fun hS2=>?_)
 clear hK2 K2 hS hS2 hS3
 refine wpAnyH_done (by kernel_rfl) ?_ _
 go_wp2_with fail
 first | go_end0 | (simp only[Exit.inBlock,Exit.then];refine bodyPost_ret (results_none rfl _ _ _) rfl ?_) | refine bodyPost_ret (results_none rfl _ _ _) rfl ?_
 exact⟨rfl,by rw[HE.out];exact H3.out⟩
set_option maxHeartbeats 8000000 in
set_option maxRecDepth 20000 in
theorem rst_old {w0:World} {M:Nat} {G:Lg} {C:Co} {f1 f3:Nat} {hs:Nat→Hd} {nm:Nat} {D:DataW Unit} {W:World} (h:mc w0 M G C f1 f3 hs nm D W) (ep:(C.p == 7)=true) (ea:C.ak=true):Calls Tryz.prog 21 #[.pointer (some ⟨M,0,none⟩)] W fun o w'=>o = .returned (.tuple #[])∧mc w0 M G { C with ak:=true,ho:=postHo C.ho ⟨11,0,0,false,0,false,0,[]⟩ } f1 f3 hs nm D w':=by
 obtain⟨C1,e1⟩ : ∃ C1:Co,C1 = { C with ak:=true }:=⟨_,rfl⟩
 have e2:(mcL G.P C).set 10 (.bool true)=mcL G.P C1:=by rw[e1];rfl
 have HM:Hid (mc w0 M G C1 f1 f3 hs nm D (W.setCell ⟨M,10,none⟩ (.bool true))):=h.set 10 (.bool true) e2 (by rw[e1])
 have HE:Hid ({ C with ak:=true,ho:=postHo C.ho ⟨11,0,0,false,0,false,0,[]⟩ } = { C1 with ho:=postHo C1.ho ⟨11,0,0,false,0,false,0,[]⟩ }):=by rw[e1];rfl
 have y3:=h.m.cell 3 (.int .i64 C.p) rfl
 have y10:=h.m.cell 10 (.bool C.ak) rfl
 have f10:=h.m.free 10
 rw[ea] at y10
 generalize C.p=p at *
 clear h e1 e2 ea
 go_enter Tryz.func21,Tryz.ntmps21
 go_wp2_with fail
 have hm1:=HM.out
 clear HM y3 y10 f10
 generalize W.setCell ⟨M,10,none⟩ (.bool true)=v0 at *
 have H1:Hid (mc w0 M G C1 f1 f3 hs nm D v0):=hm1
 refine wp_region_held (S:=fun X=>blk X M (mcL G.P C1) 106) (by kernel_rfl) ?_
 have hS:blk (World.drew v0) M (mcL G.P C1) 106:=H1.out.m.below (Below.refl _ _).drew
 have H2:Hid (mc w0 M G C1 f1 f3 hs nm D (World.drew v0)):=H1.out.below (Below.refl _ _).drew
 clear H1 hm1
 change wpAnyH Tryz.prog _ _ _ _ _ _ _ (World.drew v0)
 generalize World.drew v0=v1 at *
 refine wT (i:=0) (v:=.pointer (some ⟨M,0,none⟩)) rfl (by kernel_rfl) (by kernel_rfl) (by kernel_rfl) (fun _ _ _ h=>h) (Or.inl ⟨by rfl,?_⟩) hS ?_
 ·intro W hSw
  clear hS
  go_simp
 simp only[Act.put,aA,aB,aC,aD,aE]
 refine wT (i:=1) (v:=.pointer (some ⟨M,0,none⟩)) rfl (by kernel_rfl) (by kernel_rfl) (by kernel_rfl) (fun _ _ _ h=>h) (Or.inl ⟨by rfl,?_⟩) hS ?_
 ·intro W hSw
  clear hS
  go_simp
 simp only[Act.put,aA,aB,aC,aD,aE,aF]
 refine wT (i:=2) (v:=.pointer (some ⟨M,0,none⟩)) rfl (by kernel_rfl) (by kernel_rfl) (by kernel_rfl) (fun _ _ _ h=>h) (Or.inl ⟨by rfl,?_⟩) hS ?_
 ·intro W hSw
  clear hS
  go_simp
 simp only[Act.put,aA,aB,aC,aD,aE,aF]
 refine wT (i:=3) (v:=.pointer (some ⟨M,0,none⟩)) rfl (by kernel_rfl) (by kernel_rfl) (by kernel_rfl) (fun _ _ _ h=>h) (Or.inl ⟨by rfl,?_⟩) hS ?_
 ·intro W hSw
  clear hS
  go_simp
 simp only[Act.put,aA,aB,aC,aD,aE,aF]
 refine wT (i:=4) (v:=.pointer (some ⟨G.P,0,none⟩)) rfl (by kernel_rfl) (by kernel_rfl) (by kernel_rfl) (fun _ _ _ h=>h) (Or.inl ⟨by rfl,?_⟩) hS ?_
 ·intro W hSw
  clear hS
  have y:=hSw.cell 0 (.pointer (some ⟨G.P,0,none⟩)) rfl
  go_simp
 simp only[Act.put,aA,aB,aC,aD,aE,aF]
 refine wT (i:=5) (v:=.bool false) rfl (by kernel_rfl) (by kernel_rfl) (by kernel_rfl) (fun _ _ _ h=>h) (Or.inl ⟨by rfl,?_⟩) hS ?_
 ·intro W hSw
  clear hS
  go_simp
 simp only[Act.put,aA,aB,aC,aD,aE,aF]
 refine wpAnyH_all (rs:=[6]) (by kernel_rfl) (by simp) ?_
 refine AllReadyH.cons rfl (fun K2 hK2=>?_) AllReadyH.nil
 go_simp
 refine (flag_false v1).mono ?_
 rintro o v2 ⟨rfl,rfl⟩
 go_wp2_with fail
 refine hK2.out _ _ hS (fun hS2=>?_)
 clear hK2 K2 hS
 have hS:=hS2
 clear hS2
 refine wT (i:=7) (v:=.int .i64 0) rfl (by kernel_rfl) (by kernel_rfl) (by kernel_rfl) (fun _ _ _ h=>h) (Or.inl ⟨by rfl,?_⟩) hS ?_
 ·intro W hSw
  clear hS
  go_simp
  decide
 simp only[Act.put,aA,aB,aC,aD,aE,aF]
 refine wT (i:=8) (v:=.agg #[.int .i64 11,.int .i64 0,.int .i64 0,.bool false,.int .u32 0,.bool false,.int .i64 0,.slice none 0 0]) rfl (by kernel_rfl) (by kernel_rfl) (by kernel_rfl) (fun _ _ _ h=>h) (Or.inl ⟨by rfl,?_⟩) hS ?_
 ·intro W hSw
  clear hS
  go_simp
 simp only[Act.put,aA,aB,aC,aD,aE,aF]
 refine wpAnyH_all (rs:=[9]) (by kernel_rfl) (by simp) ?_
 refine AllReadyH.cons rfl (fun K2 hK2=>?_) AllReadyH.nil
 go_simp
 refine (H2.out.post 11 0).mono ?_
 rintro o v3 ⟨rfl,h3⟩
 have H3:Hid (mc w0 M G { C1 with ho:=postHo C1.ho ⟨11,0,0,false,0,false,0,[]⟩ } f1 f3 hs nm D v3):=h3
 have hS3:blk v3 M (mcL G.P C1) 106:=h3.m
 clear h3 H2
 go_wp2_with fail
 refine hK2.out _ _ hS3 (fun hS2=>?_)
 clear hK2 K2 hS hS2 hS3
 refine wpAnyH_done (by kernel_rfl) ?_ _
 go_wp2_with fail
 first | go_end0 | (simp only[Exit.inBlock,Exit.then];refine bodyPost_ret (results_none rfl _ _ _) rfl ?_) | refine bodyPost_ret (results_none rfl _ _ _) rfl ?_
 exact⟨rfl,by rw[HE.out];exact H3.out⟩
set_option maxHeartbeats 8000000 in
set_option maxRecDepth 20000 in
theorem rst_no {w0:World} {M:Nat} {G:Lg} {C:Co} {f1 f3:Nat} {hs:Nat→Hd} {nm:Nat} {D:DataW Unit} {W:World} (h:mc w0 M G C f1 f3 hs nm D W) (ep:(C.p == 7)=false) (ea:C.ak=false):Calls Tryz.prog 21 #[.pointer (some ⟨M,0,none⟩)] W fun o w'=>o = .returned (.tuple #[])∧mc w0 M G { C with ak:=false,ho:=postHo C.ho ⟨11,0,0,false,0,false,0,[]⟩ } f1 f3 hs nm D w':=by
 obtain⟨C1,e1⟩ : ∃ C1:Co,C1 = { C with ak:=false }:=⟨_,rfl⟩
 have e2:(mcL G.P C).set 10 (.bool false)=mcL G.P C1:=by rw[e1];rfl
 have HM:Hid (mc w0 M G C1 f1 f3 hs nm D (W.setCell ⟨M,10,none⟩ (.bool false))):=h.set 10 (.bool false) e2 (by rw[e1])
 have HE:Hid ({ C with ak:=false,ho:=postHo C.ho ⟨11,0,0,false,0,false,0,[]⟩ } = { C1 with ho:=postHo C1.ho ⟨11,0,0,false,0,false,0,[]⟩ }):=by rw[e1];rfl
 have y3:=h.m.cell 3 (.int .i64 C.p) rfl
 have y10:=h.m.cell 10 (.bool C.ak) rfl
 have f10:=h.m.free 10
 rw[ea] at y10
 generalize C.p=p at *
 clear h e1 e2 ea
 go_enter Tryz.func21,Tryz.ntmps21
 go_wp2_with fail
 have hm1:=HM.out
 clear HM y3 y10 f10
 generalize W.setCell ⟨M,10,none⟩ (.bool false)=v0 at *
 have H1:Hid (mc w0 M G C1 f1 f3 hs nm D v0):=hm1
 refine wp_region_held (S:=fun X=>blk X M (mcL G.P C1) 106) (by kernel_rfl) ?_
 have hS:blk (World.drew v0) M (mcL G.P C1) 106:=H1.out.m.below (Below.refl _ _).drew
 have H2:Hid (mc w0 M G C1 f1 f3 hs nm D (World.drew v0)):=H1.out.below (Below.refl _ _).drew
 clear H1 hm1
 change wpAnyH Tryz.prog _ _ _ _ _ _ _ (World.drew v0)
 generalize World.drew v0=v1 at *
 refine wT (i:=0) (v:=.pointer (some ⟨M,0,none⟩)) rfl (by kernel_rfl) (by kernel_rfl) (by kernel_rfl) (fun _ _ _ h=>h) (Or.inl ⟨by rfl,?_⟩) hS ?_
 ·intro W hSw
  clear hS
  go_simp
 simp only[Act.put,aA,aB,aC,aD,aE]
 refine wT (i:=1) (v:=.pointer (some ⟨M,0,none⟩)) rfl (by kernel_rfl) (by kernel_rfl) (by kernel_rfl) (fun _ _ _ h=>h) (Or.inl ⟨by rfl,?_⟩) hS ?_
 ·intro W hSw
  clear hS
  go_simp
 simp only[Act.put,aA,aB,aC,aD,aE,aF]
 refine wT (i:=2) (v:=.pointer (some ⟨M,0,none⟩)) rfl (by kernel_rfl) (by kernel_rfl) (by kernel_rfl) (fun _ _ _ h=>h) (Or.inl ⟨by rfl,?_⟩) hS ?_
 ·intro W hSw
  clear hS
  go_simp
 simp only[Act.put,aA,aB,aC,aD,aE,aF]
 refine wT (i:=3) (v:=.pointer (some ⟨M,0,none⟩)) rfl (by kernel_rfl) (by kernel_rfl) (by kernel_rfl) (fun _ _ _ h=>h) (Or.inl ⟨by rfl,?_⟩) hS ?_
 ·intro W hSw
  clear hS
  go_simp
 simp only[Act.put,aA,aB,aC,aD,aE,aF]
 refine wT (i:=4) (v:=.pointer (some ⟨G.P,0,none⟩)) rfl (by kernel_rfl) (by kernel_rfl) (by kernel_rfl) (fun _ _ _ h=>h) (Or.inl ⟨by rfl,?_⟩) hS ?_
 ·intro W hSw
  clear hS
  have y:=hSw.cell 0 (.pointer (some ⟨G.P,0,none⟩)) rfl
  go_simp
 simp only[Act.put,aA,aB,aC,aD,aE,aF]
 refine wT (i:=5) (v:=.bool false) rfl (by kernel_rfl) (by kernel_rfl) (by kernel_rfl) (fun _ _ _ h=>h) (Or.inl ⟨by rfl,?_⟩) hS ?_
 ·intro W hSw
  clear hS
  go_simp
 simp only[Act.put,aA,aB,aC,aD,aE,aF]
 refine wpAnyH_all (rs:=[6]) (by kernel_rfl) (by simp) ?_
 refine AllReadyH.cons rfl (fun K2 hK2=>?_) AllReadyH.nil
 go_simp
 refine (flag_false v1).mono ?_
 rintro o v2 ⟨rfl,rfl⟩
 go_wp2_with fail
 refine hK2.out _ _ hS (fun hS2=>?_)
 clear hK2 K2 hS
 have hS:=hS2
 clear hS2
 refine wT (i:=7) (v:=.int .i64 0) rfl (by kernel_rfl) (by kernel_rfl) (by kernel_rfl) (fun _ _ _ h=>h) (Or.inl ⟨by rfl,?_⟩) hS ?_
 ·intro W hSw
  clear hS
  go_simp
  decide
 simp only[Act.put,aA,aB,aC,aD,aE,aF]
 refine wT (i:=8) (v:=.agg #[.int .i64 11,.int .i64 0,.int .i64 0,.bool false,.int .u32 0,.bool false,.int .i64 0,.slice none 0 0]) rfl (by kernel_rfl) (by kernel_rfl) (by kernel_rfl) (fun _ _ _ h=>h) (Or.inl ⟨by rfl,?_⟩) hS ?_
 ·intro W hSw
  clear hS
  go_simp
 simp only[Act.put,aA,aB,aC,aD,aE,aF]
 refine wpAnyH_all (rs:=[9]) (by kernel_rfl) (by simp) ?_
 refine AllReadyH.cons rfl (fun K2 hK2=>?_) AllReadyH.nil
 go_simp
 refine (H2.out.post 11 0).mono ?_
 rintro o v3 ⟨rfl,h3⟩
 have H3:Hid (mc w0 M G { C1 with ho:=postHo C1.ho ⟨11,0,0,false,0,false,0,[]⟩ } f1 f3 hs nm D v3):=h3
 have hS3:blk v3 M (mcL G.P C1) 106:=h3.m
 clear h3 H2
 go_wp2_with fail
 refine hK2.out _ _ hS3 (fun hS2=>?_)
 clear hK2 K2 hS hS2 hS3
 refine wpAnyH_done (by kernel_rfl) ?_ _
 go_wp2_with fail
 first | go_end0 | (simp only[Exit.inBlock,Exit.then];refine bodyPost_ret (results_none rfl _ _ _) rfl ?_) | refine bodyPost_ret (results_none rfl _ _ _) rfl ?_
 exact⟨rfl,by rw[HE.out];exact H3.out⟩
set_option maxHeartbeats 8000000 in
set_option maxRecDepth 20000 in
theorem rst_off {w0:World} {M:Nat} {G:Lg} {C:Co} {f1 f3:Nat} {hs:Nat→Hd} {nm:Nat} {D:DataW Unit} {W:World} (h:mc w0 M G C f1 f3 hs nm D W) (ep:(C.p == 7)=false) (ea:C.ak=true):Calls Tryz.prog 21 #[.pointer (some ⟨M,0,none⟩)] W fun o w'=>o = .returned (.tuple #[])∧mc w0 M G { C with ak:=true,ho:=postHo C.ho ⟨11,0,0,false,0,false,0,[]⟩ } f1 f3 hs nm D w':=by
 obtain⟨C1,e1⟩ : ∃ C1:Co,C1 = { C with ak:=true }:=⟨_,rfl⟩
 have e2:(mcL G.P C).set 10 (.bool true)=mcL G.P C1:=by rw[e1];rfl
 have HM:Hid (mc w0 M G C1 f1 f3 hs nm D (W.setCell ⟨M,10,none⟩ (.bool true))):=h.set 10 (.bool true) e2 (by rw[e1])
 have HE:Hid ({ C with ak:=true,ho:=postHo C.ho ⟨11,0,0,false,0,false,0,[]⟩ } = { C1 with ho:=postHo C1.ho ⟨11,0,0,false,0,false,0,[]⟩ }):=by rw[e1];rfl
 have y3:=h.m.cell 3 (.int .i64 C.p) rfl
 have y10:=h.m.cell 10 (.bool C.ak) rfl
 have f10:=h.m.free 10
 rw[ea] at y10
 generalize C.p=p at *
 clear h e1 e2 ea
 go_enter Tryz.func21,Tryz.ntmps21
 go_wp2_with fail
 have hm1:=HM.out
 clear HM y3 y10 f10
 generalize W.setCell ⟨M,10,none⟩ (.bool true)=v0 at *
 have H1:Hid (mc w0 M G C1 f1 f3 hs nm D v0):=hm1
 refine wp_region_held (S:=fun X=>blk X M (mcL G.P C1) 106) (by kernel_rfl) ?_
 have hS:blk (World.drew v0) M (mcL G.P C1) 106:=H1.out.m.below (Below.refl _ _).drew
 have H2:Hid (mc w0 M G C1 f1 f3 hs nm D (World.drew v0)):=H1.out.below (Below.refl _ _).drew
 clear H1 hm1
 change wpAnyH Tryz.prog _ _ _ _ _ _ _ (World.drew v0)
 generalize World.drew v0=v1 at *
 refine wT (i:=0) (v:=.pointer (some ⟨M,0,none⟩)) rfl (by kernel_rfl) (by kernel_rfl) (by kernel_rfl) (fun _ _ _ h=>h) (Or.inl ⟨by rfl,?_⟩) hS ?_
 ·intro W hSw
  clear hS
  go_simp
 simp only[Act.put,aA,aB,aC,aD,aE]
 refine wT (i:=1) (v:=.pointer (some ⟨M,0,none⟩)) rfl (by kernel_rfl) (by kernel_rfl) (by kernel_rfl) (fun _ _ _ h=>h) (Or.inl ⟨by rfl,?_⟩) hS ?_
 ·intro W hSw
  clear hS
  go_simp
 simp only[Act.put,aA,aB,aC,aD,aE,aF]
 refine wT (i:=2) (v:=.pointer (some ⟨M,0,none⟩)) rfl (by kernel_rfl) (by kernel_rfl) (by kernel_rfl) (fun _ _ _ h=>h) (Or.inl ⟨by rfl,?_⟩) hS ?_
 ·intro W hSw
  clear hS
  go_simp
 simp only[Act.put,aA,aB,aC,aD,aE,aF]
 refine wT (i:=3) (v:=.pointer (some ⟨M,0,none⟩)) rfl (by kernel_rfl) (by kernel_rfl) (by kernel_rfl) (fun _ _ _ h=>h) (Or.inl ⟨by rfl,?_⟩) hS ?_
 ·intro W hSw
  clear hS
  go_simp
 simp only[Act.put,aA,aB,aC,aD,aE,aF]
 refine wT (i:=4) (v:=.pointer (some ⟨G.P,0,none⟩)) rfl (by kernel_rfl) (by kernel_rfl) (by kernel_rfl) (fun _ _ _ h=>h) (Or.inl ⟨by rfl,?_⟩) hS ?_
 ·intro W hSw
  clear hS
  have y:=hSw.cell 0 (.pointer (some ⟨G.P,0,none⟩)) rfl
  go_simp
 simp only[Act.put,aA,aB,aC,aD,aE,aF]
 refine wT (i:=5) (v:=.bool false) rfl (by kernel_rfl) (by kernel_rfl) (by kernel_rfl) (fun _ _ _ h=>h) (Or.inl ⟨by rfl,?_⟩) hS ?_
 ·intro W hSw
  clear hS
  go_simp
 simp only[Act.put,aA,aB,aC,aD,aE,aF]
 refine wpAnyH_all (rs:=[6]) (by kernel_rfl) (by simp) ?_
 refine AllReadyH.cons rfl (fun K2 hK2=>?_) AllReadyH.nil
 go_simp
 refine (flag_false v1).mono ?_
 rintro o v2 ⟨rfl,rfl⟩
 go_wp2_with fail
 refine hK2.out _ _ hS (fun hS2=>?_)
 clear hK2 K2 hS
 have hS:=hS2
 clear hS2
 refine wT (i:=7) (v:=.int .i64 0) rfl (by kernel_rfl) (by kernel_rfl) (by kernel_rfl) (fun _ _ _ h=>h) (Or.inl ⟨by rfl,?_⟩) hS ?_
 ·intro W hSw
  clear hS
  go_simp
  decide
 simp only[Act.put,aA,aB,aC,aD,aE,aF]
 refine wT (i:=8) (v:=.agg #[.int .i64 11,.int .i64 0,.int .i64 0,.bool false,.int .u32 0,.bool false,.int .i64 0,.slice none 0 0]) rfl (by kernel_rfl) (by kernel_rfl) (by kernel_rfl) (fun _ _ _ h=>h) (Or.inl ⟨by rfl,?_⟩) hS ?_
 ·intro W hSw
  clear hS
  go_simp
 simp only[Act.put,aA,aB,aC,aD,aE,aF]
 refine wpAnyH_all (rs:=[9]) (by kernel_rfl) (by simp) ?_
 refine AllReadyH.cons rfl (fun K2 hK2=>?_) AllReadyH.nil
 go_simp
 refine (H2.out.post 11 0).mono ?_
 rintro o v3 ⟨rfl,h3⟩
 have H3:Hid (mc w0 M G { C1 with ho:=postHo C1.ho ⟨11,0,0,false,0,false,0,[]⟩ } f1 f3 hs nm D v3):=h3
 have hS3:blk v3 M (mcL G.P C1) 106:=h3.m
 clear h3 H2
 go_wp2_with fail
 refine hK2.out _ _ hS3 (fun hS2=>?_)
 clear hK2 K2 hS hS2 hS3
 refine wpAnyH_done (by kernel_rfl) ?_ _
 go_wp2_with fail
 first | go_end0 | (simp only[Exit.inBlock,Exit.then];refine bodyPost_ret (results_none rfl _ _ _) rfl ?_) | refine bodyPost_ret (results_none rfl _ _ _) rfl ?_
 exact⟨rfl,by rw[HE.out];exact H3.out⟩
theorem restart_any {w0:World} {M:Nat} {G:Lg} {C:Co} {f1 f3:Nat} {hs:Nat→Hd} {nm:Nat} {D:DataW Unit} {W:World} (h:mc w0 M G C f1 f3 hs nm D W):Calls Tryz.prog 21 #[.pointer (some ⟨M,0,none⟩)] W fun o w'=>o = .returned (.tuple #[])∧mc w0 M G (rstC C) f1 f3 hs nm D w':=by
 unfold rstC rstT
 by_cases hp:(C.p == 7)=true
 ·cases ha:C.ak
  ·have:=rst_yes h hp ha
   simpa[hp,ha] using this
  ·have:=rst_old h hp ha
   simpa[hp,ha] using this
 ·have hp':(C.p == 7)=false:=by simpa using hp
  cases ha:C.ak
  ·have:=rst_no h hp' ha
   simpa[hp',ha] using this
  ·have:=rst_off h hp' ha
   simpa[hp',ha] using this
end Go.Proofs.YtgkkcpgocbcbaaaGreat
