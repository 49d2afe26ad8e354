import Derived.Test.YtkfcfigbgmbaiaaGreatK26
import Derived.StillTailTactics
import Derived.Deep.RegionHeld3
import Derived.Deep.DeepCutAuto
import Derived.Deep.RegionWith
namespace Go.Proofs.YtkfcfigbgmbaiaaGreat
set_option maxRecDepth 20000
open Go.RowKit
set_option linter.unusedVariables false
set_option maxHeartbeats 16000000
variable {w0 W:World} {G:Lg} {H:Ho} {f1 f3 nm:Nat} {hs:Nat→Hd} {D:DataW Unit}
def lhU (G:Lg) (B:Nat):Prop:=G.P<B∧G.mb<B∧G.gf<B∧G.gb<B∧G.gr<B∧G.gq<B
theorem lh.lts (h:lh w0 G H f1 f3 hs nm D W):lhU G W.heap.size:=⟨h.p.lt,h.m.lt,h.hi.1,h.x.hi,h.hi.2.1,h.hi.2.2⟩
theorem lh.put (h:lh w0 G H f1 f3 hs nm D W) {B x:Nat} (hB:lhU G B) (hx:B≤x) (o:Nat) (l:List Value):lh w0 G H f1 f3 hs nm D (W.setCells x o l):=by
 obtain⟨b1,b2,b3,b4,b5,b6⟩:=hB
 have hlo:=h.d.lo
 have he:∀ q,q<B→(W.setCells x o l).heap[q]?=W.heap[q]?:=fun q hq=>sO _ q (by omega) _ _ _
 have hb:Below w0.heap.size w0 (W.setCells x o l):=sW (by omega) o l h.b
 have hz:(W.setCells x o l).heap.size=W.heap.size:=sZ ..
 refine⟨h.p.kept (he _ b1),h.f.same (he _ b3),h.x.at0 (he _ b4) hb,h.r.keep (he _ b5),h.rz.up (he _ b5),h.q.keep (he _ b6),h.qz.up (he _ b6),?_,hb,by rw[hz];exact h.hi,h.d,h.bd⟩
 obtain⟨es,clock,q1,q2⟩:=h.m
 exact⟨es,clock,(he _ b2).trans q1,q2⟩
theorem key3 {a:Int} (hw:(Lit.int .i64 a).wf=true):keyOf Tryz.prog 3 (.int .i64 a)=some (.int .i64 a):=Maps.keyOf_int_mk Tryz.underlying3 hw
theorem keyed3:Maps.Keyed Tryz.prog 3:=Maps.int_keyed Tryz.underlying3
theorem vacate_any (h:lh w0 G H f1 f3 hs nm D W) (k:Nat) (hk:k<H.bx.length) (b:R8) (eb:H.bx[k]=b) (ao:Option Addr) (m c:Nat) (eh:hs k=(ao,m,c)) (hw:(Lit.int .i64 b.y).wf=true) :
  Calls Tryz.prog 153 #[.pointer (some ⟨G.P,0,none⟩),.int .i64 (k:Int)] W fun o w'=>o = .returned (.agg #[.int .i64 b.x,.int .i64 b.y,.int .i64 b.z,.bool b.e,.int .u32 (b.i:Int),.bool b.r,.int .i64 b.d,.slice ao m c])∧lh w0 G (freeHo H k) f1 f3 (fun j=>if j=k then (none,0,0) else hs j) nm (D.del (.int .i64 b.y)) w'∧(∀ q,q≠G.gb→q≠G.mb→q<W.heap.size→w'.heap[q]?=W.heap[q]?)∧W.heap.size≤w'.heap.size:=by
 have y5:=h.p.cell 5 _ rfl
 have y6:=h.p.cell 6 _ rfl
 have hr:=h.x.rng k hk
 rw[eb,eh] at hr
 have hln:=h.x.len
 have hkn:k<G.n2:=by omega
 have hcp:=h.bd.nk
 have hm2:=h.bd.m2
 have HU:Hid (lhU G W.heap.size):=h.lts
 have HL:Hid (lh w0 G H f1 f3 hs nm D W):=h
 have HKK:Hid (k<H.bx.length):=hk
 have HW:Hid (keyOf Tryz.prog 3 (.int .i64 b.y)=some (.int .i64 b.y)):=key3 hw
 clear h hk eb eh hw hln;obtain⟨bX,bY,bZ,bE,bI,bR,bD,bL⟩:=b
 simp only[] at HW
 have HRG:Hid (W.rangeAt G.gb (k*8) [.int .i64 bX,.int .i64 bY,.int .i64 bZ,.bool bE,.int .u32 (bI:Int),.bool bR,.int .i64 bD,.slice ao m c]):=hr
 clear hr;have HBA:Hid (Below W.heap.size W (W.alloc (.cells [.int .i64 0,.int .i64 0,.int .i64 0,.bool false,.int .u32 0,.bool false,.int .i64 0,.slice none 0 0].toArray 166))):=(bW _ _).alloc (nR _) _
 have HLA:Hid (lh w0 G H f1 f3 hs nm D (W.alloc (.cells [.int .i64 0,.int .i64 0,.int .i64 0,.bool false,.int .u32 0,.bool false,.int .i64 0,.slice none 0 0].toArray 166))):=HL.out.below HBA.out
 have HRA:Hid (blk (W.alloc (.cells [.int .i64 0,.int .i64 0,.int .i64 0,.bool false,.int .u32 0,.bool false,.int .i64 0,.slice none 0 0].toArray 166)) W.heap.size [.int .i64 0,.int .i64 0,.int .i64 0,.bool false,.int .u32 0,.bool false,.int .i64 0,.slice none 0 0] 166):=blk.new W _ 166
 have y5:(W.alloc (.cells [.int .i64 0,.int .i64 0,.int .i64 0,.bool false,.int .u32 0,.bool false,.int .i64 0,.slice none 0 0].toArray 166)).cell? ⟨G.P,5,none⟩=some (.slice (some ⟨G.gb,0,none⟩) G.n2 G.kb):=HLA.out.p.cell 5 _ rfl
 have HRG:Hid ((W.alloc (.cells [.int .i64 0,.int .i64 0,.int .i64 0,.bool false,.int .u32 0,.bool false,.int .i64 0,.slice none 0 0].toArray 166)).rangeAt G.gb (k*8) [.int .i64 bX,.int .i64 bY,.int .i64 bZ,.bool bE,.int .u32 (bI:Int),.bool bR,.int .i64 bD,.slice ao m c]):=range_below HRG.out HBA.out HU.out.2.2.2.1
 have HBB:Hid (Below (W.alloc (.cells [.int .i64 0,.int .i64 0,.int .i64 0,.bool false,.int .u32 0,.bool false,.int .i64 0,.slice none 0 0].toArray 166)).heap.size (W.alloc (.cells [.int .i64 0,.int .i64 0,.int .i64 0,.bool false,.int .u32 0,.bool false,.int .i64 0,.slice none 0 0].toArray 166)) ((W.alloc (.cells [.int .i64 0,.int .i64 0,.int .i64 0,.bool false,.int .u32 0,.bool false,.int .i64 0,.slice none 0 0].toArray 166)).alloc (.cells [.int .i64 bX,.int .i64 bY,.int .i64 bZ,.bool bE,.int .u32 (bI:Int),.bool bR,.int .i64 bD,.slice ao m c].toArray 166))):=(bW _ _).alloc (nR _) _
 have HRB:Hid (blk ((W.alloc (.cells [.int .i64 0,.int .i64 0,.int .i64 0,.bool false,.int .u32 0,.bool false,.int .i64 0,.slice none 0 0].toArray 166)).alloc (.cells [.int .i64 bX,.int .i64 bY,.int .i64 bZ,.bool bE,.int .u32 (bI:Int),.bool bR,.int .i64 bD,.slice ao m c].toArray 166)) (W.heap.size+1) [.int .i64 bX,.int .i64 bY,.int .i64 bZ,.bool bE,.int .u32 (bI:Int),.bool bR,.int .i64 bD,.slice ao m c] 166):=by
  have:=blk.new (W.alloc (.cells [.int .i64 0,.int .i64 0,.int .i64 0,.bool false,.int .u32 0,.bool false,.int .i64 0,.slice none 0 0].toArray 166)) [.int .i64 bX,.int .i64 bY,.int .i64 bZ,.bool bE,.int .u32 (bI:Int),.bool bR,.int .i64 bD,.slice ao m c] 166
  have e:(W.alloc (.cells [.int .i64 0,.int .i64 0,.int .i64 0,.bool false,.int .u32 0,.bool false,.int .i64 0,.slice none 0 0].toArray 166)).heap.size=W.heap.size+1:=by simp
  rw[e] at this
  exact this
 have HR2:Hid (blk ((W.alloc (.cells [.int .i64 0,.int .i64 0,.int .i64 0,.bool false,.int .u32 0,.bool false,.int .i64 0,.slice none 0 0].toArray 166)).alloc (.cells [.int .i64 bX,.int .i64 bY,.int .i64 bZ,.bool bE,.int .u32 (bI:Int),.bool bR,.int .i64 bD,.slice ao m c].toArray 166)) W.heap.size [.int .i64 0,.int .i64 0,.int .i64 0,.bool false,.int .u32 0,.bool false,.int .i64 0,.slice none 0 0] 166):=HRA.out.below HBB.out
 have HL2:Hid (lh w0 G H f1 f3 hs nm D ((W.alloc (.cells [.int .i64 0,.int .i64 0,.int .i64 0,.bool false,.int .u32 0,.bool false,.int .i64 0,.slice none 0 0].toArray 166)).alloc (.cells [.int .i64 bX,.int .i64 bY,.int .i64 bZ,.bool bE,.int .u32 (bI:Int),.bool bR,.int .i64 bD,.slice ao m c].toArray 166))):=HLA.out.below HBB.out
 have HB2:Hid (Below W.heap.size W ((W.alloc (.cells [.int .i64 0,.int .i64 0,.int .i64 0,.bool false,.int .u32 0,.bool false,.int .i64 0,.slice none 0 0].toArray 166)).alloc (.cells [.int .i64 bX,.int .i64 bY,.int .i64 bZ,.bool bE,.int .u32 (bI:Int),.bool bR,.int .i64 bD,.slice ao m c].toArray 166))):=HBA.out.trans (HBB.out.mono HBA.out.size)
 clear y6;go_enter Tryz.func153,Tryz.ntmps153
 go_wp2_with (first
  | (refine wpList_load_mid (P:=Tryz.prog) rfl 166 _ rfl G.gb (k*8) rfl [.int .i64 bX,.int .i64 bY,.int .i64 bZ,.bool bE,.int .u32 (bI:Int),.bool bR,.int .i64 bD,.slice ao m c] _ HRG.out Tryz.underlying166 rfl sz95 ?_))
 clear HRG HBB HLA HRA HBA;clear y5;refine wp_region_still_tail 6 (by kernel_rfl) (by kernel_rfl) ?_
 change wpStill Tryz.prog _ (World.drew ((W.alloc (.cells [.int .i64 0,.int .i64 0,.int .i64 0,.bool false,.int .u32 0,.bool false,.int .i64 0,.slice none 0 0].toArray 166)).alloc (.cells [.int .i64 bX,.int .i64 bY,.int .i64 bZ,.bool bE,.int .u32 (bI:Int),.bool bR,.int .i64 bD,.slice ao m c].toArray 166))) (fun a'=>wpList Tryz.prog _ _ _ a' (World.drew ((W.alloc (.cells [.int .i64 0,.int .i64 0,.int .i64 0,.bool false,.int .u32 0,.bool false,.int .i64 0,.slice none 0 0].toArray 166)).alloc (.cells [.int .i64 bX,.int .i64 bY,.int .i64 bZ,.bool bE,.int .u32 (bI:Int),.bool bR,.int .i64 bD,.slice ao m c].toArray 166)))) _ _
 have HB2:Hid (Below W.heap.size W (World.drew ((W.alloc (.cells [.int .i64 0,.int .i64 0,.int .i64 0,.bool false,.int .u32 0,.bool false,.int .i64 0,.slice none 0 0].toArray 166)).alloc (.cells [.int .i64 bX,.int .i64 bY,.int .i64 bZ,.bool bE,.int .u32 (bI:Int),.bool bR,.int .i64 bD,.slice ao m c].toArray 166)))):=HB2.out.drew
 have HR2:Hid (blk (World.drew ((W.alloc (.cells [.int .i64 0,.int .i64 0,.int .i64 0,.bool false,.int .u32 0,.bool false,.int .i64 0,.slice none 0 0].toArray 166)).alloc (.cells [.int .i64 bX,.int .i64 bY,.int .i64 bZ,.bool bE,.int .u32 (bI:Int),.bool bR,.int .i64 bD,.slice ao m c].toArray 166))) W.heap.size [.int .i64 0,.int .i64 0,.int .i64 0,.bool false,.int .u32 0,.bool false,.int .i64 0,.slice none 0 0] 166):=HR2.out.below (bW _ _).drew
 have HRB:Hid (blk (World.drew ((W.alloc (.cells [.int .i64 0,.int .i64 0,.int .i64 0,.bool false,.int .u32 0,.bool false,.int .i64 0,.slice none 0 0].toArray 166)).alloc (.cells [.int .i64 bX,.int .i64 bY,.int .i64 bZ,.bool bE,.int .u32 (bI:Int),.bool bR,.int .i64 bD,.slice ao m c].toArray 166))) (W.heap.size+1) [.int .i64 bX,.int .i64 bY,.int .i64 bZ,.bool bE,.int .u32 (bI:Int),.bool bR,.int .i64 bD,.slice ao m c] 166):=HRB.out.below (bW _ _).drew
 have HL2:Hid (lh w0 G H f1 f3 hs nm D (World.drew ((W.alloc (.cells [.int .i64 0,.int .i64 0,.int .i64 0,.bool false,.int .u32 0,.bool false,.int .i64 0,.slice none 0 0].toArray 166)).alloc (.cells [.int .i64 bX,.int .i64 bY,.int .i64 bZ,.bool bE,.int .u32 (bI:Int),.bool bR,.int .i64 bD,.slice ao m c].toArray 166)))):=HL2.out.below (bW _ _).drew
 generalize World.drew ((W.alloc (.cells [.int .i64 0,.int .i64 0,.int .i64 0,.bool false,.int .u32 0,.bool false,.int .i64 0,.slice none 0 0].toArray 166)).alloc (.cells [.int .i64 bX,.int .i64 bY,.int .i64 bZ,.bool bE,.int .u32 (bI:Int),.bool bR,.int .i64 bD,.slice ao m c].toArray 166))=w2 at *;have y6:=HL2.out.p.cell 6 _ rfl
 have y1:=HRB.out.cell 1 _ rfl
 simp only[List.take_succ_cons,List.take_zero,List.drop_succ_cons,List.drop_zero]
 repeat still_step
 refine wpStill_nil ?_
 refine wpList_delete_own _ rfl _ _ 151 3 rfl 3 keyed3 Tryz.underlying151 _ G.mb nm D rfl HL2.out.m _ _ rfl HW.out ?_
 intro w3 hm3 ht3;have hg3:=ht3.grown
 have HL3:Hid (lh w0 G H f1 f3 hs nm (D.del (.int .i64 bY)) w3):=HL2.out.tags hg3 hm3
 have HO3:Hid (∀ q,q≠G.mb→q<W.heap.size→w3.heap[q]?=W.heap[q]?):=fun q h1 h2=>(hg3.block q (nL h2 HB2.out.size) (by simpa using h1)).trans (HB2.out.block q h2)
 have HR3:Hid (blk w3 W.heap.size [.int .i64 0,.int .i64 0,.int .i64 0,.bool false,.int .u32 0,.bool false,.int .i64 0,.slice none 0 0] 166):=HR2.out.kept (hg3.block _ HR2.out.lt (by have:=HU.out.2.1;simp;omega))
 have HB3:Hid (blk w3 (W.heap.size+1) [.int .i64 bX,.int .i64 bY,.int .i64 bZ,.bool bE,.int .u32 (bI:Int),.bool bR,.int .i64 bD,.slice ao m c] 166):=HRB.out.kept (hg3.block _ HRB.out.lt (by have:=HU.out.2.1;simp;omega))
 have HZ3:Hid (W.heap.size≤w3.heap.size):=nT HB2.out.size hg3.size
 have y5:=HL3.out.p.cell 5 _ rfl
 have HT3:Hid (w3.there G.gb (k*8) 8):=fun j hj=>by
  obtain⟨⟨v,hv⟩,hf⟩:=HL3.out.x.row (k*8+j) (by omega)
  exact⟨by rw[hv];rfl,hf⟩
 clear hm3 ht3 hg3 HB2 HR2 HRB HL2 y6 y1 HW;have HO4:Hid (∀ w4,World.setCells w3 G.gb (k*8) [.int .i64 0,.int .i64 0,.int .i64 0,.bool false,.int .u32 0,.bool false,.int .i64 0,.slice none 0 0]=w4→lh w0 G (freeHo H k) f1 f3 (fun j=>if j=k then (none,0,0) else hs j) nm (D.del (.int .i64 bY)) w4∧blk w4 W.heap.size [.int .i64 0,.int .i64 0,.int .i64 0,.bool false,.int .u32 0,.bool false,.int .i64 0,.slice none 0 0] 166∧blk w4 (W.heap.size+1) [.int .i64 bX,.int .i64 bY,.int .i64 bZ,.bool bE,.int .u32 (bI:Int),.bool bR,.int .i64 bD,.slice ao m c] 166∧(∀ q,q≠G.gb→w4.heap[q]?=w3.heap[q]?)∧w4.heap.size=w3.heap.size):=fun w4 e4=>by
  have oth:∀ q,q≠G.gb→w4.heap[q]?=w3.heap[q]?:=fun q hq=>by rw[← e4];exact sO _ q hq _ _ _
  have hu:=HU.out.2.2.2.1
  refine⟨by rw[← e4];exact HL3.out.free k HKK.out,HR3.out.kept (oth _ (by omega)),HB3.out.kept (oth _ (by omega)),oth,by rw[← e4];exact sZ ..⟩
 go_wp2_with (first
  | (refine wpList_store_mid (P:=Tryz.prog) rfl 166 _ _ rfl G.gb (k*8) [.int .i64 0,.int .i64 0,.int .i64 0,.bool false,.int .u32 0,.bool false,.int .i64 0,.slice none 0 0].toArray rfl rfl HT3.out sz95 (one8 _ _ _ _ _ _ _ _ _ _) ?_;generalize hW4:World.setCells w3 G.gb (k*8) _=w4;have HW4:Hid (lh w0 G (freeHo H k) f1 f3 (fun j=>if j=k then (none,0,0) else hs j) nm (D.del (.int .i64 bY)) w4∧blk w4 W.heap.size [.int .i64 0,.int .i64 0,.int .i64 0,.bool false,.int .u32 0,.bool false,.int .i64 0,.slice none 0 0] 166∧blk w4 (W.heap.size+1) [.int .i64 bX,.int .i64 bY,.int .i64 bZ,.bool bE,.int .u32 (bI:Int),.bool bR,.int .i64 bD,.slice ao m c] 166∧(∀ q,q≠G.gb→w4.heap[q]?=w3.heap[q]?)∧w4.heap.size=w3.heap.size):=HO4.out _ hW4;clear hW4)
  | (refine wpList_load_mid (P:=Tryz.prog) rfl 166 _ rfl (W.heap.size+1) 0 rfl [.int .i64 bX,.int .i64 bY,.int .i64 bZ,.bool bE,.int .u32 (bI:Int),.bool bR,.int .i64 bD,.slice ao m c] _ HW4.out.2.2.1.load Tryz.underlying166 rfl sz95 ?_)
  | (refine wpList_store_mid (P:=Tryz.prog) rfl 166 _ _ rfl W.heap.size 0 [.int .i64 bX,.int .i64 bY,.int .i64 bZ,.bool bE,.int .u32 (bI:Int),.bool bR,.int .i64 bD,.slice ao m c].toArray rfl rfl (HW4.out.2.1.there 0 8 (by simp)) sz95 (one8 _ _ _ _ _ _ _ _ _ _) ?_;generalize hW9:World.setCells w4 W.heap.size 0 _=w9;have HW9:Hid (_=w9):=hW9;clear hW9))
 have e9:=HW9.out
 have hF:blk w9 W.heap.size [.int .i64 bX,.int .i64 bY,.int .i64 bZ,.bool bE,.int .u32 (bI:Int),.bool bR,.int .i64 bD,.slice ao m c] 166:=by
  rw[← e9]
  have:=blk.put [] [.int .i64 0,.int .i64 0,.int .i64 0,.bool false,.int .u32 0,.bool false,.int .i64 0,.slice none 0 0] [] [.int .i64 bX,.int .i64 bY,.int .i64 bZ,.bool bE,.int .u32 (bI:Int),.bool bR,.int .i64 bD,.slice ao m c] (w:=w4) (b:=W.heap.size) (T:=166) (by simpa using HW4.out.2.1) rfl
  simpa using this
 have hL:=run_loadVar_mid (P:=Tryz.prog) w9 W.heap.size 0 166 _ _ hF.load Tryz.underlying166 rfl sz95
 refine bC Tryz.results153 hL ?_
 refine⟨rfl,?_,fun q h1 h2 h3=>?_,?_⟩
 ·rw[← e9]
  exact HW4.out.1.put HU.out (nR _) 0 _
 ·rw[← e9,sO _ q (by omega) _ _ _,HW4.out.2.2.2.1 q h1]
  exact HO3.out q h2 h3
 ·rw[← e9,sZ,HW4.out.2.2.2.2]
  exact HZ3.out
open Go.Value renaming int→I,slice→sL,bool→bO,pointer→pT,agg→aG
open Go.IntKind renaming i64→J
open Go.Ending renaming returned→rT
open Go.Proofs.Tryz renaming prog→Tp
variable {H:Ho} {k:Nat} {b:R8}
theorem field97 (x y z:Int) (e:Bool) (i:Nat) (r:Bool) (d:Int) (ao:Option Addr) (m c:Nat):∀ w:World,(Instr.field 166 (aG #[I J x,I J y,I J z,bO e,I .u32 (i:Int),bO r,I J d,sL ao m c]) 1).run Tp w = .ok (I J y) w:=fun _=>by kernel_rfl
theorem relHo_sent (hk:k<H.bx.length) (ek:wI H.bx=k) (eb:H.bx[k]=b):relHo H true=pH (freeHo H k) ⟨1,b.y,0,b.e,b.i,b.r,b.d,b.l⟩:=by
 subst ek;subst eb;unfold relHo
 rw[dif_pos hk,if_pos rfl]
theorem relHo_doom (hk:k<H.bx.length) (ek:wI H.bx=k) (eb:H.bx[k]=b) (hx:b.x=3):relHo H false=pH (freeHo H k) (ev3 6 b.y 0):=by
 subst ek;subst eb;unfold relHo
 rw[dif_pos hk,if_neg (by simp),if_pos hx]
theorem relHo_wait (hk:k<H.bx.length) (ek:wI H.bx=k) (eb:H.bx[k]=b) (hx:b.x=2):relHo H false=stHo H k 1:=by
 subst ek;subst eb;unfold relHo
 rw[dif_pos hk,if_neg (by simp),if_neg (by omega)]
theorem okBxs.wf {st:Int} {bx:List R8} (h:okBxs st bx):∀ j (hj:j<bx.length),(Lit.int .i64 bx[j].y).wf=true:=fun j hj=>by
 have:=h.1 j hj
 unfold okBx at this
 split at this
 ·rw[this.1]
  exact wf_small (by omega) (by omega)
 ·exact wf_small (by omega) (by omega)
variable {w0 W:World} {M f1 f3 nm:Nat} {G:Lg} {C:Co} {hs:Nat→Hd} {D:DataW Unit}
def tellC (C:Co) (b:Int):Co:=if stZ C.te C.re=b then C else { C with ho:=pH C.ho ⟨10,stZ C.te C.re,0,false,0,false,0,[]⟩ }
theorem tell_any (h:mc w0 M G C f1 f3 hs nm D W) (b:Int):Calls Tp 145 #[pT (some ⟨M,0,none⟩),I J b] W fun o w'=>o = rT (.tuple #[])∧mc w0 M G (tellC C b) f1 f3 hs nm D w':=by
 have HS:Hid (Calls Tp 106 #[pT (some ⟨M,0,none⟩)] W fun o w'=>o = rT (I J (stZ C.te C.re))∧mc w0 M G C f1 f3 hs nm D w'∧Below W.heap.size W w'):=state_any h
 have HP:Hid (∀ X,mc w0 M G C f1 f3 hs nm D X→Calls Tp 87 #[pT (some ⟨G.P,0,none⟩),aG #[I J 10,I J (stZ C.te C.re),I J 0,bO false,I .u32 0,bO false,I J 0,sL none 0 0]] X fun o w'=>o = rT (.tuple #[])∧mc w0 M G { C with ho:=pH C.ho ⟨10,stZ C.te C.re,0,false,0,false,0,[]⟩ } f1 f3 hs nm D w'):=fun X hX=>hX.post 10 (stZ C.te C.re)
 have HT:Hid (tellC C b=if stZ C.te C.re=b then C else { C with ho:=pH C.ho ⟨10,stZ C.te C.re,0,false,0,false,0,[]⟩ }):=rfl
 clear h;generalize stZ C.te C.re=z at *;by_cases e:z=b
 ·subst e;have HT2:Hid (tellC C z=C):=by have:=HT.out;rw[if_pos rfl] at this;exact this
  go_enter Tryz.func145,Tryz.ntmps145
  go_wp2_with fail;refine HS.out.mono ?_
  rintro o w1 ⟨rfl,h1,hb⟩;have H1:Hid (mc w0 M G C f1 f3 hs nm D w1):=h1
  clear h1 hb HS;go_wp2_with fail;first | go_end0 | (try simp only[Exit.inBlock,Exit.then]);refine bN ?_
  exact⟨rfl,by rw[HT2.out];exact H1.out⟩
 ·have d1:(z == b)=false:=by simpa using e
  have d2:(z != b)=true:=by simpa using e
  have HT2:Hid (tellC C b = { C with ho:=pH C.ho ⟨10,z,0,false,0,false,0,[]⟩ }):=by have:=HT.out;rw[if_neg e] at this;exact this
  go_enter Tryz.func145,Tryz.ntmps145
  go_wp2_with fail;refine HS.out.mono ?_
  rintro o w1 ⟨rfl,h1,hb⟩;have H1:Hid (mc w0 M G C f1 f3 hs nm D w1):=h1
  have y0:=h1.m.cell 0 (pT (some ⟨G.P,0,none⟩)) rfl
  clear h1 hb HS;go_wp2_with fail;refine (HP.out _ H1.out).mono ?_
  rintro o w2 ⟨rfl,h2⟩;have H2:Hid (mc w0 M G { C with ho:=pH C.ho ⟨10,z,0,false,0,false,0,[]⟩ } f1 f3 hs nm D w2):=h2
  clear h2 HP;go_wp2_with fail;first | go_end0 | (try simp only[Exit.inBlock,Exit.then]);refine bN ?_
  exact⟨rfl,by rw[HT2.out];exact H2.out⟩
theorem flagValue_any (w:World) (b:Bool):Calls Tp 88 #[bO b] w fun o w'=>o = rT (I .u64 (if b then 1 else 0))∧w=w':=by
 cases b
 ·go_enter Tryz.func88,Tryz.ntmps88
  go_wp2
  go_ret;exact⟨rfl,rfl⟩
 ·go_enter Tryz.func88,Tryz.ntmps88
  go_wp2
  go_ret;exact⟨rfl,rfl⟩
theorem flag_true (w:World):Calls Tp 88 #[bO true] w fun o w'=>o = rT (I .u64 1)∧w=w':=flagValue_any w true
theorem flag_false (w:World):Calls Tp 88 #[bO false] w fun o w'=>o = rT (I .u64 0)∧w=w':=flagValue_any w false
def rstT (C:Co):Bool:=C.p == 7 && !C.ak
def rstC (C:Co):Co:={ C with ak:=C.ak || rstT C,ho:=pH C.ho ⟨11,if rstT C then 1 else 0,0,false,0,false,0,[]⟩ }
theorem rst_ks (C:Co):∃ (k:Bool) (b:Int),rstC C = { C with ak:=k,ho:=pH C.ho ⟨11,b,0,false,0,false,0,[]⟩ }∧((C.p == 7)=true∧C.ak=false∧k=true∧b=1∨(C.p == 7)=true∧C.ak=true∧k=true∧b=0∨(C.p == 7)=false∧C.ak=false∧k=false∧b=0∨(C.p == 7)=false∧C.ak=true∧k=true∧b=0):=by
 unfold rstC rstT
 refine⟨_,_,rfl,?_⟩
 cases C.p == 7 <;> cases C.ak <;> simp
theorem restart_any (h:mc w0 M G C f1 f3 hs nm D W):Calls Tp 38 #[pT (some ⟨M,0,none⟩)] W fun o w'=>o = rT (.tuple #[])∧mc w0 M G (rstC C) f1 f3 hs nm D w':=by
 obtain⟨k,b,eR,hc⟩:=rst_ks C
 obtain⟨C1,e1⟩ : ∃ C1:Co,C1 = { C with ak:=k }:=⟨_,rfl⟩
 have e2:(mcL G.P C).set 10 (bO k)=mcL G.P C1:=by rw[e1];rfl
 have HM:Hid (mc w0 M G C1 f1 f3 hs nm D (W.setCell ⟨M,10,none⟩ (bO k))):=h.set 10 (bO k) e2 (by rw[e1])
 have HE:Hid (rstC C = { C1 with ho:=pH C1.ho ⟨11,b,0,false,0,false,0,[]⟩ }):=by rw[eR,e1];rfl
 have y3:=h.m.cell 3 (I J C.p) rfl
 have y10:=h.m.cell 10 (bO C.ak) rfl
 have f10:=h.m.free 10
 generalize C.p=p at *;clear h e1 e2 eR;rcases hc with⟨ep,ea,rfl,rfl⟩|⟨ep,ea,rfl,rfl⟩|⟨ep,ea,rfl,rfl⟩|⟨ep,ea,rfl,rfl⟩
 all_goals
  rw[ea] at y10
  clear ea;go_enter Tryz.func38,Tryz.ntmps38
  go_wp2_with fail;have hm1:=HM.out
  clear HM y3 y10 f10;generalize W.setCell ⟨M,10,none⟩ _=v0 at *;have H1:Hid (mc w0 M G C1 f1 f3 hs nm D v0):=hm1
  refine wp_region_held (S:=fun X=>blk X M (mcL G.P C1) 125) (by kernel_rfl) ?_
  have hS:blk (World.drew v0) M (mcL G.P C1) 125:=H1.out.m.below (bW _ _).drew
  have H2:Hid (mc w0 M G C1 f1 f3 hs nm D (World.drew v0)):=H1.out.below (bW _ _).drew
  clear H1 hm1;change wpAnyH Tp _ _ _ _ _ _ _ (World.drew v0)
  generalize World.drew v0=v1 at *;refine tk 0 ?_
  refine tk 1 ?_
  refine tk 2 ?_
  refine tk 3 ?_
  refine tk 4 ?_ (hy:=fun W hSw=>by (have y:=hSw.cell 0 (pT (some ⟨G.P,0,none⟩)) rfl;go_simp;try rfl))
  refine tk 5 ?_
  refine al 6 fun K2 hK2=>?_
  go_simp;first | refine (flag_true v1).mono ?_ | refine (flag_false v1).mono ?_
  rintro o v2 ⟨rfl,rfl⟩;go_wp2_with fail;refine hK2.out _ _ hS (fun hS2=>?_)
  clear hK2 K2 hS;have hS:=hS2
  clear hS2;first
   | refine tk 7 (v:=I J 1) ?_ (hy:=by intro W hSw;clear hS;go_simp;decide)
   | refine tk 7 (v:=I J 0) ?_ (hy:=by intro W hSw;clear hS;go_simp;decide)
  refine tk 8 ?_
  refine al 9 fun K2 hK2=>?_
  go_simp;refine (H2.out.post 11 _).mono ?_
  rintro o v3 ⟨rfl,h3⟩;have H3:Hid _:=h3
  have hS3:blk v3 M (mcL G.P C1) 125:=h3.m
  clear h3 H2;go_wp2_with fail;refine hK2.out _ _ hS3 (fun hS2=>?_)
  clear hK2 K2 hS hS2 hS3;refine wpAnyH_done (by kernel_rfl) ?_ _
  go_wp2_with fail;first | go_end0 | (try simp only[Exit.inBlock,Exit.then]);refine bN ?_
  exact⟨rfl,by rw[HE.out];exact H3.out⟩
variable {w0 W:World} {M f1 f3 nm:Nat} {G:Lg} {C:Co} {hs:Nat→Hd} {D:DataW Unit}
theorem goOff_any (h:mc w0 M G C f1 f3 hs nm D W):Calls Tp 154 #[pT (some ⟨M,0,none⟩)] W fun o w'=>o = rT (.tuple #[])∧mc w0 M G { C with te:=256 } f1 f3 hs nm D w':=by
 have H1:Hid (mc w0 M G { C with te:=256 } f1 f3 hs nm D (W.setCell ⟨M,1,none⟩ (I J 256))):=h.set 1 (I J 256) rfl rfl
 have y1:=h.m.cell 1 (I J C.te) rfl
 have f1:=h.m.free 1
 clear h;go_enter Tryz.func154,Tryz.ntmps154
 go_wp2_with fail;first | go_end0 | (try simp only[Exit.inBlock,Exit.then]);refine bN ?_
 exact⟨rfl,H1.out⟩
def addC (C:Co) (tx:Bool) (n:Int):Co:=if tx then { C with te:=if 256≤C.te+n then 256 else C.te+n } else { C with re:=min (C.re+n) 255 }
theorem add_any (h:mc w0 M G C f1 f3 hs nm D W) (tx:Bool) (n:Int) (hn:0≤n∧n≤8) (ht:0≤C.te∧C.te≤256) (hr:0≤C.re∧C.re≤255):Calls Tp 107 #[pT (some ⟨M,0,none⟩),bO tx,I J n] W fun o w'=>o = rT (.tuple #[])∧mc w0 M G (addC C tx n) f1 f3 hs nm D w':=by
 have y1:=h.m.cell 1 (I J C.te) rfl
 have y2:=h.m.cell 2 (I J C.re) rfl
 have g1:=h.m.free 1
 have g2:=h.m.free 2
 cases tx
 ·have HA:Hid (addC C false n = { C with re:=min (C.re+n) 255 }):=rfl
  have H1:Hid (mc w0 M G { C with re:=min (C.re+n) 255 } f1 f3 hs nm D (W.setCell ⟨M,2,none⟩ (I J (min (C.re+n) 255)))):=h.set 2 (I J (min (C.re+n) 255)) rfl rfl
  have hw:IntKind.i64.wrap (C.re+n)=C.re+n:=by rw[IntKind.wrap_i64];omega
  generalize C.re=re at *;clear h ht hr hn;go_enter Tryz.func107,Tryz.ntmps107
  go_wp2_with fail;first | go_end0 | (try simp only[Exit.inBlock,Exit.then]);refine bN ?_
  exact⟨rfl,by rw[HA.out];exact H1.out⟩
 ·have h1:mc w0 M G { C with te:=C.te+n } f1 f3 hs nm D (W.setCell ⟨M,1,none⟩ (I J (C.te+n))):=h.set 1 (I J (C.te+n)) rfl rfl
  have hw:IntKind.i64.wrap (C.te+n)=C.te+n:=by rw[IntKind.wrap_i64];omega
  by_cases hb:256≤C.te+n
  ·have HA:Hid (addC C true n = { C with te:=256 }):=by show addC C true n=_;unfold addC;rw[if_pos rfl,if_pos hb]
   have HG:Hid (Calls Tp 154 #[pT (some ⟨M,0,none⟩)] (W.setCell ⟨M,1,none⟩ (I J (C.te+n))) fun o w'=>o = rT (.tuple #[])∧mc w0 M G { C with te:=256 } f1 f3 hs nm D w'):=goOff_any (C:={ C with te:=C.te+n }) h1
   have db:decide (256≤C.te+n)=true:=by simpa using hb
   clear h ht hr hn h1;generalize C.te=te at *;go_enter Tryz.func107,Tryz.ntmps107
   go_wp2_with fail;refine HG.out.mono ?_
   rintro o w2 ⟨rfl,h2⟩;have H2:Hid (mc w0 M G { C with te:=256 } f1 f3 hs nm D w2):=h2
   clear h2;go_wp2_with fail;first | go_end0 | (try simp only[Exit.inBlock,Exit.then]);refine bN ?_
   exact⟨rfl,by rw[HA.out];exact H2.out⟩
  ·have HA:Hid (addC C true n = { C with te:=C.te+n }):=by show addC C true n=_;unfold addC;rw[if_pos rfl,if_neg hb]
   have H1:Hid (mc w0 M G { C with te:=C.te+n } f1 f3 hs nm D (W.setCell ⟨M,1,none⟩ (I J (C.te+n)))):=h1
   have db:decide (256≤C.te+n)=false:=by simpa using hb
   clear h ht hr hn h1;generalize C.te=te at *;go_enter Tryz.func107,Tryz.ntmps107
   go_wp2_with fail;first | go_end0 | (try simp only[Exit.inBlock,Exit.then]);refine bN ?_
   exact⟨rfl,by rw[HA.out];exact H1.out⟩
def fwZ (tx ow:Bool) (p k:Int):Int:=if tx && (ow || k == 6) then 0 else if tx || p == 2 then 8 else 1
theorem faultWeight_any (h:mc w0 M G C f1 f3 hs nm D W) (k:Int):Calls Tp 108 #[pT (some ⟨M,0,none⟩),I J k] W fun o w'=>o = rT (I J (fwZ C.tx C.ow C.p k))∧W=w':=by
 have y3:=h.m.cell 3 (I J C.p) rfl
 have y8:=h.m.cell 8 (bO C.ow) rfl
 have y9:=h.m.cell 9 (bO C.tx) rfl
 clear h;unfold fwZ
 generalize C.tx=tx at *;generalize C.ow=ow at *;generalize C.p=p at *;obtain⟨q6,e6⟩ : ∃ q,(k == 6)=q:=⟨_,rfl⟩
 obtain⟨q2,e2⟩ : ∃ q,(p == 2)=q:=⟨_,rfl⟩
 rw[e6,e2]
 cases tx <;> cases ow <;> cases q6 <;> cases q2
 all_goals
  go_enter Tryz.func108,Tryz.ntmps108
  go_wp2_with fail;go_ret;exact⟨rfl,rfl⟩
variable {w0 W:World} {G:Lg} {f1 f3 nm M:Nat} {hs:Nat→Hd} {D:DataW Unit} {C:Co}
theorem release_fr {H:Ho} (h:lh w0 G H f1 f3 hs nm D W) (sent:Bool) (hwf:∀ j (hj:j<H.bx.length),(Lit.int .i64 H.bx[j].y).wf=true) :
  Calls Tp 105 #[pT (some ⟨G.P,0,none⟩),bO sent] W fun o w'=>o = rT (.tuple #[])∧(∃ hs' D',lh w0 G (relHo H sent) f1 f3 hs' nm D' w')∧(∀ q,q≠G.P→q≠G.gq→q≠G.gb→q≠G.mb→q<W.heap.size→w'.heap[q]?=W.heap[q]?):=by
 have HOW:Hid (Calls Tp 152 #[pT (some ⟨G.P,0,none⟩)] W fun o w'=>∃ z:Int,o = rT (I J z)∧bsy H.bx z∧Below W.heap.size W w'):=onWire_any W G.P _ G.n2 G.kb H.bx (h.p.cell 5 _ rfl) (h.x.is h.bd.nk) (by have:=h.bd.m2;omega)
 have HL:Hid (lh w0 G H f1 f3 hs nm D W):=h
 have HWF:Hid (∀ j (hj:j<H.bx.length),(Lit.int .i64 H.bx[j].y).wf=true):=hwf
 clear h hwf;go_enter Tryz.func105,Tryz.ntmps105
 go_wp2_with fail;refine HOW.out.mono ?_
 rintro o w5 ⟨z,rfl,hz,hb5⟩;have HL5:Hid (lh w0 G H f1 f3 hs nm D w5):=HL.out.below hb5
 have HF5:Hid (Below W.heap.size W w5):=hb5
 have hR:=hz.ix
 clear HOW HL hz hb5;rcases hR with⟨rfl,hno⟩|⟨rfl,hk⟩
 ·have HT:Hid (relHo H sent=H):=relHo_none hno
  go_wp2_with fail;first | go_end0 | (try simp only[Exit.inBlock,Exit.then]);refine bN ?_
  exact⟨rfl,⟨hs,D,by rw[HT.out];exact HL5.out⟩,fun q _ _ _ _ h=>HF5.out.block q h⟩
 ·have hon:=wireIx_on hk
  generalize ek:wI H.bx=k at *;have HEK:Hid (wI H.bx=k):=ek
  clear ek;obtain⟨b,eb⟩ : ∃ b,H.bx[k]=b:=⟨_,rfl⟩
  obtain⟨ao,m,c,eh⟩ : ∃ ao m c,hs k=(ao,m,c):=⟨_,_,_,rfl⟩
  have HV:Hid (Calls Tp 153 #[pT (some ⟨G.P,0,none⟩),I J (k:Int)] w5 fun o w'=>o = rT (aG #[I J b.x,I J b.y,I J b.z,bO b.e,I .u32 (b.i:Int),bO b.r,I J b.d,sL ao m c])∧lh w0 G (freeHo H k) f1 f3 (fun j=>if j=k then (none,0,0) else hs j) nm (D.del (.int .i64 b.y)) w'∧(∀ q,q≠G.gb→q≠G.mb→q<w5.heap.size→w'.heap[q]?=w5.heap[q]?)∧w5.heap.size≤w'.heap.size):=vacate_any HL5.out k hk b eb ao m c eh (by rw[← eb];exact HWF.out k hk)
  have HBY:Hid (iB w0 ao m c b.l∧b.l.length≤1048576):=by
   have h1:=HL5.out.x.old k hk (nZ _)
   have h2:=HL5.out.x.sm k hk
   rw[eb,eh] at h1
   rw[eb] at h2
   exact⟨h1,h2⟩
  have HY0:Hid (w5.cell? ⟨G.gb,k*8,none⟩=some (I J b.x)):=by
   have:=HL5.out.x.rng k hk 0 _ rfl
   rw[eb] at this
   exact this
  have hf0:w5.frozen? ⟨G.gb,k*8,none⟩=false:=(HL5.out.x.row (k*8) (by have:=HL5.out.x.len;omega)).2
  have y5:=HL5.out.p.cell 5 _ rfl
  have hkn:k<G.n2:=by have:=HL5.out.x.len;omega
  have hcp:=HL5.out.bd.nk
  have hm2:=HL5.out.bd.m2
  have HEB:Hid (∃ hk:k<H.bx.length,H.bx[k]=b):=⟨hk,eb⟩
  have HKK:Hid (k<H.bx.length):=hk
  rw[eb] at hon
  clear eb eh;cases sent
  ·rcases hon with e0|e0
   ·have HT:Hid (relHo H false=stHo H k 1):=relHo_wait HKK.out HEK.out HEB.out.2 e0
    have y0:=HY0.out
    rw[e0] at y0
    go_wp2_with fail;first | go_end0 | (try simp only[Exit.inBlock,Exit.then]);refine bN ?_
    exact⟨rfl,⟨hs,D,by rw[HT.out];exact HL5.out.state k HKK.out 1⟩,fun q _ _ h3 _ h5=>(heap_setCell_other w5 ⟨G.gb,k*8,none⟩ q _ h3).trans (HF5.out.block q h5)⟩
   ·have HT:Hid (relHo H false=pH (freeHo H k) (ev3 6 b.y 0)):=relHo_doom HKK.out HEK.out HEB.out.2 e0
    have y0:=HY0.out
    rw[e0] at y0
    go_wp2_with fail;refine HV.out.mono ?_
    rintro o w6 ⟨rfl,hl6,hk6,hz6⟩;have HF6:Hid ((∀ q,q≠G.gb→q≠G.mb→q<w5.heap.size→w6.heap[q]?=w5.heap[q]?)∧w5.heap.size≤w6.heap.size):=⟨hk6,hz6⟩
    clear hk6 hz6;have HP:Hid (Calls Tp 87 #[pT (some ⟨G.P,0,none⟩),aG #[I J 6,I J b.y,I J 0,bO false,I .u32 0,bO false,I J 0,sL none 0 0]] w6 fun o w'=>o = rT (.tuple #[])∧lh w0 G (pH (freeHo H k) (ev3 6 b.y 0)) f1 f3 (fun j=>if j=k then (none,0,0) else hs j) nm (D.del (.int .i64 b.y)) w'∧(∀ q,q≠G.P→q≠G.gq→q<w6.heap.size→w'.heap[q]?=w6.heap[q]?)∧w6.heap.size≤w'.heap.size):=hl6.post (ev3 6 b.y 0) none 0 0 (none8 _) (nZ _)
    clear hl6 HV;have hfd:=field97 3 b.y b.z b.e b.i b.r b.d ao m c
    go_wp2_with fail;refine HP.out.mono ?_
    rintro o w7 ⟨rfl,hl7,hk7,_⟩;have HF7:Hid (∀ q,q≠G.P→q≠G.gq→q<w6.heap.size→w7.heap[q]?=w6.heap[q]?):=hk7
    clear hk7;have HL7:Hid (lh w0 G (pH (freeHo H k) (ev3 6 b.y 0)) f1 f3 (fun j=>if j=k then (none,0,0) else hs j) nm (D.del (.int .i64 b.y)) w7):=hl7
    clear hl7 HP;go_wp2_with fail;first | go_end0 | (try simp only[Exit.inBlock,Exit.then]);refine bN ?_
    exact⟨rfl,⟨_,_,by rw[HT.out];exact HL7.out⟩,fun q a1 a2 a3 a4 a5=>(HF7.out q a1 a2 (by have:=HF6.out.2;have:=HF5.out.size;omega)).trans ((HF6.out.1 q a3 a4 (by have:=HF5.out.size;omega)).trans (HF5.out.block q a5))⟩
  ·have HT:Hid (relHo H true=pH (freeHo H k) ⟨1,b.y,0,b.e,b.i,b.r,b.d,b.l⟩):=relHo_sent HKK.out HEK.out HEB.out.2
   obtain⟨bX,bY,bZ,bE,bI,bR,bD,bL⟩:=b
   go_wp2_with fail;refine HV.out.mono ?_
   rintro o w6 ⟨rfl,hl6,hk6,hz6⟩;have HF6:Hid ((∀ q,q≠G.gb→q≠G.mb→q<w5.heap.size→w6.heap[q]?=w5.heap[q]?)∧w5.heap.size≤w6.heap.size):=⟨hk6,hz6⟩
   clear hk6 hz6;have hbA:Below w6.heap.size w6 (w6.alloc (.cells [I J bX,I J bY,I J bZ,bO bE,I .u32 (bI:Int),bO bR,I J bD,sL ao m c].toArray 166)):=(bW _ _).alloc (nR _) _
   have HP:Hid (Calls Tp 87 #[pT (some ⟨G.P,0,none⟩),aG #[I J 1,I J bY,I J 0,bO bE,I .u32 (bI:Int),bO bR,I J bD,sL ao m c]] (w6.alloc (.cells [I J bX,I J bY,I J bZ,bO bE,I .u32 (bI:Int),bO bR,I J bD,sL ao m c].toArray 166)) fun o w'=>o = rT (.tuple #[])∧lh w0 G (pH (freeHo H k) ⟨1,bY,0,bE,bI,bR,bD,bL⟩) f1 f3 (fun j=>if j=k then (none,0,0) else hs j) nm (D.del (.int .i64 bY)) w'∧(∀ q,q≠G.P→q≠G.gq→q<(w6.alloc (.cells [I J bX,I J bY,I J bZ,bO bE,I .u32 (bI:Int),bO bR,I J bD,sL ao m c].toArray 166)).heap.size→w'.heap[q]?=(w6.alloc (.cells [I J bX,I J bY,I J bZ,bO bE,I .u32 (bI:Int),bO bR,I J bD,sL ao m c].toArray 166)).heap[q]?)∧(w6.alloc (.cells [I J bX,I J bY,I J bZ,bO bE,I .u32 (bI:Int),bO bR,I J bD,sL ao m c].toArray 166)).heap.size≤w'.heap.size):=(hl6.below hbA).post ⟨1,bY,0,bE,bI,bR,bD,bL⟩ ao m c HBY.out.1 HBY.out.2
   have HPB:Hid (blk (w6.alloc (.cells [I J bX,I J bY,I J bZ,bO bE,I .u32 (bI:Int),bO bR,I J bD,sL ao m c].toArray 166)) w6.heap.size [I J bX,I J bY,I J bZ,bO bE,I .u32 (bI:Int),bO bR,I J bD,sL ao m c] 166):=blk.new w6 _ 166
   have y1:(w6.alloc (.cells [I J bX,I J bY,I J bZ,bO bE,I .u32 (bI:Int),bO bR,I J bD,sL ao m c].toArray 166)).cell? ⟨w6.heap.size,1,none⟩=some (I J bY):=HPB.out.cell 1 _ rfl
   have HBA:Hid (Below w6.heap.size w6 (w6.alloc (.cells [I J bX,I J bY,I J bZ,bO bE,I .u32 (bI:Int),bO bR,I J bD,sL ao m c].toArray 166))):=hbA
   clear hl6 hbA HV;go_wp2_with (first
    | (refine lq55 (cs:=[bO bE,I .u32 (bI:Int),bO bR,I J bD,sL ao m c]) (blk.loadAt [I J bX,I J bY,I J bZ] [bO bE,I .u32 (bI:Int),bO bR,I J bD,sL ao m c] [] HPB.out) ?_))
   refine HP.out.mono ?_
   rintro o w7 ⟨rfl,hl7,hk7,_⟩;have HF7:Hid (∀ q,q≠G.P→q≠G.gq→q<w6.heap.size→w7.heap[q]?=w6.heap[q]?):=fun q h1 h2 h3=>(hk7 q h1 h2 (nL h3 HBA.out.size)).trans (HBA.out.block q h3)
   clear hk7 HBA;have HL7:Hid (lh w0 G (pH (freeHo H k) ⟨1,bY,0,bE,bI,bR,bD,bL⟩) f1 f3 (fun j=>if j=k then (none,0,0) else hs j) nm (D.del (.int .i64 bY)) w7):=hl7
   clear hl7 HP;go_wp2_with fail;first | go_end0 | (try simp only[Exit.inBlock,Exit.then]);refine bN ?_
   exact⟨rfl,⟨_,_,by rw[HT.out];exact HL7.out⟩,fun q a1 a2 a3 a4 a5=>(HF7.out q a1 a2 (by have:=HF6.out.2;have:=HF5.out.size;omega)).trans ((HF6.out.1 q a3 a4 (by have:=HF5.out.size;omega)).trans (HF5.out.block q a5))⟩
theorem mc.release (h:mc w0 M G C f1 f3 hs nm D W) (sent:Bool) (hwf:∀ j (hj:j<C.ho.bx.length),(Lit.int .i64 C.ho.bx[j].y).wf=true) :
  Calls Tp 105 #[pT (some ⟨G.P,0,none⟩),bO sent] W fun o w'=>o = rT (.tuple #[])∧∃ hs' D',mc w0 M G { C with ho:=relHo C.ho sent } f1 f3 hs' nm D' w':=by
 refine (release_fr h.h sent hwf).mono ?_
 rintro o w' ⟨rfl,⟨hs',D',h1⟩,h2⟩;exact⟨rfl,hs',D',h.m.kept (h2 M h.o.1 h.o.2.2.2.2.2.1 h.o.2.2.2.1 h.o.2.1 h.m.lt),h1,h.o⟩
theorem mc.post2 (h:mc w0 M G C f1 f3 hs nm D W) (k a b:Int) :
  Calls Tp 87 #[pT (some ⟨G.P,0,none⟩),aG #[I J k,I J a,I J b,bO false,I .u32 0,bO false,I J 0,sL none 0 0]] W fun o w'=>o = rT (.tuple #[])∧mc w0 M G { C with ho:=pH C.ho (ev3 k a b) } f1 f3 hs nm D w':=by
 refine (h.h.post (ev3 k a b) none 0 0 (none8 _) (nZ _)).mono ?_
 rintro o w' ⟨rfl,h1,h2,h3⟩;exact⟨rfl,h.m.kept (h2 M h.o.1 h.o.2.2.2.2.2.1 h.m.lt),h1,h.o⟩
theorem hidX {P:Prop} (h:P):Hid P:=h
variable {w0 : World} {M : Nat} {G : Lg} {f1 f3 nm : Nat} {C : Co} {W : World}
def mx (w0:World) (M:Nat) (G:Lg) (f1 f3 nm:Nat) (C:Co) (W:World):Prop:=∃ hs D,mc w0 M G C f1 f3 hs nm D W
theorem mx.m (h:mx w0 M G f1 f3 nm C W):blk W M (mcL G.P C) 125:=by obtain⟨_,_,h⟩:=h;exact h.m
theorem mx.below (h:mx w0 M G f1 f3 nm C W) {W':World} (hb:Below W.heap.size W W'):mx w0 M G f1 f3 nm C W':=by obtain⟨_,_,h⟩:=h;exact⟨_,_,h.below hb⟩
theorem mx.set (h:mx w0 M G f1 f3 nm C W) (k:Nat) (v:Value) (C':Co) (e:(mcL G.P C).set k v=mcL G.P C') (eh:C'.ho=C.ho):mx w0 M G f1 f3 nm C' (W.setCell ⟨M,k,none⟩ v):=by obtain⟨_,_,h⟩:=h;exact⟨_,_,h.set k v e eh⟩
theorem mx.post (h:mx w0 M G f1 f3 nm C W) (k a b:Int):Calls Tp 87 #[pT (some ⟨G.P,0,none⟩),aG #[I J k,I J a,I J b,bO false,I .u32 0,bO false,I J 0,sL none 0 0]] W fun o w'=>o = rT (.tuple #[])∧mx w0 M G f1 f3 nm { C with ho:=pH C.ho (ev3 k a b) } w':=by
 obtain⟨_,_,h⟩:=h
 exact (h.post2 k a b).mono fun o w' ⟨h1,h2⟩=>⟨h1,_,_,h2⟩
theorem mx.add (h:mx w0 M G f1 f3 nm C W) (b:Bool) (n:Int) (hn:0≤n∧n≤8) (ht:0≤C.te∧C.te≤256) (hr:0≤C.re∧C.re≤255):Calls Tp 107 #[pT (some ⟨M,0,none⟩),bO b,I J n] W fun o w'=>o = rT (.tuple #[])∧mx w0 M G f1 f3 nm (addC C b n) w':=by
 obtain⟨_,_,h⟩:=h
 exact (add_any h b n hn ht hr).mono fun o w' ⟨h1,h2⟩=>⟨h1,_,_,h2⟩
theorem mx.state (h:mx w0 M G f1 f3 nm C W):Calls Tp 106 #[pT (some ⟨M,0,none⟩)] W fun o w'=>o = rT (I J (stZ C.te C.re))∧mx w0 M G f1 f3 nm C w'∧Below W.heap.size W w':=by
 obtain⟨_,_,h⟩:=h
 exact (state_any h).mono fun o w' ⟨h1,h2,h3⟩=>⟨h1,⟨_,_,h2⟩,h3⟩
theorem mx.release (h:mx w0 M G f1 f3 nm C W) (sent:Bool) (hwf:∀ j (hj:j<C.ho.bx.length),(Lit.int .i64 C.ho.bx[j].y).wf=true):Calls Tp 105 #[pT (some ⟨G.P,0,none⟩),bO sent] W fun o w'=>o = rT (.tuple #[])∧mx w0 M G f1 f3 nm { C with ho:=relHo C.ho sent } w':=by
 obtain⟨_,_,h⟩:=h
 exact (h.release sent hwf).mono fun o w' ⟨h1,hs',D',h2⟩=>⟨h1,hs',D',h2⟩
def fltH (C:Co) (k:Int):Ho:=relHo (pH C.ho (ev3 8 k (if C.tx then 1 else 0))) false
def fltW (C:Co):Bool:=stZ C.te C.re == 1
def fltO (C:Co) (k:Int):Bool:=fltW C && C.tx && (k == 5)
def fltM (C:Co) (k:Int):Co:={ C with wk:=fltW C,ow:=fltO C k,ho:=fltH C k }
def fltC (C:Co) (k:Int):Co:={ addC (fltM C k) C.tx (fwZ C.tx (fltO C k) C.p k) with p:=2,ct:=0,lv:=0,ov:=false }
theorem fwZ_in (a b:Bool) (p k:Int):0≤fwZ a b p k∧fwZ a b p k≤8:=by unfold fwZ;split <;> (try split) <;> omega
theorem eqB (x y:Int):∃ b:Bool,(x == y)=b∧(x != y) = !b∧Hid (b=true↔x=y):=⟨_,rfl,rfl,by show _↔_;simp⟩
theorem mx.fault (h:mx w0 M G f1 f3 nm C W) (k:Int) (ht:0≤C.te∧C.te≤256) (hr:0≤C.re∧C.re≤255) (hwf:∀ j (hj:j<C.ho.bx.length),(Lit.int .i64 C.ho.bx[j].y).wf=true) :
  Calls Tp 45 #[pT (some ⟨M,0,none⟩),I J k] W fun o w'=>o = rT (.tuple #[])∧mx w0 M G f1 f3 nm (fltC C k) w':=by
 obtain⟨fv,hfv⟩ : ∃ fv:Int,fv=if C.tx then 1 else 0:=⟨_,rfl⟩
 have HFL:Hid (relHo (pH C.ho (ev3 8 k fv)) false=fltH C k):=by show _=fltH C k;unfold fltH;rw[hfv]
 have HFV:Hid (∀ X,Calls Tp 88 #[bO C.tx] X fun o w'=>o = rT (I .u64 fv)∧X=w'):=fun X=>by rw[hfv];exact flagValue_any X C.tx
 have hwv:IntKind.i64.wrap fv=fv:=by rw[hfv];generalize C.tx=q;cases q <;> decide
 have H0:Hid (mx w0 M G f1 f3 nm C W):=h
 have HPO:=hidX ((h.below (bW _ _).drew).post 8 k fv)
 have HRL:Hid (∀ X,mx w0 M G f1 f3 nm { C with ho:=pH C.ho (ev3 8 k fv) } X→Calls Tp 105 #[pT (some ⟨G.P,0,none⟩),bO false] X fun o w'=>o = rT (.tuple #[])∧mx w0 M G f1 f3 nm { C with ho:=fltH C k } w'):=fun X hX=>by rw[← HFL.out];exact hX.release false hwf
 have HST:Hid (∀ X,mx w0 M G f1 f3 nm { C with ho:=fltH C k } X→Calls Tp 106 #[pT (some ⟨M,0,none⟩)] X fun o w'=>o = rT (I J (stZ C.te C.re))∧mx w0 M G f1 f3 nm { C with ho:=fltH C k } w'):=fun X hX=>hX.state.mono fun o w' ⟨h1,h2,_⟩=>⟨h1,h2⟩
 have HFW:Hid (∀ X,mx w0 M G f1 f3 nm (fltM C k) X→Calls Tp 108 #[pT (some ⟨M,0,none⟩),I J k] X fun o w'=>o = rT (I J (fwZ C.tx (fltO C k) C.p k))∧X=w'):=fun X hX=>by obtain⟨_,_,hX⟩:=hX;exact faultWeight_any hX k
 have HAD:Hid (∀ X,mx w0 M G f1 f3 nm (fltM C k) X→Calls Tp 107 #[pT (some ⟨M,0,none⟩),bO C.tx,I J (fwZ C.tx (fltO C k) C.p k)] X fun o w'=>o = rT (.tuple #[])∧mx w0 M G f1 f3 nm (addC (fltM C k) C.tx (fwZ C.tx (fltO C k) C.p k)) w'):=fun X hX=>hX.add C.tx _ (fwZ_in _ _ _ _) ht hr
 obtain⟨wk,ewk⟩ : ∃ b,(stZ C.te C.re == 1)=b:=⟨_,rfl⟩
 obtain⟨tx,etx⟩ : ∃ b,C.tx=b:=⟨_,rfl⟩
 obtain⟨k5,e5,_,_⟩:=eqB k 5
 have HM:Hid (fltM C k = { { C with ho:=fltH C k } with wk:=wk,ow:=wk && tx && k5 }):=by show _=_;unfold fltM fltO fltW;rw[ewk,etx,e5]
 have HTX:=hidX etx
 generalize stZ C.te C.re=z at *;have y9:=h.m.cell 9 (bO C.tx) rfl
 have y0:=h.m.cell 0 (pT (some ⟨G.P,0,none⟩)) rfl
 clear h ht hr hwf hfv HFL etx;go_enter Tryz.func45,Tryz.ntmps45
 go_upto_region 0 with fail
 go_cut [] (fun wx=>Hid (mx w0 M G f1 f3 nm { C with ho:=pH C.ho (ev3 8 k fv) } wx))
 case first=>
  go_region_with (first | (go_at_call 88;refine (HFV.out _).mono ?_;rintro o w1 ⟨rfl,rfl⟩) | (go_at_call 87;refine HPO.out.mono ?_;rintro o w1 ⟨rfl,h1⟩;have H1:=hidX h1;clear h1))
  all_goals (
   go_wp2_with fail;go_meet
   case rel=>exact H1.out)
 case rest=>
 have H1:=hcut
 clear hcut y9 y0 H0 HPO HFV;have y0:=H1.out.m.cell 0 (pT (some ⟨G.P,0,none⟩)) rfl
 go_wp2_with fail;refine (HRL.out _ H1.out).mono ?_
 rintro o w1 ⟨rfl,h2⟩;have H2:=hidX h2
 clear h2 H1 HRL y0;go_wp2_with fail;refine (HST.out _ H2.out).mono ?_
 rintro o w2 ⟨rfl,h2⟩;have H3:=hidX h2
 have y6:=h2.m.cell 6 (bO C.wk) rfl
 have z6:=h2.m.free 6
 clear h2 H2 HST;have H4:Hid (mx w0 M G f1 f3 nm { { C with ho:=fltH C k } with wk:=wk } (World.setCell w2 ⟨M,6,none⟩ (bO wk))):=H3.out.set 6 (bO wk) _ rfl rfl
 go_upto_region 3 with fail
 generalize World.setCell w2 ⟨M,6,none⟩ (bO wk)=w3 at *;clear y6 z6 H3;have y6:=H4.out.m.cell 6 (bO wk) rfl
 have y8:=H4.out.m.cell 8 (bO C.ow) rfl
 have z8:=H4.out.m.free 8
 have y9:=H4.out.m.cell 9 (bO C.tx) rfl
 rw[HTX.out] at y9
 go_cut [] (fun wx=>Hid (mx w0 M G f1 f3 nm (fltM C k) wx))
 case first=>
  cases wk <;> cases tx <;> cases k5 <;> (
   go_wp2_with fail;go_meet
   case rel=>rw[HM.out];exact H4.out.set 8 _ _ rfl rfl)
 case rest=>
 have H5:=hcut
 clear hcut y6 y8 z8 y9 H4 HM e5 ewk;have y9:=H5.out.m.cell 9 (bO C.tx) rfl
 have H6:=hidX (H5.out.below (bW _ _).drew)
 obtain⟨n,en⟩ : ∃ n,fwZ C.tx (fltO C k) C.p k=n:=⟨_,rfl⟩
 obtain⟨A,eA⟩ : ∃ A,addC (fltM C k) C.tx n=A:=⟨_,rfl⟩
 have HEA:Hid (fltC C k = { A with p:=2,ct:=0,lv:=0,ov:=false }):=by show _=_;rw[← eA,← en];rfl
 rw[en] at HFW HAD
 rw[eA] at HAD
 clear en eA;go_upto_region 4 with fail
 go_cut [] (fun wx=>Hid (mx w0 M G f1 f3 nm A wx))
 case first=>
  go_region_with (first | (go_at_call 108;refine (HFW.out _ H6.out).mono ?_;rintro o w5 ⟨rfl,rfl⟩) | (go_at_call 107;refine (HAD.out _ H6.out).mono ?_;rintro o w5 ⟨rfl,h7⟩;have H7:=hidX h7;clear h7))
  all_goals (
   go_wp2_with fail;go_meet
   case rel=>exact H7.out)
 case rest=>
 have H4:=hcut
 clear hcut y9 H5 H6 HFW HAD;have y3:=H4.out.m.cell 3 (I J A.p) rfl
 have y4:=H4.out.m.cell 4 (I J A.ct) rfl
 have y5:=H4.out.m.cell 5 (I J A.lv) rfl
 have y7:=H4.out.m.cell 7 (bO A.ov) rfl
 have z3:=H4.out.m.free 3
 have z4:=H4.out.m.free 4
 have z5:=H4.out.m.free 5
 have z7:=H4.out.m.free 7
 have H9:Hid (mx w0 M G f1 f3 nm { A with p:=2,ct:=0,lv:=0,ov:=false } (World.setCell (World.setCell (World.setCell (World.setCell wc ⟨M,3,none⟩ (I J 2)) ⟨M,4,none⟩ (I J 0)) ⟨M,5,none⟩ (I J 0)) ⟨M,7,none⟩ (bO false))):=((((H4.out.set 3 (I J 2) { A with p:=2 } rfl rfl).set 4 (I J 0) { A with p:=2,ct:=0 } rfl rfl).set 5 (I J 0) { A with p:=2,ct:=0,lv:=0 } rfl rfl).set 7 (bO false) { A with p:=2,ct:=0,lv:=0,ov:=false } rfl rfl)
 go_wp2_with fail;first | go_end0 | (try simp only[Exit.inBlock,Exit.then]);refine bN ?_
 exact⟨rfl,by rw[HEA.out];exact H9.out⟩
theorem fault_any {hs:Nat→Hd} {D:DataW Unit} (h:mc w0 M G C f1 f3 hs nm D W) (k:Int) (ht:0≤C.te∧C.te≤256) (hr:0≤C.re∧C.re≤255) (hwf:∀ j (hj:j<C.ho.bx.length),(Lit.int .i64 C.ho.bx[j].y).wf=true) :
  Calls Tp 45 #[pT (some ⟨M,0,none⟩),I J k] W fun o w'=>o = rT (.tuple #[])∧∃ hs' D',mc w0 M G (fltC C k) f1 f3 hs' nm D' w':=mx.fault ⟨hs,D,h⟩ k ht hr hwf
variable {w0 W:World} {M f1 f3 nm:Nat} {G:Lg} {C:Co} {hs:Nat→Hd} {D:DataW Unit}
def offC (A:Co):Co:=⟨7,0,0,false,false,false,false,false,0,A.te,A.re,A.ho⟩
theorem mc.moment (h:mc w0 M G C f1 f3 hs nm D W):mc w0 M G (offC C) f1 f3 hs nm D (W.setCells M 3 [I J 7,I J 0,I J 0,bO false,bO false,bO false,bO false,bO false,I J 0]):=by
 refine⟨?_,?_,h.o⟩
 ·have h':blk W M ([pT (some ⟨G.P,0,none⟩),I J C.te,I J C.re]++[I J C.p,I J C.ct,I J C.lv,bO C.wk,bO C.ov,bO C.ow,bO C.tx,bO C.ak,I J C.rn]++(sgL++prL)) 125:=h.m
  exact blk.put [pT (some ⟨G.P,0,none⟩),I J C.te,I J C.re] [I J C.p,I J C.ct,I J C.lv,bO C.wk,bO C.ov,bO C.ow,bO C.tx,bO C.ak,I J C.rn] (sgL++prL) [I J 7,I J 0,I J 0,bO false,bO false,bO false,bO false,bO false,I J 0] h' rfl
 ·exact h.h.other M h.o (fun q hq=>sO _ q hq _ _ _) (sZ ..) (sW h.o.2.2.2.2.2.2 3 _ h.h.b)
theorem sz116:(Tp.info? 116).map (·.size)=some 9:=by kernel_rfl
def actC (C A:Co):Co:=tellC (if A.te=256∧A.p≠7 then offC A else A) (stZ C.te C.re)
theorem lit44 (h:mc w0 M G C f1 f3 hs nm D W) (Bx:Nat) (k:Int) (yb:W.cell? ⟨Bx,0,none⟩=some (I J k)) (ht:0≤C.te∧C.te≤256) (hr:0≤C.re∧C.re≤255) (hwf:∀ j (hj:j<C.ho.bx.length),(Lit.int .i64 C.ho.bx[j].y).wf=true) :
  Calls Tp 44 #[pT (some ⟨M,0,none⟩),pT (some ⟨Bx,0,none⟩)] W fun o w'=>o = rT (.tuple #[])∧∃ hs' D',mc w0 M G (fltC C k) f1 f3 hs' nm D' w':=by
 have HS:Hid (Calls Tp 45 #[pT (some ⟨M,0,none⟩),I J k] W fun o w'=>o = rT (.tuple #[])∧∃ hs' D',mc w0 M G (fltC C k) f1 f3 hs' nm D' w'):=fault_any h k ht hr hwf
 clear h hwf ht hr;go_enter Tryz.func44,Tryz.ntmps44
 go_wp2_with fail;refine HS.out.mono ?_
 rintro o w5 ⟨rfl,hs',D',hq⟩;have HQ:Hid (mc w0 M G (fltC C k) f1 f3 hs' nm D' w5):=hq
 clear hq;go_wp2_with fail;first | go_end0 | (try simp only[Exit.inBlock,Exit.then]);refine bN ?_
 exact⟨rfl,hs',D',HQ.out⟩
theorem fltC_p (C:Co) (k:Int):(fltC C k).p=2:=rfl
theorem act_flt (h:mc w0 M G C f1 f3 hs nm D W) (Bx:Nat) (k:Int) (yb:W.cell? ⟨Bx,0,none⟩=some (I J k)) (ht:0≤C.te∧C.te≤256) (hr:0≤C.re∧C.re≤255) (hwf:∀ j (hj:j<C.ho.bx.length),(Lit.int .i64 C.ho.bx[j].y).wf=true) :
  Calls Tp 85 #[pT (some ⟨M,0,none⟩),.func (.func 44) #[] #[pT (some ⟨Bx,0,none⟩)]] W fun o w'=>o = rT (.tuple #[])∧∃ hs' D',mc w0 M G (actC C (fltC C k)) f1 f3 hs' nm D' w':=by
 have HS:Hid (Calls Tp 106 #[pT (some ⟨M,0,none⟩)] W fun o w'=>o = rT (I J (stZ C.te C.re))∧mc w0 M G C f1 f3 hs nm D w'∧Below W.heap.size W w'):=state_any h
 have HR:Hid (∀ X,mc w0 M G C f1 f3 hs nm D X→X.cell? ⟨Bx,0,none⟩=some (I J k)→Calls Tp 44 #[pT (some ⟨M,0,none⟩),pT (some ⟨Bx,0,none⟩)] X fun o w'=>o = rT (.tuple #[])∧∃ hs' D',mc w0 M G (fltC C k) f1 f3 hs' nm D' w'):=fun X hX hy=>lit44 hX Bx k hy ht hr hwf
 have HS2:Hid (∀ hs' D' X,mc w0 M G (fltC C k) f1 f3 hs' nm D' X→Calls Tp 106 #[pT (some ⟨M,0,none⟩)] X fun o w'=>o = rT (I J (stZ (fltC C k).te (fltC C k).re))∧mc w0 M G (fltC C k) f1 f3 hs' nm D' w'):=fun hs' D' X hX=>(state_any hX).mono (by rintro o w' ⟨rfl,h1,_⟩;exact⟨rfl,h1⟩)
 have HYB:Hid (W.cell? ⟨Bx,0,none⟩=some (I J k)):=yb
 clear h yb ht hr hwf;obtain⟨z0,ez0⟩ : ∃ z0,stZ C.te C.re=z0:=⟨_,rfl⟩
 obtain⟨z1,ez1⟩ : ∃ z1,stZ (fltC C k).te (fltC C k).re=z1:=⟨_,rfl⟩
 by_cases e:(fltC C k).te=256
 ·have e2:z1=2:=by rw[← ez1];unfold stZ;rw[if_pos e]
  have HAC:Hid (actC C (fltC C k)=tellC (offC (fltC C k)) z0):=by show actC C (fltC C k)=_;unfold actC;rw[if_pos ⟨e,by rw[fltC_p];decide⟩,ez0]
  rw[ez0] at HS
  rw[ez1,e2] at HS2
  clear e e2 ez0 ez1;go_enter Tryz.func85,Tryz.ntmps85
  go_wp2_with fail;refine HS.out.mono ?_
  rintro o w1 ⟨rfl,h1,hb1⟩;have H1:Hid (mc w0 M G C f1 f3 hs nm D w1∧w1.cell? ⟨Bx,0,none⟩=some (I J k)):=⟨h1,(hb1.cell (by exact World.block_lt_of_cell? W _ HYB.out)).trans HYB.out⟩
  clear h1 hb1 HS;go_wp2_with fail;refine (HR.out _ H1.out.1 H1.out.2).mono ?_
  rintro o w2 ⟨rfl,hs',D',h2⟩;have H2:Hid (mc w0 M G (fltC C k) f1 f3 hs' nm D' w2):=h2
  clear h2 H1 HR;go_wp2_with fail;refine (HS2.out hs' D' _ H2.out).mono ?_
  rintro o w3 ⟨rfl,h3⟩;have H3:Hid (mc w0 M G (fltC C k) f1 f3 hs' nm D' w3):=h3
  have y3:=h3.m.cell 3 (I J 2) rfl
  clear h3 H2 HS2;go_wp2_with (first
   | (refine wpList_store_mid (P:=Tp) rfl 116 (.tmp 28) (.tmp 26) rfl M 3 #[I J 7,I J 0,I J 0,bO false,bO false,bO false,bO false,bO false,I J 0] rfl rfl (H3.out.m.there 3 9 (by rw[mcL_len];decide)) sz116 (all_oneCell_toArray (by simp[Value.oneCell'])) ?_;generalize hW4:World.setCells w3 M 3 _=w4;have H4:Hid (mc w0 M G (offC (fltC C k)) f1 f3 hs' nm D' w4):=(by rw[← hW4];exact H3.out.moment);clear hW4))
  refine (tell_any H4.out z0).mono ?_
  rintro o w5 ⟨rfl,h5⟩;have H5:Hid (mc w0 M G (tellC (offC (fltC C k)) z0) f1 f3 hs' nm D' w5):=h5
  clear h5;go_wp2_with fail;first | go_end0 | (try simp only[Exit.inBlock,Exit.then]);refine bN ?_
  exact⟨rfl,hs',D',by rw[HAC.out];exact H5.out⟩
 ·have e2:¬ z1=2:=by rw[← ez1];unfold stZ;rw[if_neg e];split <;> omega
  have HAC:Hid (actC C (fltC C k)=tellC (fltC C k) z0):=by show actC C (fltC C k)=_;unfold actC;rw[if_neg (fun x=>e x.1),ez0]
  have d2:(z1 == 2)=false:=by simpa using e2
  rw[ez0] at HS
  rw[ez1] at HS2
  clear e e2 ez0 ez1;go_enter Tryz.func85,Tryz.ntmps85
  go_wp2_with fail;refine HS.out.mono ?_
  rintro o w1 ⟨rfl,h1,hb1⟩;have H1:Hid (mc w0 M G C f1 f3 hs nm D w1∧w1.cell? ⟨Bx,0,none⟩=some (I J k)):=⟨h1,(hb1.cell (by exact World.block_lt_of_cell? W _ HYB.out)).trans HYB.out⟩
  clear h1 hb1 HS;go_wp2_with fail;refine (HR.out _ H1.out.1 H1.out.2).mono ?_
  rintro o w2 ⟨rfl,hs',D',h2⟩;have H2:Hid (mc w0 M G (fltC C k) f1 f3 hs' nm D' w2):=h2
  clear h2 H1 HR;go_wp2_with fail;refine (HS2.out hs' D' _ H2.out).mono ?_
  rintro o w3 ⟨rfl,h3⟩;have H3:Hid (mc w0 M G (fltC C k) f1 f3 hs' nm D' w3):=h3
  have y3:=h3.m.cell 3 (I J 2) rfl
  clear h3 H2 HS2;go_wp2_with fail;refine (tell_any H3.out z0).mono ?_
  rintro o w5 ⟨rfl,h5⟩;have H5:Hid (mc w0 M G (tellC (fltC C k) z0) f1 f3 hs' nm D' w5):=h5
  clear h5;go_wp2_with fail;first | go_end0 | (try simp only[Exit.inBlock,Exit.then]);refine bN ?_
  exact⟨rfl,hs',D',by rw[HAC.out];exact H5.out⟩
theorem act_rst {w0:World} {M:Nat} {G:Lg} {C:Co} {f1 f3:Nat} {hs:Nat→Hd} {nm:Nat} {D:DataW Unit} {W:World} (h:mc w0 M G C f1 f3 hs nm D W) (hof:C.p=7↔C.te=256):Calls Tp 85 #[pT (some ⟨M,0,none⟩),.func (.func 38) #[] #[]] W fun o w'=>o = rT (.tuple #[])∧mc w0 M G (rstC C) f1 f3 hs nm D w':=by
 have HS:Hid (Calls Tp 106 #[pT (some ⟨M,0,none⟩)] W fun o w'=>o = rT (I J (stZ C.te C.re))∧mc w0 M G C f1 f3 hs nm D w'∧Below W.heap.size W w'):=state_any h
 have HR:Hid (∀ X,mc w0 M G C f1 f3 hs nm D X→Calls Tp 38 #[pT (some ⟨M,0,none⟩)] X fun o w'=>o = rT (.tuple #[])∧mc w0 M G (rstC C) f1 f3 hs nm D w'):=fun X hX=>restart_any hX
 have HS2:Hid (∀ X,mc w0 M G (rstC C) f1 f3 hs nm D X→Calls Tp 106 #[pT (some ⟨M,0,none⟩)] X fun o w'=>o = rT (I J (stZ C.te C.re))∧mc w0 M G (rstC C) f1 f3 hs nm D w'):=fun X hX=>(state_any hX).mono (by rintro o w' ⟨rfl,h1,_⟩;exact⟨rfl,h1⟩)
 have HTL:Hid (∀ X,mc w0 M G (rstC C) f1 f3 hs nm D X→Calls Tp 145 #[pT (some ⟨M,0,none⟩),I J (stZ C.te C.re)] X fun o w'=>o = rT (.tuple #[])∧mc w0 M G (rstC C) f1 f3 hs nm D w'):=fun X hX=>by
  have:=tell_any hX (stZ C.te C.re)
  have e:tellC (rstC C) (stZ C.te C.re)=rstC C:=if_pos rfl
  rw[e] at this
  exact this
 clear h;by_cases e:C.te=256
 ·have ez:stZ C.te C.re=2:=by unfold stZ;rw[if_pos e]
  have ep:C.p=7:=hof.2 e
  have d1:(C.p == 7)=true:=by simpa using ep
  have d2:(C.p != 7)=false:=by simpa using ep
  rw[ez] at HS HS2 HTL
  clear hof e ez;go_enter Tryz.func85,Tryz.ntmps85
  go_wp2_with fail;refine HS.out.mono ?_
  rintro o w1 ⟨rfl,h1,_⟩;have H1:Hid (mc w0 M G C f1 f3 hs nm D w1):=h1
  clear h1 HS;go_wp2_with fail;refine (HR.out _ H1.out).mono ?_
  rintro o w2 ⟨rfl,h2⟩;have H2:Hid (mc w0 M G (rstC C) f1 f3 hs nm D w2):=h2
  clear h2 H1 HR;go_wp2_with fail;refine (HS2.out _ H2.out).mono ?_
  rintro o w3 ⟨rfl,h3⟩;have H3:Hid (mc w0 M G (rstC C) f1 f3 hs nm D w3):=h3
  have y3:=h3.m.cell 3 (I J C.p) rfl
  clear h3 H2 HS2;go_wp2_with fail;refine (HTL.out _ H3.out).mono ?_
  rintro o w4 ⟨rfl,h4⟩;have H4:Hid (mc w0 M G (rstC C) f1 f3 hs nm D w4):=h4
  clear h4 H3 HTL;go_wp2_with fail;first | go_end0 | (try simp only[Exit.inBlock,Exit.then]);refine bN ?_
  exact⟨rfl,H4.out⟩
 ·have ez:¬ stZ C.te C.re=2:=by unfold stZ;rw[if_neg e];split <;> omega
  have d1:(stZ C.te C.re == 2)=false:=by simpa using ez
  clear hof e ez;generalize stZ C.te C.re=z at *;go_enter Tryz.func85,Tryz.ntmps85
  go_wp2_with fail;refine HS.out.mono ?_
  rintro o w1 ⟨rfl,h1,_⟩;have H1:Hid (mc w0 M G C f1 f3 hs nm D w1):=h1
  clear h1 HS;go_wp2_with fail;refine (HR.out _ H1.out).mono ?_
  rintro o w2 ⟨rfl,h2⟩;have H2:Hid (mc w0 M G (rstC C) f1 f3 hs nm D w2):=h2
  clear h2 H1 HR;go_wp2_with fail;refine (HS2.out _ H2.out).mono ?_
  rintro o w3 ⟨rfl,h3⟩;have H3:Hid (mc w0 M G (rstC C) f1 f3 hs nm D w3):=h3
  have y3:=h3.m.cell 3 (I J C.p) rfl
  clear h3 H2 HS2;go_wp2_with fail;refine (HTL.out _ H3.out).mono ?_
  rintro o w4 ⟨rfl,h4⟩;have H4:Hid (mc w0 M G (rstC C) f1 f3 hs nm D w4):=h4
  clear h4 H3 HTL;go_wp2_with fail;first | go_end0 | (try simp only[Exit.inBlock,Exit.then]);refine bN ?_
  exact⟨rfl,H4.out⟩
theorem open_rst (w:World) (C:Co) (s:Sl) (h:isHo w C.ho s) (hs:slSome s) (hok:okCo C) (hm:C.ho.le 1048576) :
  Calls Tp 84 #[aG (coL C s).toArray] w fun o w'=>∃ P,o = rT (pT (some ⟨P,0,none⟩))∧Below w.heap.size w w'∧Calls Tp 85 #[pT (some ⟨P,0,none⟩),.func (.func 38) #[] #[]] w' fun o w2=>o = rT (.tuple #[])∧Below w.heap.size w w2∧Calls Tp 86 #[pT (some ⟨P,0,none⟩)] w2 (toldC w2 (rstC C)):=by
 refine (openCore_gen (R:=fun P w'=>∃ (X:World) (G:Lg) (hd:Nat→Hd),Below w.heap.size w X∧lh X G C.ho 0 0 hd G.n2 (tagsD Unit C.ho.bx G.n2) w'∧P=G.P) ?_ w C s ?_).mono ?_
 ·rintro P W W' ⟨X,G,hd,h1,h2,h3⟩ hb;exact⟨X,G,hd,h1,h2.below hb,h3⟩
 ·intro W hW;refine (open_lh W C.ho s (h.below hW) hs hok.h hm).mono ?_
  rintro o w' ⟨G,hd,rfl,h1,_⟩;exact⟨G.P,rfl,⟨W,G,hd,hW,h1,rfl⟩,h1.b⟩
 rintro o w' ⟨P,w5,rfl,rfl,⟨X,G,hd,h1,h2,rfl⟩,h3⟩;have hb5:Below w5.heap.size w5 (w5.alloc (.cells (mcL G.P C).toArray 125)):=(bW _ _).alloc (nR _) _
 have hmc:mc X w5.heap.size G C 0 0 hd G.n2 (tagsD Unit C.ho.bx G.n2) (w5.alloc (.cells (mcL G.P C).toArray 125)):=by
  have a1:=h2.p.lt
  have a2:=h2.m.lt
  have a3:=h2.hi
  have a4:=h2.x.hi
  have a5:=h2.b.size
  exact⟨blk.new w5 _ 125,h2.below hb5,⟨by omega,by omega,by omega,by omega,by omega,by omega,by omega⟩⟩
 refine⟨w5.heap.size,rfl,h3.trans (hb5.mono h3.size),?_⟩
 refine (act_rst hmc hok.m.of).mono ?_
 rintro o w2 ⟨rfl,h4⟩;refine⟨rfl,h1.trans (h4.h.b.mono h1.size),?_⟩
 exact mtold_any w2 w5.heap.size G.P (rstC C) h4.m (fun Y hY=>(h4.h.below hY).told)
structure dcS (w:World) (C:Co) (s:Sl) (W:World):Prop where
 p:blk W w.heap.size (coL C s) 41
 r:blk W (w.heap.size+1) Z21 41
 b:Below w.heap.size w W
theorem dcS.below {w:World} {C:Co} {s:Sl} {W W':World} (h:dcS w C s W) (hb:Below W.heap.size W W'):dcS w C s W':=⟨h.p.below hb,h.r.below hb,h.b.trans (hb.mono h.b.size)⟩
theorem dcS.new (w:World) (C:Co) (s:Sl):dcS w C s ((w.alloc (.cells (coL C s).toArray 41)).alloc (.cells Z21.toArray 41)):=by
 refine⟨(blk.new w _ 41).alloc _,?_,((bW _ _).alloc (nR _) _).alloc (by simp) _⟩
 have:=blk.new (w.alloc (.cells (coL C s).toArray 41)) Z21 41
 simpa using this
theorem changed_gen (w:World) (C R:Co) (s:Sl) (fv:Value) (h:isHo w C.ho s) (hn:C.ho.le 1048576) (ho:okCo C→∀ W,Below w.heap.size w W→Calls Tp 84 #[aG (coL C s).toArray] W fun o w'=>∃ P,o = rT (pT (some ⟨P,0,none⟩))∧Below W.heap.size W w'∧Calls Tp 85 #[pT (some ⟨P,0,none⟩),fv] w' fun o w2=>o = rT (.tuple #[])∧Below W.heap.size W w2∧Calls Tp 86 #[pT (some ⟨P,0,none⟩)] w2 (toldC w2 R)) :
  Calls Tp 37 #[aG (coL C s).toArray,bO true,fv] w fun o w'=>(okCo C∧toldC w (R) o w')∨(¬ okCo C∧o = rT (.agg zY.toArray)∧Below w.heap.size w w'):=by
 have H0:Hid (dcS w C s ((w.alloc (.cells (coL C s).toArray 41)).alloc (.cells zY.toArray 41))):=dcS.new w C s
 by_cases hok:okCo C
 ·have HV:Hid (∀ W,Below w.heap.size w W→Calls Tp 83 #[aG (coL C s).toArray] W fun o w'=>o = rT (bO true)∧Below W.heap.size W w'):=fun W hW=>vOkC W C s (h.below hW) hn hok
  have HO:Hid (∀ W,Below w.heap.size w W→Calls Tp 84 #[aG (coL C s).toArray] W fun o w'=>∃ P,o = rT (pT (some ⟨P,0,none⟩))∧Below W.heap.size W w'∧Calls Tp 85 #[pT (some ⟨P,0,none⟩),fv] w' fun o w2=>o = rT (.tuple #[])∧Below W.heap.size W w2∧Calls Tp 86 #[pT (some ⟨P,0,none⟩)] w2 (toldC w2 (R))):=ho hok
  have HOK:Hid (okCo C):=hok
  clear h hn hok ho;go_enter Tryz.func37,Tryz.ntmps37
  go_wp2_with (first
   | (refine wpList_load_midG (by first | rfl | (simp[Region.wanted,yielded];done)) 41 _ rfl w.heap.size 0 rfl (coL C s) _ H0.out.p.load Tryz.underlying41 rfl (szC41L C s) ?_))
  refine (HV.out _ H0.out.b).mono ?_
  rintro o w1 ⟨rfl,hb1⟩;have H1:Hid (dcS w C s w1):=H0.out.below hb1
  clear H0 hb1;go_wp2_with (first
   | (refine lq41 H1.out.p.load ?_))
  refine (HO.out _ H1.out.b).mono ?_
  rintro o w2 ⟨P,rfl,hb2,hc2⟩;have HC2:Hid (Calls Tp 85 #[pT (some ⟨P,0,none⟩),fv] w2 fun o w3=>o = rT (.tuple #[])∧Below w1.heap.size w1 w3∧Calls Tp 86 #[pT (some ⟨P,0,none⟩)] w3 (toldC w3 (R))):=hc2
  clear hc2 hb2;go_wp2_with fail;refine (Calls.mono HC2.out) ?_
  rintro o w3 ⟨rfl,hb3,hc3⟩;have H3:Hid (dcS w C s w3):=H1.out.below hb3
  have HC3:Hid (Calls Tp 86 #[pT (some ⟨P,0,none⟩)] w3 (toldC w3 (R))):=hc3
  clear hc3 hb3 HC2 H1;go_wp2_with fail;refine (Calls.mono HC3.out) ?_
  rintro o w4 ⟨s4,rfl,q1,q2,q3,q4,hb4⟩;have H4:Hid (dcS w C s w4):=H3.out.below hb4
  have HQ:Hid (St w3.heap.size w4 (fun W=>isHo W (R).ho s4.sl)∧whS w3.heap.size w4.heap.size w4 s4∧whD s4∧whE s4):=⟨q1,q2,q3,q4⟩
  clear q1 q2 q3 q4 hb4 HC3;go_wp2_with (first
   | (refine sq41 H4.out.r ?_;generalize hW8:World.setCells _ (w.heap.size+1) 0 _=w8;have HW8:Hid (_=w8):=hW8;clear hW8))
  have e8:=HW8.out
  have hF:blk w8 (w.heap.size+1) (coL (R) s4.sl) 41:=by
   rw[← e8]
   have:=blk.put [] Z21 [] (coL (R) s4.sl) (w:=w4) (b:=w.heap.size+1) (T:=41) (by simpa using H4.out.r) (by rw[cL];rfl)
   simpa using this
  have hL:=rq41 hF
  refine bC Tryz.results37 hL ?_
  have oth:∀ x,x≠w.heap.size+1→w8.heap[x]?=w4.heap[x]?:=fun x hx=>by rw[← e8];exact sO _ x hx _ _ _
  have hsz:w8.heap.size=w4.heap.size:=by rw[← e8];exact sZ ..
  have hp:=toldQ.put (w:=w) H3.out.b.size H3.out.r.lt HQ.out.1 HQ.out.2.1 oth hsz
  exact Or.inl ⟨HOK.out,s4,rfl,hp.1,hp.2,HQ.out.2.2.1,HQ.out.2.2.2,by rw[← e8];exact sW (by omega) 0 _ H4.out.b⟩
 ·have HV:Hid (∀ W,Below w.heap.size w W→Calls Tp 83 #[aG (coL C s).toArray] W fun o w'=>o = rT (bO false)∧Below W.heap.size W w'):=fun W hW=>vBadC W C s (h.below hW) hn hok
  have HOK:Hid (¬ okCo C):=hok
  clear h hn hok ho;go_enter Tryz.func37,Tryz.ntmps37
  go_wp2_with (first
   | (refine wpList_load_midG (by first | rfl | (simp[Region.wanted,yielded];done)) 41 _ rfl w.heap.size 0 rfl (coL C s) _ H0.out.p.load Tryz.underlying41 rfl (szC41L C s) ?_))
  refine (HV.out _ H0.out.b).mono ?_
  rintro o w1 ⟨rfl,hb1⟩;have H1:Hid (dcS w C s w1):=H0.out.below hb1
  clear H0 hb1;go_wp2_with (first
   | (refine sq41 H1.out.r ?_;generalize hW8:World.setCells _ (w.heap.size+1) 0 _=w8;have HW8:Hid (_=w8):=hW8;clear hW8))
  have e8:=HW8.out
  have hF:blk w8 (w.heap.size+1) zY 41:=by
   rw[← e8]
   have:=blk.put [] Z21 [] zY (w:=w1) (b:=w.heap.size+1) (T:=41) (by simpa using H1.out.r) rfl
   simpa using this
  have hL:=rq41 hF
  refine bC Tryz.results37 hL ?_
  exact Or.inr ⟨HOK.out,rfl,by rw[← e8];exact sW (by omega) 0 _ H1.out.b⟩
theorem changedRst (w:World) (C:Co) (s:Sl) (h:isHo w C.ho s) (hs:slSome s) (hn:C.ho.le 1048576) :
  Calls Tp 37 #[aG (coL C s).toArray,bO true,.func (.func 38) #[] #[]] w fun o w'=>(okCo C∧toldC w (rstC C) o w')∨(¬ okCo C∧o = rT (.agg zY.toArray)∧Below w.heap.size w w'):=
 changed_gen w C (rstC C) s _ h hn fun hok W hW=>open_rst W C s (h.below hW) hs hok hn
theorem implRestart_any (w:World) (C:Co) (s:Sl) (h:isHo w C.ho s) (hs:slSome s) (hn:C.ho.le 1048576) :
  Calls Tp 11 #[aG (coL C s).toArray] w fun o w'=>(okCo C∧toldC w (rstC C) o w')∨(¬ okCo C∧o = rT (.agg zY.toArray)∧Below w.heap.size w w'):=by
 have H0:Hid (dcS w C s (((w.alloc (.cells (coL C s).toArray 41))).alloc (.cells zY.toArray 41))):=dcS.new w C s
 have HC:Hid (∀ W,dcS w C s W→Calls Tp 37 #[aG (coL C s).toArray,bO true,.func (.func 38) #[] #[]] W fun o w'=>(okCo C∧toldC W (rstC C) o w')∨(¬ okCo C∧o = rT (.agg zY.toArray)∧Below W.heap.size W w')):=fun W hW=>changedRst W C s (h.below hW.b) hs hn
 have hmf:∀ (fn:Fn) (first cap:Array Value) (w:World),(Instr.makeFunc fn first cap).run Tp w = .ok (.func fn first cap) w:=fun _ _ _ _=>rfl
 clear h hn hs;go_enter Tryz.func11,Tryz.ntmps11
 go_wp2_with (first
  | (refine lq41 H0.out.p.load ?_))
 refine (HC.out _ H0.out).mono ?_
 rintro o w1 (⟨hok,s4,rfl,q1,q2,q3,q4,hb4⟩|⟨hok,rfl,hb4⟩)
 ·have H4:Hid (dcS w C s w1):=H0.out.below hb4
  have HQ:Hid (St (((w.alloc (.cells (coL C s).toArray 41))).alloc (.cells zY.toArray 41)).heap.size w1 (fun W=>isHo W (rstC C).ho s4.sl)∧whS (((w.alloc (.cells (coL C s).toArray 41))).alloc (.cells zY.toArray 41)).heap.size w1.heap.size w1 s4∧whD s4∧whE s4):=⟨q1,q2,q3,q4⟩
  have HOK:Hid (okCo C):=hok
  have HZ:Hid (w.heap.size≤(((w.alloc (.cells (coL C s).toArray 41))).alloc (.cells zY.toArray 41)).heap.size∧w.heap.size+1<(((w.alloc (.cells (coL C s).toArray 41))).alloc (.cells zY.toArray 41)).heap.size):=⟨H0.out.b.size,H0.out.r.lt⟩
  clear q1 q2 q3 q4 hb4 hok HC H0;go_wp2_with (first
   | (refine sq41 H4.out.r ?_;generalize hW8:World.setCells _ (w.heap.size+1) 0 _=w8;have HW8:Hid (_=w8):=hW8;clear hW8))
  have e8:=HW8.out
  have hF:blk w8 (w.heap.size+1) (coL (rstC C) s4.sl) 41:=by
   rw[← e8]
   have:=blk.put [] Z21 [] (coL (rstC C) s4.sl) (w:=w1) (b:=w.heap.size+1) (T:=41) (by simpa using H4.out.r) (by rw[cL];rfl)
   simpa using this
  have hL:=rq41 hF
  refine bC Tryz.results11 hL ?_
  have oth:∀ x,x≠w.heap.size+1→w8.heap[x]?=w1.heap[x]?:=fun x hx=>by rw[← e8];exact sO _ x hx _ _ _
  have hsz:w8.heap.size=w1.heap.size:=by rw[← e8];exact sZ ..
  have hp:=toldQ.put (w:=w) HZ.out.1 HZ.out.2 HQ.out.1 HQ.out.2.1 oth hsz
  exact Or.inl ⟨HOK.out,s4,rfl,hp.1,hp.2,HQ.out.2.2.1,HQ.out.2.2.2,by rw[← e8];exact sW (by omega) 0 _ H4.out.b⟩
 ·have H4:Hid (dcS w C s w1):=H0.out.below hb4
  have HOK:Hid (¬ okCo C):=hok
  clear hb4 hok HC H0;go_wp2_with (first
   | (refine sq41 H4.out.r ?_;generalize hW8:World.setCells _ (w.heap.size+1) 0 _=w8;have HW8:Hid (_=w8):=hW8;clear hW8))
  have e8:=HW8.out
  have hF:blk w8 (w.heap.size+1) zY 41:=by
   rw[← e8]
   have:=blk.put [] Z21 [] zY (w:=w1) (b:=w.heap.size+1) (T:=41) (by simpa using H4.out.r) rfl
   simpa using this
  have hL:=rq41 hF
  refine bC Tryz.results11 hL ?_
  exact Or.inr ⟨HOK.out,rfl,by rw[← e8];exact sW (by omega) 0 _ H4.out.b⟩
theorem changed_no (w:World) (C:Co) (s:Sl) (fv:Value):Calls Tp 37 #[aG (coL C s).toArray,bO false,fv] w fun o w'=>o = rT (.agg zY.toArray)∧Below w.heap.size w w':=by
 have H1:Hid (dcS w C s ((w.alloc (.cells (coL C s).toArray 41)).alloc (.cells zY.toArray 41))):=dcS.new w C s
 go_enter Tryz.func37,Tryz.ntmps37
 go_wp2_with (first
  | (refine sq41 H1.out.r ?_;generalize hW8:World.setCells _ (w.heap.size+1) 0 _=w8;have HW8:Hid (_=w8):=hW8;clear hW8))
 have e8:=HW8.out
 have hF:blk w8 (w.heap.size+1) zY 41:=by
  rw[← e8]
  have:=blk.put [] Z21 [] zY (w:=((w.alloc (.cells (coL C s).toArray 41)).alloc (.cells zY.toArray 41))) (b:=w.heap.size+1) (T:=41) (by simpa using H1.out.r) rfl
  simpa using this
 have hL:=rq41 hF
 refine bC Tryz.results37 hL ?_
 exact⟨rfl,by rw[← e8];exact sW (by omega) 0 _ H1.out.b⟩
theorem open_flt (w:World) (C:Co) (s:Sl) (h:isHo w C.ho s) (hs:slSome s) (hok:okCo C) (hm:C.ho.le 1048576) (Bx:Nat) (k:Int) (yb:w.cell? ⟨Bx,0,none⟩=some (I J k)) :
  Calls Tp 84 #[aG (coL C s).toArray] w fun o w'=>∃ P,o = rT (pT (some ⟨P,0,none⟩))∧Below w.heap.size w w'∧Calls Tp 85 #[pT (some ⟨P,0,none⟩),.func (.func 44) #[] #[pT (some ⟨Bx,0,none⟩)]] w' fun o w2=>o = rT (.tuple #[])∧Below w.heap.size w w2∧Calls Tp 86 #[pT (some ⟨P,0,none⟩)] w2 (toldC w2 (actC C (fltC C k))):=by
 refine (openCore_gen (R:=fun P w'=>∃ (X:World) (G:Lg) (hd:Nat→Hd),Below w.heap.size w X∧lh X G C.ho 0 0 hd G.n2 (tagsD Unit C.ho.bx G.n2) w'∧P=G.P) ?_ w C s ?_).mono ?_
 ·rintro P W W' ⟨X,G,hd,h1,h2,h3⟩ hb;exact⟨X,G,hd,h1,h2.below hb,h3⟩
 ·intro W hW;refine (open_lh W C.ho s (h.below hW) hs hok.h hm).mono ?_
  rintro o w' ⟨G,hd,rfl,h1,_⟩;exact⟨G.P,rfl,⟨W,G,hd,hW,h1,rfl⟩,h1.b⟩
 rintro o w' ⟨P,w5,rfl,rfl,⟨X,G,hd,h1,h2,rfl⟩,h3⟩;have hb5:Below w5.heap.size w5 (w5.alloc (.cells (mcL G.P C).toArray 125)):=(bW _ _).alloc (nR _) _
 have hmc:mc X w5.heap.size G C 0 0 hd G.n2 (tagsD Unit C.ho.bx G.n2) (w5.alloc (.cells (mcL G.P C).toArray 125)):=by
  have a1:=h2.p.lt
  have a2:=h2.m.lt
  have a3:=h2.hi
  have a4:=h2.x.hi
  have a5:=h2.b.size
  exact⟨blk.new w5 _ 125,h2.below hb5,⟨by omega,by omega,by omega,by omega,by omega,by omega,by omega⟩⟩
 refine⟨w5.heap.size,rfl,h3.trans (hb5.mono h3.size),?_⟩
 have hb6:=h3.trans (hb5.mono h3.size)
 refine (act_flt hmc Bx k ((hb6.cell (by exact World.block_lt_of_cell? w _ yb)).trans yb) hok.m.te hok.m.re hok.h.bx.wf).mono ?_
 rintro o w2 ⟨rfl,hs',D',h4⟩;refine⟨rfl,h1.trans (h4.h.b.mono h1.size),?_⟩
 exact mtold_any w2 w5.heap.size G.P (actC C (fltC C k)) h4.m (fun Y hY=>(h4.h.below hY).told)
end Go.Proofs.YtkfcfigbgmbaiaaGreat
