import Derived.Test.YtgfolecanghhhaaGreatK28
import Derived.StillTailTactics
import Derived.Deep.RegionHeld3
import Derived.Deep.DeepCutAuto
import Derived.Deep.RegionWith
namespace Go.Proofs.YtgfolecanghhhaaGreat
open Go.Proofs.Tryz
open Option renaming none->nn,some->sQ
set_option maxRecDepth 20000
open Go.RowKit
set_option linter.all false
set_option maxHeartbeats 16000000
section
variable {w0 W:World} {G:Lg} {H:Ho} {f1 f3 nm:Nat} {hs:Nat->Hd} {D:DataW Unit}
def lhU (G:Lg) (B:Nat):Prop:=G.P<B/\G.mb<B/\G.gf<B/\G.gb<B/\G.gr<B/\G.gq<B/\G.u.heap.size<=B
def lh.lts (h:lh w0 G H f1 f3 hs nm D W):lhU G W.heap.size:=⟨h.p.lt,h.m.lt,h.hi.1,h.x.hi,h.hi.2.1,h.hi.2.2,h.k.1⟩
def lh.put (h:lh w0 G H f1 f3 hs nm D W) {B x:Nat} (hB:lhU G B) (hx:B<=x) (o:Nat) (l:List Value):lh w0 G H f1 f3 hs nm D (W.setCells x o l):=by
 obtain⟨b1,b2,b3,b4,b5,b6,b7⟩:=hB;have hlo:=h.d.lo;have he:∀ q,q<B->(W.setCells x o l).heap[q]?=W.heap[q]?:=fun q hq=>sO _ q om _ _ _;have hb:Bl w0 (W.setCells x o l):=sW om o l h.b;have hz:(W.setCells x o l).heap.size=W.heap.size:=sZ ..;refine⟨h.p.kept (he _ b1),h.f.same (he _ b3),h.x.at0 (he _ b4) hb,h.r.keep (he _ b5),h.rz.up (he _ b5),h.q.keep (he _ b6),h.qz.up (he _ b6),?_,hb,by rw[hz];exact h.hi,h.d,h.bd,h.k.to (Nat.le_of_eq hz.symm) fun q hq _=>sO _ q (hne hq (Gy om)) _ _ _⟩;obtain⟨es,clock,q1,q2⟩:=h.m;exact⟨es,clock,(he _ b2).trans q1,q2⟩
def MN {a:Int} (hw:(Lit.int .i64 a).wf=true):keyOf Tryz.prog 3 (.int .i64 a)=sQ (.int .i64 a):=Maps.keyOf_int_mk underlying3 hw
def Mp:Maps.Keyed Tryz.prog 3:=Maps.int_keyed underlying3
def Js (h:lh w0 G H f1 f3 hs nm D W) (k:Nat) (hk:k<H.bx.length) (b:R8) (eb:H.bx[k]=b) (ao:Option Addr) (m c:Nat) (eh:hs k=(ao,m,c)) (hw:(Lit.int .i64 b.y).wf=true) :
  Calls Tryz.prog 235 #[.pointer (sQ ⟨G.P,0,nn⟩),.int .i64 (k:Int)] W fun o w'=>o = .returned (.agg #[.int .i64 b.x,.int .i64 b.y,.int .i64 b.z,.bool b.e,.int .u32 (b.i:Int),.bool b.r,.int .i64 b.d,.slice ao m c])/\lh w0 G (lD H k) f1 f3 (fun j=>if j=k then (nn,0,0) else hs j) nm (D.del (.int .i64 b.y)) w'/\(∀ q,q≠G.gb->q≠G.mb->q<W.heap.size->w'.heap[q]?=W.heap[q]?)/\W.heap.size<=w'.heap.size:=by
 have y5:=h.p.cell 5 _ rfl;have y6:=h.p.cell 6 _ rfl;have hr:=h.x.rng k hk;rw[eb,eh] at hr;have hln:=h.x.len;have hkn:k<G.n2:=om;have hcp:=h.bd.nk;have hm2:=h.bd.m2;have HU:Hid (lhU G W.heap.size):=h.lts;have HL:Hid (lh w0 G H f1 f3 hs nm D W):=h;have HKK:Hid (k<H.bx.length):=hk;have HW:Hid (keyOf Tryz.prog 3 (.int .i64 b.y)=sQ (.int .i64 b.y)):=MN hw;clear h hk eb eh hw hln;obtain⟨bX,bY,bZ,bE,bI,bR,bD,bL⟩:=b;simp only[] at HW;have HRG:Hid (W.rangeAt G.gb (k*8) [.int .i64 bX,.int .i64 bY,.int .i64 bZ,.bool bE,.int .u32 (bI:Int),.bool bR,.int .i64 bD,.slice ao m c]):=hr;clear hr;have HBA:Hid (Bl W (W.alloc (.cells [.int .i64 0,.int .i64 0,.int .i64 0,.bool false,.int .u32 0,.bool false,.int .i64 0,.slice nn 0 0].toArray 116))):=Zw;have HLA:Hid (lh w0 G H f1 f3 hs nm D (W.alloc (.cells [.int .i64 0,.int .i64 0,.int .i64 0,.bool false,.int .u32 0,.bool false,.int .i64 0,.slice nn 0 0].toArray 116))):=HL.o.below HBA.o;have HRA:Hid (blk (W.alloc (.cells [.int .i64 0,.int .i64 0,.int .i64 0,.bool false,.int .u32 0,.bool false,.int .i64 0,.slice nn 0 0].toArray 116)) W.heap.size [.int .i64 0,.int .i64 0,.int .i64 0,.bool false,.int .u32 0,.bool false,.int .i64 0,.slice nn 0 0] 116):=blk.new W _ 116;have y5:(W.alloc (.cells [.int .i64 0,.int .i64 0,.int .i64 0,.bool false,.int .u32 0,.bool false,.int .i64 0,.slice nn 0 0].toArray 116)).cell? ⟨G.P,5,nn⟩=sQ (.slice (sQ ⟨G.gb,0,nn⟩) G.n2 G.kb):=HLA.o.p.cell 5 _ rfl;have HRG:Hid ((W.alloc (.cells [.int .i64 0,.int .i64 0,.int .i64 0,.bool false,.int .u32 0,.bool false,.int .i64 0,.slice nn 0 0].toArray 116)).rangeAt G.gb (k*8) [.int .i64 bX,.int .i64 bY,.int .i64 bZ,.bool bE,.int .u32 (bI:Int),.bool bR,.int .i64 bD,.slice ao m c]):=lW HRG.o HBA.o HU.o.2.2.2.1;have HBB:Hid (Below (W.alloc (.cells [.int .i64 0,.int .i64 0,.int .i64 0,.bool false,.int .u32 0,.bool false,.int .i64 0,.slice nn 0 0].toArray 116)).heap.size (W.alloc (.cells [.int .i64 0,.int .i64 0,.int .i64 0,.bool false,.int .u32 0,.bool false,.int .i64 0,.slice nn 0 0].toArray 116)) ((W.alloc (.cells [.int .i64 0,.int .i64 0,.int .i64 0,.bool false,.int .u32 0,.bool false,.int .i64 0,.slice nn 0 0].toArray 116)).alloc (.cells [.int .i64 bX,.int .i64 bY,.int .i64 bZ,.bool bE,.int .u32 (bI:Int),.bool bR,.int .i64 bD,.slice ao m c].toArray 116))):=Zw;have HRB:Hid (blk ((W.alloc (.cells [.int .i64 0,.int .i64 0,.int .i64 0,.bool false,.int .u32 0,.bool false,.int .i64 0,.slice nn 0 0].toArray 116)).alloc (.cells [.int .i64 bX,.int .i64 bY,.int .i64 bZ,.bool bE,.int .u32 (bI:Int),.bool bR,.int .i64 bD,.slice ao m c].toArray 116)) (W.heap.size+1) [.int .i64 bX,.int .i64 bY,.int .i64 bZ,.bool bE,.int .u32 (bI:Int),.bool bR,.int .i64 bD,.slice ao m c] 116):=by
  have:=blk.new (W.alloc (.cells [.int .i64 0,.int .i64 0,.int .i64 0,.bool false,.int .u32 0,.bool false,.int .i64 0,.slice nn 0 0].toArray 116)) [.int .i64 bX,.int .i64 bY,.int .i64 bZ,.bool bE,.int .u32 (bI:Int),.bool bR,.int .i64 bD,.slice ao m c] 116;have e:(W.alloc (.cells [.int .i64 0,.int .i64 0,.int .i64 0,.bool false,.int .u32 0,.bool false,.int .i64 0,.slice nn 0 0].toArray 116)).heap.size=W.heap.size+1:=pQ;rw[e] at this;exact this
 have HR2:Hid (blk ((W.alloc (.cells [.int .i64 0,.int .i64 0,.int .i64 0,.bool false,.int .u32 0,.bool false,.int .i64 0,.slice nn 0 0].toArray 116)).alloc (.cells [.int .i64 bX,.int .i64 bY,.int .i64 bZ,.bool bE,.int .u32 (bI:Int),.bool bR,.int .i64 bD,.slice ao m c].toArray 116)) W.heap.size [.int .i64 0,.int .i64 0,.int .i64 0,.bool false,.int .u32 0,.bool false,.int .i64 0,.slice nn 0 0] 116):=HRA.o.below HBB.o;have HL2:Hid (lh w0 G H f1 f3 hs nm D ((W.alloc (.cells [.int .i64 0,.int .i64 0,.int .i64 0,.bool false,.int .u32 0,.bool false,.int .i64 0,.slice nn 0 0].toArray 116)).alloc (.cells [.int .i64 bX,.int .i64 bY,.int .i64 bZ,.bool bE,.int .u32 (bI:Int),.bool bR,.int .i64 bD,.slice ao m c].toArray 116))):=HLA.o.below HBB.o;have HB2:Hid (Bl W ((W.alloc (.cells [.int .i64 0,.int .i64 0,.int .i64 0,.bool false,.int .u32 0,.bool false,.int .i64 0,.slice nn 0 0].toArray 116)).alloc (.cells [.int .i64 bX,.int .i64 bY,.int .i64 bZ,.bool bE,.int .u32 (bI:Int),.bool bR,.int .i64 bD,.slice ao m c].toArray 116))):=HBA.o.trans (HBB.o.mono HBA.o.size);clear y6;go_enter func235,ntmps235
 go_wp2_with (refine Qz (P:=Tryz.prog) rfl 116 _ rfl G.gb (k*8) rfl [.int .i64 bX,.int .i64 bY,.int .i64 bZ,.bool bE,.int .u32 (bI:Int),.bool bR,.int .i64 bD,.slice ao m c] _ HRG.o underlying116 rfl fG ?_)
 clear HRG HBB HLA HRA HBA;clear y5;refine wp_region_still_tail 6 kr kr ?_;change wpStill Tryz.prog _ (World.drew ((W.alloc (.cells [.int .i64 0,.int .i64 0,.int .i64 0,.bool false,.int .u32 0,.bool false,.int .i64 0,.slice nn 0 0].toArray 116)).alloc (.cells [.int .i64 bX,.int .i64 bY,.int .i64 bZ,.bool bE,.int .u32 (bI:Int),.bool bR,.int .i64 bD,.slice ao m c].toArray 116))) (fun a'=>wpList Tryz.prog _ _ _ a' (World.drew ((W.alloc (.cells [.int .i64 0,.int .i64 0,.int .i64 0,.bool false,.int .u32 0,.bool false,.int .i64 0,.slice nn 0 0].toArray 116)).alloc (.cells [.int .i64 bX,.int .i64 bY,.int .i64 bZ,.bool bE,.int .u32 (bI:Int),.bool bR,.int .i64 bD,.slice ao m c].toArray 116)))) _ _;have HB2:Hid (Bl W (World.drew ((W.alloc (.cells [.int .i64 0,.int .i64 0,.int .i64 0,.bool false,.int .u32 0,.bool false,.int .i64 0,.slice nn 0 0].toArray 116)).alloc (.cells [.int .i64 bX,.int .i64 bY,.int .i64 bZ,.bool bE,.int .u32 (bI:Int),.bool bR,.int .i64 bD,.slice ao m c].toArray 116)))):=HB2.o.drew;have HR2:Hid (blk (World.drew ((W.alloc (.cells [.int .i64 0,.int .i64 0,.int .i64 0,.bool false,.int .u32 0,.bool false,.int .i64 0,.slice nn 0 0].toArray 116)).alloc (.cells [.int .i64 bX,.int .i64 bY,.int .i64 bZ,.bool bE,.int .u32 (bI:Int),.bool bR,.int .i64 bD,.slice ao m c].toArray 116))) W.heap.size [.int .i64 0,.int .i64 0,.int .i64 0,.bool false,.int .u32 0,.bool false,.int .i64 0,.slice nn 0 0] 116):=HR2.o.below (bW _ _).drew;have HRB:Hid (blk (World.drew ((W.alloc (.cells [.int .i64 0,.int .i64 0,.int .i64 0,.bool false,.int .u32 0,.bool false,.int .i64 0,.slice nn 0 0].toArray 116)).alloc (.cells [.int .i64 bX,.int .i64 bY,.int .i64 bZ,.bool bE,.int .u32 (bI:Int),.bool bR,.int .i64 bD,.slice ao m c].toArray 116))) (W.heap.size+1) [.int .i64 bX,.int .i64 bY,.int .i64 bZ,.bool bE,.int .u32 (bI:Int),.bool bR,.int .i64 bD,.slice ao m c] 116):=HRB.o.below (bW _ _).drew;have HL2:Hid (lh w0 G H f1 f3 hs nm D (World.drew ((W.alloc (.cells [.int .i64 0,.int .i64 0,.int .i64 0,.bool false,.int .u32 0,.bool false,.int .i64 0,.slice nn 0 0].toArray 116)).alloc (.cells [.int .i64 bX,.int .i64 bY,.int .i64 bZ,.bool bE,.int .u32 (bI:Int),.bool bR,.int .i64 bD,.slice ao m c].toArray 116)))):=HL2.o.below (bW _ _).drew;generalize World.drew ((W.alloc (.cells [.int .i64 0,.int .i64 0,.int .i64 0,.bool false,.int .u32 0,.bool false,.int .i64 0,.slice nn 0 0].toArray 116)).alloc (.cells [.int .i64 bX,.int .i64 bY,.int .i64 bZ,.bool bE,.int .u32 (bI:Int),.bool bR,.int .i64 bD,.slice ao m c].toArray 116))=w2 at *;have y6:=HL2.o.p.cell 6 _ rfl;have y1:=HRB.o.cell 1 _ rfl;simp only[List.take_succ_cons,List.take_zero,List.drop_succ_cons,List.drop_zero];repeat still_step
 refine wpStill_nil ?_;refine wpList_delete_own _ rfl _ _ 199 3 rfl 3 Mp underlying199 _ G.mb nm D rfl HL2.o.m _ _ rfl HW.o ?_;intro w3 hm3 ht3;have hg3:=ht3.grown;have HL3:Hid (lh w0 G H f1 f3 hs nm (D.del (.int .i64 bY)) w3):=HL2.o.tags hg3 hm3;have HO3:Hid (∀ q,q≠G.mb->q<W.heap.size->w3.heap[q]?=W.heap[q]?):=fun q h1 h2=>(hg3.block q (nL h2 HB2.o.size) (by simpa using h1)).trans (HB2.o.block q h2);have HR3:Hid (blk w3 W.heap.size [.int .i64 0,.int .i64 0,.int .i64 0,.bool false,.int .u32 0,.bool false,.int .i64 0,.slice nn 0 0] 116):=HR2.o.kept (hg3.block _ HR2.o.lt (by have:=HU.o.2.1;simp;omega));have HB3:Hid (blk w3 (W.heap.size+1) [.int .i64 bX,.int .i64 bY,.int .i64 bZ,.bool bE,.int .u32 (bI:Int),.bool bR,.int .i64 bD,.slice ao m c] 116):=HRB.o.kept (hg3.block _ HRB.o.lt (by have:=HU.o.2.1;simp;omega));have HZ3:Hid (W.heap.size<=w3.heap.size):=nT HB2.o.size hg3.size;have y5:=HL3.o.p.cell 5 _ rfl
 have HT3:Hid (w3.there G.gb (k*8) 8):=fun j hj=>by
  obtain⟨⟨v,hv⟩,hf⟩:=HL3.o.x.row (k*8+j) om;exact⟨by rw[hv];rfl,hf⟩
 clear hm3 ht3 hg3 HB2 HR2 HRB HL2 y6 y1 HW;have HO4:Hid (∀ w4,World.setCells w3 G.gb (k*8) [.int .i64 0,.int .i64 0,.int .i64 0,.bool false,.int .u32 0,.bool false,.int .i64 0,.slice nn 0 0]=w4->lh w0 G (lD H k) f1 f3 (fun j=>if j=k then (nn,0,0) else hs j) nm (D.del (.int .i64 bY)) w4/\blk w4 W.heap.size [.int .i64 0,.int .i64 0,.int .i64 0,.bool false,.int .u32 0,.bool false,.int .i64 0,.slice nn 0 0] 116/\blk w4 (W.heap.size+1) [.int .i64 bX,.int .i64 bY,.int .i64 bZ,.bool bE,.int .u32 (bI:Int),.bool bR,.int .i64 bD,.slice ao m c] 116/\(∀ q,q≠G.gb->w4.heap[q]?=w3.heap[q]?)/\w4.heap.size=w3.heap.size):=fun w4 e4=>by
  have oth:∀ q,q≠G.gb->w4.heap[q]?=w3.heap[q]?:=fun q hq=>by rw[<- e4];exact sO _ q hq _ _ _
  have hu:=HU.o.2.2.2.1;refine⟨by rw[<- e4];exact HL3.o.free k HKK.o,HR3.o.kept (oth _ om),HB3.o.kept (oth _ om),oth,by rw[<- e4];exact sZ ..⟩
 go_wp2_with (first
  | (refine QD (P:=Tryz.prog) rfl 116 _ _ rfl G.gb (k*8) [.int .i64 0,.int .i64 0,.int .i64 0,.bool false,.int .u32 0,.bool false,.int .i64 0,.slice nn 0 0].toArray rfl rfl HT3.o fG (sT _ _ _ _ _ _ _ _ _ _) ?_;generalize hW4:World.setCells w3 G.gb (k*8) _=w4;have HW4:Hid (lh w0 G (lD H k) f1 f3 (fun j=>if j=k then (nn,0,0) else hs j) nm (D.del (.int .i64 bY)) w4/\blk w4 W.heap.size [.int .i64 0,.int .i64 0,.int .i64 0,.bool false,.int .u32 0,.bool false,.int .i64 0,.slice nn 0 0] 116/\blk w4 (W.heap.size+1) [.int .i64 bX,.int .i64 bY,.int .i64 bZ,.bool bE,.int .u32 (bI:Int),.bool bR,.int .i64 bD,.slice ao m c] 116/\(∀ q,q≠G.gb->w4.heap[q]?=w3.heap[q]?)/\w4.heap.size=w3.heap.size):=HO4.o _ hW4;clear hW4)
  | (refine Qz (P:=Tryz.prog) rfl 116 _ rfl (W.heap.size+1) 0 rfl [.int .i64 bX,.int .i64 bY,.int .i64 bZ,.bool bE,.int .u32 (bI:Int),.bool bR,.int .i64 bD,.slice ao m c] _ HW4.o.2.2.1.load underlying116 rfl fG ?_)
  | (refine QD (P:=Tryz.prog) rfl 116 _ _ rfl W.heap.size 0 [.int .i64 bX,.int .i64 bY,.int .i64 bZ,.bool bE,.int .u32 (bI:Int),.bool bR,.int .i64 bD,.slice ao m c].toArray rfl rfl (HW4.o.2.1.there 0 8 pQ) fG (sT _ _ _ _ _ _ _ _ _ _) ?_;generalize hW9:World.setCells w4 W.heap.size 0 _=w9;have HW9:Hid (_=w9):=hW9;clear hW9))
 have e9:=HW9.o;have hF:blk w9 W.heap.size [.int .i64 bX,.int .i64 bY,.int .i64 bZ,.bool bE,.int .u32 (bI:Int),.bool bR,.int .i64 bD,.slice ao m c] 116:=by
  rw[<- e9];have:=blk.put [] [.int .i64 0,.int .i64 0,.int .i64 0,.bool false,.int .u32 0,.bool false,.int .i64 0,.slice nn 0 0] [] [.int .i64 bX,.int .i64 bY,.int .i64 bZ,.bool bE,.int .u32 (bI:Int),.bool bR,.int .i64 bD,.slice ao m c] (w:=w4) (b:=W.heap.size) (T:=116) (by simpa using HW4.o.2.1) rfl;simpa using this
 have hL:=QI (P:=Tryz.prog) w9 W.heap.size 0 116 _ _ hF.load underlying116 rfl fG;refine bC results235 hL ?_;refine⟨rfl,?_,fun q h1 h2 h3=>?_,?_⟩
 .rw[<- e9];exact HW4.o.1.put HU.o (nR _) 0 _
 .rw[<- e9,sO _ q om _ _ _,HW4.o.2.2.2.1 q h1];exact HO3.o q h2 h3
 .rw[<- e9,sZ,HW4.o.2.2.2.2];exact HZ3.o
end
open Go.Value renaming int->I,slice->sL,bool->bO,pointer->pT,agg->aG
open Go.IntKind renaming i64->J
open Go.Ending renaming returned->rT
open Go.Proofs.Tryz renaming prog->Tp
section
variable {H:Ho} {k:Nat} {b:R8}
def LJ (x y z:Int) (e:Bool) (i:Nat) (r:Bool) (d:Int) (ao:Option Addr) (m c:Nat):∀ w:World,(Instr.field 116 (aG #[I J x,I J y,I J z,bO e,I .u32 (i:Int),bO r,I J d,sL ao m c]) 1).run Tp w = .ok (I J y) w:=fun _=>by kernel_rfl
def Jz (hk:k<H.bx.length) (ek:wI H.bx=k) (eb:H.bx[k]=b):Cz H true=pH (lD H k) ⟨1,b.y,0,b.e,b.i,b.r,b.d,b.l⟩:=by
 subst ek;subst eb;unfold Cz;rw[dif_pos hk,qc rfl]
def JA (hk:k<H.bx.length) (ek:wI H.bx=k) (eb:H.bx[k]=b) (hx:b.x=3):Cz H false=pH (lD H k) (ev3 6 b.y 0):=by
 subst ek;subst eb;unfold Cz;rw[dif_pos hk,qa pQ,qc hx]
def Jy (hk:k<H.bx.length) (ek:wI H.bx=k) (eb:H.bx[k]=b) (hx:b.x=2):Cz H false=Dl H k 1:=by
 subst ek;subst eb;unfold Cz;rw[dif_pos hk,qa pQ,qa om]
def dw.wf {st:Int} {bx:List R8} (h:dw st bx):∀ j (hj:j<bx.length),(Lit.int .i64 bx[j].y).wf=true:=fun j hj=>by
 have:=h.1 j hj;unfold cZ at this;split at this
 .rw[this.1];exact jb om om
 .exact jb om om
end
def tS (C:Co) (b:Int):Co:=if stZ C.te C.re=b then C else { C with ho:=pH C.ho ⟨10,stZ C.te C.re,0,false,0,false,0,[]⟩ }
def KJ {w0:World} {M:Nat} {G:Lg} {C:Co} {f1 f3:Nat} {hs:Nat->Hd} {nm:Nat} {D:DataW Unit} {W:World} (h:mc w0 M G C f1 f3 hs nm D W) (b:Int):Calls Tp 294 #[pT (some ⟨M,0,none⟩),I J b] W fun o w'=>o = rT (.tuple #[])/\mc w0 M G (tS C b) f1 f3 hs nm D w':=by
 have HS:Hid (Calls Tp 216 #[pT (some ⟨M,0,none⟩)] W fun o w'=>o = rT (I J (stZ C.te C.re))/\mc w0 M G C f1 f3 hs nm D w'/\Bl W w'):=It h;have HP:Hid (∀ X,mc w0 M G C f1 f3 hs nm D X->Calls Tp 213 #[pT (some ⟨G.P,0,none⟩),aG #[I J 10,I J (stZ C.te C.re),I J 0,bO false,I .u32 0,bO false,I J 0,sL none 0 0]] X fun o w'=>o = rT (.tuple #[])/\mc w0 M G { C with ho:=pH C.ho ⟨10,stZ C.te C.re,0,false,0,false,0,[]⟩ } f1 f3 hs nm D w'):=fun X hX=>hX.post 10 (stZ C.te C.re);have HT:Hid (tS C b=if stZ C.te C.re=b then C else { C with ho:=pH C.ho ⟨10,stZ C.te C.re,0,false,0,false,0,[]⟩ }):=rfl;clear h;generalize stZ C.te C.re=z at *;by_cases e:z=b
 .subst e;have HT2:Hid (tS C z=C):=by have:=HT.o;rw[qc rfl] at this;exact this
  go_enter func294,ntmps294;go_wp2_with fail;refine HS.o.mono ?_;rintro o w1 ⟨rfl,h1,hb⟩;have H1:Hid (mc w0 M G C f1 f3 hs nm D w1):=h1;clear h1 hb HS;go_wp2_with fail;refine bN ?_
  exact⟨rfl,by rw[HT2.o];exact H1.o⟩
 .have d1:(z == b)=false:=by simpa using e
  have d2:(z != b)=true:=by simpa using e
  have HT2:Hid (tS C b = { C with ho:=pH C.ho ⟨10,z,0,false,0,false,0,[]⟩ }):=by have:=HT.o;rw[qa e] at this;exact this
  go_enter func294,ntmps294;go_wp2_with fail;refine HS.o.mono ?_;rintro o w1 ⟨rfl,h1,hb⟩;have H1:Hid (mc w0 M G C f1 f3 hs nm D w1):=h1;have y0:=h1.m.cell 0 (pT (some ⟨G.P,0,none⟩)) rfl;clear h1 hb HS;go_wp2_with fail;refine (HP.o _ H1.o).mono ?_;rintro o w2 ⟨rfl,h2⟩;have H2:Hid (mc w0 M G { C with ho:=pH C.ho ⟨10,z,0,false,0,false,0,[]⟩ } f1 f3 hs nm D w2):=h2;clear h2 HP;go_wp2_with fail;refine bN ?_
  exact⟨rfl,by rw[HT2.o];exact H2.o⟩
def Io (w:World) (b:Bool):Calls Tp 214 #[bO b] w fun o w'=>o = rT (I .u64 (if b then 1 else 0))/\w=w':=by
 cases b
 .go_enter func214,ntmps214;go_wp2;go_ret;exact⟨rfl,rfl⟩
 .go_enter func214,ntmps214;go_wp2;go_ret;exact⟨rfl,rfl⟩
section
variable {w0 W:World} {M f1 f3 nm:Nat} {G:Lg} {C:Co} {hs:Nat->Hd} {D:DataW Unit}
def wR (h:mc w0 M G C f1 f3 hs nm D W):Calls Tp 218 #[pT (sQ ⟨M,0,nn⟩)] W fun o w'=>o = rT (.tuple #[])/\mc w0 M G { C with te:=256 } f1 f3 hs nm D w':=by
 have H1:Hid (mc w0 M G { C with te:=256 } f1 f3 hs nm D (W.setCell ⟨M,1,nn⟩ (I J 256))):=h.set 1 (I J 256) rfl rfl;have y1:=h.m.cell 1 (I J C.te) rfl;have f1:=h.m.free 1;clear h;go_enter func218,ntmps218;go_wp2_with fail;refine bN ?_
 exact⟨rfl,H1.o⟩
def oX (C:Co) (tx:Bool) (n:Int):Co:=if tx then { C with te:=if 256<=C.te+n then 256 else C.te+n } else { C with re:=min (C.re+n) 255 }
def Ck (h:mc w0 M G C f1 f3 hs nm D W) (tx:Bool) (n:Int) (hn:0<=n/\n<=8) (ht:0<=C.te/\C.te<=256) (hr:0<=C.re/\C.re<=255):Calls Tp 185 #[pT (sQ ⟨M,0,nn⟩),bO tx,I J n] W fun o w'=>o = rT (.tuple #[])/\mc w0 M G (oX C tx n) f1 f3 hs nm D w':=by
 have y1:=h.m.cell 1 (I J C.te) rfl;have y2:=h.m.cell 2 (I J C.re) rfl;have g1:=h.m.free 1;have g2:=h.m.free 2;cases tx
 .have HA:Hid (oX C false n = { C with re:=min (C.re+n) 255 }):=rfl;have H1:Hid (mc w0 M G { C with re:=min (C.re+n) 255 } f1 f3 hs nm D (W.setCell ⟨M,2,nn⟩ (I J (min (C.re+n) 255)))):=h.set 2 (I J (min (C.re+n) 255)) rfl rfl;have hw:IntKind.i64.wrap (C.re+n)=C.re+n:=by rw[QR];omega
  generalize C.re=re at *;clear h ht hr hn;go_enter func185,ntmps185;go_wp2_with fail;refine bN ?_
  exact⟨rfl,by rw[HA.o];exact H1.o⟩
 .have h1:mc w0 M G { C with te:=C.te+n } f1 f3 hs nm D (W.setCell ⟨M,1,nn⟩ (I J (C.te+n))):=h.set 1 (I J (C.te+n)) rfl rfl;have hw:IntKind.i64.wrap (C.te+n)=C.te+n:=by rw[QR];omega
  by_cases hb:256<=C.te+n
  .have HA:Hid (oX C true n = { C with te:=256 }):=by show oX C true n=_;unfold oX;rw[qc rfl,qc hb]
   have HG:Hid (Calls Tp 218 #[pT (sQ ⟨M,0,nn⟩)] (W.setCell ⟨M,1,nn⟩ (I J (C.te+n))) fun o w'=>o = rT (.tuple #[])/\mc w0 M G { C with te:=256 } f1 f3 hs nm D w'):=wR (C:={ C with te:=C.te+n }) h1;have db:decide (256<=C.te+n)=true:=by simpa using hb
   clear h ht hr hn h1;generalize C.te=te at *;go_enter func185,ntmps185;go_wp2_with fail;refine HG.o.mono ?_;rintro o w2 ⟨rfl,h2⟩;have H2:Hid (mc w0 M G { C with te:=256 } f1 f3 hs nm D w2):=h2;clear h2;go_wp2_with fail;refine bN ?_
   exact⟨rfl,by rw[HA.o];exact H2.o⟩
  .have HA:Hid (oX C true n = { C with te:=C.te+n }):=by show oX C true n=_;unfold oX;rw[qc rfl,qa hb]
   have H1:Hid (mc w0 M G { C with te:=C.te+n } f1 f3 hs nm D (W.setCell ⟨M,1,nn⟩ (I J (C.te+n)))):=h1;have db:decide (256<=C.te+n)=false:=by simpa using hb
   clear h ht hr hn h1;generalize C.te=te at *;go_enter func185,ntmps185;go_wp2_with fail;refine bN ?_
   exact⟨rfl,by rw[HA.o];exact H1.o⟩
def fwZ (tx ow:Bool) (p k:Int):Int:=if tx && (ow || k == 6) then 0 else if tx || p == 2 then 8 else 1
def Hh (h:mc w0 M G C f1 f3 hs nm D W) (k:Int):Calls Tp 217 #[pT (sQ ⟨M,0,nn⟩),I J k] W fun o w'=>o = rT (I J (fwZ C.tx C.ow C.p k))/\W=w':=by
 have y3:=h.m.cell 3 (I J C.p) rfl;have y8:=h.m.cell 8 (bO C.ow) rfl;have y9:=h.m.cell 9 (bO C.tx) rfl;clear h;unfold fwZ;generalize C.tx=tx at *;generalize C.ow=ow at *;generalize C.p=p at *;obtain⟨q6,e6⟩ : ∃ q,(k == 6)=q:=⟨_,rfl⟩
 obtain⟨q2,e2⟩ : ∃ q,(p == 2)=q:=⟨_,rfl⟩
 rw[e6,e2];cases tx <;> cases ow <;> cases q6 <;> cases q2;all_goals
  go_enter func217,ntmps217;go_wp2_with fail;go_ret;exact⟨rfl,rfl⟩
end
open Go.IntKind renaming i64->J,u32->Zk
section
variable {w0 W:World} {G:Lg} {f1 f3 nm M:Nat} {hs:Nat->Hd} {D:DataW Unit} {C:Co}
def Jx {H:Ho} (h:lh w0 G H f1 f3 hs nm D W) (sent:Bool) (hwf:∀ j (hj:j<H.bx.length),(Lit.int .i64 H.bx[j].y).wf=true) :
  Calls Tp 215 #[pT (sQ ⟨G.P,0,nn⟩),bO sent] W fun o w'=>o = rT (.tuple #[])/\(∃ hs' D',lh w0 G (Cz H sent) f1 f3 hs' nm D' w')/\(∀ q,q≠G.P->q≠G.gq->q≠G.gb->q≠G.mb->q<W.heap.size->w'.heap[q]?=W.heap[q]?):=by
 have HOW:Hid (Calls Tp 153 #[pT (sQ ⟨G.P,0,nn⟩)] W fun o w'=>∃ z:Int,o = rT (I J z)/\bsy H.bx z/\Bl W w'):=sU W G.P _ G.n2 G.kb H.bx (h.p.cell 5 _ rfl) (h.x.is h.bd.nk) (by have:=h.bd.m2;omega);have HL:Hid (lh w0 G H f1 f3 hs nm D W):=h;have HWF:Hid (∀ j (hj:j<H.bx.length),(Lit.int .i64 H.bx[j].y).wf=true):=hwf;clear h hwf;go_enter func215,ntmps215;go_wp2_with fail;refine HOW.o.mono ?_;rintro o w5 ⟨z,rfl,hz,hb5⟩;have HL5:Hid (lh w0 G H f1 f3 hs nm D w5):=HL.o.below hb5;have HF5:Hid (Bl W w5):=hb5;have hR:=hz.ix;clear HOW HL hz hb5;rcases hR with⟨rfl,hno⟩|⟨rfl,hk⟩
 .have HT:Hid (Cz H sent=H):=GK hno;go_wp2_with fail;refine bN ?_
  exact⟨rfl,⟨hs,D,by rw[HT.o];exact HL5.o⟩,fun q _ _ _ _ h=>HF5.o.block q h⟩
 .have hon:=GS hk;generalize ek:wI H.bx=k at *;have HEK:Hid (wI H.bx=k):=ek;clear ek;obtain⟨b,eb⟩ : ∃ b,H.bx[k]=b:=⟨_,rfl⟩
  obtain⟨ao,m,c,eh⟩ : ∃ ao m c,hs k=(ao,m,c):=⟨_,_,_,rfl⟩
  have HV:Hid (Calls Tp 235 #[pT (sQ ⟨G.P,0,nn⟩),I J (k:Int)] w5 fun o w'=>o = rT (aG #[I J b.x,I J b.y,I J b.z,bO b.e,I Zk (b.i:Int),bO b.r,I J b.d,sL ao m c])/\lh w0 G (lD H k) f1 f3 (fun j=>if j=k then (nn,0,0) else hs j) nm (D.del (.int .i64 b.y)) w'/\(∀ q,q≠G.gb->q≠G.mb->q<w5.heap.size->w'.heap[q]?=w5.heap[q]?)/\w5.heap.size<=w'.heap.size):=Js HL5.o k hk b eb ao m c eh (by rw[<- eb];exact HWF.o k hk);have HBY:Hid (iB G.u ao m c b.l/\b.l.length<=1048576):=by
   have h1:=HL5.o.x.old k hk (nZ _);have h2:=HL5.o.x.sm k hk;rw[eb,eh] at h1;rw[eb] at h2;exact⟨HL5.o.d.wu _ _ _ _ h1,h2⟩
  have HY0:Hid (w5.cell? ⟨G.gb,k*8,nn⟩=sQ (I J b.x)):=by
   have:=HL5.o.x.rng k hk 0 _ rfl;rw[eb] at this;exact this
  have hf0:w5.frozen? ⟨G.gb,k*8,nn⟩=false:=(HL5.o.x.row (k*8) (by have:=HL5.o.x.len;omega)).2;have y5:=HL5.o.p.cell 5 _ rfl;have hkn:k<G.n2:=by have:=HL5.o.x.len;omega
  have hcp:=HL5.o.bd.nk;have hm2:=HL5.o.bd.m2;have HEB:Hid (∃ hk:k<H.bx.length,H.bx[k]=b):=⟨hk,eb⟩
  have HKK:Hid (k<H.bx.length):=hk;rw[eb] at hon;clear eb eh;cases sent
  .rcases hon with e0|e0
   .have HT:Hid (Cz H false=Dl H k 1):=Jy HKK.o HEK.o HEB.o.2 e0;have y0:=HY0.o;rw[e0] at y0;go_wp2_with fail;refine bN ?_
    exact⟨rfl,⟨hs,D,by rw[HT.o];exact HL5.o.state k HKK.o 1⟩,fun q _ _ h3 _ h5=>(QA w5 ⟨G.gb,k*8,nn⟩ q _ h3).trans (HF5.o.block q h5)⟩
   .have HT:Hid (Cz H false=pH (lD H k) (ev3 6 b.y 0)):=JA HKK.o HEK.o HEB.o.2 e0;have y0:=HY0.o;rw[e0] at y0;go_wp2_with fail;refine HV.o.mono ?_;rintro o w6 ⟨rfl,hl6,hk6,hz6⟩;have HF6:Hid ((∀ q,q≠G.gb->q≠G.mb->q<w5.heap.size->w6.heap[q]?=w5.heap[q]?)/\w5.heap.size<=w6.heap.size):=⟨hk6,hz6⟩
    clear hk6 hz6;have HP:Hid (Calls Tp 213 #[pT (sQ ⟨G.P,0,nn⟩),aG #[I J 6,I J b.y,I J 0,bO false,I Zk 0,bO false,I J 0,sL nn 0 0]] w6 fun o w'=>o = rT (.tuple #[])/\lh w0 G (pH (lD H k) (ev3 6 b.y 0)) f1 f3 (fun j=>if j=k then (nn,0,0) else hs j) nm (D.del (.int .i64 b.y)) w'/\(∀ q,q≠G.P->q≠G.gq->q<w6.heap.size->w'.heap[q]?=w6.heap[q]?)/\w6.heap.size<=w'.heap.size):=hl6.post (ev3 6 b.y 0) nn 0 0 (yM _) (nZ _);clear hl6 HV;have hfd:=LJ 3 b.y b.z b.e b.i b.r b.d ao m c;go_wp2_with fail;refine HP.o.mono ?_;rintro o w7 ⟨rfl,hl7,hk7,_⟩;have HF7:Hid (∀ q,q≠G.P->q≠G.gq->q<w6.heap.size->w7.heap[q]?=w6.heap[q]?):=hk7;clear hk7;have HL7:Hid (lh w0 G (pH (lD H k) (ev3 6 b.y 0)) f1 f3 (fun j=>if j=k then (nn,0,0) else hs j) nm (D.del (.int .i64 b.y)) w7):=hl7;clear hl7 HP;go_wp2_with fail;refine bN ?_
    exact⟨rfl,⟨_,_,by rw[HT.o];exact HL7.o⟩,fun q a1 a2 a3 a4 a5=>(HF7.o q a1 a2 (by have:=HF6.o.2;have:=HF5.o.size;omega)).trans ((HF6.o.1 q a3 a4 (by have:=HF5.o.size;omega)).trans (HF5.o.block q a5))⟩
  .have HT:Hid (Cz H true=pH (lD H k) ⟨1,b.y,0,b.e,b.i,b.r,b.d,b.l⟩):=Jz HKK.o HEK.o HEB.o.2;obtain⟨bX,bY,bZ,bE,bI,bR,bD,bL⟩:=b;go_wp2_with fail;refine HV.o.mono ?_;rintro o w6 ⟨rfl,hl6,hk6,hz6⟩;have HF6:Hid ((∀ q,q≠G.gb->q≠G.mb->q<w5.heap.size->w6.heap[q]?=w5.heap[q]?)/\w5.heap.size<=w6.heap.size):=⟨hk6,hz6⟩
   clear hk6 hz6;have hbA:Bl w6 (w6.alloc (.cells [I J bX,I J bY,I J bZ,bO bE,I Zk (bI:Int),bO bR,I J bD,sL ao m c].toArray 116)):=Zw;have HP:Hid (Calls Tp 213 #[pT (sQ ⟨G.P,0,nn⟩),aG #[I J 1,I J bY,I J 0,bO bE,I Zk (bI:Int),bO bR,I J bD,sL ao m c]] (w6.alloc (.cells [I J bX,I J bY,I J bZ,bO bE,I Zk (bI:Int),bO bR,I J bD,sL ao m c].toArray 116)) fun o w'=>o = rT (.tuple #[])/\lh w0 G (pH (lD H k) ⟨1,bY,0,bE,bI,bR,bD,bL⟩) f1 f3 (fun j=>if j=k then (nn,0,0) else hs j) nm (D.del (.int .i64 bY)) w'/\(∀ q,q≠G.P->q≠G.gq->q<(w6.alloc (.cells [I J bX,I J bY,I J bZ,bO bE,I Zk (bI:Int),bO bR,I J bD,sL ao m c].toArray 116)).heap.size->w'.heap[q]?=(w6.alloc (.cells [I J bX,I J bY,I J bZ,bO bE,I Zk (bI:Int),bO bR,I J bD,sL ao m c].toArray 116)).heap[q]?)/\(w6.alloc (.cells [I J bX,I J bY,I J bZ,bO bE,I Zk (bI:Int),bO bR,I J bD,sL ao m c].toArray 116)).heap.size<=w'.heap.size):=(hl6.below hbA).post ⟨1,bY,0,bE,bI,bR,bD,bL⟩ ao m c HBY.o.1 HBY.o.2;have HPB:Hid (blk (w6.alloc (.cells [I J bX,I J bY,I J bZ,bO bE,I Zk (bI:Int),bO bR,I J bD,sL ao m c].toArray 116)) w6.heap.size [I J bX,I J bY,I J bZ,bO bE,I Zk (bI:Int),bO bR,I J bD,sL ao m c] 116):=blk.new w6 _ 116;have y1:(w6.alloc (.cells [I J bX,I J bY,I J bZ,bO bE,I Zk (bI:Int),bO bR,I J bD,sL ao m c].toArray 116)).cell? ⟨w6.heap.size,1,nn⟩=sQ (I J bY):=HPB.o.cell 1 _ rfl;have HBA:Hid (Bl w6 (w6.alloc (.cells [I J bX,I J bY,I J bZ,bO bE,I Zk (bI:Int),bO bR,I J bD,sL ao m c].toArray 116))):=hbA
   clear hl6 hbA HV;go_wp2_with (refine Zi 67 [bO bE,I Zk (bI:Int),bO bR,I J bD,sL ao m c] (blk.loadAt [I J bX,I J bY,I J bZ] [bO bE,I Zk (bI:Int),bO bR,I J bD,sL ao m c] [] HPB.o) underlying67 jc ?_)
   refine HP.o.mono ?_;rintro o w7 ⟨rfl,hl7,hk7,_⟩;have HF7:Hid (∀ q,q≠G.P->q≠G.gq->q<w6.heap.size->w7.heap[q]?=w6.heap[q]?):=fun q h1 h2 h3=>(hk7 q h1 h2 (nL h3 HBA.o.size)).trans (HBA.o.block q h3);clear hk7 HBA;have HL7:Hid (lh w0 G (pH (lD H k) ⟨1,bY,0,bE,bI,bR,bD,bL⟩) f1 f3 (fun j=>if j=k then (nn,0,0) else hs j) nm (D.del (.int .i64 bY)) w7):=hl7;clear hl7 HP;go_wp2_with fail;refine bN ?_
   exact⟨rfl,⟨_,_,by rw[HT.o];exact HL7.o⟩,fun q a1 a2 a3 a4 a5=>(HF7.o q a1 a2 (by have:=HF6.o.2;have:=HF5.o.size;omega)).trans ((HF6.o.1 q a3 a4 (by have:=HF5.o.size;omega)).trans (HF5.o.block q a5))⟩
def mc.release (h:mc w0 M G C f1 f3 hs nm D W) (sent:Bool) (hwf:∀ j (hj:j<C.ho.bx.length),(Lit.int .i64 C.ho.bx[j].y).wf=true) :
  Calls Tp 215 #[pT (sQ ⟨G.P,0,nn⟩),bO sent] W fun o w'=>o = rT (.tuple #[])/\∃ hs' D',mc w0 M G { C with ho:=Cz C.ho sent } f1 f3 hs' nm D' w':=by
 refine (Jx h.h sent hwf).mono ?_;rintro o w' ⟨rfl,⟨hs',D',h1⟩,h2⟩;exact⟨rfl,hs',D',h.m.kept (h2 M h.o.1 h.o.2.2.2.2.2.1 h.o.2.2.2.1 h.o.2.1 h.m.lt),h1,h.o,h.e⟩
def mc.post2 (h:mc w0 M G C f1 f3 hs nm D W) (k a b:Int) :
  Calls Tp 213 #[pT (sQ ⟨G.P,0,nn⟩),aG #[I J k,I J a,I J b,bO false,I Zk 0,bO false,I J 0,sL nn 0 0]] W fun o w'=>o = rT (.tuple #[])/\mc w0 M G { C with ho:=pH C.ho (ev3 k a b) } f1 f3 hs nm D w':=by
 refine (h.h.post (ev3 k a b) nn 0 0 (yM _) (nZ _)).mono ?_;rintro o w' ⟨rfl,h1,h2,h3⟩;exact⟨rfl,h.m.kept (h2 M h.o.1 h.o.2.2.2.2.2.1 h.m.lt),h1,h.o,h.e⟩
end
def DU {P:Prop} (h:P):Hid P:=h
section
variable {w0 : World} {M : Nat} {G : Lg} {f1 f3 nm : Nat} {C : Co} {W : World}
def mx (w0:World) (M:Nat) (G:Lg) (f1 f3 nm:Nat) (C:Co) (W:World):Prop:=∃ hs D,mc w0 M G C f1 f3 hs nm D W
def mx.m (h:mx w0 M G f1 f3 nm C W):blk W M (mcS G C) 147:=by obtain⟨_,_,h⟩:=h;exact h.m
def mx.below (h:mx w0 M G f1 f3 nm C W) {W':World} (hb:Bl W W'):mx w0 M G f1 f3 nm C W':=by obtain⟨_,_,h⟩:=h;exact⟨_,_,h.below hb⟩
def mx.set (h:mx w0 M G f1 f3 nm C W) (k:Nat) (v:Value) (C':Co) (e:(mcS G C).set k v=mcS G C') (eh:C'.ho=C.ho):mx w0 M G f1 f3 nm C' (W.setCell ⟨M,k,nn⟩ v):=by obtain⟨_,_,h⟩:=h;exact⟨_,_,h.set k v e eh⟩
def mx.post (h:mx w0 M G f1 f3 nm C W) (k a b:Int):Calls Tp 213 #[pT (sQ ⟨G.P,0,nn⟩),aG #[I J k,I J a,I J b,bO false,I .u32 0,bO false,I J 0,sL nn 0 0]] W fun o w'=>o = rT (.tuple #[])/\mx w0 M G f1 f3 nm { C with ho:=pH C.ho (ev3 k a b) } w':=by
 obtain⟨_,_,h⟩:=h;exact (h.post2 k a b).mono fun o w' ⟨h1,h2⟩=>⟨h1,_,_,h2⟩
def mx.add (h:mx w0 M G f1 f3 nm C W) (b:Bool) (n:Int) (hn:0<=n/\n<=8) (ht:0<=C.te/\C.te<=256) (hr:0<=C.re/\C.re<=255):Calls Tp 185 #[pT (sQ ⟨M,0,nn⟩),bO b,I J n] W fun o w'=>o = rT (.tuple #[])/\mx w0 M G f1 f3 nm (oX C b n) w':=by
 obtain⟨_,_,h⟩:=h;exact (Ck h b n hn ht hr).mono fun o w' ⟨h1,h2⟩=>⟨h1,_,_,h2⟩
def mx.state (h:mx w0 M G f1 f3 nm C W):Calls Tp 216 #[pT (sQ ⟨M,0,nn⟩)] W fun o w'=>o = rT (I J (stZ C.te C.re))/\mx w0 M G f1 f3 nm C w'/\Bl W w':=by
 obtain⟨_,_,h⟩:=h;exact (It h).mono fun o w' ⟨h1,h2,h3⟩=>⟨h1,⟨_,_,h2⟩,h3⟩
def mx.release (h:mx w0 M G f1 f3 nm C W) (sent:Bool) (hwf:∀ j (hj:j<C.ho.bx.length),(Lit.int .i64 C.ho.bx[j].y).wf=true):Calls Tp 215 #[pT (sQ ⟨G.P,0,nn⟩),bO sent] W fun o w'=>o = rT (.tuple #[])/\mx w0 M G f1 f3 nm { C with ho:=Cz C.ho sent } w':=by
 obtain⟨_,_,h⟩:=h;exact (h.release sent hwf).mono fun o w' ⟨h1,hs',D',h2⟩=>⟨h1,hs',D',h2⟩
def vw (C:Co) (k:Int):Ho:=Cz (pH C.ho (ev3 8 k (if C.tx then 1 else 0))) false
def LH (C:Co):Bool:=stZ C.te C.re == 1
def GR (C:Co) (k:Int):Bool:=LH C && C.tx && (k == 5)
def Gh (C:Co) (k:Int):Co:={ C with wk:=LH C,ow:=GR C k,ho:=vw C k }
def aS (C:Co) (k:Int):Co:={ oX (Gh C k) C.tx (fwZ C.tx (GR C k) C.p k) with p:=2,ct:=0,lv:=0,ov:=false }
def Ms (a b:Bool) (p k:Int):0<=fwZ a b p k/\fwZ a b p k<=8:=by unfold fwZ;split <;> (try split) <;> omega
def eqB (x y:Int):∃ b:Bool,(x == y)=b/\(x != y) = !b/\Hid (b=true↔x=y):=⟨_,rfl,rfl,by show _↔_;simp⟩
def mx.fault (h:mx w0 M G f1 f3 nm C W) (k:Int) (ht:0<=C.te/\C.te<=256) (hr:0<=C.re/\C.re<=255) (hwf:∀ j (hj:j<C.ho.bx.length),(Lit.int .i64 C.ho.bx[j].y).wf=true) :
  Calls Tp 184 #[pT (sQ ⟨M,0,nn⟩),I J k] W fun o w'=>o = rT (.tuple #[])/\mx w0 M G f1 f3 nm (aS C k) w':=by
 obtain⟨fv,hfv⟩ : ∃ fv:Int,fv=if C.tx then 1 else 0:=⟨_,rfl⟩
 have HFL:Hid (Cz (pH C.ho (ev3 8 k fv)) false=vw C k):=by show _=vw C k;unfold vw;rw[hfv]
 have HFV:Hid (∀ X,Calls Tp 214 #[bO C.tx] X fun o w'=>o = rT (I .u64 fv)/\X=w'):=fun X=>by rw[hfv];exact Io X C.tx
 have hwv:IntKind.i64.wrap fv=fv:=by rw[hfv];generalize C.tx=q;cases q <;> decide
 have H0:Hid (mx w0 M G f1 f3 nm C W):=h;have HPO:=DU ((h.below (bW _ _).drew).post 8 k fv);have HRL:Hid (∀ X,mx w0 M G f1 f3 nm { C with ho:=pH C.ho (ev3 8 k fv) } X->Calls Tp 215 #[pT (sQ ⟨G.P,0,nn⟩),bO false] X fun o w'=>o = rT (.tuple #[])/\mx w0 M G f1 f3 nm { C with ho:=vw C k } w'):=fun X hX=>by rw[<- HFL.o];exact hX.release false hwf
 have HST:Hid (∀ X,mx w0 M G f1 f3 nm { C with ho:=vw C k } X->Calls Tp 216 #[pT (sQ ⟨M,0,nn⟩)] X fun o w'=>o = rT (I J (stZ C.te C.re))/\mx w0 M G f1 f3 nm { C with ho:=vw C k } w'):=fun X hX=>hX.state.mono fun o w' ⟨h1,h2,_⟩=>⟨h1,h2⟩
 have HFW:Hid (∀ X,mx w0 M G f1 f3 nm (Gh C k) X->Calls Tp 217 #[pT (sQ ⟨M,0,nn⟩),I J k] X fun o w'=>o = rT (I J (fwZ C.tx (GR C k) C.p k))/\X=w'):=fun X hX=>by obtain⟨_,_,hX⟩:=hX;exact Hh hX k
 have HAD:Hid (∀ X,mx w0 M G f1 f3 nm (Gh C k) X->Calls Tp 185 #[pT (sQ ⟨M,0,nn⟩),bO C.tx,I J (fwZ C.tx (GR C k) C.p k)] X fun o w'=>o = rT (.tuple #[])/\mx w0 M G f1 f3 nm (oX (Gh C k) C.tx (fwZ C.tx (GR C k) C.p k)) w'):=fun X hX=>hX.add C.tx _ (Ms _ _ _ _) ht hr;obtain⟨wk,ewk⟩ : ∃ b,(stZ C.te C.re == 1)=b:=⟨_,rfl⟩
 obtain⟨tx,etx⟩ : ∃ b,C.tx=b:=⟨_,rfl⟩
 obtain⟨k5,e5,_,_⟩:=eqB k 5;have HM:Hid (Gh C k = { { C with ho:=vw C k } with wk:=wk,ow:=wk && tx && k5 }):=by show _=_;unfold Gh GR LH;rw[ewk,etx,e5]
 have HTX:=DU etx;generalize stZ C.te C.re=z at *;have y9:=h.m.cell 9 (bO C.tx) rfl;have y0:=h.m.cell 0 (pT (sQ ⟨G.P,0,nn⟩)) rfl;clear h ht hr hwf hfv HFL etx;go_enter func184,ntmps184;go_upto_region 0 with fail
 go_cut [] (fun wx=>Hid (mx w0 M G f1 f3 nm { C with ho:=pH C.ho (ev3 8 k fv) } wx));case first=>
  go_region_with (first | (go_at_call 214;refine (HFV.o _).mono ?_;rintro o w1 ⟨rfl,rfl⟩) | (go_at_call 213;refine HPO.o.mono ?_;rintro o w1 ⟨rfl,h1⟩;have H1:=DU h1;clear h1))
  all_goals (
   go_wp2_with fail;go_meet
   case rel=>exact H1.o)
 case rest=>
 have H1:=hcut;clear hcut y9 y0 H0 HPO HFV;have y0:=H1.o.m.cell 0 (pT (sQ ⟨G.P,0,nn⟩)) rfl;go_wp2_with fail;refine (HRL.o _ H1.o).mono ?_;rintro o w1 ⟨rfl,h2⟩;have H2:=DU h2;clear h2 H1 HRL y0;go_wp2_with fail;refine (HST.o _ H2.o).mono ?_;rintro o w2 ⟨rfl,h2⟩;have H3:=DU h2;have y6:=h2.m.cell 6 (bO C.wk) rfl;have z6:=h2.m.free 6;clear h2 H2 HST;have H4:Hid (mx w0 M G f1 f3 nm { { C with ho:=vw C k } with wk:=wk } (World.setCell w2 ⟨M,6,nn⟩ (bO wk))):=H3.o.set 6 (bO wk) _ rfl rfl;go_upto_region 3 with fail
 generalize World.setCell w2 ⟨M,6,nn⟩ (bO wk)=w3 at *;clear y6 z6 H3;have y6:=H4.o.m.cell 6 (bO wk) rfl;have y8:=H4.o.m.cell 8 (bO C.ow) rfl;have z8:=H4.o.m.free 8;have y9:=H4.o.m.cell 9 (bO C.tx) rfl;rw[HTX.o] at y9;go_cut [] (fun wx=>Hid (mx w0 M G f1 f3 nm (Gh C k) wx));case first=>
  cases wk <;> cases tx <;> cases k5 <;> (
   go_wp2_with fail;go_meet
   case rel=>rw[HM.o];exact H4.o.set 8 _ _ rfl rfl)
 case rest=>
 have H5:=hcut;clear hcut y6 y8 z8 y9 H4 HM e5 ewk;have y9:=H5.o.m.cell 9 (bO C.tx) rfl;have H6:=DU (H5.o.below (bW _ _).drew);obtain⟨n,en⟩ : ∃ n,fwZ C.tx (GR C k) C.p k=n:=⟨_,rfl⟩
 obtain⟨A,eA⟩ : ∃ A,oX (Gh C k) C.tx n=A:=⟨_,rfl⟩
 have HEA:Hid (aS C k = { A with p:=2,ct:=0,lv:=0,ov:=false }):=by show _=_;rw[<- eA,<- en];rfl
 rw[en] at HFW HAD;rw[eA] at HAD;clear en eA;go_upto_region 4 with fail
 go_cut [] (fun wx=>Hid (mx w0 M G f1 f3 nm A wx));case first=>
  go_region_with (first | (go_at_call 217;refine (HFW.o _ H6.o).mono ?_;rintro o w5 ⟨rfl,rfl⟩) | (go_at_call 185;refine (HAD.o _ H6.o).mono ?_;rintro o w5 ⟨rfl,h7⟩;have H7:=DU h7;clear h7))
  all_goals (
   go_wp2_with fail;go_meet
   case rel=>exact H7.o)
 case rest=>
 have H4:=hcut;clear hcut y9 H5 H6 HFW HAD;have y3:=H4.o.m.cell 3 (I J A.p) rfl;have y4:=H4.o.m.cell 4 (I J A.ct) rfl;have y5:=H4.o.m.cell 5 (I J A.lv) rfl;have y7:=H4.o.m.cell 7 (bO A.ov) rfl;have z3:=H4.o.m.free 3;have z4:=H4.o.m.free 4;have z5:=H4.o.m.free 5;have z7:=H4.o.m.free 7;have H9:Hid (mx w0 M G f1 f3 nm { A with p:=2,ct:=0,lv:=0,ov:=false } (World.setCell (World.setCell (World.setCell (World.setCell wc ⟨M,3,nn⟩ (I J 2)) ⟨M,4,nn⟩ (I J 0)) ⟨M,5,nn⟩ (I J 0)) ⟨M,7,nn⟩ (bO false))):=((((H4.o.set 3 (I J 2) { A with p:=2 } rfl rfl).set 4 (I J 0) { A with p:=2,ct:=0 } rfl rfl).set 5 (I J 0) { A with p:=2,ct:=0,lv:=0 } rfl rfl).set 7 (bO false) { A with p:=2,ct:=0,lv:=0,ov:=false } rfl rfl)
 go_wp2_with fail;refine bN ?_
 exact⟨rfl,by rw[HEA.o];exact H9.o⟩
end
def vv (A:Co):Co:=⟨7,0,0,false,false,false,false,false,0,A.te,A.re,A.ho⟩
def mc.moment {w0:World} {M:Nat} {G:Lg} {C:Co} {f1 f3:Nat} {hs:Nat->Hd} {nm:Nat} {D:DataW Unit} {W:World} (h:mc w0 M G C f1 f3 hs nm D W):mc w0 M G (vv C) f1 f3 hs nm D (W.setCells M 3 [I J 7,I J 0,I J 0,bO false,bO false,bO false,bO false,bO false,I J 0]):=by
 refine⟨?_,?_,h.o,h.e⟩
 .have h':blk W M ([pT (some ⟨G.P,0,none⟩),I J C.te,I J C.re]++[I J C.p,I J C.ct,I J C.lv,bO C.wk,bO C.ov,bO C.ow,bO C.tx,bO C.ak,I J C.rn]++(sgF G.s++prL)) 147:=h.m;exact blk.put [pT (some ⟨G.P,0,none⟩),I J C.te,I J C.re] [I J C.p,I J C.ct,I J C.lv,bO C.wk,bO C.ov,bO C.ow,bO C.tx,bO C.ak,I J C.rn] (sgF G.s++prL) [I J 7,I J 0,I J 0,bO false,bO false,bO false,bO false,bO false,I J 0] h' rfl
 .exact h.h.other M h.o (fun q hq=>sO _ q hq _ _ _) (sZ ..) (sW h.o.2.2.2.2.2.2 3 _ h.h.b) h.e
def L3:(Tp.info? 137).map (·.size)=some 9:=kr
def af (C A:Co):Co:=tS (if A.te=256/\A.p≠7 then vv A else A) (stZ C.te C.re)
structure dcS (w:World) (C:Co) (s:Sl) (W:World):Prop where
 p:blk W w.heap.size (coL C s) 43
 r:blk W (w.heap.size+1) Z21 43
 b:Bl w W
def dcS.new (w:World) (C:Co) (s:Sl):dcS w C s ((w.alloc (.cells (coL C s).toArray 43)).alloc (.cells Z21.toArray 43)):=by
 refine⟨(blk.new w _ 43).alloc _,?_,Zw.alloc pQ _⟩;have:=blk.new (w.alloc (.cells (coL C s).toArray 43)) Z21 43;simpa using this
section
variable {w:World} {b:Nat}
def blk.host {C:Co} {s:Sl} (h:blk w b (coL C s) 43) (H:Ho) (s':Sl):blk (w.setCells b 11 (hoL H s')) b (coL { C with ho:=H } s') 43:=by
 have h':blk w b (coM C++hoL C.ho s++[]) 43:=by rw[Qv,<- CM];exact h
 have:=blk.put (coM C) (hoL C.ho s) [] (hoL H s') h' rfl;rw[Qv] at this;exact this
def EA (H:Ho) (s:Sl):(Tp.info? 41).map (·.size)=some (hoL H s).toArray.size:=jT H s
def blk.core {l:List Value} (h:blk w b l 43) (hl:l.length=21) (C:Co) (s:Sl):blk (w.setCells b 0 (coL C s)) b (coL C s) 43:=by
 have:=blk.put [] l [] (coL C s) (w:=w) (b:=b) (T:=43) (by simpa using h) (by rw[hl,cL]);simpa using this
end
def zCo:Co:=⟨0,0,0,false,false,false,false,false,0,0,0,zHo⟩
def ob (C:Co) (n:Int):Co:=if (oX C C.tx n).te=256 then vv (oX C C.tx n) else oX C C.tx n
def GW (w:World) (C:Co) (s:Sl) (n:Int) (hn:0<=n/\n<=8) (ht:0<=C.te/\C.te<256) (hr:0<=C.re/\C.re<=255) :
  Calls Tp 121 #[aG (coL C s).toArray,I J n] w fun o w'=>o = rT (aG (coL (ob C n) s).toArray)/\Bl w w':=by
 have hd:dcS w C s ((w.alloc (.cells (coL C s).toArray 43)).alloc (.cells zY.toArray 43)):=dcS.new w C s;have H0:Hid (blk ((w.alloc (.cells (coL C s).toArray 43)).alloc (.cells zY.toArray 43)) w.heap.size (coL C s) 43/\blk ((w.alloc (.cells (coL C s).toArray 43)).alloc (.cells zY.toArray 43)) (w.heap.size+1) Z21 43/\Bl w ((w.alloc (.cells (coL C s).toArray 43)).alloc (.cells zY.toArray 43))):=⟨hd.p,hd.r,hd.b⟩
 have y6:=hd.p.cell 6 (bO C.tx) rfl;have y9:=hd.p.cell 9 (I J C.te) rfl;have y10:=hd.p.cell 10 (I J C.re) rfl;have g9:=hd.p.free 9;have g10:=hd.p.free 10;clear hd;generalize hW0:((w.alloc (.cells (coL C s).toArray 43)).alloc (.cells zY.toArray 43))=W0 at *;by_cases dx:C.tx=true
 .rw[dx] at y6;have hw:IntKind.i64.wrap (C.te+n)=C.te+n:=by rw[QR];omega
  have HA:Hid (oX C C.tx n = { C with te:=if 256<=C.te+n then 256 else C.te+n }):=by show oX C C.tx n=_;unfold oX;rw[qc dx]
  have H1:Hid (blk (W0.setCell ⟨w.heap.size,9,nn⟩ (I J (C.te+n))) w.heap.size (coL { C with te:=C.te+n } s) 43/\blk (W0.setCell ⟨w.heap.size,9,nn⟩ (I J (C.te+n))) (w.heap.size+1) Z21 43/\Bl w (W0.setCell ⟨w.heap.size,9,nn⟩ (I J (C.te+n)))):=⟨H0.o.1.set 9 (I J (C.te+n)),H0.o.2.1.setOther om 9 _,H0.o.2.2.setCell (nR _) _⟩
  have u9:=H1.o.1.cell 9 (I J (C.te+n)) rfl;have u10:=H1.o.1.cell 10 (I J C.re) rfl;by_cases hb:256<=C.te+n
  .have db:decide (256<=C.te+n)=true:=by simpa using hb
   have HE:Hid (ob C n=vv { C with te:=256 }):=by show ob C n=_;unfold ob;rw[HA.o,qc hb];rw[qc rfl]
   clear dx hn ht hr hb HA H0;have q11:=H1.o.1.cell 11 (I J C.ho.c0) rfl;have q12:=H1.o.1.cell 12 (I J C.ho.c1) rfl;have q13:=H1.o.1.cell 13 (I J C.ho.c2) rfl;have q14:=H1.o.1.cell 14 (I J C.ho.c3) rfl;have q15:=H1.o.1.cell 15 (sL s.a1 s.n1 s.k1) rfl;have q16:=H1.o.1.cell 16 (sL s.a2 s.n2 s.k2) rfl;have q17:=H1.o.1.cell 17 (sL s.a3 s.n3 s.k3) rfl;have q18:=H1.o.1.cell 18 (sL s.a4 s.n4 s.k4) rfl;have q19:=H1.o.1.cell 19 (I J C.ho.lo) rfl;have q20:=H1.o.1.cell 20 (I J C.ho.st) rfl;go_enter func121,ntmps121
   go_wp2_with (refine Zs 43 (coL (vv { C with te:=256 }) s).toArray (H1.o.2.1.there 0 _ (by rw[qR,cL];decide)) (nO _ _) (cO _ _) ?_;generalize hW8:World.setCells _ (w.heap.size+1) 0 _=w8;have HW8:Hid (_=w8):=hW8;clear hW8)
   have e8:=HW8.o;have hF:blk w8 (w.heap.size+1) (coL (vv { C with te:=256 }) s) 43:=by
    rw[<- e8];exact H1.o.2.1.core rfl _ _
   have hL:=QI (P:=Tp) w8 (w.heap.size+1) 0 43 _ _ hF.load underlying43 rfl (cy _ _);refine bC results121 hL ?_;exact⟨by rw[HE.o],by rw[<- e8];exact sW om 0 _ H1.o.2.2⟩
  .have db:decide (256<=C.te+n)=false:=by simpa using hb
   have HE:Hid (ob C n = { C with te:=C.te+n }):=by show ob C n=_;unfold ob;rw[HA.o,qa hb];rw[qa (by show ¬ C.te+n=256;omega)]
   clear dx hn ht hr hb HA H0;go_enter func121,ntmps121
   go_wp2_with (first
    | (refine ZG 43 H1.o.1.load underlying43 (cy _ _) ?_)
    | (refine Zs 43 (coL { C with te:=C.te+n } s).toArray (H1.o.2.1.there 0 _ (by rw[qR,cL];decide)) (nO _ _) (cO _ _) ?_;generalize hW8:World.setCells _ (w.heap.size+1) 0 _=w8;have HW8:Hid (_=w8):=hW8;clear hW8))
   have e8:=HW8.o;have hF:blk w8 (w.heap.size+1) (coL { C with te:=C.te+n } s) 43:=by
    rw[<- e8];exact H1.o.2.1.core rfl _ _
   have hL:=QI (P:=Tp) w8 (w.heap.size+1) 0 43 _ _ hF.load underlying43 rfl (cy _ _);refine bC results121 hL ?_;exact⟨by rw[HE.o],by rw[<- e8];exact sW om 0 _ H1.o.2.2⟩
 .have dx':C.tx=false:=by simpa using dx
  rw[dx'] at y6;have hw:IntKind.i64.wrap (C.re+n)=C.re+n:=by rw[QR];omega
  have HA:Hid (oX C C.tx n = { C with re:=min (C.re+n) 255 }):=by show oX C C.tx n=_;unfold oX;rw[qa dx]
  have dt:decide (256<=C.te)=false:=by simp;omega
  have hte:¬ C.te=256:=om;have H1:Hid (blk (W0.setCell ⟨w.heap.size,10,nn⟩ (I J (C.re+n))) w.heap.size (coL { C with re:=C.re+n } s) 43/\blk (W0.setCell ⟨w.heap.size,10,nn⟩ (I J (C.re+n))) (w.heap.size+1) Z21 43/\Bl w (W0.setCell ⟨w.heap.size,10,nn⟩ (I J (C.re+n)))):=⟨H0.o.1.set 10 (I J (C.re+n)),H0.o.2.1.setOther om 10 _,H0.o.2.2.setCell (nR _) _⟩
  have u9:=H1.o.1.cell 9 (I J C.te) rfl;have u10:=H1.o.1.cell 10 (I J (C.re+n)) rfl;have k10:=H1.o.1.free 10;by_cases hb:255<C.re+n
  .have db:decide (255<C.re+n)=true:=by simpa using hb
   have H2:Hid (blk ((W0.setCell ⟨w.heap.size,10,nn⟩ (I J (C.re+n))).setCell ⟨w.heap.size,10,nn⟩ (I J 255)) w.heap.size (coL { C with re:=255 } s) 43/\blk ((W0.setCell ⟨w.heap.size,10,nn⟩ (I J (C.re+n))).setCell ⟨w.heap.size,10,nn⟩ (I J 255)) (w.heap.size+1) Z21 43/\Bl w ((W0.setCell ⟨w.heap.size,10,nn⟩ (I J (C.re+n))).setCell ⟨w.heap.size,10,nn⟩ (I J 255))):=⟨H1.o.1.set 10 (I J 255),H1.o.2.1.setOther om 10 _,H1.o.2.2.setCell (nR _) _⟩
   have v9:=H2.o.1.cell 9 (I J C.te) rfl;have HE:Hid (ob C n = { C with re:=255 }):=by show ob C n=_;unfold ob;rw[HA.o,qa hte,Int.min_eq_right om]
   clear dx dx' hn ht hr hb HA H0 hte;go_enter func121,ntmps121
   go_wp2_with (first
    | (refine ZG 43 H2.o.1.load underlying43 (cy _ _) ?_)
    | (refine Zs 43 (coL { C with re:=255 } s).toArray (H2.o.2.1.there 0 _ (by rw[qR,cL];decide)) (nO _ _) (cO _ _) ?_;generalize hW8:World.setCells _ (w.heap.size+1) 0 _=w8;have HW8:Hid (_=w8):=hW8;clear hW8))
   have e8:=HW8.o;have hF:blk w8 (w.heap.size+1) (coL { C with re:=255 } s) 43:=by
    rw[<- e8];exact H2.o.2.1.core rfl _ _
   have hL:=QI (P:=Tp) w8 (w.heap.size+1) 0 43 _ _ hF.load underlying43 rfl (cy _ _);refine bC results121 hL ?_;exact⟨by rw[HE.o],by rw[<- e8];exact sW om 0 _ H2.o.2.2⟩
  .have db:decide (255<C.re+n)=false:=by simpa using hb
   have HE:Hid (ob C n = { C with re:=C.re+n }):=by show ob C n=_;unfold ob;rw[HA.o,qa hte,Int.min_eq_left om]
   clear dx dx' hn ht hr hb HA H0 hte;go_enter func121,ntmps121
   go_wp2_with (first
    | (refine ZG 43 H1.o.1.load underlying43 (cy _ _) ?_)
    | (refine Zs 43 (coL { C with re:=C.re+n } s).toArray (H1.o.2.1.there 0 _ (by rw[qR,cL];decide)) (nO _ _) (cO _ _) ?_;generalize hW8:World.setCells _ (w.heap.size+1) 0 _=w8;have HW8:Hid (_=w8):=hW8;clear hW8))
   have e8:=HW8.o;have hF:blk w8 (w.heap.size+1) (coL { C with re:=C.re+n } s) 43:=by
    rw[<- e8];exact H1.o.2.1.core rfl _ _
   have hL:=QI (P:=Tp) w8 (w.heap.size+1) 0 43 _ _ hF.load underlying43 rfl (cy _ _);refine bC results121 hL ?_;exact⟨by rw[HE.o],by rw[<- e8];exact sW om 0 _ H1.o.2.2⟩
def Gm (w:World) (C:Co) (s:Sl):Calls Tp 56 #[aG (coL C s).toArray] w fun o w'=>o = rT (I J (esZ C.p C.te C.re))/\Bl w w':=by
 show Calls Tp 56 #[coV C s] w _;obtain⟨p,ct,lv,wk,ov,ow,tx,ak,rn,te,re,⟨c0,c1,c2,c3,fs,bx,ff,qu,lo,st⟩⟩:=C;obtain⟨a1,n1,k1,a2,n2,k2,a3,n3,k3,a4,n4,k4⟩:=s;go_enter func56,ntmps56;go_wp2_with (go_at_call 120;refine (Jf _ _ _ _).mono ?_;rintro o w1 ⟨rfl,rfl⟩);go_ret;exact⟨rfl,Zw⟩
section
variable {H:Ho} {n:Nat}
structure bdQ (n:Nat) (H:Ho):Prop where
 q:H.qu.length<=n
 lo:0<=H.lo/\H.lo<=100000
def bdQ.post (h:bdQ n H) (e:R8):bdQ (n+1) (pH H e):=by
 refine⟨?_,?_⟩
 .show (quP H.c3 H.qu e).length<=n+1;have:=h.q;unfold quP;split
  .rw[qe,qm];omega
  .omega
 .show 0<=loP H.c3 H.qu H.lo/\loP H.c3 H.qu H.lo<=100000;have:=h.lo;unfold loP;split
  .exact h.lo
  .split
   .omega
   .exact h.lo
def bdQ.up (h:bdQ n H) {m:Nat} (hm:n<=m):bdQ m H:=⟨nT h.q hm,h.lo⟩
def bdQ.rel (h:bdQ n H) (sent:Bool):bdQ (n+1) (Cz H sent):=by
 have hf:∀ k,bdQ n (lD H k):=fun k=>⟨h.q,h.lo⟩
 unfold Cz;split
 .split
  .exact (hf _).post _
  .split
   .exact (hf _).post _
   .rw[yg (by assumption)];exact⟨Nat.le_succ_of_le h.q,h.lo⟩
 .exact h.up (Nat.le_succ _)
def dP.bd (h:dP H):bdQ 900 H:=by
 have h1:=qO h.cf;have h2:=h.nq;exact⟨om,h.l0,h.l1⟩
def tlC (C:Co) (old:Int):Co:=if esZ C.p C.te C.re=old then C else { C with ho:=pH C.ho (ev3 10 (esZ C.p C.te C.re) 0) }
def IY (C:Co) (n:Int):(ob C n).ho=C.ho:=by
 unfold ob;split
 .show (oX C C.tx n).ho=_;unfold oX;split <;> rfl
 .unfold oX;split <;> rfl
end
def Im (X:Co):Co:=if X.p=7 then X else { X with p:=2,ct:=0,lv:=0,ov:=false }
def Ll {C:Co} (hok:MV C) (k b:Int) (h:¬ (C.p=1/\C.tx=true)):Cz (pH C.ho (ev3 8 k b)) false=pH C.ho (ev3 8 k b):=GK (fun e=>h (hok.s.2 (fun ha=>ha _ e (GS e))))
def Mw (X:Co) (ht:0<=X.te/\X.te<256) (hr:0<=X.re/\X.re<=255):ob X 0=X:=by
 have e:oX X X.tx 0=X:=by
  unfold oX;split
  .rw[qa om,Int.add_zero]
  .rw[Int.add_zero,Int.min_eq_left hr.2]
 unfold ob;rw[e,qa om]
def LG {C:Co} (hp:C.p≠7) (k:Int):tlC (Im (ob (Gh C k) (fwZ C.tx (GR C k) C.p k))) (stZ C.te C.re)=af C (aS C k):=by
 have e1:∀ X:Co,X.p≠7->X.te≠256->∀ b,tlC X b=tS X b:=fun X h1 h2 b=>by
  unfold tlC tS esZ stZ;rw[qa h1,qa h2]
 have e2:∀ X:Co,X.te=256->∀ b,tlC (vv X) b=tS (vv X) b:=fun X h2 b=>by
  unfold tlC tS;have h3:(vv X).te=256:=h2;have h4:(vv X).p=7:=rfl;unfold esZ stZ;rw[qc h3,qc h4]
 obtain⟨A,eA⟩ : ∃ A,oX (Gh C k) C.tx (fwZ C.tx (GR C k) C.p k)=A:=⟨_,rfl⟩
 have ea:ob (Gh C k) (fwZ C.tx (GR C k) C.p k)=if A.te=256 then vv A else A:=by
  rw[<- eA];rfl
 have ef:aS C k = { A with p:=2,ct:=0,lv:=0,ov:=false }:=by rw[<- eA];rfl
 have ep:A.p=C.p:=by rw[<- eA];unfold oX;split <;> rfl
 rw[ea,ef];unfold af;by_cases e:A.te=256
 .rw[qc e,qc ⟨e,by show (2:Int)≠7;decide⟩];show tlC (Im (vv A)) _=tS (vv A) _;rw[show Im (vv A)=vv A from qc rfl];exact e2 A e _
 .rw[qa e,qa (fun x=>e x.1)];rw[show Im A = { A with p:=2,ct:=0,lv:=0,ov:=false } from qa (by rw[ep];exact hp)];exact e1 { A with p:=2,ct:=0,lv:=0,ov:=false } (by show (2:Int)≠7;decide) e _
def ltB (x y:Int):∃ b:Bool,decide (x<y)=b/\Hid (b=true↔x<y):=⟨_,rfl,by show _↔_;simp⟩
section
variable {w0 : World} {M : Nat} {G : Lg} {f1 f3 nm : Nat} {C : Co} {W : World}
def mx.off (h:mx w0 M G f1 f3 nm C W):mx w0 M G f1 f3 nm (vv C) (W.setCells M 3 [I J 7,I J 0,I J 0,bO false,bO false,bO false,bO false,bO false,I J 0]):=by obtain⟨_,_,h⟩:=h;exact⟨_,_,h.moment⟩
def ovC (C:Co):Co:={ C with p:=2,ct:=0,ov:=true,ho:=pH C.ho (ev3 9 0 0) }
def Gw (h:mx w0 M G f1 f3 nm C W) :
  Calls Tp 186 #[pT (sQ ⟨M,0,nn⟩)] W fun o w'=>o = rT (.tuple #[])/\mx w0 M G f1 f3 nm (ovC C) w':=by
 have H0:Hid (mx w0 M G f1 f3 nm C W):=h;have H3:Hid (mx w0 M G f1 f3 nm { C with p:=2,ct:=0,ov:=true } (World.setCell (World.setCell (World.setCell W ⟨M,3,nn⟩ (I J 2)) ⟨M,4,nn⟩ (I J 0)) ⟨M,7,nn⟩ (bO true))):=(((H0.o.set 3 (I J 2) { C with p:=2 } rfl rfl).set 4 (I J 0) { C with p:=2,ct:=0 } rfl rfl).set 7 (bO true) { C with p:=2,ct:=0,ov:=true } rfl rfl)
 have y3:=h.m.cell 3 (I J C.p) rfl;have y4:=h.m.cell 4 (I J C.ct) rfl;have y7:=h.m.cell 7 (bO C.ov) rfl;have z3:=h.m.free 3;have z4:=h.m.free 4;have z7:=h.m.free 7;have y0:=h.m.cell 0 (pT (sQ ⟨G.P,0,nn⟩)) rfl;clear h;go_enter func186,ntmps186;go_wp2_with fail;refine (H3.o.post 9 0 0).mono ?_;rintro o w1 ⟨rfl,h1⟩;have H1:Hid (mx w0 M G f1 f3 nm (ovC C) w1):=h1;clear h1 y0 y3 y4 y7 z3 z4 z7 H3 H0;go_wp2_with fail;refine bN ?_
 exact⟨rfl,H1.o⟩
def idC (C:Co) (bit:Int):Co:=if bit=0 then { C with p:=1 } else C
def K9 (h:mx w0 M G f1 f3 nm C W) (bit:Int) :
  Calls Tp 140 #[pT (sQ ⟨M,0,nn⟩),I J bit] W fun o w'=>o = rT (.tuple #[])/\mx w0 M G f1 f3 nm (idC C bit) w':=by
 have H0:Hid (mx w0 M G f1 f3 nm C W):=h;have y3:=h.m.cell 3 (I J C.p) rfl;have z3:=h.m.free 3;clear h;obtain⟨b,e,_,fb⟩:=eqB bit 0;cases b
 .have HR:Hid (idC C bit=C):=qa (fun x=>by have:=fb.o.2 x;cases this);go_enter func140,ntmps140;go_wp2_with fail;refine bN ?_
  exact⟨rfl,by rw[HR.o];exact H0.o⟩
 .have HR:Hid (idC C bit = { C with p:=1 }):=qc (fb.o.1 rfl);have H3:Hid (mx w0 M G f1 f3 nm { C with p:=1 } (World.setCell W ⟨M,3,nn⟩ (I J 1))):=(H0.o.set 3 (I J 1) { C with p:=1 } rfl rfl)
  go_enter func140,ntmps140;go_wp2_with fail;refine bN ?_
  exact⟨rfl,by rw[HR.o];exact H3.o⟩
def suC (C:Co) (bit:Int):Co:=if bit=0 then { C with p:=1,ct:=0,tx:=false } else if C.ct+1=8 then { C with p:=0,ct:=0,tx:=false } else { C with ct:=C.ct+1 }
def pf {n:Int} (h:0<=n/\n<=200):IntKind.i64.wrap (n+1)=n+1:=by rw[QR];omega
def I7 (h:mx w0 M G f1 f3 nm C W) (bit:Int) (hc:0<=C.ct/\C.ct<=200) :
  Calls Tp 146 #[pT (sQ ⟨M,0,nn⟩),I J bit] W fun o w'=>o = rT (.tuple #[])/\mx w0 M G f1 f3 nm (suC C bit) w':=by
 have H0:Hid (mx w0 M G f1 f3 nm C W):=h;have y3:=h.m.cell 3 (I J C.p) rfl;have y4:=h.m.cell 4 (I J C.ct) rfl;have y9:=h.m.cell 9 (bO C.tx) rfl;have z3:=h.m.free 3;have z4:=h.m.free 4;have z9:=h.m.free 9;clear h;have hw:=pf hc;clear hc;obtain⟨b,e,_,fb⟩:=eqB bit 0;obtain⟨c,e2,_,fc⟩:=eqB (C.ct+1) 8;go_enter func146,ntmps146;cases b
 .cases c
  .have HR:Hid (suC C bit = { C with ct:=C.ct+1 }):=by show _=_;unfold suC;rw[qa (by simpa using fb.o),qa (by simpa using fc.o)]
   have H3:Hid (mx w0 M G f1 f3 nm { C with ct:=(C.ct+1) } (World.setCell W ⟨M,4,nn⟩ (I J (C.ct+1)))):=(H0.o.set 4 (I J (C.ct+1)) { C with ct:=(C.ct+1) } rfl rfl)
   go_wp2_with fail;refine bN ?_
   exact⟨rfl,by rw[HR.o];exact H3.o⟩
  .have HR:Hid (suC C bit = { C with p:=0,ct:=0,tx:=false }):=by show _=_;unfold suC;rw[qa (by simpa using fb.o),qc (by simpa using fc.o)]
   have H3:Hid (mx w0 M G f1 f3 nm { C with p:=0,ct:=0,tx:=false } (World.setCell (World.setCell (World.setCell (World.setCell W ⟨M,4,nn⟩ (I J (C.ct+1))) ⟨M,3,nn⟩ (I J 0)) ⟨M,4,nn⟩ (I J 0)) ⟨M,9,nn⟩ (bO false))):=((((H0.o.set 4 (I J (C.ct+1)) { C with ct:=(C.ct+1) } rfl rfl).set 3 (I J 0) { C with ct:=(C.ct+1),p:=0 } rfl rfl).set 4 (I J 0) { C with p:=0,ct:=0 } rfl rfl).set 9 (bO false) { C with p:=0,ct:=0,tx:=false } rfl rfl)
   go_wp2_with fail;refine bN ?_
   exact⟨rfl,by rw[HR.o];exact H3.o⟩
 .have HR:Hid (suC C bit = { C with p:=1,ct:=0,tx:=false }):=by show _=_;unfold suC;rw[qc (by simpa using fb.o)]
  have H3:Hid (mx w0 M G f1 f3 nm { C with p:=1,ct:=0,tx:=false } (World.setCell (World.setCell (World.setCell (World.setCell W ⟨M,4,nn⟩ (I J (C.ct+1))) ⟨M,3,nn⟩ (I J 1)) ⟨M,4,nn⟩ (I J 0)) ⟨M,9,nn⟩ (bO false))):=((((H0.o.set 4 (I J (C.ct+1)) { C with ct:=(C.ct+1) } rfl rfl).set 3 (I J 1) { C with ct:=(C.ct+1),p:=1 } rfl rfl).set 4 (I J 0) { C with p:=1,ct:=0 } rfl rfl).set 9 (bO false) { C with p:=1,ct:=0,tx:=false } rfl rfl)
  go_wp2_with fail;refine bN ?_
  exact⟨rfl,by rw[HR.o];exact H3.o⟩
def dlC (C:Co) (bit:Int):Co:=if bit=0 then (if C.ct=7 then ovC C else aS C 3) else if C.ct+1=8 then { C with p:=5,ct:=0,ov:=false } else { C with ct:=C.ct+1 }
def Kw (h:mx w0 M G f1 f3 nm C W) (bit:Int) (hc:0<=C.ct/\C.ct<=200) (ht:0<=C.te/\C.te<=256) (hr:0<=C.re/\C.re<=255) (hwf:∀ j (hj:j<C.ho.bx.length),(Lit.int .i64 C.ho.bx[j].y).wf=true) :
  Calls Tp 144 #[pT (sQ ⟨M,0,nn⟩),I J bit] W fun o w'=>o = rT (.tuple #[])/\mx w0 M G f1 f3 nm (dlC C bit) w':=by
 have H0:Hid (mx w0 M G f1 f3 nm C W):=h;have HFL:Hid (∀ k,Calls Tp 184 #[pT (sQ ⟨M,0,nn⟩),I J k] W fun o w'=>o = rT (.tuple #[])/\mx w0 M G f1 f3 nm (aS C k) w'):=fun k=>h.fault k ht hr hwf;have y3:=h.m.cell 3 (I J C.p) rfl;have y4:=h.m.cell 4 (I J C.ct) rfl;have y7:=h.m.cell 7 (bO C.ov) rfl;have z3:=h.m.free 3;have z4:=h.m.free 4;have z7:=h.m.free 7;clear h ht hr hwf;have hw:=pf hc;clear hc;obtain⟨b,e,_,fb⟩:=eqB bit 0;obtain⟨c,e2,_,fc⟩:=eqB (C.ct+1) 8;obtain⟨d,e3,_,fd⟩:=eqB C.ct 7;go_enter func144,ntmps144;cases b
 .cases c
  .have HR:Hid (dlC C bit = { C with ct:=C.ct+1 }):=by show _=_;unfold dlC;rw[qa (by simpa using fb.o),qa (by simpa using fc.o)]
   have H3:Hid (mx w0 M G f1 f3 nm { C with ct:=(C.ct+1) } (World.setCell W ⟨M,4,nn⟩ (I J (C.ct+1)))):=(H0.o.set 4 (I J (C.ct+1)) { C with ct:=(C.ct+1) } rfl rfl)
   go_wp2_with fail;refine bN ?_
   exact⟨rfl,by rw[HR.o];exact H3.o⟩
  .have HR:Hid (dlC C bit = { C with p:=5,ct:=0,ov:=false }):=by show _=_;unfold dlC;rw[qa (by simpa using fb.o),qc (by simpa using fc.o)]
   have H3:Hid (mx w0 M G f1 f3 nm { C with p:=5,ct:=0,ov:=false } (World.setCell (World.setCell (World.setCell (World.setCell W ⟨M,4,nn⟩ (I J (C.ct+1))) ⟨M,3,nn⟩ (I J 5)) ⟨M,4,nn⟩ (I J 0)) ⟨M,7,nn⟩ (bO false))):=((((H0.o.set 4 (I J (C.ct+1)) { C with ct:=(C.ct+1) } rfl rfl).set 3 (I J 5) { C with ct:=(C.ct+1),p:=5 } rfl rfl).set 4 (I J 0) { C with p:=5,ct:=0 } rfl rfl).set 7 (bO false) { C with p:=5,ct:=0,ov:=false } rfl rfl)
   go_wp2_with fail;refine bN ?_
   exact⟨rfl,by rw[HR.o];exact H3.o⟩
 .cases d
  .have HR:Hid (dlC C bit=aS C 3):=by show _=_;unfold dlC;rw[qc (by simpa using fb.o),qa (by simpa using fd.o)]
   go_wp2_with fail;refine (HFL.o 3).mono ?_;rintro o w1 ⟨rfl,h1⟩;have H1:=DU h1;clear h1;go_wp2_with fail;refine bN ?_
   exact⟨rfl,by rw[HR.o];exact H1.o⟩
  .have HR:Hid (dlC C bit=ovC C):=by show _=_;unfold dlC;rw[qc (by simpa using fb.o),qc (by simpa using fd.o)]
   go_wp2_with fail;refine (Gw H0.o).mono ?_;rintro o w1 ⟨rfl,h1⟩;have H1:=DU h1;clear h1;go_wp2_with fail;refine bN ?_
   exact⟨rfl,by rw[HR.o];exact H1.o⟩
def wfX (X:Co) (bit:Int):Co:=if bit=X.lv then (if X.ct+1=6 then { X with p:=3,ct:=0,lv:=0,wk:=false,ow:=false } else { X with ct:=X.ct+1,lv:=bit }) else { X with ct:=1,lv:=bit }
def wfO (C:Co) (bit:Int):Co:=if C.ow=true/\bit=0 then oX { C with ow:=false } C.tx 8 else C
def KG (C:Co) (bit:Int):(wfO C bit).ct=C.ct:=by unfold wfO oX;split <;> (try split) <;> rfl
def KH (h:mx w0 M G f1 f3 nm C W) (bit:Int) (hc:0<=C.ct/\C.ct<=200) (ht:0<=C.te/\C.te<=256) (hr:0<=C.re/\C.re<=255) :
  Calls Tp 183 #[pT (sQ ⟨M,0,nn⟩),I J bit] W fun o w'=>o = rT (.tuple #[])/\mx w0 M G f1 f3 nm (wfX (wfO C bit) bit) w':=by
 have H0:Hid (mx w0 M G f1 f3 nm C W):=h;have HAD:Hid (Calls Tp 185 #[pT (sQ ⟨M,0,nn⟩),bO C.tx,I J 8] ((World.setCell W ⟨M,8,nn⟩ (bO false))).drew fun o w'=>o = rT (.tuple #[])/\mx w0 M G f1 f3 nm (oX { C with ow:=false } C.tx 8) w'):=(((H0.o.set 8 (bO false) { C with ow:=false } rfl rfl)).below (bW _ _).drew).add C.tx 8 (by decide) ht hr;have HC:Hid (0<=C.ct/\C.ct<=200):=hc;have y8:=h.m.cell 8 (bO C.ow) rfl;have y9:=h.m.cell 9 (bO C.tx) rfl;have z8:=h.m.free 8;clear h ht hr hc;obtain⟨b,e,_,fb⟩:=eqB bit 0;obtain⟨ow,eow⟩ : ∃ b,C.ow=b:=⟨_,rfl⟩
 rw[eow] at y8;have HW:Hid (C.ow=ow):=eow;clear eow;go_enter func183,ntmps183;go_upto_region 0 with fail
 go_cut [12] (fun x wx=>x = bO (ow && b)/\wx=W);case first=>
  cases ow <;> cases b <;> (
   go_wp2_with fail;go_meet
   case rel=>exact⟨rfl,rfl⟩)
 case rest=>
 obtain⟨rfl,hw⟩:=hcut;subst hw;obtain⟨c,ec⟩ : ∃ c,(ow && b)=c:=⟨_,rfl⟩
 rw[ec];have HE:Hid (wfO C bit=if c=true then oX { C with ow:=false } C.tx 8 else C):=by
  have hc:(C.ow=true/\bit=0)↔c=true:=by rw[<- ec,HW.o,<- fb.o];cases ow <;> cases b <;> simp
  show _=_;unfold wfO;simp only[hc]
 clear ec e fb HW;go_upto_if 12 with fail
 go_cut [] (fun wx=>Hid (mx w0 M G f1 f3 nm (wfO C bit) wx));case first=>
  cases c
  .go_wp2_with fail;go_meet;case rel=>rw[HE.o];exact H0.o
  .go_wp2_with fail;go_region_with (go_at_call 185;refine HAD.o.mono ?_;rintro o w1 ⟨rfl,h1⟩;have H1:=DU h1;clear h1)
   all_goals (
    go_wp2_with fail;go_meet
    case rel=>rw[HE.o];exact H1.o)
 case rest=>
 obtain⟨X,eX⟩ : ∃ X,wfO C bit=X:=⟨_,rfl⟩
 have HC2:Hid (0<=X.ct/\X.ct<=200):=by rw[<- eX,KG];exact HC.o
 rw[eX] at hcut;have HEX:Hid (wfO C bit=X):=eX;clear eX HE HAD H0 HC y8 y9 z8;have H0:=hcut;clear hcut;have y3:=H0.o.m.cell 3 (I J X.p) rfl;have y4:=H0.o.m.cell 4 (I J X.ct) rfl;have y5:=H0.o.m.cell 5 (I J X.lv) rfl;have y6:=H0.o.m.cell 6 (bO X.wk) rfl;have y8:=H0.o.m.cell 8 (bO X.ow) rfl;have z3:=H0.o.m.free 3;have z4:=H0.o.m.free 4;have z5:=H0.o.m.free 5;have z6:=H0.o.m.free 6;have z8:=H0.o.m.free 8;have hw:=pf HC2.o;clear HC2;obtain⟨b,e,n,fb⟩:=eqB bit X.lv;obtain⟨d,e2,_,fd⟩:=eqB (X.ct+1) 6;cases b
 .have HR:Hid (wfX X bit = { X with ct:=1,lv:=bit }):=by show _=_;unfold wfX;rw[qa (by simpa using fb.o)]
  have H3:Hid (mx w0 M G f1 f3 nm { X with ct:=1,lv:=bit } (World.setCell (World.setCell (World.setCell wc ⟨M,4,nn⟩ (I J 0)) ⟨M,4,nn⟩ (I J 1)) ⟨M,5,nn⟩ (I J bit))):=(((H0.o.set 4 (I J 0) { X with ct:=0 } rfl rfl).set 4 (I J 1) { X with ct:=1 } rfl rfl).set 5 (I J bit) { X with ct:=1,lv:=bit } rfl rfl)
  go_wp2_with fail;refine bN ?_
  exact⟨rfl,by rw[HEX.o,HR.o];exact H3.o⟩
 .cases d
  .have HR:Hid (wfX X bit = { X with ct:=X.ct+1,lv:=bit }):=by show _=_;unfold wfX;rw[qc (by simpa using fb.o),qa (by simpa using fd.o)]
   have H3:Hid (mx w0 M G f1 f3 nm { X with ct:=(X.ct+1),lv:=bit } (World.setCell (World.setCell wc ⟨M,4,nn⟩ (I J (X.ct+1))) ⟨M,5,nn⟩ (I J bit))):=((H0.o.set 4 (I J (X.ct+1)) { X with ct:=(X.ct+1) } rfl rfl).set 5 (I J bit) { X with ct:=(X.ct+1),lv:=bit } rfl rfl)
   go_wp2_with fail;refine bN ?_
   exact⟨rfl,by rw[HEX.o,HR.o];exact H3.o⟩
  .have HR:Hid (wfX X bit = { X with p:=3,ct:=0,lv:=0,wk:=false,ow:=false }):=by show _=_;unfold wfX;rw[qc (by simpa using fb.o),qc (by simpa using fd.o)]
   have H3:Hid (mx w0 M G f1 f3 nm { X with p:=3,ct:=0,lv:=0,wk:=false,ow:=false } (World.setCell (World.setCell (World.setCell (World.setCell (World.setCell (World.setCell (World.setCell wc ⟨M,4,nn⟩ (I J (X.ct+1))) ⟨M,5,nn⟩ (I J bit)) ⟨M,3,nn⟩ (I J 3)) ⟨M,4,nn⟩ (I J 0)) ⟨M,5,nn⟩ (I J 0)) ⟨M,6,nn⟩ (bO false)) ⟨M,8,nn⟩ (bO false))):=(((((((H0.o.set 4 (I J (X.ct+1)) { X with ct:=(X.ct+1) } rfl rfl).set 5 (I J bit) { X with ct:=(X.ct+1),lv:=bit } rfl rfl).set 3 (I J 3) { X with ct:=(X.ct+1),lv:=bit,p:=3 } rfl rfl).set 4 (I J 0) { X with lv:=bit,p:=3,ct:=0 } rfl rfl).set 5 (I J 0) { X with p:=3,ct:=0,lv:=0 } rfl rfl).set 6 (bO false) { X with p:=3,ct:=0,lv:=0,wk:=false } rfl rfl).set 8 (bO false) { X with p:=3,ct:=0,lv:=0,wk:=false,ow:=false } rfl rfl)
   go_wp2_with fail;refine bN ?_
   exact⟨rfl,by rw[HEX.o,HR.o];exact H3.o⟩
end
section
variable {w0 : World} {M : Nat} {G : Lg} {f1 f3 nm : Nat} {C : Co} {W : World}
def flC (C:Co) (bit:Int):Co:=if C.wk=true then wfX (wfO C bit) bit else if bit=1 then aS C 1 else if C.ct+1=6 then { C with p:=3,ct:=0 } else { C with ct:=C.ct+1 }
def Ku (h:mx w0 M G f1 f3 nm C W) (bit:Int) (hc:0<=C.ct/\C.ct<=200) (ht:0<=C.te/\C.te<=256) (hr:0<=C.re/\C.re<=255) (hwf:∀ j (hj:j<C.ho.bx.length),(Lit.int .i64 C.ho.bx[j].y).wf=true) :
  Calls Tp 142 #[pT (sQ ⟨M,0,nn⟩),I J bit] W fun o w'=>o = rT (.tuple #[])/\mx w0 M G f1 f3 nm (flC C bit) w':=by
 have H0:Hid (mx w0 M G f1 f3 nm C W):=h;have HFL:Hid (∀ k,Calls Tp 184 #[pT (sQ ⟨M,0,nn⟩),I J k] W fun o w'=>o = rT (.tuple #[])/\mx w0 M G f1 f3 nm (aS C k) w'):=fun k=>h.fault k ht hr hwf;have HWK:Hid (Calls Tp 183 #[pT (sQ ⟨M,0,nn⟩),I J bit] W fun o w'=>o = rT (.tuple #[])/\mx w0 M G f1 f3 nm (wfX (wfO C bit) bit) w'):=KH h bit hc ht hr;have y3:=h.m.cell 3 (I J C.p) rfl;have y4:=h.m.cell 4 (I J C.ct) rfl;have y6:=h.m.cell 6 (bO C.wk) rfl;have z3:=h.m.free 3;have z4:=h.m.free 4;clear h ht hr hwf;have hw:=pf hc;clear hc;obtain⟨wk,ewk⟩ : ∃ b,C.wk=b:=⟨_,rfl⟩
 rw[ewk] at y6;have fwk:Hid (wk=true↔C.wk=true):=by show _↔_;rw[ewk]
 clear ewk;obtain⟨b,e,_,fb⟩:=eqB bit 1;obtain⟨c,e2,_,fc⟩:=eqB (C.ct+1) 6;go_enter func142,ntmps142;cases wk
 .cases b
  .cases c
   .have HR:Hid (flC C bit = { C with ct:=C.ct+1 }):=by show _=_;unfold flC;rw[qa (by simpa using fwk.o),qa (by simpa using fb.o),qa (by simpa using fc.o)]
    have H3:Hid (mx w0 M G f1 f3 nm { C with ct:=(C.ct+1) } (World.setCell W ⟨M,4,nn⟩ (I J (C.ct+1)))):=(H0.o.set 4 (I J (C.ct+1)) { C with ct:=(C.ct+1) } rfl rfl)
    go_wp2_with fail;refine bN ?_
    exact⟨rfl,by rw[HR.o];exact H3.o⟩
   .have HR:Hid (flC C bit = { C with p:=3,ct:=0 }):=by show _=_;unfold flC;rw[qa (by simpa using fwk.o),qa (by simpa using fb.o),qc (by simpa using fc.o)]
    have H3:Hid (mx w0 M G f1 f3 nm { C with p:=3,ct:=0 } (World.setCell (World.setCell (World.setCell W ⟨M,4,nn⟩ (I J (C.ct+1))) ⟨M,3,nn⟩ (I J 3)) ⟨M,4,nn⟩ (I J 0))):=(((H0.o.set 4 (I J (C.ct+1)) { C with ct:=(C.ct+1) } rfl rfl).set 3 (I J 3) { C with ct:=(C.ct+1),p:=3 } rfl rfl).set 4 (I J 0) { C with p:=3,ct:=0 } rfl rfl)
    go_wp2_with fail;refine bN ?_
    exact⟨rfl,by rw[HR.o];exact H3.o⟩
  .have HR:Hid (flC C bit=aS C 1):=by show _=_;unfold flC;rw[qa (by simpa using fwk.o),qc (by simpa using fb.o)]
   go_wp2_with fail;refine (HFL.o 1).mono ?_;rintro o w1 ⟨rfl,h1⟩;have H1:=DU h1;clear h1;go_wp2_with fail;refine bN ?_
   exact⟨rfl,by rw[HR.o];exact H1.o⟩
 .have HR:Hid (flC C bit=wfX (wfO C bit) bit):=by show _=_;unfold flC;rw[qc (by simpa using fwk.o)]
  go_wp2_with fail;refine (HWK.o).mono ?_;rintro o w1 ⟨rfl,h1⟩;have H1:=DU h1;clear h1;go_wp2_with fail;refine bN ?_
  exact⟨rfl,by rw[HR.o];exact H1.o⟩
def waC (C:Co) (bit:Int):Co:=if bit=1 then { C with p:=4,ct:=1 } else if (C.ct+1=1/\C.tx=false/\C.ov=false)\/C.ct+1=8 then oX { C with ct:=C.ct+1 } C.tx 8 else if C.ct+1=16 then { oX { C with ct:=C.ct+1 } C.tx 8 with ct:=8 } else { C with ct:=C.ct+1 }
def KI (h:mx w0 M G f1 f3 nm C W) (bit:Int) (hc:0<=C.ct/\C.ct<=200) (ht:0<=C.te/\C.te<=256) (hr:0<=C.re/\C.re<=255) :
  Calls Tp 143 #[pT (sQ ⟨M,0,nn⟩),I J bit] W fun o w'=>o = rT (.tuple #[])/\mx w0 M G f1 f3 nm (waC C bit) w':=by
 have H0:Hid (mx w0 M G f1 f3 nm C W):=h;have HA0:Hid (∀ b,Calls Tp 185 #[pT (sQ ⟨M,0,nn⟩),bO b,I J 8] ((World.setCell W ⟨M,4,nn⟩ (I J (C.ct+1)))).drew fun o w'=>o = rT (.tuple #[])/\mx w0 M G f1 f3 nm (oX { C with ct:=C.ct+1 } b 8) w'):=fun b=>(((H0.o.set 4 (I J (C.ct+1)) { C with ct:=(C.ct+1) } rfl rfl)).below (bW _ _).drew).add b 8 (by decide) ht hr;have y3:=h.m.cell 3 (I J C.p) rfl;have y4:=h.m.cell 4 (I J C.ct) rfl;have y7:=h.m.cell 7 (bO C.ov) rfl;have y9:=h.m.cell 9 (bO C.tx) rfl;have z3:=h.m.free 3;have z4:=h.m.free 4;clear h ht hr;have hw:=pf hc;clear hc;obtain⟨tx,etx⟩ : ∃ b,C.tx=b:=⟨_,rfl⟩
 obtain⟨ov,eov⟩ : ∃ b,C.ov=b:=⟨_,rfl⟩
 rw[etx] at y9;rw[eov] at y7;obtain⟨b,e,_,fb⟩:=eqB bit 1;obtain⟨d1,e1,_,f1⟩:=eqB (C.ct+1) 1;obtain⟨d8,e8,_,f8⟩:=eqB (C.ct+1) 8;obtain⟨d16,e16,_,f16⟩:=eqB (C.ct+1) 16;have HQ:Hid (waC C bit=if b=true then { C with p:=4,ct:=1 } else if ((d1 && !tx && !ov) || d8)=true then oX { C with ct:=C.ct+1 } tx 8 else if d16=true then { oX { C with ct:=C.ct+1 } tx 8 with ct:=8 } else { C with ct:=C.ct+1 }):=by
  show _=_;have h1:(((d1 && !tx && !ov) || d8)=true)↔((C.ct+1=1/\C.tx=false/\C.ov=false)\/C.ct+1=8):=by rw[<- f1.o,<- f8.o,etx,eov];cases d1 <;> cases tx <;> cases ov <;> cases d8 <;> simp
  unfold waC;simp only[h1,fb.o,f16.o,etx]
 have HAD:=HA0.o tx;have HAD:=DU HAD;clear HA0 etx eov fb f1 f8 f16;go_enter func143,ntmps143;cases b
 .cases d1
  .cases d8
   .cases d16
    .have HR:Hid (waC C bit = { C with ct:=C.ct+1 }):=HQ.o;have H3:Hid (mx w0 M G f1 f3 nm { C with ct:=(C.ct+1) } (World.setCell W ⟨M,4,nn⟩ (I J (C.ct+1)))):=(H0.o.set 4 (I J (C.ct+1)) { C with ct:=(C.ct+1) } rfl rfl)
     go_wp2_with fail;refine bN ?_
     exact⟨rfl,by rw[HR.o];exact H3.o⟩
    .have HR:Hid (waC C bit = { oX { C with ct:=C.ct+1 } tx 8 with ct:=8 }):=HQ.o;go_wp2_with fail;go_region_with (go_at_call 185;refine HAD.o.mono ?_;rintro o w1 ⟨rfl,h1⟩;have H1:=DU h1;clear h1)
     all_goals (
      have u4:=H1.o.m.cell 4 (I J (oX { C with ct:=C.ct+1 } tx 8).ct) rfl
      have v4:=H1.o.m.free 4
      have H5:Hid (mx w0 M G f1 f3 nm { oX { C with ct:=C.ct+1 } tx 8 with ct:=8 } (World.setCell w1 ⟨M,4,nn⟩ (I J 8))):=H1.o.set 4 (I J 8) _ rfl rfl
      go_wp2_with fail;refine bN ?_
      exact⟨rfl,by rw[HR.o];exact H5.o⟩)
   .have HR:Hid (waC C bit=oX { C with ct:=C.ct+1 } tx 8):=HQ.o;go_wp2_with fail;go_region_with (go_at_call 185;refine HAD.o.mono ?_;rintro o w1 ⟨rfl,h1⟩;have H1:=DU h1;clear h1)
    all_goals (
     go_wp2_with fail;refine bN ?_
     exact⟨rfl,by rw[HR.o];exact H1.o⟩)
  .cases tx
   .cases ov
    .have HR:Hid (waC C bit=oX { C with ct:=C.ct+1 } false 8):=HQ.o;go_wp2_with fail;go_region_with (go_at_call 185;refine HAD.o.mono ?_;rintro o w1 ⟨rfl,h1⟩;have H1:=DU h1;clear h1)
     all_goals (
      go_wp2_with fail;refine bN ?_
      exact⟨rfl,by rw[HR.o];exact H1.o⟩)
    .cases d8
     .cases d16
      .have HR:Hid (waC C bit = { C with ct:=C.ct+1 }):=HQ.o;have H3:Hid (mx w0 M G f1 f3 nm { C with ct:=(C.ct+1) } (World.setCell W ⟨M,4,nn⟩ (I J (C.ct+1)))):=(H0.o.set 4 (I J (C.ct+1)) { C with ct:=(C.ct+1) } rfl rfl)
       go_wp2_with fail;refine bN ?_
       exact⟨rfl,by rw[HR.o];exact H3.o⟩
      .have HR:Hid (waC C bit = { oX { C with ct:=C.ct+1 } false 8 with ct:=8 }):=HQ.o;go_wp2_with fail;go_region_with (go_at_call 185;refine HAD.o.mono ?_;rintro o w1 ⟨rfl,h1⟩;have H1:=DU h1;clear h1)
       all_goals (
        have u4:=H1.o.m.cell 4 (I J (oX { C with ct:=C.ct+1 } false 8).ct) rfl
        have v4:=H1.o.m.free 4
        have H5:Hid (mx w0 M G f1 f3 nm { oX { C with ct:=C.ct+1 } false 8 with ct:=8 } (World.setCell w1 ⟨M,4,nn⟩ (I J 8))):=H1.o.set 4 (I J 8) _ rfl rfl
        go_wp2_with fail;refine bN ?_
        exact⟨rfl,by rw[HR.o];exact H5.o⟩)
     .have HR:Hid (waC C bit=oX { C with ct:=C.ct+1 } false 8):=HQ.o;go_wp2_with fail;go_region_with (go_at_call 185;refine HAD.o.mono ?_;rintro o w1 ⟨rfl,h1⟩;have H1:=DU h1;clear h1)
      all_goals (
       go_wp2_with fail;refine bN ?_
       exact⟨rfl,by rw[HR.o];exact H1.o⟩)
   .cases d8
    .cases d16
     .have HR:Hid (waC C bit = { C with ct:=C.ct+1 }):=HQ.o;have H3:Hid (mx w0 M G f1 f3 nm { C with ct:=(C.ct+1) } (World.setCell W ⟨M,4,nn⟩ (I J (C.ct+1)))):=(H0.o.set 4 (I J (C.ct+1)) { C with ct:=(C.ct+1) } rfl rfl)
      go_wp2_with fail;refine bN ?_
      exact⟨rfl,by rw[HR.o];exact H3.o⟩
     .have HR:Hid (waC C bit = { oX { C with ct:=C.ct+1 } true 8 with ct:=8 }):=HQ.o;go_wp2_with fail;go_region_with (go_at_call 185;refine HAD.o.mono ?_;rintro o w1 ⟨rfl,h1⟩;have H1:=DU h1;clear h1)
      all_goals (
       have u4:=H1.o.m.cell 4 (I J (oX { C with ct:=C.ct+1 } true 8).ct) rfl
       have v4:=H1.o.m.free 4
       have H5:Hid (mx w0 M G f1 f3 nm { oX { C with ct:=C.ct+1 } true 8 with ct:=8 } (World.setCell w1 ⟨M,4,nn⟩ (I J 8))):=H1.o.set 4 (I J 8) _ rfl rfl
       go_wp2_with fail;refine bN ?_
       exact⟨rfl,by rw[HR.o];exact H5.o⟩)
    .have HR:Hid (waC C bit=oX { C with ct:=C.ct+1 } true 8):=HQ.o;go_wp2_with fail;go_region_with (go_at_call 185;refine HAD.o.mono ?_;rintro o w1 ⟨rfl,h1⟩;have H1:=DU h1;clear h1)
     all_goals (
      go_wp2_with fail;refine bN ?_
      exact⟨rfl,by rw[HR.o];exact H1.o⟩)
 .have HR:Hid (waC C bit = { C with p:=4,ct:=1 }):=HQ.o;have H3:Hid (mx w0 M G f1 f3 nm { C with p:=4,ct:=1 } (World.setCell (World.setCell W ⟨M,3,nn⟩ (I J 4)) ⟨M,4,nn⟩ (I J 1))):=((H0.o.set 3 (I J 4) { C with p:=4 } rfl rfl).set 4 (I J 1) { C with p:=4,ct:=1 } rfl rfl)
  go_wp2_with fail;refine bN ?_
  exact⟨rfl,by rw[HR.o];exact H3.o⟩
end
section
variable {w0 : World} {M : Nat} {G : Lg} {f1 f3 nm : Nat} {C : Co} {W : World}
def bkC (C:Co):Co:=⟨0,0,0,false,false,false,false,false,0,0,0,C.ho⟩
def mx.mom (h:mx w0 M G f1 f3 nm C W):mx w0 M G f1 f3 nm ⟨0,0,0,false,false,false,false,false,0,C.te,C.re,C.ho⟩ (W.setCells M 3 [I J 0,I J 0,I J 0,bO false,bO false,bO false,bO false,bO false,I J 0]):=by
 obtain⟨hs,D,h⟩:=h;refine⟨hs,D,?_,?_,h.o,h.e⟩
 .have h':blk W M ([pT (sQ ⟨G.P,0,nn⟩),I J C.te,I J C.re]++[I J C.p,I J C.ct,I J C.lv,bO C.wk,bO C.ov,bO C.ow,bO C.tx,bO C.ak,I J C.rn]++(sgF G.s++prL)) 147:=h.m;exact blk.put [pT (sQ ⟨G.P,0,nn⟩),I J C.te,I J C.re] [I J C.p,I J C.ct,I J C.lv,bO C.wk,bO C.ov,bO C.ow,bO C.tx,bO C.ak,I J C.rn] (sgF G.s++prL) [I J 0,I J 0,I J 0,bO false,bO false,bO false,bO false,bO false,I J 0] h' rfl
 .exact h.h.other M h.o (fun q hq=>sO _ q hq _ _ _) (sZ ..) (sW h.o.2.2.2.2.2.2 3 _ h.h.b) h.e
def MG {V:World} (e:W=V) (h:mx w0 M G f1 f3 nm C W):Hid (mx w0 M G f1 f3 nm C V):=by rw[<- e];exact h
def IV (h:mx w0 M G f1 f3 nm C W) :
  Calls Tp 189 #[pT (sQ ⟨M,0,nn⟩)] W fun o w'=>o = rT (.tuple #[])/\mx w0 M G f1 f3 nm (bkC C) w':=by
 have H0:Hid (mx w0 M G f1 f3 nm C W):=h;clear h;go_enter func189,ntmps189
 go_upto_region 1 with (refine Zs 137 #[I J 0,I J 0,I J 0,bO false,bO false,bO false,bO false,bO false,I J 0] (H0.o.m.there 3 9 (by rw[II];decide)) L3 (QK (by simp[Value.oneCell'])) ?_;generalize hW4:World.setCells W M 3 _=w4;have H4:=MG hW4 H0.o.mom;clear hW4)
 obtain⟨X,eX⟩ : ∃ X:Co,X=⟨0,0,0,false,false,false,false,false,0,C.te,C.re,C.ho⟩:=⟨_,rfl⟩
 rw[<- eX] at H4;have HB:Hid ({ X with te:=0,re:=0 }=bkC C):=by show _=_;rw[eX];rfl
 clear eX;have y1:=H4.o.m.cell 1 (I J X.te) rfl;have y2:=H4.o.m.cell 2 (I J X.re) rfl;have z1:=H4.o.m.free 1;have z2:=H4.o.m.free 2;have H5:Hid (mx w0 M G f1 f3 nm { X with te:=0,re:=0 } (World.setCell (World.setCell w4 ⟨M,1,nn⟩ (I J 0)) ⟨M,2,nn⟩ (I J 0))):=((H4.o.set 1 (I J 0) { X with te:=0 } rfl rfl).set 2 (I J 0) { X with te:=0,re:=0 } rfl rfl)
 go_wp2_with fail;refine bN ?_
 exact⟨rfl,by rw[<- HB.o];exact H5.o⟩
def ofC (C:Co) (bit:Int):Co:=if C.ak=true then (if bit=0 then { C with ct:=0 } else if C.ct+1=11 then (if C.rn+1=128 then bkC C else { C with ct:=0,rn:=C.rn+1 }) else { C with ct:=C.ct+1 }) else C
def KU (h:mx w0 M G f1 f3 nm C W) (bit:Int) (hc:0<=C.ct/\C.ct<=200) (hn:0<=C.rn/\C.rn<128) :
  Calls Tp 147 #[pT (sQ ⟨M,0,nn⟩),I J bit] W fun o w'=>o = rT (.tuple #[])/\mx w0 M G f1 f3 nm (ofC C bit) w':=by
 have H0:Hid (mx w0 M G f1 f3 nm C W):=h;have y4:=h.m.cell 4 (I J C.ct) rfl;have y10:=h.m.cell 10 (bO C.ak) rfl;have y11:=h.m.cell 11 (I J C.rn) rfl;have z4:=h.m.free 4;have z11:=h.m.free 11;clear h;have hw:=pf hc;have hw2:=pf (n:=C.rn) om;have er:(C.rn == 128)=false:=by simp;omega
 clear hc hn;obtain⟨ak,eak⟩ : ∃ b,C.ak=b:=⟨_,rfl⟩
 rw[eak] at y10;have fak:Hid (ak=true↔C.ak=true):=by show _↔_;rw[eak]
 clear eak;obtain⟨b,e,_,fb⟩:=eqB bit 0;obtain⟨c,e2,_,fc⟩:=eqB (C.ct+1) 11;obtain⟨d,e3,_,fd⟩:=eqB (C.rn+1) 128;have HBK:Hid (∀ X V,mx w0 M G f1 f3 nm X V->Calls Tp 189 #[pT (sQ ⟨M,0,nn⟩)] V fun o w'=>o = rT (.tuple #[])/\mx w0 M G f1 f3 nm (bkC X) w'):=fun X V hV=>IV hV;go_enter func147,ntmps147;cases ak
 .have HR:Hid (ofC C bit=C):=by show _=_;unfold ofC;rw[qa (by simpa using fak.o)]
  have H3:Hid (mx w0 M G f1 f3 nm C W):=H0.o;go_wp2_with fail;refine bN ?_
  exact⟨rfl,by rw[HR.o];exact H3.o⟩
 .cases b
  .cases c
   .have HR:Hid (ofC C bit = { C with ct:=C.ct+1 }):=by show _=_;unfold ofC;rw[qc (by simpa using fak.o),qa (by simpa using fb.o),qa (by simpa using fc.o)]
    have H3:Hid (mx w0 M G f1 f3 nm { C with ct:=(C.ct+1) } (World.setCell W ⟨M,4,nn⟩ (I J (C.ct+1)))):=(H0.o.set 4 (I J (C.ct+1)) { C with ct:=(C.ct+1) } rfl rfl)
    go_wp2_with fail;refine bN ?_
    exact⟨rfl,by rw[HR.o];exact H3.o⟩
   .cases d
    .have HR:Hid (ofC C bit = { C with ct:=0,rn:=C.rn+1 }):=by show _=_;unfold ofC;rw[qc (by simpa using fak.o),qa (by simpa using fb.o),qc (by simpa using fc.o),qa (by simpa using fd.o)]
     have H3:Hid (mx w0 M G f1 f3 nm { C with ct:=0,rn:=(C.rn+1) } (World.setCell (World.setCell (World.setCell W ⟨M,4,nn⟩ (I J (C.ct+1))) ⟨M,4,nn⟩ (I J 0)) ⟨M,11,nn⟩ (I J (C.rn+1)))):=(((H0.o.set 4 (I J (C.ct+1)) { C with ct:=(C.ct+1) } rfl rfl).set 4 (I J 0) { C with ct:=0 } rfl rfl).set 11 (I J (C.rn+1)) { C with ct:=0,rn:=(C.rn+1) } rfl rfl)
     go_wp2_with fail;refine bN ?_
     exact⟨rfl,by rw[HR.o];exact H3.o⟩
    .have HR:Hid (ofC C bit=bkC C):=by show _=_;unfold ofC;rw[qc (by simpa using fak.o),qa (by simpa using fb.o),qc (by simpa using fc.o),qc (by simpa using fd.o)]
     have H6:Hid (mx w0 M G f1 f3 nm { C with ct:=0,rn:=(C.rn+1) } (World.setCell (World.setCell (World.setCell W ⟨M,4,nn⟩ (I J (C.ct+1))) ⟨M,4,nn⟩ (I J 0)) ⟨M,11,nn⟩ (I J (C.rn+1)))):=(((H0.o.set 4 (I J (C.ct+1)) { C with ct:=(C.ct+1) } rfl rfl).set 4 (I J 0) { C with ct:=0 } rfl rfl).set 11 (I J (C.rn+1)) { C with ct:=0,rn:=(C.rn+1) } rfl rfl)
     go_wp2_with fail;refine (HBK.o _ _ H6.o).mono ?_;rintro o w1 ⟨rfl,h1⟩;have H1:=DU h1;clear h1;go_wp2_with fail;refine bN ?_
     exact⟨rfl,by rw[HR.o];exact H1.o⟩
  .have HR:Hid (ofC C bit = { C with ct:=0 }):=by show _=_;unfold ofC;rw[qc (by simpa using fak.o),qc (by simpa using fb.o)]
   have H3:Hid (mx w0 M G f1 f3 nm { C with ct:=0 } (World.setCell (World.setCell W ⟨M,4,nn⟩ (I J (C.ct+1))) ⟨M,4,nn⟩ (I J 0))):=((H0.o.set 4 (I J (C.ct+1)) { C with ct:=(C.ct+1) } rfl rfl).set 4 (I J 0) { C with ct:=0 } rfl rfl)
   go_wp2_with fail;refine bN ?_
   exact⟨rfl,by rw[HR.o];exact H3.o⟩
def msB (C:Co):Bool:=C.tx && (stZ C.te C.re == 1)
def Ix (h:mx w0 M G f1 f3 nm C W):Calls Tp 220 #[pT (sQ ⟨M,0,nn⟩)] W fun o w'=>o = rT (bO (msB C))/\mx w0 M G f1 f3 nm C w'/\Bl W w':=by
 have H0:Hid (mx w0 M G f1 f3 nm C W):=h;have HS:Hid (Calls Tp 216 #[pT (sQ ⟨M,0,nn⟩)] W fun o w'=>o = rT (I J (stZ C.te C.re))/\mx w0 M G f1 f3 nm C w'/\Bl W w'):=h.state;have y9:=h.m.cell 9 (bO C.tx) rfl;clear h;have HM:Hid (msB C=(C.tx && (stZ C.te C.re == 1))):=rfl;generalize stZ C.te C.re=z at *;obtain⟨tx,etx⟩ : ∃ b,C.tx=b:=⟨_,rfl⟩
 rw[etx] at y9 HM;clear etx;go_enter func220,ntmps220;cases tx
 .go_wp2_with fail;go_ret;exact⟨by rw[HM.o];rfl,H0.o,bW _ _⟩
 .go_wp2_with fail;refine HS.o.mono ?_;rintro o w1 ⟨rfl,h1,hb⟩;have H1:=DU (qG h1 hb);clear h1 hb;go_wp2_with fail;go_ret;exact⟨by rw[HM.o];rfl,H1.o⟩
def lgC (C:Co):Co:=if msB C=true then { C with ct:=0,p:=6 } else { C with ct:=0,p:=0,tx:=false }
def Kq (h:mx w0 M G f1 f3 nm C W) :
  Calls Tp 188 #[pT (sQ ⟨M,0,nn⟩)] W fun o w'=>o = rT (.tuple #[])/\mx w0 M G f1 f3 nm (lgC C) w':=by
 have H0:Hid (mx w0 M G f1 f3 nm C W):=h;have H1:Hid (mx w0 M G f1 f3 nm { C with ct:=0 } (World.setCell W ⟨M,4,nn⟩ (I J 0))):=(H0.o.set 4 (I J 0) { C with ct:=0 } rfl rfl)
 have y4:=h.m.cell 4 (I J C.ct) rfl;have z4:=h.m.free 4;clear h;have HS:Hid (Calls Tp 220 #[pT (sQ ⟨M,0,nn⟩)] (World.setCell W ⟨M,4,nn⟩ (I J 0)) fun o w'=>o = rT (bO (msB C))/\mx w0 M G f1 f3 nm { C with ct:=0 } w'/\Below ((World.setCell W ⟨M,4,nn⟩ (I J 0))).heap.size (World.setCell W ⟨M,4,nn⟩ (I J 0)) w'):=Ix H1.o;obtain⟨b,e⟩ : ∃ b,msB C=b:=⟨_,rfl⟩
 have HL:Hid (lgC C=if b=true then { C with ct:=0,p:=6 } else { C with ct:=0,p:=0,tx:=false }):=by show _=_;unfold lgC;rw[e]
 rw[e] at HS;clear e;go_enter func188,ntmps188;go_wp2_with fail;refine HS.o.mono ?_;rintro o w1 ⟨rfl,h2,_⟩;have H2:=DU h2;have y3:=h2.m.cell 3 (I J C.p) rfl;have y9:=h2.m.cell 9 (bO C.tx) rfl;have z3:=h2.m.free 3;have z9:=h2.m.free 9;clear h2 HS H1 y4 z4;cases b
 .have H3:Hid (mx w0 M G f1 f3 nm { C with ct:=0,p:=0,tx:=false } ((w1.setCell ⟨M,3,nn⟩ (I J 0)).setCell ⟨M,9,nn⟩ (bO false))):=(H2.o.set 3 (I J 0) { C with ct:=0,p:=0 } rfl rfl).set 9 (bO false) _ rfl rfl;go_wp2_with fail;refine bN ?_
  exact⟨rfl,by rw[HL.o];exact H3.o⟩
 .have H3:Hid (mx w0 M G f1 f3 nm { C with ct:=0,p:=6 } (w1.setCell ⟨M,3,nn⟩ (I J 6))):=H2.o.set 3 (I J 6) _ rfl rfl;go_wp2_with fail;refine bN ?_
  exact⟨rfl,by rw[HL.o];exact H3.o⟩
def Lj (bx:List R8):∃ r,wv bx r:=by
 rcases Classical.em (∃ i,Gg bx i) with⟨i,h⟩|h
 .exact⟨i,qx ⟨i,rfl,h⟩⟩
 .exact⟨-1,qr ⟨rfl,fun i hi=>h ⟨i,hi⟩⟩⟩
def mx.best (h:mx w0 M G f1 f3 nm C W) (hok:dw C.ho.st C.ho.bx) (r:Int) (hr:wv C.ho.bx r):Calls Tp 219 #[pT (sQ ⟨G.P,0,nn⟩)] W fun o w'=>o = rT (I J r)/\mx w0 M G f1 f3 nm C w':=by
 obtain⟨hs,D,h⟩:=h;refine (Jk W G.P _ G.n2 G.kb C.ho.bx C.ho.st (h.h.p.cell 5 _ rfl) (h.h.x.is h.h.bd.nk) h.h.bd.m2 hok).mono ?_;rintro o w' ⟨r',rfl,h1,h2⟩;exact⟨by rw[IB h1 hr],hs,D,h.below h2⟩
def mx.send (h:mx w0 M G f1 f3 nm C W) (i:Int):Calls Tp 221 #[pT (sQ ⟨G.P,0,nn⟩),I J i] W fun o w'=>o = rT (.tuple #[])/\mx w0 M G f1 f3 nm { C with ho:=eQ C.ho i } w':=by
 obtain⟨hs,D,h⟩:=h;refine (KO W G.P G.gb G.n2 G.kb C.ho.bx i (h.h.p.cell 5 _ rfl) (h.h.x.is h.h.bd.nk) h.h.x.row h.h.bd.m2).mono ?_;rintro o w' ⟨rfl,W1,hb,⟨rfl,e⟩|⟨k,hk,rfl,e,_⟩⟩
 .refine⟨rfl,hs,D,?_⟩;rw[show eQ C.ho i=C.ho by unfold eQ;rw[e]];exact h.below hb
 .have h1:=h.below hb;refine⟨rfl,hs,D,?_,?_,h.o,h.e⟩
  .exact h1.m.setOther h.o.2.2.2.1 _ _
  .rw[show eQ C.ho i=Dl C.ho k 2 by unfold eQ;rw[e,yg hk]];exact h1.h.state k hk 2
def jnC (C:Co) (r:Int):Co:=if (decide (0<=r) && !msB C)=true then { C with p:=1,ct:=0,tx:=true,ho:=eQ C.ho r } else { C with p:=1,ct:=0,tx:=false }
end
section
variable {w0 : World} {M : Nat} {G : Lg} {f1 f3 nm : Nat} {C : Co} {W : World}
def K8 (h:mx w0 M G f1 f3 nm C W) (hok:dw C.ho.st C.ho.bx) (r:Int) (hr:wv C.ho.bx r) :
  Calls Tp 187 #[pT (sQ ⟨M,0,nn⟩)] W fun o w'=>o = rT (.tuple #[])/\mx w0 M G f1 f3 nm (jnC C r) w':=by
 have HB:Hid (Calls Tp 219 #[pT (sQ ⟨G.P,0,nn⟩)] W fun o w'=>o = rT (I J r)/\mx w0 M G f1 f3 nm C w'):=h.best hok r hr;have y0:=h.m.cell 0 (pT (sQ ⟨G.P,0,nn⟩)) rfl;have HMS:Hid (∀ V,mx w0 M G f1 f3 nm C V->Calls Tp 220 #[pT (sQ ⟨M,0,nn⟩)] V fun o w'=>o = rT (bO (msB C))/\mx w0 M G f1 f3 nm C w'/\Bl V w'):=fun V hV=>Ix hV;have HSD:Hid (∀ V X,mx w0 M G f1 f3 nm X V->Calls Tp 221 #[pT (sQ ⟨G.P,0,nn⟩),I J r] V fun o w'=>o = rT (.tuple #[])/\mx w0 M G f1 f3 nm { X with ho:=eQ X.ho r } w'):=fun V X hV=>hV.send r;clear h hok hr;obtain⟨b,eb⟩ : ∃ b,decide (0<=r)=b:=⟨_,rfl⟩
 obtain⟨m,em⟩ : ∃ b,msB C=b:=⟨_,rfl⟩
 have HJ:Hid (jnC C r=if (b && !m)=true then { C with p:=1,ct:=0,tx:=true,ho:=eQ C.ho r } else { C with p:=1,ct:=0,tx:=false }):=by show _=_;unfold jnC;rw[eb,em]
 rw[em] at HMS;clear em;go_enter func187,ntmps187;go_wp2_with fail;refine HB.o.mono ?_;rintro o w1 ⟨rfl,h1⟩;have H1:=DU h1;have y3:=h1.m.cell 3 (I J C.p) rfl;have y4:=h1.m.cell 4 (I J C.ct) rfl;have y9:=h1.m.cell 9 (bO C.tx) rfl;have z3:=h1.m.free 3;have z4:=h1.m.free 4;have z9:=h1.m.free 9;have x0:=h1.m.cell 0 (pT (sQ ⟨G.P,0,nn⟩)) rfl;clear h1 HB y0;cases b
 .have H3:Hid (mx w0 M G f1 f3 nm { C with p:=1,ct:=0,tx:=false } (World.setCell (World.setCell (World.setCell w1 ⟨M,3,nn⟩ (I J 1)) ⟨M,4,nn⟩ (I J 0)) ⟨M,9,nn⟩ (bO false))):=(((H1.o.set 3 (I J 1) { C with p:=1 } rfl rfl).set 4 (I J 0) { C with p:=1,ct:=0 } rfl rfl).set 9 (bO false) { C with p:=1,ct:=0,tx:=false } rfl rfl)
  go_wp2_with fail;refine bN ?_
  exact⟨rfl,by rw[HJ.o];exact H3.o⟩
 .go_wp2_with fail;refine (HMS.o _ H1.o).mono ?_;rintro o w2 ⟨rfl,h2,_⟩;have H2:=DU h2;clear y3 y4 y9 z3 z4 z9 x0;have y3:=h2.m.cell 3 (I J C.p) rfl;have y4:=h2.m.cell 4 (I J C.ct) rfl;have y9:=h2.m.cell 9 (bO C.tx) rfl;have z3:=h2.m.free 3;have z4:=h2.m.free 4;have z9:=h2.m.free 9;have x0:=h2.m.cell 0 (pT (sQ ⟨G.P,0,nn⟩)) rfl;clear h2 HMS;cases m
  .have H3:Hid (mx w0 M G f1 f3 nm { C with p:=1,ct:=0,tx:=true } (World.setCell (World.setCell (World.setCell w2 ⟨M,3,nn⟩ (I J 1)) ⟨M,4,nn⟩ (I J 0)) ⟨M,9,nn⟩ (bO true))):=(((H2.o.set 3 (I J 1) { C with p:=1 } rfl rfl).set 4 (I J 0) { C with p:=1,ct:=0 } rfl rfl).set 9 (bO true) { C with p:=1,ct:=0,tx:=true } rfl rfl)
   go_wp2_with fail;refine (HSD.o _ _ H3.o).mono ?_;rintro o w5 ⟨rfl,h5⟩;have H5:=DU h5;clear h5;go_wp2_with fail;refine bN ?_
   exact⟨rfl,by rw[HJ.o];exact H5.o⟩
  .have H3:Hid (mx w0 M G f1 f3 nm { C with p:=1,ct:=0,tx:=false } (World.setCell (World.setCell (World.setCell w2 ⟨M,3,nn⟩ (I J 1)) ⟨M,4,nn⟩ (I J 0)) ⟨M,9,nn⟩ (bO false))):=(((H2.o.set 3 (I J 1) { C with p:=1 } rfl rfl).set 4 (I J 0) { C with p:=1,ct:=0 } rfl rfl).set 9 (bO false) { C with p:=1,ct:=0,tx:=false } rfl rfl)
   go_wp2_with fail;refine bN ?_
   exact⟨rfl,by rw[HJ.o];exact H3.o⟩
def gpC (C:Co) (bit r:Int):Co:=if bit=0 then (if C.ct<2 then ovC C else jnC C r) else if C.ct+1=3 then lgC { C with ct:=C.ct+1 } else { C with ct:=C.ct+1 }
def LF (h:mx w0 M G f1 f3 nm C W) (bit:Int) (hc:0<=C.ct/\C.ct<=200) (hok:dw C.ho.st C.ho.bx) (r:Int) (hr:wv C.ho.bx r) :
  Calls Tp 145 #[pT (sQ ⟨M,0,nn⟩),I J bit] W fun o w'=>o = rT (.tuple #[])/\mx w0 M G f1 f3 nm (gpC C bit r) w':=by
 have H0:Hid (mx w0 M G f1 f3 nm C W):=h;have HJN:Hid (Calls Tp 187 #[pT (sQ ⟨M,0,nn⟩)] W fun o w'=>o = rT (.tuple #[])/\mx w0 M G f1 f3 nm (jnC C r) w'):=K8 h hok r hr;have y4:=h.m.cell 4 (I J C.ct) rfl;have z4:=h.m.free 4;clear h hok hr;have hw:=pf hc;clear hc;have H3:Hid (mx w0 M G f1 f3 nm { C with ct:=(C.ct+1) } (World.setCell W ⟨M,4,nn⟩ (I J (C.ct+1)))):=(H0.o.set 4 (I J (C.ct+1)) { C with ct:=(C.ct+1) } rfl rfl)
 obtain⟨b,e,_,fb⟩:=eqB bit 0;obtain⟨c,e2,fc⟩:=ltB C.ct 2;obtain⟨d,e3,_,fd⟩:=eqB (C.ct+1) 3;go_enter func145,ntmps145;cases b
 .cases d
  .have HR:Hid (gpC C bit r = { C with ct:=C.ct+1 }):=by show _=_;unfold gpC;rw[qa (by simpa using fb.o),qa (by simpa using fd.o)]
   go_wp2_with fail;refine bN ?_
   exact⟨rfl,by rw[HR.o];exact H3.o⟩
  .have HR:Hid (gpC C bit r=lgC { C with ct:=C.ct+1 }):=by show _=_;unfold gpC;rw[qa (by simpa using fb.o),qc (by simpa using fd.o)]
   go_wp2_with fail;refine (Kq H3.o).mono ?_;rintro o w1 ⟨rfl,h1⟩;have H1:=DU h1;clear h1;go_wp2_with fail;refine bN ?_
   exact⟨rfl,by rw[HR.o];exact H1.o⟩
 .cases c
  .have HR:Hid (gpC C bit r=jnC C r):=by show _=_;unfold gpC;rw[qc (by simpa using fb.o),qa (by simpa using fc.o)]
   go_wp2_with fail;refine (HJN.o).mono ?_;rintro o w1 ⟨rfl,h1⟩;have H1:=DU h1;clear h1;go_wp2_with fail;refine bN ?_
   exact⟨rfl,by rw[HR.o];exact H1.o⟩
  .have HR:Hid (gpC C bit r=ovC C):=by show _=_;unfold gpC;rw[qc (by simpa using fb.o),qc (by simpa using fc.o)]
   go_wp2_with fail;refine (Gw H0.o).mono ?_;rintro o w1 ⟨rfl,h1⟩;have H1:=DU h1;clear h1;go_wp2_with fail;refine bN ?_
   exact⟨rfl,by rw[HR.o];exact H1.o⟩
def aP (C:Co) (bit r:Int):Co:=if C.p=0 then idC C bit else if C.p=2 then flC C bit else if C.p=3 then waC C bit else if C.p=4 then dlC C bit else if C.p=5 then gpC C bit r else if C.p=6 then suC C bit else if C.p=7 then ofC C bit else C
end
section
variable {w0 : World} {M : Nat} {G : Lg} {f1 f3 nm : Nat} {C : Co} {W : World}
def Gv (h:mx w0 M G f1 f3 nm C W) (bit:Int) (Q:World->Prop) (n:Nat) (hn:C.p=0/\n=140\/C.p=1/\n=141\/C.p=2/\n=142\/C.p=3/\n=143\/C.p=4/\n=144\/C.p=5/\n=145\/C.p=6/\n=146\/C.p=7/\n=147) (hc:∀ X,mx w0 M G f1 f3 nm C X->Calls Tp n #[pT (some ⟨M,0,none⟩),I J bit] X fun o w'=>o = rT (.tuple #[])/\Q w') :
  Calls Tp 291 #[pT (some ⟨M,0,none⟩),I J bit] W fun o w'=>o = rT (.tuple #[])/\Q w':=by
 have HC:=DU (hc _ (h.below (bW _ _).drew));have y3:=h.m.cell 3 (I J C.p) rfl;have y24:=h.m.cell 24 (.func (.func 140) #[] #[]) rfl;have y27:=h.m.cell 27 (.func (.func 141) #[] #[]) rfl;have y30:=h.m.cell 30 (.func (.func 142) #[] #[]) rfl;have y33:=h.m.cell 33 (.func (.func 143) #[] #[]) rfl;have y36:=h.m.cell 36 (.func (.func 144) #[] #[]) rfl;have y39:=h.m.cell 39 (.func (.func 145) #[] #[]) rfl;have y42:=h.m.cell 42 (.func (.func 146) #[] #[]) rfl;have y45:=h.m.cell 45 (.func (.func 147) #[] #[]) rfl;clear h hc;rcases hn with⟨e,rfl⟩|⟨e,rfl⟩|⟨e,rfl⟩|⟨e,rfl⟩|⟨e,rfl⟩|⟨e,rfl⟩|⟨e,rfl⟩|⟨e,rfl⟩
 all_goals
  rw[e] at y3;clear e;go_enter func291,ntmps291;go_wp2_with fail;go_region_with ((first | go_at_call 140 | go_at_call 141 | go_at_call 142 | go_at_call 143 | go_at_call 144 | go_at_call 145 | go_at_call 146 | go_at_call 147);refine HC.o.mono ?_;rintro o w1 ⟨rfl,h1⟩;have H1:=DU h1;clear h1)
  all_goals (
   go_wp2_with fail;refine bN ?_
   exact⟨rfl,H1.o⟩)
end
section
variable {w0 : World} {M : Nat} {G : Lg} {f1 f3 nm : Nat} {C : Co} {W : World}
def MV.ct {C:Co} (h:MV C):0<=C.ct/\C.ct<=200:=by
 have h1:=h.m.ct;unfold rLo rHi at h1;constructor
 .have h2:=h1.1;split at h2 <;> omega
 .have h2:=h1.2;clear h1;split at h2
  .omega
  split at h2
  .omega
  split at h2
  .omega
  split at h2
  .omega
  split at h2
  .omega
  split at h2 <;> omega
def Kc (h:mx w0 M G f1 f3 nm C W) (bit r:Int) (hk:MV C) (h1:C.p≠1) (hb:wv C.ho.bx r) :
  Calls Tp 291 #[pT (some ⟨M,0,none⟩),I J bit] W fun o w'=>o = rT (.tuple #[])/\mx w0 M G f1 f3 nm (aP C bit r) w':=by
 have hc:=hk.ct;have ht:=hk.m.te;have hr:=hk.m.re;have hn:=hk.m.rn;have hwf:=hk.h.bx.wf;have hok:=hk.h.bx;have hp:=hk.m.p;have hq:C.p=0\/C.p=2\/C.p=3\/C.p=4\/C.p=5\/C.p=6\/C.p=7:=om;rcases hq with e|e|e|e|e|e|e
 .rw[show aP C bit r=idC C bit by unfold aP;simp[e]];exact Gv h bit _ _ (by simp[e]) (fun X hX=>K9 hX bit)
 .rw[show aP C bit r=flC C bit by unfold aP;simp[e]];exact Gv h bit _ _ (by simp[e]) (fun X hX=>Ku hX bit hc ht hr hwf)
 .rw[show aP C bit r=waC C bit by unfold aP;simp[e]];exact Gv h bit _ _ (by simp[e]) (fun X hX=>KI hX bit hc ht hr)
 .rw[show aP C bit r=dlC C bit by unfold aP;simp[e]];exact Gv h bit _ _ (by simp[e]) (fun X hX=>Kw hX bit hc ht hr hwf)
 .rw[show aP C bit r=gpC C bit r by unfold aP;simp[e]];exact Gv h bit _ _ (by simp[e]) (fun X hX=>LF hX bit hc hok r hb)
 .rw[show aP C bit r=suC C bit by unfold aP;simp[e]];exact Gv h bit _ _ (by simp[e]) (fun X hX=>I7 hX bit hc)
 .rw[show aP C bit r=ofC C bit by unfold aP;simp[e]];exact Gv h bit _ _ (by simp[e]) (fun X hX=>KU hX bit hc hn)
def mx.tell (h:mx w0 M G f1 f3 nm C W) (z:Int):Calls Tp 294 #[pT (some ⟨M,0,none⟩),I J z] W fun o w'=>o = rT (.tuple #[])/\mx w0 M G f1 f3 nm (tS C z) w':=by
 obtain⟨_,_,h⟩:=h;exact (KJ h z).mono fun o w' ⟨h1,h2⟩=>⟨h1,_,_,h2⟩
def mx.told (h:mx w0 M G f1 f3 nm C W):Calls Tp 93 #[pT (some ⟨M,0,none⟩)] W (xK W C):=by
 obtain⟨_,_,h⟩:=h;exact wt W M G.P C h.m (fun Y hY=>(h.h.below hY).told)
end
open Go renaming World->Wd
set_option maxRecDepth 40000
section
variable {w3 W w2:Wd} {b m1 l1 m2 l2 m3 l3 m4 l4 B:Nat} {C:Co} {p ct lv rn te re c0 c1 c2 c3 lo st:Int} {wk ov ow tx ak:Bool} {b1 b2 b3 b4:Option Addr} {s:Sl}
def EN (p ct lv:Int) (wk ov ow tx ak:Bool) (rn te re c0 c1 c2 c3:Int) (b1:Option Addr) (m1 l1:Nat) (b2:Option Addr) (m2 l2:Nat) (b3:Option Addr) (m3 l3:Nat) (b4:Option Addr) (m4 l4:Nat) (lo st:Int):(#[I J p,I J ct,I J lv,bO wk,bO ov,bO ow,bO tx,bO ak,I J rn,I J te,I J re,I J c0,I J c1,I J c2,I J c3,sL b1 m1 l1,sL b2 m2 l2,sL b3 m3 l3,sL b4 m4 l4,I J lo,I J st]:Array Value).all (·.oneCell')=true:=
 QK (by simp[Value.oneCell'])
def zC (w:Wd) (C A B:Obj):(((w.alloc C).alloc A).alloc B).heap[w.heap.size+1]?=sQ A:=by
 rw[Below.heap_alloc _ _ _ pQ];have:=QN (w.alloc C) A;simpa using this
def tH (w:Wd) (C A B:Obj):(((w.alloc C).alloc A).alloc B).heap[w.heap.size+1+1]?=sQ B:=by
 have:=QN ((w.alloc C).alloc A) B;simpa using this
def D6 (h:w2.heap[b]?=sQ (.cells [I J p,I J ct,I J lv,bO wk,bO ov,bO ow,bO tx,bO ak,I J rn,I J te,I J re,I J 0,I J 0,I J 0,I J 0,sL nn 0 0,sL nn 0 0,sL nn 0 0,sL nn 0 0,I J 0,I J 0].toArray 43)) (e:World.setCells w2 b 11 [I J c0,I J c1,I J c2,I J c3,sL b1 m1 l1,sL b2 m2 l2,sL b3 m3 l3,sL b4 m4 l4,I J lo,I J st]=w3):w3.heap[b]?=sQ (.cells [I J p,I J ct,I J lv,bO wk,bO ov,bO ow,bO tx,bO ak,I J rn,I J te,I J re,I J c0,I J c1,I J c2,I J c3,sL b1 m1 l1,sL b2 m2 l2,sL b3 m3 l3,sL b4 m4 l4,I J lo,I J st].toArray 43):=by
 subst e;exact fB b 43 [I J c0,I J c1,I J c2,I J c3,sL b1 m1 l1,sL b2 m2 l2,sL b3 m3 l3,sL b4 m4 l4,I J lo,I J st] zX [I J p,I J ct,I J lv,bO wk,bO ov,bO ow,bO tx,bO ak,I J rn,I J te,I J re] [] w2 rfl h
def Aa {b':Nat} {l:Array Value} {vs:List Value} {o:Nat} (h:w2.heap[b]?=sQ (.cells l 43)) (e:World.setCells w2 b' o vs=w3) (hb:b≠b':=by omega):w3.heap[b]?=sQ (.cells l 43):=by
 subst e;exact (sO b' b hb vs w2 o).trans h
def D5 {w4:Wd} (h:w3.heap[b]?=sQ (.cells zY.toArray 43)) (e:World.setCells w3 b 0 [I J p,I J ct,I J lv,bO wk,bO ov,bO ow,bO tx,bO ak,I J rn,I J te,I J re,I J c0,I J c1,I J c2,I J c3,sL b1 m1 l1,sL b2 m2 l2,sL b3 m3 l3,sL b4 m4 l4,I J lo,I J st]=w4):w4.heap[b]?=sQ (.cells [I J p,I J ct,I J lv,bO wk,bO ov,bO ow,bO tx,bO ak,I J rn,I J te,I J re,I J c0,I J c1,I J c2,I J c3,sL b1 m1 l1,sL b2 m2 l2,sL b3 m3 l3,sL b4 m4 l4,I J lo,I J st].toArray 43):=by
 subst e;exact fB b 43 [I J p,I J ct,I J lv,bO wk,bO ov,bO ow,bO tx,bO ak,I J rn,I J te,I J re,I J c0,I J c1,I J c2,I J c3,sL b1 m1 l1,sL b2 m2 l2,sL b3 m3 l3,sL b4 m4 l4,I J lo,I J st] zY [] [] w3 rfl h
def lX (tmps:Array Value) (w:Wd) (b:Nat) (V:Value) (h2:tmps.getD 2 undef = pT (sQ ⟨b,0,nn⟩)) (hL:(loadVar 43 ⟨b,0,nn⟩).run Tp w = .ok V w):(results Tryz.f17 tmps).run Tp w = .ok V w:=by
 simp only[Array.getD_eq_getD_getElem?] at h2;simp[results,results17,h2,asAddr,hL]
def Dd (w:Wd) (C:Co) (s:Sl) (h:aK w C.ho s) (hn:C.ho.le 1048576) :
  Calls Tp 17 #[aG (coL C s).toArray] w fun o w'=>∃ s':Wh,o = rT (aG (coL C s'.sl).toArray)/\St w.heap.size w' (fun W=>aK W C.ho s'.sl)/\whS w.heap.size w'.heap.size w' s'/\whD s'/\dz s'.sl/\Bl w w':=by
 have HC:Hid (∀ X,Bl w X->w.heap.size+3<=X.heap.size->Calls Tp 35 #[hoV C.ho s] X fun o w'=>∃ s':Wh,o = rT (hoV C.ho s'.sl)/\(St (w.heap.size+3) w' (fun W=>aK W C.ho s'.sl)/\whS (w.heap.size+3) w'.heap.size w' s'/\whD s'/\dz s'.sl)/\Bl w w'/\Bl X w'):=by
  intro X hX hz;rw[Gt];refine (FH X C.ho s (h.below hX) hn).mono ?_;rintro o w' ⟨s',rfl,h1,h2,h3,h4,h5⟩;exact⟨s',by rw[Gt],⟨h1.mono hz,h2.mono hz (nR _),h3,h4⟩,hX.trans (h5.mono hX.size),h5⟩
 clear h hn;show Calls Tp 17 #[coV C s] w _;obtain⟨p,ct,lv,wk,ov,ow,tx,ak,rn,te,re,⟨c0,c1,c2,c3,fs,bx,ff,qu,lo,st⟩⟩:=C;obtain⟨a1,n1,k1,a2,n2,k2,a3,n3,k3,a4,n4,k4⟩:=s;go_enter func17,ntmps17;go_wp2_with (first | (go_at_call 35;refine (HC.o _ (by (repeat refine Below.setCell ?_ (by simp;try omega) _);exact (Zw.alloc pQ _).alloc (by simp;omega) _) pQ).mono ?_;rintro o w2 ⟨s',rfl,S2,B2,K2⟩;have HO2:Hid (w2.heap[w.heap.size+1+1]?=sQ (.cells [I J p,I J ct,I J lv,bO wk,bO ov,bO ow,bO tx,bO ak,I J rn,I J te,I J re,I J 0,I J 0,I J 0,I J 0,sL nn 0 0,sL nn 0 0,sL nn 0 0,sL nn 0 0,I J 0,I J 0].toArray 43)):=(K2.block (w.heap.size+1+1) pQ).trans (tH w _ _ _);have HR2:Hid (w2.heap[w.heap.size+1]?=sQ (.cells zY.toArray 43)):=(K2.block (w.heap.size+1) pQ).trans (zC w _ _ _);have HS:Hid _:=S2;have HB:Hid _:=B2;clear S2 B2 K2) | (refine Zs 41 #[I J c0,I J c1,I J c2,I J c3,sL s'.sl.a1 s'.sl.n1 s'.sl.k1,sL s'.sl.a2 s'.sl.n2 s'.sl.k2,sL s'.sl.a3 s'.sl.n3 s'.sl.k3,sL s'.sl.a4 s'.sl.n4 s'.sl.k4,I J lo,I J st] (fK HO2.o 11 10 pQ) xU (yC _ _ _ _ _ _ _ _ _ _ _ _ _ _ _ _ _ _) ?_;generalize hW3:World.setCells w2 (w.heap.size+1+1) 11 _=w3;have HW3:Hid (World.setCells w2 (w.heap.size+1+1) 11 [I J c0,I J c1,I J c2,I J c3,sL s'.sl.a1 s'.sl.n1 s'.sl.k1,sL s'.sl.a2 s'.sl.n2 s'.sl.k2,sL s'.sl.a3 s'.sl.n3 s'.sl.k3,sL s'.sl.a4 s'.sl.n4 s'.sl.k4,I J lo,I J st]=w3):=hW3;clear hW3) | (refine Zi 43 [I J p,I J ct,I J lv,bO wk,bO ov,bO ow,bO tx,bO ak,I J rn,I J te,I J re,I J c0,I J c1,I J c2,I J c3,sL s'.sl.a1 s'.sl.n1 s'.sl.k1,sL s'.sl.a2 s'.sl.n2 s'.sl.k2,sL s'.sl.a3 s'.sl.n3 s'.sl.k3,sL s'.sl.a4 s'.sl.n4 s'.sl.k4,I J lo,I J st] (dc (D6 HO2.o HW3.o)) underlying43 pw ?_) | (refine Zs 43 #[I J p,I J ct,I J lv,bO wk,bO ov,bO ow,bO tx,bO ak,I J rn,I J te,I J re,I J c0,I J c1,I J c2,I J c3,sL s'.sl.a1 s'.sl.n1 s'.sl.k1,sL s'.sl.a2 s'.sl.n2 s'.sl.k2,sL s'.sl.a3 s'.sl.n3 s'.sl.k3,sL s'.sl.a4 s'.sl.n4 s'.sl.k4,I J lo,I J st] (fK (Aa HR2.o HW3.o) 0 21 pQ) pw (EN _ _ _ _ _ _ _ _ _ _ _ _ _ _ _ _ _ _ _ _ _ _ _ _ _ _ _ _ _) ?_;generalize hW4:World.setCells w3 (w.heap.size+1) 0 _=w4;have HW4:Hid (World.setCells w3 (w.heap.size+1) 0 [I J p,I J ct,I J lv,bO wk,bO ov,bO ow,bO tx,bO ak,I J rn,I J te,I J re,I J c0,I J c1,I J c2,I J c3,sL s'.sl.a1 s'.sl.n1 s'.sl.k1,sL s'.sl.a2 s'.sl.n2 s'.sl.k2,sL s'.sl.a3 s'.sl.n3 s'.sl.k3,sL s'.sl.a4 s'.sl.n4 s'.sl.k4,I J lo,I J st]=w4):=hW4;clear hW4));have hF:=D5 (Aa HR2.o HW3.o) HW4.o;have hL:=QI (P:=Tp) w4 (w.heap.size+1) 0 43 [I J p,I J ct,I J lv,bO wk,bO ov,bO ow,bO tx,bO ak,I J rn,I J te,I J re,I J c0,I J c1,I J c2,I J c3,sL s'.sl.a1 s'.sl.n1 s'.sl.k1,sL s'.sl.a2 s'.sl.n2 s'.sl.k2,sL s'.sl.a3 s'.sl.n3 s'.sl.k3,sL s'.sl.a4 s'.sl.n4 s'.sl.k4,I J lo,I J st] _ (dc hF) underlying43 rfl pw;refine QE (v:=coV ⟨p,ct,lv,wk,ov,ow,tx,ak,rn,te,re,⟨c0,c1,c2,c3,fs,bx,ff,qu,lo,st⟩⟩ s'.sl) (lX _ w4 (w.heap.size+1) _ rfl hL) rfl ?_;have T:=HS.o;have e3:=HW3.o;have e4:=HW4.o
 have oth:∀ x,w.heap.size+3<=x->w4.heap[x]?=w2.heap[x]?:=fun x hx=>by
  rw[<- e4,<- e3];exact (sO _ x om _ _ _).trans (sO _ x om _ _ _)
 have hsz:w4.heap.size=w2.heap.size:=by rw[<- e4,<- e3];exact (sZ ..).trans (sZ ..)
 refine⟨s',rfl,fun W hW=>T.1 W (fun x h1 h2=>(hW x om om).trans (oth x h1)),?_,T.2.2.1,T.2.2.2,?_⟩
 .rw[hsz];exact (T.2.1.same (fun x h1 h2=>oth x h1)).mono om (nR _)
 .rw[<- e4,<- e3];exact sW om 0 _ (sW om 11 _ HB.o)
def yT {Q:Nat->Wd->Prop} (hc:∀ X,Bl W X->Calls Tp 41 #[aG (hoL C.ho s).toArray,I J 1] X fun o w'=>∃ k:Nat,o = rT (I J (k:Int))/\Q k w') :
  Calls Tp 22 #[aG (coL C s).toArray,I J 1] W fun o w'=>∃ k:Nat,o = rT (I J (k:Int))/\Q k w':=by
 have H0:Hid (ctS W W.heap.size C s (W.alloc (.cells (coL C s).toArray 43))):=ctS.new W C s;have HC:Hid (∀ X,Bl W X->Calls Tp 41 #[aG (hoL C.ho s).toArray,I J 1] X fun o w'=>∃ k:Nat,o = rT (I J (k:Int))/\Q k w'):=hc;clear hc;go_enter func22,ntmps22
 go_wp2_with (refine ZG 41 H0.o.p.hostAt underlying41 (jT C.ho s) ?_)
 refine (HC.o _ H0.o.b).mono ?_;rintro o w2 ⟨k,rfl,hq⟩;have HQ:Hid (Q k w2):=hq;clear hq;go_wp2_with fail;go_ret;exact⟨k,rfl,HQ.o⟩
def DW (k:Nat) (hc:∀ X,Bl W X->Calls Tp 42 #[aG (hoL C.ho s).toArray,I J 1] X fun o w'=>o = rT (I J (k:Int))/\Bl X w') :
  Calls Tp 23 #[aG (coL C s).toArray,I J 1] W fun o w'=>o = rT (I J (k:Int))/\Bl W w':=by
 have H0:Hid (ctS W W.heap.size C s (W.alloc (.cells (coL C s).toArray 43))):=ctS.new W C s;have HC:Hid (∀ X,Bl W X->Calls Tp 42 #[aG (hoL C.ho s).toArray,I J 1] X fun o w'=>o = rT (I J (k:Int))/\Bl X w'):=hc;have hk0:decide ((k:Int)<0)=false:=pQ;clear hc;go_enter func23,ntmps23
 go_wp2_with (refine ZG 41 H0.o.p.hostAt underlying41 (jT C.ho s) ?_)
 refine (HC.o _ H0.o.b).mono ?_;rintro o w2 ⟨rfl,hq⟩;have HQ:Hid (Bl W w2):=H0.o.b.trans (hq.mono H0.o.b.size);clear hq;go_wp2_with fail;go_ret;exact⟨rfl,HQ.o⟩
def MKC (B:Nat) (T:Co) (sg:Sl) (w:Wd):Prop:=∀ W,(∀ x,B<=x->x<w.heap.size->W.heap[x]?=w.heap[x]?)->w.heap.size<=W.heap.size->Calls Tp 22 #[aG (coL T sg).toArray,I J 1] W fun o w1=>∃ k:Nat,o = rT (I J (k:Int))/\Below B W w1/\(∀ x,w.heap.size<=x->x<W.heap.size->w1.heap[x]?=W.heap[x]?)/\∀ W2,Bl w1 W2->Calls Tp 23 #[aG (coL T sg).toArray,I J 1] W2 fun o w2=>o = rT (I J (k:Int))/\Bl W2 w2
def MKQ.core {T:Co} {sg:Sl} {w:Wd} (h:MKQ B T.ho sg w) (hB:B<=w.heap.size):MKC B T sg w:=by
 intro W hW hz;refine yT (fun X hX=>?_);refine (h X (fun x h1 h2=>(hX.block x om).trans (hW x h1 h2)) (by have:=hX.size;omega)).mono ?_;rintro o w1 ⟨k,rfl,h1,h2,h3⟩;refine⟨k,rfl,(hX.mono om).trans h1,fun x h4 h5=>(h2 x h4 (by have:=hX.size;omega)).trans (hX.block x h5),fun W2 hW2=>?_⟩;exact DW k (fun X2 hX2=>h3 X2 (hW2.trans (hX2.mono hW2.size)))
def CW {T:Nat} {sx:Wh} (h:whS B T W sx) (hd:whD sx) (hT:T<=W.heap.size) (hB:B<=T):Calls Tp 22 #[aG (coL C sx.sl).toArray,I J 1] W fun o w1=>∃ k:Nat,o = rT (I J (k:Int))/\(∀ x,T<=x->x<W.heap.size->w1.heap[x]?=W.heap[x]?)/\Below B W w1:=by
 refine yT (fun X hX=>?_);refine (CX (H:=C.ho) (h.same fun x h1 h2=>hX.block x om) hd (by have:=hX.size;omega)).mono ?_;rintro o w1 ⟨k,rfl,h1,h2⟩;exact⟨k,rfl,fun x h4 h5=>(h1 x h4 (by have:=hX.size;omega)).trans (hX.block x h5),(hX.mono om).trans h2⟩
def ML (X:Wd) (C:Co) (s:Sl) (h:aK X C.ho s) (hn:C.ho.le 9223372036854775807):Calls Tp 11 #[aG (coL C s).toArray,I J 1048576] X fun o w'=>∃ z:Int,o = rT (I J z)/\Bl X w'/\(z = -1\/∃ m':Nat,z=(m':Int)/\C.ho.le 1048576/\m'<=1048576):=by
 rw[<- Ac];exact sB X C s h hn
def Fj (X:Wd) (T:Co) (s1 s2:Sl) (h1:aK X T.ho s1) (h2:aK X T.ho s2) (hm:T.ho.le 1048576):Calls Tp 21 #[aG (coL T s1).toArray,aG (coL T s2).toArray] X fun o w'=>o = rT (bO true)/\Bl X w':=by
 rw[<- Ac,<- Ac];exact rJ X T s1 s2 h1 h2 hm
end
def CU:zCo.ho.le 1048576:=⟨by decide,by decide,by decide,by decide,fun j hj=>(by cases hj),fun j hj=>(by cases hj),fun j hj=>(by cases hj)⟩
end Go.Proofs.YtgfolecanghhhaaGreat
