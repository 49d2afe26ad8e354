import Derived.Test.YtaamahohdnbpiaaGreatG40
import Derived.Test.YtaamahohdnbpiaaGreatG36
import Derived.Test.YtaamahohdnbpiaaGreatG27
import Derived.Deep.RegionHeld3
import Derived.Test.YtaamahohdnbpiaaGreatG02
import Derived.Test.YtaamahohdnbpiaaGreatG39
import Derived.Test.YtaamahohdnbpiaaGreatNP
import Derived.Test.YtaamahohdnbpiaaGreatOA
namespace Go.Proofs.YtaamahohdnbpiaaGreat
open Go.RowKit
set_option linter.unusedVariables false
theorem lh.setBox {w0:World} {G:Lg} {H:Ho} {f1 f3:Nat} {hs:Nat→Hd} {nm:Nat} {D:DataW Unit} {W:World} (h:lh w0 G H f1 f3 hs nm D W) (i:Nat) (hi:i<H.bx.length) (b:R8) (hd:Hd) (hb:isBytes w0 hd.1 hd.2.1 hd.2.2 b.l) (hl:b.l.length≤1048576):lh w0 G { H with bx:=H.bx.set i b } f1 f3 (fun j=>if j=i then hd else hs j) nm D (W.setCells G.gb (i*8) (x8 (b,hd))):=by
 have e:W.setCells G.gb (i*8) (x8 (b,hd))=setRow W G.gb (i*8) (x8 (b,hd)):=setCells_row ..
 have hx:=h.x.put i hi b hd hb hl
 rw[← e] at hx
 exact h.box hx (fun q hq=>setCells_other _ q hq _ _ _) (setCells_size ..)
theorem lh.stamp {w0:World} {G:Lg} {H:Ho} {f1 f3:Nat} {hs:Nat→Hd} {nm:Nat} {D:DataW Unit} {W:World} (h:lh w0 G H f1 f3 hs nm D W) (st:Int):lh w0 G { H with st:=st } f1 f3 hs nm D (W.setCell ⟨G.P,14,none⟩ (.int .i64 st)):=by
 have dp:=h.d.p
 have dl:=h.d.lo
 have he:∀ q,q≠G.P→(W.setCell ⟨G.P,14,none⟩ (.int .i64 st)).heap[q]?=W.heap[q]?:=fun q hq=>heap_setCell_other _ _ _ _ (by exact hq)
 have hb:Below w0.heap.size w0 (W.setCell ⟨G.P,14,none⟩ (.int .i64 st)):=h.b.setCell (by exact dl.2.1) _
 have hz:W.heap.size≤(W.setCell ⟨G.P,14,none⟩ (.int .i64 st)).heap.size:=((Below.refl 0 W).setCell (Nat.zero_le _) _).size
 refine⟨h.p.set 14 _,h.f.same (he _ dp.1),h.x.at0 (he _ dp.2.1) hb,h.r.keep (he _ dp.2.2.1),h.rz.up (he _ dp.2.2.1),h.q.keep (he _ dp.2.2.2.1),h.qz.up (he _ dp.2.2.2.1),?_,hb,⟨Nat.lt_of_lt_of_le h.hi.1 hz,Nat.lt_of_lt_of_le h.hi.2.1 hz,Nat.lt_of_lt_of_le h.hi.2.2 hz⟩,h.d,⟨h.bd.e1,h.bd.e3,h.bd.m1,h.bd.m2,h.bd.nk,h.bd.b1,h.bd.b3,h.bd.lo,h.bd.s3,h.bd.s4⟩⟩
 obtain⟨es,clock,q1,q2⟩:=h.m
 exact⟨es,clock,(he _ dp.2.2.2.2).trans q1,q2⟩
set_option maxHeartbeats 8000000 in
set_option maxRecDepth 20000 in
theorem submit_any {w0:World} {G:Lg} {H:Ho} {f1 f3:Nat} {hs:Nat→Hd} {nm:Nat} {D:DataW Unit} {W:World} (h:lh w0 G H f1 f3 hs nm D W) (t:Int) (F:R5) (fa:Option Addr) (fm fc:Nat) (hf:isBytes w0 fa fm fc F.l) (hfm:fm≤1048576) (hnm:nm≤1000) (hst:0≤H.st∧H.st≤1000000) (hwt:(Lit.int .i64 t).wf=true) (hD:(tagIx H.bx t<H.bx.length∧Maps.has D (.int .i64 t)=true)∨(¬ tagIx H.bx t<H.bx.length∧Maps.has D (.int .i64 t)=false)) :
  Calls Tryz.prog 58 #[.pointer (some ⟨G.P,0,none⟩),.int .i64 t,frV F.e F.i F.r F.d fa fm fc] W fun o w'=>o = .returned (.tuple #[])∧∃ hs' nm' D',lh w0 G (subHo H t F) f1 f3 hs' nm' D' w':=by
 have HBA:Hid (Below W.heap.size W (W.alloc (.cells [.bool F.e,.int .u32 (F.i:Int),.bool F.r,.int .i64 F.d,.slice fa fm fc].toArray 25))):=(Below.refl _ _).alloc (Nat.le_refl _) _
 have HPA:Hid (blk (W.alloc (.cells [.bool F.e,.int .u32 (F.i:Int),.bool F.r,.int .i64 F.d,.slice fa fm fc].toArray 25)) W.heap.size [.bool F.e,.int .u32 (F.i:Int),.bool F.r,.int .i64 F.d,.slice fa fm fc] 25):=blk.new W _ 25
 have HLA:Hid (lh w0 G H f1 f3 hs nm D (W.alloc (.cells [.bool F.e,.int .u32 (F.i:Int),.bool F.r,.int .i64 F.d,.slice fa fm fc].toArray 25))):=h.below HBA.out
 have HU:Hid (lhU G W.heap.size):=h.lts
 have HFB:Hid (isBytes w0 fa fm fc F.l∧F.l.length≤1048576):=⟨hf,by have:=hf.len;omega⟩
 have HRF:Hid (∀ X,lh w0 G H f1 f3 hs nm D X→Calls Tryz.prog 119 #[.pointer (some ⟨G.P,0,none⟩),.int .i64 t,frV F.e F.i F.r F.d fa fm fc] X fun o w'=>o = .returned (.agg [.int .i64 (refEv H t F).x,.int .i64 (refEv H t F).y,.int .i64 (refEv H t F).z,.bool false,.int .u32 0,.bool false,.int .i64 0,.slice none 0 0].toArray)∧Below X.heap.size X w'):=fun X hX=>refusal_any hX t F fa fm fc (hf.below hX.b) hwt hD
 have HK:Hid (keyOf Tryz.prog 3 (.int .i64 t)=some (.int .i64 t)):=key3 hwt
 clear h hf hwt hD;go_enter Tryz.func58,Tryz.ntmps58
 go_wp2_with (first | (refine wpList_load_mid (P:=Tryz.prog) rfl 25 _ rfl W.heap.size 0 rfl [.bool F.e,.int .u32 (F.i:Int),.bool F.r,.int .i64 F.d,.slice fa fm fc] _ HPA.out.load Tryz.underlying25 rfl sz93 ?_))
 refine (HRF.out _ HLA.out).mono ?_
 rintro o w1 ⟨rfl,hb1⟩;have HL1:Hid (lh w0 G H f1 f3 hs nm D (w1.alloc (.cells [.int .i64 (refEv H t F).x,.int .i64 (refEv H t F).y,.int .i64 (refEv H t F).z,.bool false,.int .u32 0,.bool false,.int .i64 0,.slice none 0 0].toArray 46))):=(HLA.out.below hb1).below ((Below.refl _ _).alloc (Nat.le_refl _) _)
 have HP1:Hid (blk (w1.alloc (.cells [.int .i64 (refEv H t F).x,.int .i64 (refEv H t F).y,.int .i64 (refEv H t F).z,.bool false,.int .u32 0,.bool false,.int .i64 0,.slice none 0 0].toArray 46)) W.heap.size [.bool F.e,.int .u32 (F.i:Int),.bool F.r,.int .i64 F.d,.slice fa fm fc] 25):=(HPA.out.below hb1).alloc _
 have HE1:Hid (blk (w1.alloc (.cells [.int .i64 (refEv H t F).x,.int .i64 (refEv H t F).y,.int .i64 (refEv H t F).z,.bool false,.int .u32 0,.bool false,.int .i64 0,.slice none 0 0].toArray 46)) w1.heap.size [.int .i64 (refEv H t F).x,.int .i64 (refEv H t F).y,.int .i64 (refEv H t F).z,.bool false,.int .u32 0,.bool false,.int .i64 0,.slice none 0 0] 46):=blk.new w1 _ 46
 have HZ1:Hid (W.heap.size<w1.heap.size):=Nat.lt_of_lt_of_le HPA.out.lt hb1.size
 have y0:=HE1.out.cell 0 _ rfl
 clear hb1 HLA HPA HBA HRF;have hsr:=@subHo_ref H t F
 generalize refEv H t F=E at *;rcases hsr with⟨hx,hs1,hl1,he1⟩|⟨he,ht,hno,hfr,hs1,h9⟩
 ·obtain⟨x,y,z,e,i,r,d,l⟩:=E
  simp only[R8.mk.injEq,true_and] at he1
  obtain⟨rfl,rfl,rfl,rfl,rfl⟩:=he1
  simp only[] at HL1 HP1 HE1 y0 hx hs1
  have hx':(x == 0)=false:=by simpa using hx
  have HT:Hid (subHo H t F=postHo H (ev3 x y z)):=hs1
  have HPO:Hid (Calls Tryz.prog 120 #[.pointer (some ⟨G.P,0,none⟩),.agg [.int .i64 x,.int .i64 y,.int .i64 z,.bool false,.int .u32 0,.bool false,.int .i64 0,.slice none 0 0].toArray] (w1.alloc (.cells [.int .i64 x,.int .i64 y,.int .i64 z,.bool false,.int .u32 0,.bool false,.int .i64 0,.slice none 0 0].toArray 46)) fun o w'=>o = .returned (.tuple #[])∧lh w0 G (postHo H (ev3 x y z)) f1 f3 hs nm D w'∧(∀ b,b≠G.P→b≠G.gq→b<(w1.alloc (.cells [.int .i64 x,.int .i64 y,.int .i64 z,.bool false,.int .u32 0,.bool false,.int .i64 0,.slice none 0 0].toArray 46)).heap.size→w'.heap[b]?=(w1.alloc (.cells [.int .i64 x,.int .i64 y,.int .i64 z,.bool false,.int .u32 0,.bool false,.int .i64 0,.slice none 0 0].toArray 46)).heap[b]?)∧(w1.alloc (.cells [.int .i64 x,.int .i64 y,.int .i64 z,.bool false,.int .u32 0,.bool false,.int .i64 0,.slice none 0 0].toArray 46)).heap.size≤w'.heap.size):=HL1.out.post (ev3 x y z) none 0 0 (none8 _) (Nat.zero_le _)
  go_wp2_with (first | (refine wpList_load_mid (P:=Tryz.prog) rfl 46 _ rfl w1.heap.size 0 rfl _ _ HE1.out.load Tryz.underlying46 rfl sz129 ?_))
  refine HPO.out.mono ?_
  rintro o w7 ⟨rfl,hl7,_,_⟩;have HL7:Hid (lh w0 G (postHo H (ev3 x y z)) f1 f3 hs nm D w7):=hl7
  clear hl7 HPO;go_wp2_with fail;first | go_end0 | (simp only[Exit.inBlock,Exit.then];refine bodyPost_ret (results_none rfl _ _ _) rfl ?_) | refine bodyPost_ret (results_none rfl _ _ _) rfl ?_
  exact⟨rfl,hs,nm,D,by rw[HT.out];exact HL7.out⟩
 ·rw[he] at HL1 HP1 HE1 y0
  have HT:Hid (subHo H t F=xHo H (H.bx.set (freeIx H.bx) ⟨1,t,H.st,F.e,F.i,F.r,F.d,F.l⟩) (H.st+1)):=hs1
  rw[he]
  go_wp2_with fail;refine HL1.out.freeBox.mono ?_
  rintro o w2 ⟨z,rfl,hz,hb2⟩;have HL2:Hid (lh w0 G H f1 f3 hs nm D w2):=HL1.out.below hb2
  have HP2:Hid (blk w2 W.heap.size [.bool F.e,.int .u32 (F.i:Int),.bool F.r,.int .i64 F.d,.slice fa fm fc] 25):=HP1.out.below hb2
  obtain⟨rfl,hk⟩ : z=(freeIx H.bx:Int)∧freeIx H.bx<H.bx.length:=by
   rcases hz with⟨_,h⟩|h
   ·exact absurd hfr h
   ·exact h
  clear hz hb2 HL1 HP1 HE1 y0;generalize freeIx H.bx=k at *;have HKK:Hid (k<H.bx.length):=hk
  have y5:=HL2.out.p.cell 5 _ rfl
  have y14:=HL2.out.p.cell 14 _ rfl
  have hkn:k<G.n2:=by have:=HL2.out.x.len;omega
  have hcp:=HL2.out.bd.nk
  have hm2:=HL2.out.bd.m2
  go_wp2_with fail;refine wp_region_still_tail 13 (by kernel_rfl) (by kernel_rfl) ?_
  change wpStill Tryz.prog _ (World.drew w2) (fun a'=>wpList Tryz.prog _ _ _ a' (World.drew w2)) _ _
  have hbd:Below w2.heap.size w2 (World.drew w2):=(Below.refl _ _).drew
  have HL2:Hid (lh w0 G H f1 f3 hs nm D (World.drew w2)):=HL2.out.below hbd
  have HP2:Hid (blk (World.drew w2) W.heap.size [.bool F.e,.int .u32 (F.i:Int),.bool F.r,.int .i64 F.d,.slice fa fm fc] 25):=HP2.out.below hbd
  clear hbd y5 y14;generalize World.drew w2=v0 at *;have y5:=HL2.out.p.cell 5 _ rfl
  have y14:=HL2.out.p.cell 14 _ rfl
  simp only[List.take_succ_cons,List.take_zero,List.drop_succ_cons,List.drop_zero]
  iterate 10 still_step
  refine wpStill_load_mid (by rfl) 25 _ rfl W.heap.size 0 rfl [.bool F.e,.int .u32 (F.i:Int),.bool F.r,.int .i64 F.d,.slice fa fm fc] _ HP2.out.load Tryz.underlying25 rfl sz93 ?_
  still_step
  still_step
  refine wpStill_nil ?_
  have HT2:Hid (v0.there G.gb (k*8) 8):=fun j hj=>by
   obtain⟨⟨v,hv⟩,hf⟩:=HL2.out.x.row (k*8+j) (by omega)
   exact⟨by rw[hv];rfl,hf⟩
  have HL3:Hid (lh w0 G { H with bx:=H.bx.set k ⟨1,t,H.st,F.e,F.i,F.r,F.d,F.l⟩ } f1 f3 (fun j=>if j=k then (fa,fm,fc) else hs j) nm D (v0.setCells G.gb (k*8) [.int .i64 1,.int .i64 t,.int .i64 H.st,.bool F.e,.int .u32 (F.i:Int),.bool F.r,.int .i64 F.d,.slice fa fm fc])):=HL2.out.setBox k HKK.out ⟨1,t,H.st,F.e,F.i,F.r,F.d,F.l⟩ (fa,fm,fc) HFB.out.1 HFB.out.2
  refine wpList_store_mid (P:=Tryz.prog) rfl 97 _ _ rfl G.gb (k*8) [.int .i64 1,.int .i64 t,.int .i64 H.st,.bool F.e,.int .u32 (F.i:Int),.bool F.r,.int .i64 F.d,.slice fa fm fc].toArray rfl rfl HT2.out sz95 (one8 _ _ _ _ _ _ _ _ _ _) ?_
  change wpList Tryz.prog _ _ _ _ (v0.setCells G.gb (k*8) [.int .i64 1,.int .i64 t,.int .i64 H.st,.bool F.e,.int .u32 (F.i:Int),.bool F.r,.int .i64 F.d,.slice fa fm fc])
  generalize v0.setCells G.gb (k*8) [.int .i64 1,.int .i64 t,.int .i64 H.st,.bool F.e,.int .u32 (F.i:Int),.bool F.r,.int .i64 F.d,.slice fa fm fc]=v1 at *;clear y5 y14 HL2 HP2 HT2;have y6:=HL3.out.p.cell 6 _ rfl
  have HPE:Hid (plainElem (H:=Unit) Tryz.prog 3 (.int .i64 (k:Int))=some (.lit (.int .i64 (k:Int)),[])):=plainElem_int Tryz.underlying3 (wf_small (by omega) (by omega))
  have hw9:IntKind.i64.wrap (H.st+1)=H.st+1:=by rw[IntKind.wrap_i64];omega
  go_wp2_with (first
   | (refine wpList_mapUpdate_own _ rfl _ _ _ 128 rfl 3 3 keyed3 Tryz.underlying128 _ G.mb nm D rfl HL3.out.m (by unfold maxLen;omega) _ _ (.int .i64 t) rfl rfl HK.out (.lit (.int .i64 (k:Int))) [] HPE.out ?_;intro v2 hm2 hg2;have HL4:Hid (lh w0 G { H with bx:=H.bx.set k ⟨1,t,H.st,F.e,F.i,F.r,F.d,F.l⟩ } f1 f3 (fun j=>if j=k then (fa,fm,fc) else hs j) (nm+1) (D.put (.int .i64 t) (.lit (.int .i64 (k:Int)))) v2):=HL3.out.tags hg2 hm2;clear hm2 hg2;have y14:=HL4.out.p.cell 14 _ rfl;have z14:=HL4.out.p.free 14))
  first | go_end0 | (simp only[Exit.inBlock,Exit.then];refine bodyPost_ret (results_none rfl _ _ _) rfl ?_) | refine bodyPost_ret (results_none rfl _ _ _) rfl ?_
  exact⟨rfl,_,_,_,HL4.out.stamp (H.st+1)⟩
set_option maxHeartbeats 1000000 in
theorem lit57 {w0:World} {G:Lg} {H:Ho} {f1 f3:Nat} {hs:Nat→Hd} {nm:Nat} {D:DataW Unit} {W:World} (h:lh w0 G H f1 f3 hs nm D W) (Bt Bf:Nat) (t:Int) (F:R5) (fa:Option Addr) (fm fc:Nat) (yt:W.cell? ⟨Bt,0,none⟩=some (.int .i64 t)) (yf:blk W Bf [.bool F.e,.int .u32 (F.i:Int),.bool F.r,.int .i64 F.d,.slice fa fm fc] 25) (hf:isBytes w0 fa fm fc F.l) (hfm:fm≤1048576) (hnm:nm≤1000) (hst:0≤H.st∧H.st≤1000000) (hwt:(Lit.int .i64 t).wf=true) (hD:(tagIx H.bx t<H.bx.length∧Maps.has D (.int .i64 t)=true)∨(¬ tagIx H.bx t<H.bx.length∧Maps.has D (.int .i64 t)=false)) :
  Calls Tryz.prog 57 #[.pointer (some ⟨G.P,0,none⟩),.pointer (some ⟨Bt,0,none⟩),.pointer (some ⟨Bf,0,none⟩)] W fun o w'=>o = .returned (.tuple #[])∧∃ hs' nm' D',lh w0 G (subHo H t F) f1 f3 hs' nm' D' w':=by
 have HS:Hid (Calls Tryz.prog 58 #[.pointer (some ⟨G.P,0,none⟩),.int .i64 t,frV F.e F.i F.r F.d fa fm fc] W fun o w'=>o = .returned (.tuple #[])∧∃ hs' nm' D',lh w0 G (subHo H t F) f1 f3 hs' nm' D' w'):=submit_any h t F fa fm fc hf hfm hnm hst hwt hD
 have HF:Hid (blk W Bf [.bool F.e,.int .u32 (F.i:Int),.bool F.r,.int .i64 F.d,.slice fa fm fc] 25):=yf
 clear h hf hfm hnm hst hwt hD yf;go_enter Tryz.func57,Tryz.ntmps57
 go_wp2_with (first
  | (refine wpList_load_mid (P:=Tryz.prog) rfl 25 _ rfl Bf 0 rfl [.bool F.e,.int .u32 (F.i:Int),.bool F.r,.int .i64 F.d,.slice fa fm fc] _ HF.out.load Tryz.underlying25 rfl sz93 ?_)
  | (go_at_call 58;refine HS.out.mono ?_;rintro o w5 ⟨rfl,hs',nm',D',hq⟩;have HQ:Hid (lh w0 G (subHo H t F) f1 f3 hs' nm' D' w5):=hq;clear hq))
 first | go_end0 | (simp only[Exit.inBlock,Exit.then];refine bodyPost_ret (results_none rfl _ _ _) rfl ?_) | refine bodyPost_ret (results_none rfl _ _ _) rfl ?_
 exact⟨rfl,hs',nm',D',HQ.out⟩
theorem open_submit (w:World) (H:Ho) (s:Sl) (Bt Bf:Nat) (t:Int) (F:R5) (fa:Option Addr) (fm fc:Nat) (h:isHo w H s) (hs:slSome s) (hok:okHo H) (hm:H.le 1048576) (yt:w.cell? ⟨Bt,0,none⟩=some (.int .i64 t)) (yf:blk w Bf [.bool F.e,.int .u32 (F.i:Int),.bool F.r,.int .i64 F.d,.slice fa fm fc] 25) (hf:isBytes w fa fm fc F.l) (hfm:fm≤1048576) (hwt:(Lit.int .i64 t).wf=true) :
  Calls Tryz.prog 61 #[.agg (hoL H s).toArray] w fun o w'=>∃ P,o = .returned (.pointer (some ⟨P,0,none⟩))∧Below w.heap.size w w'∧Calls Tryz.prog 57 #[.pointer (some ⟨P,0,none⟩),.pointer (some ⟨Bt,0,none⟩),.pointer (some ⟨Bf,0,none⟩)] w' fun o w2=>o = .returned (.tuple #[])∧Below w.heap.size w w2∧Calls Tryz.prog 118 #[.pointer (some ⟨P,0,none⟩)] w2 (toldQ w2 (subHo H t F)):=by
 refine (open_lh w H s h hs hok hm).mono ?_
 rintro o w' ⟨G,hd,rfl,hl,hn⟩;rw[hn] at hl
 have hD:(tagIx H.bx t<H.bx.length∧Maps.has (tagsD Unit H.bx H.bx.length) (.int .i64 t)=true)∨(¬ tagIx H.bx t<H.bx.length∧Maps.has (tagsD Unit H.bx H.bx.length) (.int .i64 t)=false):=by
  rcases tags_ix hok.bx.2.1 t with⟨h1,h2,_⟩|h1
  ·exact Or.inl ⟨h1,h2⟩
  ·exact Or.inr h1
 refine⟨G.P,rfl,hl.b,(lit57 hl Bt Bf t F fa fm fc ((hl.b.cell (by exact World.block_lt_of_cell? w _ yt)).trans yt) (yf.below hl.b) hf hfm (by have:=hok.n2;omega) ⟨hok.s0,hok.s1⟩ hwt hD).mono ?_⟩
 rintro o w2 ⟨rfl,hs',nm',D',h2⟩;exact⟨rfl,h2.b,h2.told⟩
set_option maxHeartbeats 8000000 in
set_option maxRecDepth 20000 in
theorem changed57 (w:World) (H:Ho) (s:Sl) (Bt Bf:Nat) (t:Int) (F:R5) (fa:Option Addr) (fm fc:Nat) (h:isHo w H s) (hs:slSome s) (hn:H.le 1048576) (yt:w.cell? ⟨Bt,0,none⟩=some (.int .i64 t)) (yf:blk w Bf [.bool F.e,.int .u32 (F.i:Int),.bool F.r,.int .i64 F.d,.slice fa fm fc] 25) (hf:isBytes w fa fm fc F.l) (hfm:fm≤1048576) (hwt:(Lit.int .i64 t).wf=true) :
  Calls Tryz.prog 56 #[.agg (hoL H s).toArray,.func (.func 57) #[] #[.pointer (some ⟨Bt,0,none⟩),.pointer (some ⟨Bf,0,none⟩)]] w fun o w'=>(okHo H∧toldQ w (subHo H t F) o w')∨(¬ okHo H∧o = .returned (.agg [.int .i64 0,.int .i64 0,.int .i64 0,.int .i64 0,.slice none 0 0,.slice none 0 0,.slice none 0 0,.slice none 0 0,.int .i64 0,.int .i64 0].toArray)∧Below w.heap.size w w'):=by
 have H0:Hid (dtS w H s ((w.alloc (.cells (hoL H s).toArray 35)).alloc (.cells [.int .i64 0,.int .i64 0,.int .i64 0,.int .i64 0,.slice none 0 0,.slice none 0 0,.slice none 0 0,.slice none 0 0,.int .i64 0,.int .i64 0].toArray 35))):=dtS.new w H s
 have HYB:Hid (∀ W,Below w.heap.size w W→W.cell? ⟨Bt,0,none⟩=some (.int .i64 t)∧blk W Bf [.bool F.e,.int .u32 (F.i:Int),.bool F.r,.int .i64 F.d,.slice fa fm fc] 25∧isBytes W fa fm fc F.l):=fun W hW=>⟨(hW.cell (by exact World.block_lt_of_cell? w _ yt)).trans yt,yf.below hW,hf.below hW⟩
 have HWF:Hid ((Lit.int .i64 t).wf=true):=hwt
 clear yt yf hf hwt;by_cases hok:okHo H
 ·have HV:Hid (∀ W,Below w.heap.size w W→Calls Tryz.prog 60 #[.agg (hoL H s).toArray] W fun o w'=>o = .returned (.bool true)∧Below W.heap.size W w'):=fun W hW=>vOk W H s (h.below hW) hn hok
  have HO:Hid (∀ W,Below w.heap.size w W→Calls Tryz.prog 61 #[.agg (hoL H s).toArray] W fun o w'=>∃ P,o = .returned (.pointer (some ⟨P,0,none⟩))∧Below W.heap.size W w'∧Calls Tryz.prog 57 #[.pointer (some ⟨P,0,none⟩),.pointer (some ⟨Bt,0,none⟩),.pointer (some ⟨Bf,0,none⟩)] w' fun o w2=>o = .returned (.tuple #[])∧Below W.heap.size W w2∧Calls Tryz.prog 118 #[.pointer (some ⟨P,0,none⟩)] w2 (toldQ w2 (subHo H t F))):=fun W hW=>open_submit W H s Bt Bf t F fa fm fc (h.below hW) hs hok hn (HYB.out W hW).1 (HYB.out W hW).2.1 (HYB.out W hW).2.2 hfm HWF.out
  have HOK:Hid (okHo H):=hok
  clear h hn hok hs;go_enter Tryz.func56,Tryz.ntmps56
  go_wp2_with (first
   | (refine wpList_load_mid (P:=Tryz.prog) rfl 35 _ rfl w.heap.size 0 rfl (hoL H s) _ H0.out.p.load Tryz.underlying35 rfl (sz41L H s) ?_))
  refine (HV.out _ H0.out.b).mono ?_
  rintro o w1 ⟨rfl,hb1⟩;have H1:Hid (dtS w H s w1):=H0.out.below hb1
  clear H0 hb1;go_wp2_with (first
   | (refine wpList_load_mid (P:=Tryz.prog) rfl 35 _ rfl w.heap.size 0 rfl (hoL H s) _ H1.out.p.load Tryz.underlying35 rfl (sz41L H s) ?_))
  refine (HO.out _ H1.out.b).mono ?_
  rintro o w2 ⟨P,rfl,hb2,hc2⟩;have HC2:Hid (Calls Tryz.prog 57 #[.pointer (some ⟨P,0,none⟩),.pointer (some ⟨Bt,0,none⟩),.pointer (some ⟨Bf,0,none⟩)] w2 fun o w3=>o = .returned (.tuple #[])∧Below w1.heap.size w1 w3∧Calls Tryz.prog 118 #[.pointer (some ⟨P,0,none⟩)] w3 (toldQ w3 (subHo H t F))):=hc2
  clear hc2 hb2;go_wp2_with fail;refine (Calls.mono HC2.out) ?_
  rintro o w3 ⟨rfl,hb3,hc3⟩;have H3:Hid (dtS w H s w3):=H1.out.below hb3
  have HC3:Hid (Calls Tryz.prog 118 #[.pointer (some ⟨P,0,none⟩)] w3 (toldQ w3 (subHo H t F))):=hc3
  clear hc3 hb3 HC2 H1;go_wp2_with fail;refine (Calls.mono HC3.out) ?_
  rintro o w4 ⟨s4,rfl,q1,q2,q3,q4,hb4⟩;have H4:Hid (dtS w H s w4):=H3.out.below hb4
  have HQ:Hid (St w3.heap.size w4 (fun W=>isHo W (subHo H t F) s4.sl)∧whS w3.heap.size w4.heap.size w4 s4∧whD s4∧whE s4):=⟨q1,q2,q3,q4⟩
  clear q1 q2 q3 q4 hb4 HC3;go_wp2_with (first
   | (refine wpList_store_mid (P:=Tryz.prog) rfl 35 _ _ rfl (w.heap.size+1) 0 (hoL (subHo H t F) s4.sl).toArray rfl rfl (H4.out.r.there 0 _ (by rw[List.size_toArray,hoL_len];decide)) (sz41A (subHo H t F) s4.sl) (hoL_one (subHo H t F) s4.sl) ?_;generalize hW8:World.setCells _ (w.heap.size+1) 0 _=w8;have HW8:Hid (_=w8):=hW8;clear hW8))
  have e8:=HW8.out
  have hF:blk w8 (w.heap.size+1) (hoL (subHo H t F) s4.sl) 35:=by
   rw[← e8]
   have:=blk.put [] Z10 [] (hoL (subHo H t F) s4.sl) (w:=w4) (b:=w.heap.size+1) (T:=35) (by simpa using H4.out.r) (by rw[hoL_len];rfl)
   simpa using this
  have hL:=run_loadVar_mid (P:=Tryz.prog) w8 (w.heap.size+1) 0 35 _ _ hF.load Tryz.underlying35 rfl (sz41L (subHo H t F) s4.sl)
  refine bodyPost_ret (v:=.agg (hoL (subHo H t F) s4.sl).toArray) (results_cell Tryz.results56 _ w8 (w.heap.size+1) _ rfl hL) rfl ?_
  have oth:∀ x,x≠w.heap.size+1→w8.heap[x]?=w4.heap[x]?:=fun x hx=>by rw[← e8];exact setCells_other _ x hx _ _ _
  have hsz:w8.heap.size=w4.heap.size:=by rw[← e8];exact setCells_size ..
  have hp:=toldQ.put (w:=w) H3.out.b.size H3.out.r.lt HQ.out.1 HQ.out.2.1 oth hsz
  exact Or.inl ⟨HOK.out,s4,rfl,hp.1,hp.2,HQ.out.2.2.1,HQ.out.2.2.2,by rw[← e8];exact setCells_below (by omega) 0 _ H4.out.b⟩
 ·have HV:Hid (∀ W,Below w.heap.size w W→Calls Tryz.prog 60 #[.agg (hoL H s).toArray] W fun o w'=>o = .returned (.bool false)∧Below W.heap.size W w'):=fun W hW=>vBad W H s (h.below hW) hn hok
  have HOK:Hid (¬ okHo H):=hok
  clear h hn hok hs;go_enter Tryz.func56,Tryz.ntmps56
  go_wp2_with (first
   | (refine wpList_load_mid (P:=Tryz.prog) rfl 35 _ rfl w.heap.size 0 rfl (hoL H s) _ H0.out.p.load Tryz.underlying35 rfl (sz41L H s) ?_))
  refine (HV.out _ H0.out.b).mono ?_
  rintro o w1 ⟨rfl,hb1⟩;have H1:Hid (dtS w H s w1):=H0.out.below hb1
  clear H0 hb1;go_wp2_with (first
   | (refine wpList_store_mid (P:=Tryz.prog) rfl 35 _ _ rfl (w.heap.size+1) 0 [.int .i64 0,.int .i64 0,.int .i64 0,.int .i64 0,.slice none 0 0,.slice none 0 0,.slice none 0 0,.slice none 0 0,.int .i64 0,.int .i64 0].toArray rfl rfl (H1.out.r.there 0 10 (by simp[Z10])) sz41 (all_oneCell_toArray (by simp[Value.oneCell'])) ?_;generalize hW8:World.setCells _ (w.heap.size+1) 0 _=w8;have HW8:Hid (_=w8):=hW8;clear hW8))
  have e8:=HW8.out
  have hF:blk w8 (w.heap.size+1) [.int .i64 0,.int .i64 0,.int .i64 0,.int .i64 0,.slice none 0 0,.slice none 0 0,.slice none 0 0,.slice none 0 0,.int .i64 0,.int .i64 0] 35:=by
   rw[← e8]
   have:=blk.put [] Z10 [] [.int .i64 0,.int .i64 0,.int .i64 0,.int .i64 0,.slice none 0 0,.slice none 0 0,.slice none 0 0,.slice none 0 0,.int .i64 0,.int .i64 0] (w:=w1) (b:=w.heap.size+1) (T:=35) (by simpa using H1.out.r) rfl
   simpa using this
  have hL:=run_loadVar_mid (P:=Tryz.prog) w8 (w.heap.size+1) 0 35 _ _ hF.load Tryz.underlying35 rfl sz41
  refine bodyPost_ret (v:=.agg [.int .i64 0,.int .i64 0,.int .i64 0,.int .i64 0,.slice none 0 0,.slice none 0 0,.slice none 0 0,.slice none 0 0,.int .i64 0,.int .i64 0].toArray) (results_cell Tryz.results56 _ w8 (w.heap.size+1) _ rfl hL) rfl ?_
  exact Or.inr ⟨HOK.out,rfl,by rw[← e8];exact setCells_below (by omega) 0 _ H1.out.b⟩
structure itM (w:World) (L:List Value) (t:Int) (FL:List Value) (W:World):Prop where
 p:blk W w.heap.size L 35
 x:blk W (w.heap.size+1) [.int .i64 t] 3
 f:blk W (w.heap.size+1+1) FL 25
 r:blk W (w.heap.size+1+1+1) Z10 35
 b:Below w.heap.size w W
theorem itM.below {w:World} {L:List Value} {t:Int} {FL:List Value} {W W':World} (h:itM w L t FL W) (hb:Below W.heap.size W W'):itM w L t FL W':=⟨h.p.below hb,h.x.below hb,h.f.below hb,h.r.below hb,h.b.trans (hb.mono h.b.size)⟩
theorem itM.new (w:World) (L:List Value) (t:Int) (FL:List Value):itM w L t FL ((((w.alloc (.cells L.toArray 35)).alloc (.cells #[.int .i64 t] 3)).alloc (.cells FL.toArray 25)).alloc (.cells Z10.toArray 35)):=by
 refine⟨(((blk.new w _ 35).alloc _).alloc _).alloc _,?_,?_,?_,((((Below.refl _ _).alloc (Nat.le_refl _) _).alloc (by simp) _).alloc (by simp;omega) _).alloc (by simp;omega) _⟩
 ·have:=((blk.new (w.alloc (.cells L.toArray 35)) [.int .i64 t] 3).alloc (.cells FL.toArray 25)).alloc (.cells Z10.toArray 35)
  simpa using this
 ·have:=(blk.new ((w.alloc (.cells L.toArray 35)).alloc (.cells #[.int .i64 t] 3)) FL 25).alloc (.cells Z10.toArray 35)
  have e:((w.alloc (.cells L.toArray 35)).alloc (.cells #[.int .i64 t] 3)).heap.size=w.heap.size+1+1:=by simp
  rw[e] at this
  exact this
 ·have:=blk.new (((w.alloc (.cells L.toArray 35)).alloc (.cells #[.int .i64 t] 3)).alloc (.cells FL.toArray 25)) Z10 35
  have e:(((w.alloc (.cells L.toArray 35)).alloc (.cells #[.int .i64 t] 3)).alloc (.cells FL.toArray 25)).heap.size=w.heap.size+1+1+1:=by simp
  rw[e] at this
  exact this
set_option maxHeartbeats 8000000 in
set_option maxRecDepth 20000 in
theorem implSubmit_any (w:World) (H:Ho) (s:Sl) (t:Int) (F:R5) (fa:Option Addr) (fm fc:Nat) (h:isHo w H s) (hs:slSome s) (hn:H.le 1048576) (hf:isBytes w fa fm fc F.l) (hfm:fm≤1048576) (hwt:(Lit.int .i64 t).wf=true) :
  Calls Tryz.prog 15 #[.agg (hoL H s).toArray,.int .i64 t,frV F.e F.i F.r F.d fa fm fc] w fun o w'=>(okHo H∧toldQ w (subHo H t F) o w')∨(¬ okHo H∧o = .returned (.agg [.int .i64 0,.int .i64 0,.int .i64 0,.int .i64 0,.slice none 0 0,.slice none 0 0,.slice none 0 0,.slice none 0 0,.int .i64 0,.int .i64 0].toArray)∧Below w.heap.size w w'):=by
 have H0:Hid (itM w (hoL H s) t [.bool F.e,.int .u32 (F.i:Int),.bool F.r,.int .i64 F.d,.slice fa fm fc] ((((w.alloc (.cells (hoL H s).toArray 35)).alloc (.cells #[.int .i64 t] 3)).alloc (.cells [.bool F.e,.int .u32 (F.i:Int),.bool F.r,.int .i64 F.d,.slice fa fm fc].toArray 25)).alloc (.cells [.int .i64 0,.int .i64 0,.int .i64 0,.int .i64 0,.slice none 0 0,.slice none 0 0,.slice none 0 0,.slice none 0 0,.int .i64 0,.int .i64 0].toArray 35))):=itM.new w _ t _
 have HC:Hid (∀ W,itM w (hoL H s) t [.bool F.e,.int .u32 (F.i:Int),.bool F.r,.int .i64 F.d,.slice fa fm fc] W→Calls Tryz.prog 56 #[.agg (hoL H s).toArray,.func (.func 57) #[] #[.pointer (some ⟨w.heap.size+1,0,none⟩),.pointer (some ⟨w.heap.size+1+1,0,none⟩)]] W fun o w'=>(okHo H∧toldQ W (subHo H t F) o w')∨(¬ okHo H∧o = .returned (.agg [.int .i64 0,.int .i64 0,.int .i64 0,.int .i64 0,.slice none 0 0,.slice none 0 0,.slice none 0 0,.slice none 0 0,.int .i64 0,.int .i64 0].toArray)∧Below W.heap.size W w')):=fun W hW=>changed57 W H s (w.heap.size+1) (w.heap.size+1+1) t F fa fm fc (h.below hW.b) hs hn (hW.x.cell 0 _ rfl) hW.f (hf.below hW.b) hfm hwt
 have hmf:∀ (fn:Fn) (first cap:Array Value) (w:World),(Instr.makeFunc fn first cap).run Tryz.prog w = .ok (.func fn first cap) w:=fun _ _ _ _=>rfl
 clear h hn hs hf hwt;go_enter Tryz.func15,Tryz.ntmps15
 go_wp2_with (first
  | (refine wpList_load_mid (P:=Tryz.prog) rfl 35 _ rfl w.heap.size 0 rfl (hoL H s) _ H0.out.p.load Tryz.underlying35 rfl (sz41L H s) ?_))
 refine (HC.out _ H0.out).mono ?_
 rintro o w1 (⟨hok,s4,rfl,q1,q2,q3,q4,hb4⟩|⟨hok,rfl,hb4⟩)
 ·have H4:Hid (itM w (hoL H s) t [.bool F.e,.int .u32 (F.i:Int),.bool F.r,.int .i64 F.d,.slice fa fm fc] w1):=H0.out.below hb4
  have HQ:Hid (St ((((w.alloc (.cells (hoL H s).toArray 35)).alloc (.cells #[.int .i64 t] 3)).alloc (.cells [.bool F.e,.int .u32 (F.i:Int),.bool F.r,.int .i64 F.d,.slice fa fm fc].toArray 25)).alloc (.cells [.int .i64 0,.int .i64 0,.int .i64 0,.int .i64 0,.slice none 0 0,.slice none 0 0,.slice none 0 0,.slice none 0 0,.int .i64 0,.int .i64 0].toArray 35)).heap.size w1 (fun W=>isHo W (subHo H t F) s4.sl)∧whS ((((w.alloc (.cells (hoL H s).toArray 35)).alloc (.cells #[.int .i64 t] 3)).alloc (.cells [.bool F.e,.int .u32 (F.i:Int),.bool F.r,.int .i64 F.d,.slice fa fm fc].toArray 25)).alloc (.cells [.int .i64 0,.int .i64 0,.int .i64 0,.int .i64 0,.slice none 0 0,.slice none 0 0,.slice none 0 0,.slice none 0 0,.int .i64 0,.int .i64 0].toArray 35)).heap.size w1.heap.size w1 s4∧whD s4∧whE s4):=⟨q1,q2,q3,q4⟩
  have HOK:Hid (okHo H):=hok
  have HZ:Hid (w.heap.size≤((((w.alloc (.cells (hoL H s).toArray 35)).alloc (.cells #[.int .i64 t] 3)).alloc (.cells [.bool F.e,.int .u32 (F.i:Int),.bool F.r,.int .i64 F.d,.slice fa fm fc].toArray 25)).alloc (.cells [.int .i64 0,.int .i64 0,.int .i64 0,.int .i64 0,.slice none 0 0,.slice none 0 0,.slice none 0 0,.slice none 0 0,.int .i64 0,.int .i64 0].toArray 35)).heap.size∧w.heap.size+1+1+1<((((w.alloc (.cells (hoL H s).toArray 35)).alloc (.cells #[.int .i64 t] 3)).alloc (.cells [.bool F.e,.int .u32 (F.i:Int),.bool F.r,.int .i64 F.d,.slice fa fm fc].toArray 25)).alloc (.cells [.int .i64 0,.int .i64 0,.int .i64 0,.int .i64 0,.slice none 0 0,.slice none 0 0,.slice none 0 0,.slice none 0 0,.int .i64 0,.int .i64 0].toArray 35)).heap.size):=⟨H0.out.b.size,H0.out.r.lt⟩
  clear q1 q2 q3 q4 hb4 hok HC H0;go_wp2_with (first
   | (refine wpList_store_mid (P:=Tryz.prog) rfl 35 _ _ rfl (w.heap.size+1+1+1) 0 (hoL (subHo H t F) s4.sl).toArray rfl rfl (H4.out.r.there 0 _ (by rw[List.size_toArray,hoL_len];decide)) (sz41A (subHo H t F) s4.sl) (hoL_one (subHo H t F) s4.sl) ?_;generalize hW8:World.setCells _ (w.heap.size+1+1+1) 0 _=w8;have HW8:Hid (_=w8):=hW8;clear hW8))
  have e8:=HW8.out
  have hF:blk w8 (w.heap.size+1+1+1) (hoL (subHo H t F) s4.sl) 35:=by
   rw[← e8]
   have:=blk.put [] Z10 [] (hoL (subHo H t F) s4.sl) (w:=w1) (b:=w.heap.size+1+1+1) (T:=35) (by simpa using H4.out.r) (by rw[hoL_len];rfl)
   simpa using this
  have hL:=run_loadVar_mid (P:=Tryz.prog) w8 (w.heap.size+1+1+1) 0 35 _ _ hF.load Tryz.underlying35 rfl (sz41L (subHo H t F) s4.sl)
  refine bodyPost_ret (v:=.agg (hoL (subHo H t F) s4.sl).toArray) (results_cell Tryz.results15 _ w8 (w.heap.size+1+1+1) _ rfl hL) rfl ?_
  have oth:∀ x,x≠w.heap.size+1+1+1→w8.heap[x]?=w1.heap[x]?:=fun x hx=>by rw[← e8];exact setCells_other _ x hx _ _ _
  have hsz:w8.heap.size=w1.heap.size:=by rw[← e8];exact setCells_size ..
  have hp:=toldQ.put (w:=w) HZ.out.1 HZ.out.2 HQ.out.1 HQ.out.2.1 oth hsz
  exact Or.inl ⟨HOK.out,s4,rfl,hp.1,hp.2,HQ.out.2.2.1,HQ.out.2.2.2,by rw[← e8];exact setCells_below (by omega) 0 _ H4.out.b⟩
 ·have H4:Hid (itM w (hoL H s) t [.bool F.e,.int .u32 (F.i:Int),.bool F.r,.int .i64 F.d,.slice fa fm fc] w1):=H0.out.below hb4
  have HOK:Hid (¬ okHo H):=hok
  clear hb4 hok HC H0;go_wp2_with (first
   | (refine wpList_store_mid (P:=Tryz.prog) rfl 35 _ _ rfl (w.heap.size+1+1+1) 0 [.int .i64 0,.int .i64 0,.int .i64 0,.int .i64 0,.slice none 0 0,.slice none 0 0,.slice none 0 0,.slice none 0 0,.int .i64 0,.int .i64 0].toArray rfl rfl (H4.out.r.there 0 10 (by simp[Z10])) sz41 (all_oneCell_toArray (by simp[Value.oneCell'])) ?_;generalize hW8:World.setCells _ (w.heap.size+1+1+1) 0 _=w8;have HW8:Hid (_=w8):=hW8;clear hW8))
  have e8:=HW8.out
  have hF:blk w8 (w.heap.size+1+1+1) [.int .i64 0,.int .i64 0,.int .i64 0,.int .i64 0,.slice none 0 0,.slice none 0 0,.slice none 0 0,.slice none 0 0,.int .i64 0,.int .i64 0] 35:=by
   rw[← e8]
   have:=blk.put [] Z10 [] [.int .i64 0,.int .i64 0,.int .i64 0,.int .i64 0,.slice none 0 0,.slice none 0 0,.slice none 0 0,.slice none 0 0,.int .i64 0,.int .i64 0] (w:=w1) (b:=w.heap.size+1+1+1) (T:=35) (by simpa using H4.out.r) rfl
   simpa using this
  have hL:=run_loadVar_mid (P:=Tryz.prog) w8 (w.heap.size+1+1+1) 0 35 _ _ hF.load Tryz.underlying35 rfl sz41
  refine bodyPost_ret (v:=.agg [.int .i64 0,.int .i64 0,.int .i64 0,.int .i64 0,.slice none 0 0,.slice none 0 0,.slice none 0 0,.slice none 0 0,.int .i64 0,.int .i64 0].toArray) (results_cell Tryz.results15 _ w8 (w.heap.size+1+1+1) _ rfl hL) rfl ?_
  exact Or.inr ⟨HOK.out,rfl,by rw[← e8];exact setCells_below (by omega) 0 _ H4.out.b⟩
structure lfA (w:World) (H:Ho) (s:Sl) (F:R5) (fa:Option Addr) (fm fc:Nat) (W:World):Prop where
 p:blk W w.heap.size (hoL H s) 61
 f:blk W (w.heap.size+1) [.bool F.e,.int .u32 (F.i:Int),.bool F.r,.int .i64 F.d,.slice fa fm fc] 71
 h:isHo W H s
 d:isBytes W fa fm fc F.l
 b:Below w.heap.size w W
theorem lfA.below {w:World} {H:Ho} {s:Sl} {F:R5} {fa:Option Addr} {fm fc:Nat} {W W':World} (h:lfA w H s F fa fm fc W) (hb:Below W.heap.size W W'):lfA w H s F fa fm fc W':=⟨h.p.below hb,h.f.below hb,h.h.below hb,h.d.below hb,h.b.trans (hb.mono h.b.size)⟩
theorem lfA.new {w:World} {H:Ho} {s:Sl} {F:R5} {fa:Option Addr} {fm fc:Nat} (h:isHo w H s) (hf:isBytes w fa fm fc F.l):lfA w H s F fa fm fc ((w.alloc (.cells (hoL H s).toArray 61)).alloc (.cells [.bool F.e,.int .u32 (F.i:Int),.bool F.r,.int .i64 F.d,.slice fa fm fc].toArray 71)):=by
 have hb:Below w.heap.size w ((w.alloc (.cells (hoL H s).toArray 61)).alloc (.cells [.bool F.e,.int .u32 (F.i:Int),.bool F.r,.int .i64 F.d,.slice fa fm fc].toArray 71)):=((Below.refl _ _).alloc (Nat.le_refl _) _).alloc (by simp) _
 refine⟨(blk.new w _ 61).alloc _,?_,h.below hb,hf.below hb,hb⟩
 have:=blk.new (w.alloc (.cells (hoL H s).toArray 61)) [.bool F.e,.int .u32 (F.i:Int),.bool F.r,.int .i64 F.d,.slice fa fm fc] 71
 have e:(w.alloc (.cells (hoL H s).toArray 61)).heap.size=w.heap.size+1:=by simp
 rw[e] at this
 exact this
theorem lfA.put {w:World} {H:Ho} {s:Sl} {F:R5} {fa:Option Addr} {fm fc:Nat} {W:World} (h:lfA w H s F fa fm fc W) (h0:isHo w H s) (hf:isBytes w fa fm fc F.l) {x:Nat} (hx:w.heap.size+1<x) (l:List Value):lfA w H s F fa fm fc (W.setCells x 0 l):=by
 have hb:Below w.heap.size w (W.setCells x 0 l):=setCells_below (by omega) 0 l h.b
 exact⟨h.p.other (by omega) _ _,h.f.other (by omega) _ _,h0.below hb,hf.below hb,hb⟩
structure lfS (w:World) (H:Ho) (s:Sl) (F:R5) (fa:Option Addr) (fm fc:Nat) (T:Ho) (bw:Nat) (sw:Sl) (W:World):Prop where
 a:lfA w H s F fa fm fc W
 q:blk W bw (hoL T sw) 35
 t:isHo W T sw
theorem lfS.below {w:World} {H:Ho} {s:Sl} {F:R5} {fa:Option Addr} {fm fc:Nat} {T:Ho} {bw:Nat} {sw:Sl} {W W':World} (h:lfS w H s F fa fm fc T bw sw W) (hb:Below W.heap.size W W'):lfS w H s F fa fm fc T bw sw W':=⟨h.a.below hb,h.q.below hb,h.t.below hb⟩
structure lfX (w:World) (H:Ho) (s:Sl) (F:R5) (fa:Option Addr) (fm fc:Nat) (T:Ho) (bw:Nat) (sw:Sl) (w4:World) (T5 bx:Nat) (sx:Wh) (W:World):Prop where
 l:lfS w H s F fa fm fc T bw sw W
 x:blk W bx (hoL H sx.sl) 35
 xh:isHo W H sx.sl
 xw:whS w4.heap.size T5 W sx
 z:bw<w4.heap.size∧w.heap.size+1<w4.heap.size∧w4.heap.size≤T5∧T5≤bx
 b4:Below w4.heap.size w4 W
theorem lfX.below {w:World} {H:Ho} {s:Sl} {F:R5} {fa:Option Addr} {fm fc:Nat} {T:Ho} {bw:Nat} {sw:Sl} {w4:World} {T5 bx:Nat} {sx:Wh} {W W':World} (h:lfX w H s F fa fm fc T bw sw w4 T5 bx sx W) (hb:Below W.heap.size W W'):lfX w H s F fa fm fc T bw sw w4 T5 bx sx W':=⟨h.l.below hb,h.x.below hb,h.xh.below hb,h.xw.same (fun x _ hx=>hb.block x (by have:=h.x.lt;have:=h.z;omega)),h.z,h.b4.trans (hb.mono h.b4.size)⟩
structure lfY (w:World) (H:Ho) (s:Sl) (F:R5) (fa:Option Addr) (fm fc:Nat) (T:Ho) (bw:Nat) (sw:Sl) (w4:World) (T5 bx:Nat) (sx:Wh) (gx b2:Nat) (W:World):Prop where
 y:lfX w H s F fa fm fc T bw sw w4 T5 bx sx W
 f:blk W b2 [.bool F.e,.int .u32 (F.i:Int),.bool F.r,.int .i64 F.d,.slice (some ⟨gx,0,none⟩) fm fm] 25
 d:isBytes W (some ⟨gx,0,none⟩) fm fm F.l
 r:rowF W gx fm
 k:bx<gx∧gx<b2
theorem lfY.below {w:World} {H:Ho} {s:Sl} {F:R5} {fa:Option Addr} {fm fc:Nat} {T:Ho} {bw:Nat} {sw:Sl} {w4:World} {T5 bx:Nat} {sx:Wh} {gx b2:Nat} {W W':World} (h:lfY w H s F fa fm fc T bw sw w4 T5 bx sx gx b2 W) (hb:Below W.heap.size W W'):lfY w H s F fa fm fc T bw sw w4 T5 bx sx gx b2 W':=⟨h.y.below hb,h.f.below hb,h.d.below hb,h.r.up (hb.block _ (by have:=h.f.lt;have:=h.k;omega)),h.k⟩
structure lfG (w:World) (H:Ho) (s:Sl) (F:R5) (fa:Option Addr) (fm fc:Nat) (T:Ho) (bw:Nat) (sw:Sl) (w4:World) (b2 B6:Nat) (w7:World) (bg:Nat) (sg:Sl) (W:World):Prop where
 l:lfS w H s F fa fm fc T bw sw W
 g:blk W bg (hoL T sg) 35
 k:∀ x,B6≤x→x<w7.heap.size→W.heap[x]?=w7.heap[x]?
 z:b2<B6∧B6≤w7.heap.size∧w7.heap.size≤bg
 y:bw<w4.heap.size∧w.heap.size+1<w4.heap.size∧w4.heap.size≤b2
 b4:Below w4.heap.size w4 W
theorem lfG.below {w:World} {H:Ho} {s:Sl} {F:R5} {fa:Option Addr} {fm fc:Nat} {T:Ho} {bw:Nat} {sw:Sl} {w4:World} {b2 B6:Nat} {w7:World} {bg:Nat} {sg:Sl} {W W':World} (h:lfG w H s F fa fm fc T bw sw w4 b2 B6 w7 bg sg W) (hb:Below W.heap.size W W'):lfG w H s F fa fm fc T bw sw w4 b2 B6 w7 bg sg W':=⟨h.l.below hb,h.g.below hb,fun x h1 h2=>(hb.block x (by have:=h.g.lt;have:=h.z;omega)).trans (h.k x h1 h2),h.z,h.y,h.b4.trans (hb.mono h.b4.size)⟩
theorem far.symm {a b:R8} (h:far a b):far b a:=fun h1 h2=>⟨fun e=>(h h2 h1).1 e.symm,fun e=>(h h2 h1).2 e.symm⟩
theorem okBxs.far {st:Int} {bx:List R8} (h:okBxs st bx) {i j:Nat} (hi:i<bx.length) (hj:j<bx.length) (hne:i≠j):far bx[i] bx[j]:=by
 by_cases e:i<j
 ·exact h.2.1 i j hi hj e
 ·exact (h.2.1 j i hj hi (by omega)).symm
theorem okBx.up {st st':Int} {b:R8} (h:okBx st b) (hst:st≤st'):okBx st' b:=by
 unfold okBx at h ⊢
 split at h
 ·rename_i e;rw[if_pos e];exact h
 ·rename_i e;rw[if_neg e];exact⟨h.1,h.2.1,⟨h.2.2.1.1,by omega⟩,h.2.2.2⟩
theorem okBxs.set {st st':Int} {bx:List R8} (h:okBxs st bx) (hst:st≤st') (i:Nat) (hi:i<bx.length) (b:R8) (hb:okBx st' b) (hf:∀ j (hj:j<bx.length),j≠i→Go.Proofs.YtaamahohdnbpiaaGreat.far b bx[j]) (hc:busyN (bx.set i b)≤1):okBxs st' (bx.set i b):=by
 refine⟨fun j hj=>?_,fun j k hj hk hjk=>?_,hc⟩
 ·rw[List.getElem_set]
  split
  ·exact hb
  ·exact (h.1 j (by simpa using hj)).up hst
 ·rw[List.getElem_set,List.getElem_set]
  have hj':j<bx.length:=by simpa using hj
  have hk':k<bx.length:=by simpa using hk
  split
  ·rename_i e
   rw[if_neg (by omega)]
   exact hf k hk' (by omega)
  ·split
   ·exact (hf j hj' (by omega)).symm
   ·exact h.2.1 j k hj' hk' hjk
theorem busyN_set {bx:List R8} {i:Nat} (hi:i<bx.length) (b:R8):busyN (bx.set i b)=busyN bx-(if (bx[i].x != 0 && bx[i].x != 1)=true then 1 else 0)+(if (b.x != 0 && b.x != 1)=true then 1 else 0):=List.countP_set hi
theorem busyN_pos {bx:List R8} {i:Nat} (hi:i<bx.length) (h:(bx[i].x != 0 && bx[i].x != 1)=true):1≤busyN bx:=List.countP_pos_iff.2 ⟨_,List.getElem_mem hi,h⟩
theorem loP_ok {c3:Int} {qu:List R8} {lo:Int} (h:0≤lo∧lo≤100000):0≤loP c3 qu lo∧loP c3 qu lo≤100000:=by
 unfold loP
 split
 ·exact h
 ·split
  ·omega
  ·exact h
theorem okHo.post {H:Ho} (h:okHo H) {ev:R8} (he:okEv ev=true):okHo (postHo H ev):=by
 refine⟨h.cf,h.fs,h.nb,h.nf,?_,?_,?_,h.s0,h.s1,h.ff,?_,h.bx⟩
 ·show ((quP H.c3 H.qu ev).length:Int)≤H.c3
  have:=h.nq
  unfold quP
  split
  ·rw[List.length_append,List.length_singleton];omega
  ·exact h.nq
 ·exact (loP_ok ⟨h.l0,h.l1⟩).1
 ·exact (loP_ok ⟨h.l0,h.l1⟩).2
 ·show (quP H.c3 H.qu ev).all okEv=true
  unfold quP
  split
  ·rw[List.all_append,h.qu];simp[he]
  ·exact h.qu
theorem okHo.boxes {H:Ho} (h:okHo H) (bx:List R8) (st:Int) (hl:bx.length=H.bx.length) (hb:okBxs st bx) (hs:0≤st∧st≤1000000):okHo { H with bx:=bx,st:=st }:=
 ⟨h.cf,h.fs,by rw[hl];exact h.nb,h.nf,h.nq,h.l0,h.l1,hs.1,hs.2,h.ff,h.qu,hb⟩
theorem z8_ok (st:Int):okBx st z8:=by
 unfold okBx
 rw[if_pos rfl]
 exact⟨rfl,rfl,rfl,rfl,rfl,rfl,rfl⟩
theorem okHo.free {H:Ho} (h:okHo H) (k:Nat):okHo (freeHo H k):=by
 by_cases hk:k<H.bx.length
 ·refine h.boxes (H.bx.set k z8) H.st (by simp) (h.bx.set (Int.le_refl _) k hk z8 (z8_ok _) (fun j hj _ h1 _=>absurd rfl h1) ?_) ⟨h.s0,h.s1⟩
  rw[busyN_set hk]
  have:=h.bx.2.2
  have e:(z8.x != 0 && z8.x != 1)=false:=rfl
  rw[e]
  simp only[Bool.false_eq_true,if_false]
  omega
 ·have e:H.bx.set k z8=H.bx:=List.set_eq_of_length_le (by omega)
  unfold freeHo
  rw[e]
  exact h
theorem okHo.state {H:Ho} (h:okHo H) (k:Nat) (hk:k<H.bx.length) (hx:H.bx[k].x≠0) (v:Int) (hv:1≤v∧v≤3) (hb:v=1∨(H.bx[k].x != 0 && H.bx[k].x != 1)=true∨busyN H.bx=0):okHo (stHo H k v):=by
 unfold stHo
 rw[dif_pos hk]
 have hbk:=h.bx.1 k hk
 unfold okBx at hbk
 rw[if_neg hx] at hbk
 refine h.boxes _ H.st (by simp) (h.bx.set (Int.le_refl _) k hk _ ?_ (fun j hj hne=>?_) ?_) ⟨h.s0,h.s1⟩
 ·unfold okBx
  rw[if_neg (by show ¬ v=0;omega)]
  exact⟨hv,hbk.2⟩
 ·have:=h.bx.far hk hj (fun e=>hne e.symm)
  exact fun _ h2=>this hx h2
 ·rw[busyN_set hk]
  have hn:=h.bx.2.2
  rcases hb with rfl|e|e
  ·have:(({ H.bx[k] with x:=1 }:R8).x != 0 && ({ H.bx[k] with x:=1 }:R8).x != 1)=false:=rfl
   rw[this]
   simp only[Bool.false_eq_true,if_false]
   omega
  ·rw[if_pos e]
   have:=busyN_pos hk e
   split <;> omega
  ·rw[e]
   split <;> split <;> omega
theorem tag_ev {x y z:Int} (hx:1≤x∧x≤12) (hy:0≤y∧y≤9999) (hz:0≤z∧z≤9):okEv (ev3 x y z)=true:=by
 unfold okEv
 rw[Bool.and_eq_true]
 exact⟨decide_eq_true ⟨hx,hy,hz⟩,rfl⟩
theorem okHo.sub {H:Ho} (h:okHo H) (t:Int) (F:R5):okHo (subHo H t F):=by
 unfold subHo
 by_cases h1:0≤t∧t≤9999
 ·rw[if_neg (fun e=>e h1)]
  by_cases h2:validB F.e F.i F.r F.d F.l.length=false
  ·rw[if_pos h2];exact h.post (tag_ev (by omega) (by omega) (by omega))
  ·rw[if_neg h2]
   have hv:validB F.e F.i F.r F.d F.l.length=true:=by simpa using h2
   by_cases h3:tagIx H.bx t<H.bx.length
   ·rw[if_pos h3];exact h.post (tag_ev (by omega) (by omega) (by omega))
   ·rw[if_neg h3]
    by_cases h4:H.st=1000000
    ·rw[if_pos h4];exact h.post (tag_ev (by omega) (by omega) (by omega))
    ·rw[if_neg h4]
     by_cases h5:freeIx H.bx<H.bx.length
     ·rw[if_pos h5]
      have hs0:=h.s0
      have hs1:=h.s1
      have hfx:H.bx[freeIx H.bx].x=0:=by
       have:(H.bx[freeIx H.bx].x == 0)=true:=List.findIdx_getElem (w:=h5)
       simpa using this
      refine h.boxes _ (H.st+1) (by simp) (h.bx.set (by omega) _ h5 _ ?_ (fun j hj hne _ hj0=>?_) ?_) ⟨by omega,by omega⟩
      ·unfold okBx
       rw[if_neg (by show ¬ (1:Int)=0;decide)]
       exact⟨⟨by show (1:Int)≤1;decide,by show (1:Int)≤3;decide⟩,h1,⟨hs0,by show H.st<H.st+1;omega⟩,hv⟩
      ·have hj1:=h.bx.1 j hj
       unfold okBx at hj1
       rw[if_neg hj0] at hj1
       refine⟨fun e=>h3 ?_,fun e=>by have e':H.st=H.bx[j].z:=e;omega⟩
       have e':t=H.bx[j].y:=e
       unfold tagIx
       exact List.findIdx_lt_length_of_exists ⟨H.bx[j],List.getElem_mem hj,by unfold tagBb;simp[hj0,e'.symm]⟩
      ·rw[busyN_set h5]
       have hn:=h.bx.2.2
       rw[hfx]
       simp
       omega
     ·rw[if_neg h5];exact h.post (tag_ev (by omega) (by omega) (by omega))
 ·rw[if_pos h1];exact h.post (tag_ev (by omega) (by omega) (by omega))
theorem okHo.take {H:Ho} (h:okHo H) (i:Int):okHo (takeHo H i):=by
 unfold takeHo takeB
 by_cases h1:0≤i∧i<(H.bx.length:Int)
 ·rw[dif_pos h1]
  by_cases h2:(H.bx[i.toNat]'(by omega)).x=1∧(∀ b ∈ H.bx,¬ (b.x=2∨b.x=3))
  ·rw[if_pos h2]
   have hk:i.toNat<H.bx.length:=by omega
   have hz:busyN H.bx=0:=by
    unfold busyN
    rw[List.countP_eq_zero]
    intro b hb hbb;obtain⟨j,hj,rfl⟩:=List.getElem_of_mem hb
    have hj1:=h.bx.1 j hj
    have:=h2.2 _ hb
    simp at hbb
    unfold okBx at hj1
    rw[if_neg hbb.1] at hj1
    omega
   have:=h.state i.toNat hk (by rw[h2.1];decide) 2 (by omega) (Or.inr (Or.inr hz))
   unfold stHo at this
   rw[dif_pos hk] at this
   exact this
  ·rw[if_neg h2];exact h
 ·rw[dif_neg h1];exact h
theorem wire_at {bx:List R8} (h:wireIx bx<bx.length):bx[wireIx bx].x=2∨bx[wireIx bx].x=3:=by
 have:onWb bx[wireIx bx]=true:=List.findIdx_getElem (w:=h)
 unfold onWb at this
 simpa using this
theorem okHo.rel {H:Ho} (h:okHo H) (sent:Bool):okHo (relHo H sent):=by
 unfold relHo
 split
 ·rename_i hw
  have hx:=wire_at hw
  have hb:=h.bx.1 _ hw
  unfold okBx at hb
  rw[if_neg (by omega)] at hb
  split
  ·refine (h.free _).post ?_
   unfold okEv
   rw[Bool.and_eq_true]
   exact⟨decide_eq_true ⟨⟨by show (1:Int)≤1;decide,by show (1:Int)≤12;decide⟩,hb.2.1,⟨by show (0:Int)≤0;decide,by show (0:Int)≤9;decide⟩⟩,hb.2.2.2⟩
  ·split
   ·exact (h.free _).post (tag_ev (by omega) hb.2.1 (by omega))
   ·exact h.state _ hw (by omega) 1 (by omega) (Or.inl rfl)
 ·exact h
theorem okHo.ab {H:Ho} (h:okHo H) (t:Int):okHo (abHo H t):=by
 unfold abHo
 split
 ·rename_i hw
  have hx:tagBb t H.bx[tagIx H.bx t]=true:=List.findIdx_getElem (w:=hw)
  unfold tagBb at hx
  simp at hx
  have hb:=h.bx.1 _ hw
  unfold okBx at hb
  rw[if_neg hx.1] at hb
  have ht:0≤t∧t≤9999:=by rw[← hx.2];exact hb.2.1
  split
  ·exact (h.free _).post (tag_ev (by omega) ht (by omega))
  ·rename_i h1
   exact h.state _ hw hx.1 3 (by omega) (Or.inr (Or.inl (by simp[hx.1,h1])))
 ·refine h.post (tag_ev (by omega) ?_ (by omega))
  split <;> omega
theorem okHo.drain {H:Ho} (h:okHo H):okHo (qHo H []):=
 ⟨h.cf,h.fs,h.nb,h.nf,by have:=of_decide_eq_true h.cf;show ((0:Nat):Int)≤H.c3;omega,h.l0,h.l1,h.s0,h.s1,h.ff,rfl,h.bx⟩
theorem okHo.new {m:Nat} {b c d:Int} (h:okCf m b c d=true):okHo ⟨m,b,c,d,[],List.replicate m bx0,[],[],0,0⟩:=by
 have hc:=of_decide_eq_true h
 refine⟨h,rfl,by simp,by show ((0:Nat):Int)≤b;omega,by show ((0:Nat):Int)≤d;omega,by show (0:Int)≤0;decide,by show (0:Int)≤100000;decide,by show (0:Int)≤0;decide,by show (0:Int)≤1000000;decide,rfl,rfl,fun j hj=>?_,fun i j hi hj _ h1=>?_,?_⟩
 ·rw[List.getElem_replicate]
  exact z8_ok _
 ·rw[List.getElem_replicate] at h1
  exact absurd rfl h1
 ·unfold busyN
  rw[List.countP_replicate]
  simp[bx0]
set_option maxHeartbeats 8000000 in
set_option maxRecDepth 20000 in
theorem changed63 (w:World) (H:Ho) (s:Sl) (Bx:Nat) (sent:Bool) (h:isHo w H s) (hs:slSome s) (hn:H.le 1048576) (yb:w.cell? ⟨Bx,0,none⟩=some (.bool sent)) :
  Calls Tryz.prog 56 #[.agg (hoL H s).toArray,.func (.func 63) #[] #[.pointer (some ⟨Bx,0,none⟩)]] w fun o w'=>(okHo H∧toldQ w (relHo H sent) o w')∨(¬ okHo H∧o = .returned (.agg [.int .i64 0,.int .i64 0,.int .i64 0,.int .i64 0,.slice none 0 0,.slice none 0 0,.slice none 0 0,.slice none 0 0,.int .i64 0,.int .i64 0].toArray)∧Below w.heap.size w w'):=by
 have H0:Hid (dtS w H s ((w.alloc (.cells (hoL H s).toArray 35)).alloc (.cells [.int .i64 0,.int .i64 0,.int .i64 0,.int .i64 0,.slice none 0 0,.slice none 0 0,.slice none 0 0,.slice none 0 0,.int .i64 0,.int .i64 0].toArray 35))):=dtS.new w H s
 have HYB:Hid (∀ W,Below w.heap.size w W→W.cell? ⟨Bx,0,none⟩=some (.bool sent)):=fun W hW=>(hW.cell (by exact World.block_lt_of_cell? w _ yb)).trans yb
 clear yb;by_cases hok:okHo H
 ·have HV:Hid (∀ W,Below w.heap.size w W→Calls Tryz.prog 60 #[.agg (hoL H s).toArray] W fun o w'=>o = .returned (.bool true)∧Below W.heap.size W w'):=fun W hW=>vOk W H s (h.below hW) hn hok
  have HO:Hid (∀ W,Below w.heap.size w W→Calls Tryz.prog 61 #[.agg (hoL H s).toArray] W fun o w'=>∃ P,o = .returned (.pointer (some ⟨P,0,none⟩))∧Below W.heap.size W w'∧Calls Tryz.prog 63 #[.pointer (some ⟨P,0,none⟩),.pointer (some ⟨Bx,0,none⟩)] w' fun o w2=>o = .returned (.tuple #[])∧Below W.heap.size W w2∧Calls Tryz.prog 118 #[.pointer (some ⟨P,0,none⟩)] w2 (toldQ w2 (relHo H sent))):=fun W hW=>open_release W H s Bx sent (h.below hW) hs hok hn (HYB.out W hW)
  have HOK:Hid (okHo H):=hok
  clear h hn hok hs;go_enter Tryz.func56,Tryz.ntmps56
  go_wp2_with (first
   | (refine wpList_load_mid (P:=Tryz.prog) rfl 35 _ rfl w.heap.size 0 rfl (hoL H s) _ H0.out.p.load Tryz.underlying35 rfl (sz41L H s) ?_))
  refine (HV.out _ H0.out.b).mono ?_
  rintro o w1 ⟨rfl,hb1⟩;have H1:Hid (dtS w H s w1):=H0.out.below hb1
  clear H0 hb1;go_wp2_with (first
   | (refine wpList_load_mid (P:=Tryz.prog) rfl 35 _ rfl w.heap.size 0 rfl (hoL H s) _ H1.out.p.load Tryz.underlying35 rfl (sz41L H s) ?_))
  refine (HO.out _ H1.out.b).mono ?_
  rintro o w2 ⟨P,rfl,hb2,hc2⟩;have HC2:Hid (Calls Tryz.prog 63 #[.pointer (some ⟨P,0,none⟩),.pointer (some ⟨Bx,0,none⟩)] w2 fun o w3=>o = .returned (.tuple #[])∧Below w1.heap.size w1 w3∧Calls Tryz.prog 118 #[.pointer (some ⟨P,0,none⟩)] w3 (toldQ w3 (relHo H sent))):=hc2
  clear hc2 hb2;go_wp2_with fail;refine (Calls.mono HC2.out) ?_
  rintro o w3 ⟨rfl,hb3,hc3⟩;have H3:Hid (dtS w H s w3):=H1.out.below hb3
  have HC3:Hid (Calls Tryz.prog 118 #[.pointer (some ⟨P,0,none⟩)] w3 (toldQ w3 (relHo H sent))):=hc3
  clear hc3 hb3 HC2 H1;go_wp2_with fail;refine (Calls.mono HC3.out) ?_
  rintro o w4 ⟨s4,rfl,q1,q2,q3,q4,hb4⟩;have H4:Hid (dtS w H s w4):=H3.out.below hb4
  have HQ:Hid (St w3.heap.size w4 (fun W=>isHo W (relHo H sent) s4.sl)∧whS w3.heap.size w4.heap.size w4 s4∧whD s4∧whE s4):=⟨q1,q2,q3,q4⟩
  clear q1 q2 q3 q4 hb4 HC3;go_wp2_with (first
   | (refine wpList_store_mid (P:=Tryz.prog) rfl 35 (.tmp 4) _ rfl (w.heap.size+1) 0 (hoL (relHo H sent) s4.sl).toArray rfl rfl (H4.out.r.there 0 _ (by rw[List.size_toArray,hoL_len];decide)) (sz41A (relHo H sent) s4.sl) (hoL_one (relHo H sent) s4.sl) ?_;generalize hW8:World.setCells _ (w.heap.size+1) 0 _=w8;have HW8:Hid (_=w8):=hW8;clear hW8))
  have e8:=HW8.out
  have hF:blk w8 (w.heap.size+1) (hoL (relHo H sent) s4.sl) 35:=by
   rw[← e8]
   have:=blk.put [] Z10 [] (hoL (relHo H sent) s4.sl) (w:=w4) (b:=w.heap.size+1) (T:=35) (by simpa using H4.out.r) (by rw[hoL_len];rfl)
   simpa using this
  have hL:=run_loadVar_mid (P:=Tryz.prog) w8 (w.heap.size+1) 0 35 _ _ hF.load Tryz.underlying35 rfl (sz41L (relHo H sent) s4.sl)
  refine bodyPost_ret (v:=.agg (hoL (relHo H sent) s4.sl).toArray) (results_cell Tryz.results56 _ w8 (w.heap.size+1) _ rfl hL) rfl ?_
  have oth:∀ x,x≠w.heap.size+1→w8.heap[x]?=w4.heap[x]?:=fun x hx=>by rw[← e8];exact setCells_other _ x hx _ _ _
  have hsz:w8.heap.size=w4.heap.size:=by rw[← e8];exact setCells_size ..
  have hp:=toldQ.put (w:=w) H3.out.b.size H3.out.r.lt HQ.out.1 HQ.out.2.1 oth hsz
  exact Or.inl ⟨HOK.out,s4,rfl,hp.1,hp.2,HQ.out.2.2.1,HQ.out.2.2.2,by rw[← e8];exact setCells_below (by omega) 0 _ H4.out.b⟩
 ·have HV:Hid (∀ W,Below w.heap.size w W→Calls Tryz.prog 60 #[.agg (hoL H s).toArray] W fun o w'=>o = .returned (.bool false)∧Below W.heap.size W w'):=fun W hW=>vBad W H s (h.below hW) hn hok
  have HOK:Hid (¬ okHo H):=hok
  clear h hn hok hs;go_enter Tryz.func56,Tryz.ntmps56
  go_wp2_with (first
   | (refine wpList_load_mid (P:=Tryz.prog) rfl 35 _ rfl w.heap.size 0 rfl (hoL H s) _ H0.out.p.load Tryz.underlying35 rfl (sz41L H s) ?_))
  refine (HV.out _ H0.out.b).mono ?_
  rintro o w1 ⟨rfl,hb1⟩;have H1:Hid (dtS w H s w1):=H0.out.below hb1
  clear H0 hb1;go_wp2_with (first
   | (refine wpList_store_mid (P:=Tryz.prog) rfl 35 (.tmp 4) _ rfl (w.heap.size+1) 0 [.int .i64 0,.int .i64 0,.int .i64 0,.int .i64 0,.slice none 0 0,.slice none 0 0,.slice none 0 0,.slice none 0 0,.int .i64 0,.int .i64 0].toArray rfl rfl (H1.out.r.there 0 10 (by simp[Z10])) sz41 (all_oneCell_toArray (by simp[Value.oneCell'])) ?_;generalize hW8:World.setCells _ (w.heap.size+1) 0 _=w8;have HW8:Hid (_=w8):=hW8;clear hW8))
  have e8:=HW8.out
  have hF:blk w8 (w.heap.size+1) [.int .i64 0,.int .i64 0,.int .i64 0,.int .i64 0,.slice none 0 0,.slice none 0 0,.slice none 0 0,.slice none 0 0,.int .i64 0,.int .i64 0] 35:=by
   rw[← e8]
   have:=blk.put [] Z10 [] [.int .i64 0,.int .i64 0,.int .i64 0,.int .i64 0,.slice none 0 0,.slice none 0 0,.slice none 0 0,.slice none 0 0,.int .i64 0,.int .i64 0] (w:=w1) (b:=w.heap.size+1) (T:=35) (by simpa using H1.out.r) rfl
   simpa using this
  have hL:=run_loadVar_mid (P:=Tryz.prog) w8 (w.heap.size+1) 0 35 _ _ hF.load Tryz.underlying35 rfl sz41
  refine bodyPost_ret (v:=.agg [.int .i64 0,.int .i64 0,.int .i64 0,.int .i64 0,.slice none 0 0,.slice none 0 0,.slice none 0 0,.slice none 0 0,.int .i64 0,.int .i64 0].toArray) (results_cell Tryz.results56 _ w8 (w.heap.size+1) _ rfl hL) rfl ?_
  exact Or.inr ⟨HOK.out,rfl,by rw[← e8];exact setCells_below (by omega) 0 _ H1.out.b⟩
structure itR (w:World) (H:Ho) (s:Sl) (sent:Bool) (W:World):Prop where
 p:blk W w.heap.size (hoL H s) 35
 x:blk W (w.heap.size+1) [.bool sent] 4
 r:blk W (w.heap.size+1+1) Z10 35
 b:Below w.heap.size w W
theorem itR.below {w:World} {H:Ho} {s:Sl} {sent:Bool} {W W':World} (h:itR w H s sent W) (hb:Below W.heap.size W W'):itR w H s sent W':=⟨h.p.below hb,h.x.below hb,h.r.below hb,h.b.trans (hb.mono h.b.size)⟩
theorem itR.new (w:World) (H:Ho) (s:Sl) (sent:Bool):itR w H s sent (((w.alloc (.cells (hoL H s).toArray 35)).alloc (.cells #[.bool sent] 4)).alloc (.cells [.int .i64 0,.int .i64 0,.int .i64 0,.int .i64 0,.slice none 0 0,.slice none 0 0,.slice none 0 0,.slice none 0 0,.int .i64 0,.int .i64 0].toArray 35)):=by
 refine⟨((blk.new w _ 35).alloc _).alloc _,?_,?_,(((Below.refl _ _).alloc (Nat.le_refl _) _).alloc (by simp) _).alloc (by simp;omega) _⟩
 ·have:=(blk.new (w.alloc (.cells (hoL H s).toArray 35)) [.bool sent] 4).alloc (.cells [.int .i64 0,.int .i64 0,.int .i64 0,.int .i64 0,.slice none 0 0,.slice none 0 0,.slice none 0 0,.slice none 0 0,.int .i64 0,.int .i64 0].toArray 35)
  simpa using this
 ·have:=blk.new ((w.alloc (.cells (hoL H s).toArray 35)).alloc (.cells #[.bool sent] 4)) Z10 35
  have e:((w.alloc (.cells (hoL H s).toArray 35)).alloc (.cells #[.bool sent] 4)).heap.size=w.heap.size+1+1:=by simp
  rw[e] at this
  exact this
set_option maxHeartbeats 8000000 in
set_option maxRecDepth 20000 in
theorem implRelease_any (w:World) (H:Ho) (s:Sl) (sent:Bool) (h:isHo w H s) (hs:slSome s) (hn:H.le 1048576) :
  Calls Tryz.prog 18 #[.agg (hoL H s).toArray,.bool sent] w fun o w'=>(okHo H∧toldQ w (relHo H sent) o w')∨(¬ okHo H∧o = .returned (.agg [.int .i64 0,.int .i64 0,.int .i64 0,.int .i64 0,.slice none 0 0,.slice none 0 0,.slice none 0 0,.slice none 0 0,.int .i64 0,.int .i64 0].toArray)∧Below w.heap.size w w'):=by
 have H0:Hid (itR w H s sent (((w.alloc (.cells (hoL H s).toArray 35)).alloc (.cells #[.bool sent] 4)).alloc (.cells [.int .i64 0,.int .i64 0,.int .i64 0,.int .i64 0,.slice none 0 0,.slice none 0 0,.slice none 0 0,.slice none 0 0,.int .i64 0,.int .i64 0].toArray 35))):=itR.new w H s sent
 have HC:Hid (∀ W,itR w H s sent W→Calls Tryz.prog 56 #[.agg (hoL H s).toArray,.func (.func 63) #[] #[.pointer (some ⟨w.heap.size+1,0,none⟩)]] W fun o w'=>(okHo H∧toldQ W (relHo H sent) o w')∨(¬ okHo H∧o = .returned (.agg [.int .i64 0,.int .i64 0,.int .i64 0,.int .i64 0,.slice none 0 0,.slice none 0 0,.slice none 0 0,.slice none 0 0,.int .i64 0,.int .i64 0].toArray)∧Below W.heap.size W w')):=fun W hW=>changed63 W H s (w.heap.size+1) sent (h.below hW.b) hs hn (hW.x.cell 0 _ rfl)
 have hmf:∀ (fn:Fn) (first cap:Array Value) (w:World),(Instr.makeFunc fn first cap).run Tryz.prog w = .ok (.func fn first cap) w:=fun _ _ _ _=>rfl
 clear h hn hs;go_enter Tryz.func18,Tryz.ntmps18
 go_wp2_with (first
  | (refine wpList_load_mid (P:=Tryz.prog) rfl 35 _ rfl w.heap.size 0 rfl (hoL H s) _ H0.out.p.load Tryz.underlying35 rfl (sz41L H s) ?_))
 refine (HC.out _ H0.out).mono ?_
 rintro o w1 (⟨hok,s4,rfl,q1,q2,q3,q4,hb4⟩|⟨hok,rfl,hb4⟩)
 ·have H4:Hid (itR w H s sent w1):=H0.out.below hb4
  have HQ:Hid (St (((w.alloc (.cells (hoL H s).toArray 35)).alloc (.cells #[.bool sent] 4)).alloc (.cells [.int .i64 0,.int .i64 0,.int .i64 0,.int .i64 0,.slice none 0 0,.slice none 0 0,.slice none 0 0,.slice none 0 0,.int .i64 0,.int .i64 0].toArray 35)).heap.size w1 (fun W=>isHo W (relHo H sent) s4.sl)∧whS (((w.alloc (.cells (hoL H s).toArray 35)).alloc (.cells #[.bool sent] 4)).alloc (.cells [.int .i64 0,.int .i64 0,.int .i64 0,.int .i64 0,.slice none 0 0,.slice none 0 0,.slice none 0 0,.slice none 0 0,.int .i64 0,.int .i64 0].toArray 35)).heap.size w1.heap.size w1 s4∧whD s4∧whE s4):=⟨q1,q2,q3,q4⟩
  have HOK:Hid (okHo H):=hok
  have HZ:Hid (w.heap.size≤(((w.alloc (.cells (hoL H s).toArray 35)).alloc (.cells #[.bool sent] 4)).alloc (.cells [.int .i64 0,.int .i64 0,.int .i64 0,.int .i64 0,.slice none 0 0,.slice none 0 0,.slice none 0 0,.slice none 0 0,.int .i64 0,.int .i64 0].toArray 35)).heap.size∧w.heap.size+1+1<(((w.alloc (.cells (hoL H s).toArray 35)).alloc (.cells #[.bool sent] 4)).alloc (.cells [.int .i64 0,.int .i64 0,.int .i64 0,.int .i64 0,.slice none 0 0,.slice none 0 0,.slice none 0 0,.slice none 0 0,.int .i64 0,.int .i64 0].toArray 35)).heap.size):=⟨H0.out.b.size,H0.out.r.lt⟩
  clear q1 q2 q3 q4 hb4 hok HC H0;go_wp2_with (first
   | (refine wpList_store_mid (P:=Tryz.prog) rfl 35 (.tmp 4) _ rfl (w.heap.size+1+1) 0 (hoL (relHo H sent) s4.sl).toArray rfl rfl (H4.out.r.there 0 _ (by rw[List.size_toArray,hoL_len];decide)) (sz41A (relHo H sent) s4.sl) (hoL_one (relHo H sent) s4.sl) ?_;generalize hW8:World.setCells _ (w.heap.size+1+1) 0 _=w8;have HW8:Hid (_=w8):=hW8;clear hW8))
  have e8:=HW8.out
  have hF:blk w8 (w.heap.size+1+1) (hoL (relHo H sent) s4.sl) 35:=by
   rw[← e8]
   have:=blk.put [] Z10 [] (hoL (relHo H sent) s4.sl) (w:=w1) (b:=w.heap.size+1+1) (T:=35) (by simpa using H4.out.r) (by rw[hoL_len];rfl)
   simpa using this
  have hL:=run_loadVar_mid (P:=Tryz.prog) w8 (w.heap.size+1+1) 0 35 _ _ hF.load Tryz.underlying35 rfl (sz41L (relHo H sent) s4.sl)
  refine bodyPost_ret (v:=.agg (hoL (relHo H sent) s4.sl).toArray) (results_cell Tryz.results18 _ w8 (w.heap.size+1+1) _ rfl hL) rfl ?_
  have oth:∀ x,x≠w.heap.size+1+1→w8.heap[x]?=w1.heap[x]?:=fun x hx=>by rw[← e8];exact setCells_other _ x hx _ _ _
  have hsz:w8.heap.size=w1.heap.size:=by rw[← e8];exact setCells_size ..
  have hp:=toldQ.put (w:=w) HZ.out.1 HZ.out.2 HQ.out.1 HQ.out.2.1 oth hsz
  exact Or.inl ⟨HOK.out,s4,rfl,hp.1,hp.2,HQ.out.2.2.1,HQ.out.2.2.2,by rw[← e8];exact setCells_below (by omega) 0 _ H4.out.b⟩
 ·have H4:Hid (itR w H s sent w1):=H0.out.below hb4
  have HOK:Hid (¬ okHo H):=hok
  clear hb4 hok HC H0;go_wp2_with (first
   | (refine wpList_store_mid (P:=Tryz.prog) rfl 35 (.tmp 4) _ rfl (w.heap.size+1+1) 0 [.int .i64 0,.int .i64 0,.int .i64 0,.int .i64 0,.slice none 0 0,.slice none 0 0,.slice none 0 0,.slice none 0 0,.int .i64 0,.int .i64 0].toArray rfl rfl (H4.out.r.there 0 10 (by simp[Z10])) sz41 (all_oneCell_toArray (by simp[Value.oneCell'])) ?_;generalize hW8:World.setCells _ (w.heap.size+1+1) 0 _=w8;have HW8:Hid (_=w8):=hW8;clear hW8))
  have e8:=HW8.out
  have hF:blk w8 (w.heap.size+1+1) [.int .i64 0,.int .i64 0,.int .i64 0,.int .i64 0,.slice none 0 0,.slice none 0 0,.slice none 0 0,.slice none 0 0,.int .i64 0,.int .i64 0] 35:=by
   rw[← e8]
   have:=blk.put [] Z10 [] [.int .i64 0,.int .i64 0,.int .i64 0,.int .i64 0,.slice none 0 0,.slice none 0 0,.slice none 0 0,.slice none 0 0,.int .i64 0,.int .i64 0] (w:=w1) (b:=w.heap.size+1+1) (T:=35) (by simpa using H4.out.r) rfl
   simpa using this
  have hL:=run_loadVar_mid (P:=Tryz.prog) w8 (w.heap.size+1+1) 0 35 _ _ hF.load Tryz.underlying35 rfl sz41
  refine bodyPost_ret (v:=.agg [.int .i64 0,.int .i64 0,.int .i64 0,.int .i64 0,.slice none 0 0,.slice none 0 0,.slice none 0 0,.slice none 0 0,.int .i64 0,.int .i64 0].toArray) (results_cell Tryz.results18 _ w8 (w.heap.size+1+1) _ rfl hL) rfl ?_
  exact Or.inr ⟨HOK.out,rfl,by rw[← e8];exact setCells_below (by omega) 0 _ H4.out.b⟩
end Go.Proofs.YtaamahohdnbpiaaGreat
