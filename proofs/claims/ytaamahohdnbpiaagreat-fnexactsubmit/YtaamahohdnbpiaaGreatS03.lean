import Derived.Test.YtaamahohdnbpiaaGreatS02
import Derived.Test.YtaamahohdnbpiaaGreatG29
import Derived.Test.YtaamahohdnbpiaaGreatG24
import Derived.Test.YtaamahohdnbpiaaGreatG23
import Derived.Deep.RegionHeld3
import Derived.Test.YtaamahohdnbpiaaGreatG04
namespace Go.Proofs.YtaamahohdnbpiaaGreat
open Go.RowKit
set_option linter.unusedVariables false
theorem lh.setBox {w0 : World} {G : Lg} {H : Ho} {f1 f3 : Nat} {hs : Nat → Hd} {nm : Nat} {D : DataW Unit} {W : World} (h : lh w0 G H f1 f3 hs nm D W) (i : Nat) (hi : i < H.bx.length) (b : R8) (hd : Hd) (hb : isBytes w0 hd.1 hd.2.1 hd.2.2 b.l) (hl : b.l.length ≤ 1048576) : lh w0 G { H with bx := H.bx.set i b } f1 f3 (fun j => if j = i then hd else hs j) nm D (W.setCells G.gb (i * 8) (x8 (b, hd))) := by
  have e : W.setCells G.gb (i * 8) (x8 (b, hd)) = setRow W G.gb (i * 8) (x8 (b, hd)) := setCells_row ..
  have hx := h.x.put i hi b hd hb hl
  rw [← e] at hx
  exact h.box hx (fun q hq => setCells_other _ q hq _ _ _) (setCells_size ..)
theorem lh.stamp {w0 : World} {G : Lg} {H : Ho} {f1 f3 : Nat} {hs : Nat → Hd} {nm : Nat} {D : DataW Unit} {W : World} (h : lh w0 G H f1 f3 hs nm D W) (st : Int) : lh w0 G { H with st := st } f1 f3 hs nm D (W.setCell ⟨G.P, 14, none⟩ (.int .i64 st)) := by
  have dp := h.d.p
  have dl := h.d.lo
  have he : ∀ q, q ≠ G.P → (W.setCell ⟨G.P, 14, none⟩ (.int .i64 st)).heap[q]? = W.heap[q]? := fun q hq => heap_setCell_other _ _ _ _ (by exact hq)
  have hb : Below w0.heap.size w0 (W.setCell ⟨G.P, 14, none⟩ (.int .i64 st)) := h.b.setCell (by exact dl.2.1) _
  have hz : W.heap.size ≤ (W.setCell ⟨G.P, 14, none⟩ (.int .i64 st)).heap.size := ((Below.refl 0 W).setCell (Nat.zero_le _) _).size
  refine ⟨h.p.set 14 _, h.f.same (he _ dp.1), h.x.at0 (he _ dp.2.1) hb, h.r.keep (he _ dp.2.2.1), h.rz.up (he _ dp.2.2.1), h.q.keep (he _ dp.2.2.2.1), h.qz.up (he _ dp.2.2.2.1), ?_, hb, ⟨Nat.lt_of_lt_of_le h.hi.1 hz, Nat.lt_of_lt_of_le h.hi.2.1 hz, Nat.lt_of_lt_of_le h.hi.2.2 hz⟩, h.d, ⟨h.bd.e1, h.bd.e3, h.bd.m1, h.bd.m2, h.bd.nk, h.bd.b1, h.bd.b3, h.bd.lo, h.bd.s3, h.bd.s4⟩⟩
  obtain ⟨es, clock, q1, q2⟩ := h.m
  exact ⟨es, clock, (he _ dp.2.2.2.2).trans q1, q2⟩
set_option maxHeartbeats 8000000 in
set_option maxRecDepth 20000 in
/-- impl's submit -/
theorem submit_any {w0 : World} {G : Lg} {H : Ho} {f1 f3 : Nat} {hs : Nat → Hd} {nm : Nat} {D : DataW Unit} {W : World} (h : lh w0 G H f1 f3 hs nm D W) (t : Int) (F : R5) (fa : Option Addr) (fm fc : Nat) (hf : isBytes w0 fa fm fc F.l) (hfm : fm ≤ 1048576) (hnm : nm ≤ 1000) (hst : 0 ≤ H.st ∧ H.st ≤ 1000000) (hwt : (Lit.int .i64 t).wf = true) (hD : (tagIx H.bx t < H.bx.length ∧ Maps.has D (.int .i64 t) = true) ∨ (¬ tagIx H.bx t < H.bx.length ∧ Maps.has D (.int .i64 t) = false)) :
    Calls Tryz.prog 58 #[.pointer (some ⟨G.P, 0, none⟩), .int .i64 t, frV F.e F.i F.r F.d fa fm fc] W fun o w' => o = .returned (.tuple #[]) ∧ ∃ hs' nm' D', lh w0 G (subHo H t F) f1 f3 hs' nm' D' w' := by
  have HBA : Hid (Below W.heap.size W (W.alloc (.cells [.bool F.e, .int .u32 (F.i : Int), .bool F.r, .int .i64 F.d, .slice fa fm fc].toArray 25))) := (Below.refl _ _).alloc (Nat.le_refl _) _
  have HPA : Hid (blk (W.alloc (.cells [.bool F.e, .int .u32 (F.i : Int), .bool F.r, .int .i64 F.d, .slice fa fm fc].toArray 25)) W.heap.size [.bool F.e, .int .u32 (F.i : Int), .bool F.r, .int .i64 F.d, .slice fa fm fc] 25) := blk.new W _ 25
  have HLA : Hid (lh w0 G H f1 f3 hs nm D (W.alloc (.cells [.bool F.e, .int .u32 (F.i : Int), .bool F.r, .int .i64 F.d, .slice fa fm fc].toArray 25))) := h.below HBA.out
  have HU : Hid (lhU G W.heap.size) := h.lts
  have HFB : Hid (isBytes w0 fa fm fc F.l ∧ F.l.length ≤ 1048576) := ⟨hf, by have := hf.len; omega⟩
  have HRF : Hid (∀ X, lh w0 G H f1 f3 hs nm D X → Calls Tryz.prog 119 #[.pointer (some ⟨G.P, 0, none⟩), .int .i64 t, frV F.e F.i F.r F.d fa fm fc] X fun o w' => o = .returned (.agg [.int .i64 (refEv H t F).x, .int .i64 (refEv H t F).y, .int .i64 (refEv H t F).z, .bool false, .int .u32 0, .bool false, .int .i64 0, .slice none 0 0].toArray) ∧ Below X.heap.size X w') := fun X hX => refusal_any hX t F fa fm fc (hf.below hX.b) hwt hD
  have HK : Hid (keyOf Tryz.prog 3 (.int .i64 t) = some (.int .i64 t)) := key3 hwt
  clear h hf hwt hD
  go_enter Tryz.func58, Tryz.ntmps58
  go_wp2_with (first | (refine wpList_load_mid (P := Tryz.prog) rfl 25 _ rfl W.heap.size 0 rfl [.bool F.e, .int .u32 (F.i : Int), .bool F.r, .int .i64 F.d, .slice fa fm fc] _ HPA.out.load Tryz.underlying25 rfl sz93 ?_))
  refine (HRF.out _ HLA.out).mono ?_
  rintro o w1 ⟨rfl, hb1⟩
  have HL1 : Hid (lh w0 G H f1 f3 hs nm D (w1.alloc (.cells [.int .i64 (refEv H t F).x, .int .i64 (refEv H t F).y, .int .i64 (refEv H t F).z, .bool false, .int .u32 0, .bool false, .int .i64 0, .slice none 0 0].toArray 46))) := (HLA.out.below hb1).below ((Below.refl _ _).alloc (Nat.le_refl _) _)
  have HP1 : Hid (blk (w1.alloc (.cells [.int .i64 (refEv H t F).x, .int .i64 (refEv H t F).y, .int .i64 (refEv H t F).z, .bool false, .int .u32 0, .bool false, .int .i64 0, .slice none 0 0].toArray 46)) W.heap.size [.bool F.e, .int .u32 (F.i : Int), .bool F.r, .int .i64 F.d, .slice fa fm fc] 25) := (HPA.out.below hb1).alloc _
  have HE1 : Hid (blk (w1.alloc (.cells [.int .i64 (refEv H t F).x, .int .i64 (refEv H t F).y, .int .i64 (refEv H t F).z, .bool false, .int .u32 0, .bool false, .int .i64 0, .slice none 0 0].toArray 46)) w1.heap.size [.int .i64 (refEv H t F).x, .int .i64 (refEv H t F).y, .int .i64 (refEv H t F).z, .bool false, .int .u32 0, .bool false, .int .i64 0, .slice none 0 0] 46) := blk.new w1 _ 46
  have HZ1 : Hid (W.heap.size < w1.heap.size) := Nat.lt_of_lt_of_le HPA.out.lt hb1.size
  have y0 := HE1.out.cell 0 _ rfl
  clear hb1 HLA HPA HBA HRF
  have hsr := @subHo_ref H t F
  generalize refEv H t F = E at *
  rcases hsr with ⟨hx, hs1, hl1, he1⟩ | ⟨he, ht, hno, hfr, hs1, h9⟩
  · obtain ⟨x, y, z, e, i, r, d, l⟩ := E
    simp only [R8.mk.injEq, true_and] at he1
    obtain ⟨rfl, rfl, rfl, rfl, rfl⟩ := he1
    simp only [] at HL1 HP1 HE1 y0 hx hs1
    have hx' : (x == 0) = false := by simpa using hx
    have HT : Hid (subHo H t F = postHo H (ev3 x y z)) := hs1
    have HPO : Hid (Calls Tryz.prog 120 #[.pointer (some ⟨G.P, 0, none⟩), .agg [.int .i64 x, .int .i64 y, .int .i64 z, .bool false, .int .u32 0, .bool false, .int .i64 0, .slice none 0 0].toArray] (w1.alloc (.cells [.int .i64 x, .int .i64 y, .int .i64 z, .bool false, .int .u32 0, .bool false, .int .i64 0, .slice none 0 0].toArray 46)) fun o w' => o = .returned (.tuple #[]) ∧ lh w0 G (postHo H (ev3 x y z)) f1 f3 hs nm D w' ∧ (∀ b, b ≠ G.P → b ≠ G.gq → b < (w1.alloc (.cells [.int .i64 x, .int .i64 y, .int .i64 z, .bool false, .int .u32 0, .bool false, .int .i64 0, .slice none 0 0].toArray 46)).heap.size → w'.heap[b]? = (w1.alloc (.cells [.int .i64 x, .int .i64 y, .int .i64 z, .bool false, .int .u32 0, .bool false, .int .i64 0, .slice none 0 0].toArray 46)).heap[b]?) ∧ (w1.alloc (.cells [.int .i64 x, .int .i64 y, .int .i64 z, .bool false, .int .u32 0, .bool false, .int .i64 0, .slice none 0 0].toArray 46)).heap.size ≤ w'.heap.size) := HL1.out.post (ev3 x y z) none 0 0 (none8 _) (Nat.zero_le _)
    go_wp2_with (first | (refine wpList_load_mid (P := Tryz.prog) rfl 46 _ rfl w1.heap.size 0 rfl _ _ HE1.out.load Tryz.underlying46 rfl sz129 ?_))
    refine HPO.out.mono ?_
    rintro o w7 ⟨rfl, hl7, _, _⟩
    have HL7 : Hid (lh w0 G (postHo H (ev3 x y z)) f1 f3 hs nm D w7) := hl7
    clear hl7 HPO
    go_wp2_with fail
    first | go_end0 | (simp only [Exit.inBlock, Exit.then]; refine bodyPost_ret (results_none rfl _ _ _) rfl ?_) | refine bodyPost_ret (results_none rfl _ _ _) rfl ?_
    exact ⟨rfl, hs, nm, D, by rw [HT.out]; exact HL7.out⟩
  · rw [he] at HL1 HP1 HE1 y0
    have HT : Hid (subHo H t F = xHo H (H.bx.set (freeIx H.bx) ⟨1, t, H.st, F.e, F.i, F.r, F.d, F.l⟩) (H.st + 1)) := hs1
    rw [he]
    go_wp2_with fail
    refine HL1.out.freeBox.mono ?_
    rintro o w2 ⟨z, rfl, hz, hb2⟩
    have HL2 : Hid (lh w0 G H f1 f3 hs nm D w2) := HL1.out.below hb2
    have HP2 : Hid (blk w2 W.heap.size [.bool F.e, .int .u32 (F.i : Int), .bool F.r, .int .i64 F.d, .slice fa fm fc] 25) := HP1.out.below hb2
    obtain ⟨rfl, hk⟩ : z = (freeIx H.bx : Int) ∧ freeIx H.bx < H.bx.length := by
      rcases hz with ⟨_, h⟩ | h
      · exact absurd hfr h
      · exact h
    clear hz hb2 HL1 HP1 HE1 y0
    generalize freeIx H.bx = k at *
    have HKK : Hid (k < H.bx.length) := hk
    have y5 := HL2.out.p.cell 5 _ rfl
    have y14 := HL2.out.p.cell 14 _ rfl
    have hkn : k < G.n2 := by have := HL2.out.x.len; omega
    have hcp := HL2.out.bd.nk
    have hm2 := HL2.out.bd.m2
    go_wp2_with fail
    refine wp_region_still_tail 13 (by kernel_rfl) (by kernel_rfl) ?_
    change wpStill Tryz.prog _ (World.drew w2) (fun a' => wpList Tryz.prog _ _ _ a' (World.drew w2)) _ _
    have hbd : Below w2.heap.size w2 (World.drew w2) := (Below.refl _ _).drew
    have HL2 : Hid (lh w0 G H f1 f3 hs nm D (World.drew w2)) := HL2.out.below hbd
    have HP2 : Hid (blk (World.drew w2) W.heap.size [.bool F.e, .int .u32 (F.i : Int), .bool F.r, .int .i64 F.d, .slice fa fm fc] 25) := HP2.out.below hbd
    clear hbd y5 y14
    generalize World.drew w2 = v0 at *
    have y5 := HL2.out.p.cell 5 _ rfl
    have y14 := HL2.out.p.cell 14 _ rfl
    simp only [List.take_succ_cons, List.take_zero, List.drop_succ_cons, List.drop_zero]
    iterate 10 still_step
    refine wpStill_load_mid (by rfl) 25 _ rfl W.heap.size 0 rfl [.bool F.e, .int .u32 (F.i : Int), .bool F.r, .int .i64 F.d, .slice fa fm fc] _ HP2.out.load Tryz.underlying25 rfl sz93 ?_
    still_step
    still_step
    refine wpStill_nil ?_
    have HT2 : Hid (v0.there G.gb (k * 8) 8) := fun j hj => by
      obtain ⟨⟨v, hv⟩, hf⟩ := HL2.out.x.row (k * 8 + j) (by omega)
      exact ⟨by rw [hv]; rfl, hf⟩
    have HL3 : Hid (lh w0 G { H with bx := H.bx.set k ⟨1, t, H.st, F.e, F.i, F.r, F.d, F.l⟩ } f1 f3 (fun j => if j = k then (fa, fm, fc) else hs j) nm D (v0.setCells G.gb (k * 8) [.int .i64 1, .int .i64 t, .int .i64 H.st, .bool F.e, .int .u32 (F.i : Int), .bool F.r, .int .i64 F.d, .slice fa fm fc])) := HL2.out.setBox k HKK.out ⟨1, t, H.st, F.e, F.i, F.r, F.d, F.l⟩ (fa, fm, fc) HFB.out.1 HFB.out.2
    refine wpList_store_mid (P := Tryz.prog) rfl 97 _ _ rfl G.gb (k * 8) [.int .i64 1, .int .i64 t, .int .i64 H.st, .bool F.e, .int .u32 (F.i : Int), .bool F.r, .int .i64 F.d, .slice fa fm fc].toArray rfl rfl HT2.out sz95 (one8 _ _ _ _ _ _ _ _ _ _) ?_
    change wpList Tryz.prog _ _ _ _ (v0.setCells G.gb (k * 8) [.int .i64 1, .int .i64 t, .int .i64 H.st, .bool F.e, .int .u32 (F.i : Int), .bool F.r, .int .i64 F.d, .slice fa fm fc])
    generalize v0.setCells G.gb (k * 8) [.int .i64 1, .int .i64 t, .int .i64 H.st, .bool F.e, .int .u32 (F.i : Int), .bool F.r, .int .i64 F.d, .slice fa fm fc] = v1 at *
    clear y5 y14 HL2 HP2 HT2
    have y6 := HL3.out.p.cell 6 _ rfl
    have HPE : Hid (plainElem (H := Unit) Tryz.prog 3 (.int .i64 (k : Int)) = some (.lit (.int .i64 (k : Int)), [])) := plainElem_int Tryz.underlying3 (wf_small (by omega) (by omega))
    have hw9 : IntKind.i64.wrap (H.st + 1) = H.st + 1 := by rw [IntKind.wrap_i64]; omega
    go_wp2_with (first
      | (refine wpList_mapUpdate_own _ rfl _ _ _ 128 rfl 3 3 keyed3 Tryz.underlying128 _ G.mb nm D rfl HL3.out.m (by unfold maxLen; omega) _ _ (.int .i64 t) rfl rfl HK.out (.lit (.int .i64 (k : Int))) [] HPE.out ?_; intro v2 hm2 hg2; have HL4 : Hid (lh w0 G { H with bx := H.bx.set k ⟨1, t, H.st, F.e, F.i, F.r, F.d, F.l⟩ } f1 f3 (fun j => if j = k then (fa, fm, fc) else hs j) (nm + 1) (D.put (.int .i64 t) (.lit (.int .i64 (k : Int)))) v2) := HL3.out.tags hg2 hm2; clear hm2 hg2; have y14 := HL4.out.p.cell 14 _ rfl; have z14 := HL4.out.p.free 14))
    first | go_end0 | (simp only [Exit.inBlock, Exit.then]; refine bodyPost_ret (results_none rfl _ _ _) rfl ?_) | refine bodyPost_ret (results_none rfl _ _ _) rfl ?_
    exact ⟨rfl, _, _, _, HL4.out.stamp (H.st + 1)⟩
set_option maxHeartbeats 1000000 in
/-- Submit's function literal -/
theorem lit57 {w0 : World} {G : Lg} {H : Ho} {f1 f3 : Nat} {hs : Nat → Hd} {nm : Nat} {D : DataW Unit} {W : World} (h : lh w0 G H f1 f3 hs nm D W) (Bt Bf : Nat) (t : Int) (F : R5) (fa : Option Addr) (fm fc : Nat) (yt : W.cell? ⟨Bt, 0, none⟩ = some (.int .i64 t)) (yf : blk W Bf [.bool F.e, .int .u32 (F.i : Int), .bool F.r, .int .i64 F.d, .slice fa fm fc] 25) (hf : isBytes w0 fa fm fc F.l) (hfm : fm ≤ 1048576) (hnm : nm ≤ 1000) (hst : 0 ≤ H.st ∧ H.st ≤ 1000000) (hwt : (Lit.int .i64 t).wf = true) (hD : (tagIx H.bx t < H.bx.length ∧ Maps.has D (.int .i64 t) = true) ∨ (¬ tagIx H.bx t < H.bx.length ∧ Maps.has D (.int .i64 t) = false)) :
    Calls Tryz.prog 57 #[.pointer (some ⟨G.P, 0, none⟩), .pointer (some ⟨Bt, 0, none⟩), .pointer (some ⟨Bf, 0, none⟩)] W fun o w' => o = .returned (.tuple #[]) ∧ ∃ hs' nm' D', lh w0 G (subHo H t F) f1 f3 hs' nm' D' w' := by
  have HS : Hid (Calls Tryz.prog 58 #[.pointer (some ⟨G.P, 0, none⟩), .int .i64 t, frV F.e F.i F.r F.d fa fm fc] W fun o w' => o = .returned (.tuple #[]) ∧ ∃ hs' nm' D', lh w0 G (subHo H t F) f1 f3 hs' nm' D' w') := submit_any h t F fa fm fc hf hfm hnm hst hwt hD
  have HF : Hid (blk W Bf [.bool F.e, .int .u32 (F.i : Int), .bool F.r, .int .i64 F.d, .slice fa fm fc] 25) := yf
  clear h hf hfm hnm hst hwt hD yf
  go_enter Tryz.func57, Tryz.ntmps57
  go_wp2_with (first
    | (refine wpList_load_mid (P := Tryz.prog) rfl 25 _ rfl Bf 0 rfl [.bool F.e, .int .u32 (F.i : Int), .bool F.r, .int .i64 F.d, .slice fa fm fc] _ HF.out.load Tryz.underlying25 rfl sz93 ?_)
    | (go_at_call 58; refine HS.out.mono ?_; rintro o w5 ⟨rfl, hs', nm', D', hq⟩; have HQ : Hid (lh w0 G (subHo H t F) f1 f3 hs' nm' D' w5) := hq; clear hq))
  first | go_end0 | (simp only [Exit.inBlock, Exit.then]; refine bodyPost_ret (results_none rfl _ _ _) rfl ?_) | refine bodyPost_ret (results_none rfl _ _ _) rfl ?_
  exact ⟨rfl, hs', nm', D', HQ.out⟩
theorem open_submit (w : World) (H : Ho) (s : Sl) (Bt Bf : Nat) (t : Int) (F : R5) (fa : Option Addr) (fm fc : Nat) (h : isHo w H s) (hs : slSome s) (hok : okHo H) (hm : H.le 1048576) (yt : w.cell? ⟨Bt, 0, none⟩ = some (.int .i64 t)) (yf : blk w Bf [.bool F.e, .int .u32 (F.i : Int), .bool F.r, .int .i64 F.d, .slice fa fm fc] 25) (hf : isBytes w fa fm fc F.l) (hfm : fm ≤ 1048576) (hwt : (Lit.int .i64 t).wf = true) :
    Calls Tryz.prog 61 #[.agg (hoL H s).toArray] w fun o w' => ∃ P, o = .returned (.pointer (some ⟨P, 0, none⟩)) ∧ Below w.heap.size w w' ∧ Calls Tryz.prog 57 #[.pointer (some ⟨P, 0, none⟩), .pointer (some ⟨Bt, 0, none⟩), .pointer (some ⟨Bf, 0, none⟩)] w' fun o w2 => o = .returned (.tuple #[]) ∧ Below w.heap.size w w2 ∧ Calls Tryz.prog 118 #[.pointer (some ⟨P, 0, none⟩)] w2 (toldQ w2 (subHo H t F)) := by
  refine (open_lh w H s h hs hok hm).mono ?_
  rintro o w' ⟨G, hd, rfl, hl, hn⟩
  rw [hn] at hl
  have hD : (tagIx H.bx t < H.bx.length ∧ Maps.has (tagsD Unit H.bx H.bx.length) (.int .i64 t) = true) ∨ (¬ tagIx H.bx t < H.bx.length ∧ Maps.has (tagsD Unit H.bx H.bx.length) (.int .i64 t) = false) := by
    rcases tags_ix hok.bx.2.1 t with ⟨h1, h2, _⟩ | h1
    · exact Or.inl ⟨h1, h2⟩
    · exact Or.inr h1
  refine ⟨G.P, rfl, hl.b, (lit57 hl Bt Bf t F fa fm fc ((hl.b.cell (by exact World.block_lt_of_cell? w _ yt)).trans yt) (yf.below hl.b) hf hfm (by have := hok.n2; omega) ⟨hok.s0, hok.s1⟩ hwt hD).mono ?_⟩
  rintro o w2 ⟨rfl, hs', nm', D', h2⟩
  exact ⟨rfl, h2.b, h2.told⟩
end Go.Proofs.YtaamahohdnbpiaaGreat
namespace Go.Proofs.YtaamahohdnbpiaaGreat
open Go.RowKit
set_option linter.unusedVariables false
theorem whS.mono {B T B' T' : Nat} {W : World} {s : Wh} (h : whS B T W s) (hB : B' ≤ B) (hT : T ≤ T') : whS B' T' W s :=
  ⟨h.f, h.fc, ⟨by have := h.fb.1; omega, by have := h.fb.2; omega⟩, h.x, h.xb.mono hB hT, h.r, h.rb.mono hB hT, h.q, h.qb.mono hB hT, h.m1, h.m2, h.m3, h.m4⟩
/-- told's answer, behind a store into another block -/
theorem toldQ.put {w w3 w4 w8 : World} {H : Ho} {s4 : Wh} {R : Nat} (hz : w.heap.size ≤ w3.heap.size) (hR : R < w3.heap.size) (q1 : St w3.heap.size w4 (fun W => isHo W H s4.sl)) (q2 : whS w3.heap.size w4.heap.size w4 s4) (oth : ∀ x, x ≠ R → w8.heap[x]? = w4.heap[x]?) (hs : w8.heap.size = w4.heap.size) : St w.heap.size w8 (fun W => isHo W H s4.sl) ∧ whS w.heap.size w8.heap.size w8 s4 := by
  refine ⟨fun W hW => q1 W (fun x h1 h2 => (hW x (by omega) (by omega)).trans (oth x (by omega))), ?_⟩
  rw [hs]
  exact (q2.same (fun x h1 h2 => oth x (by omega))).mono hz (Nat.le_refl _)
theorem vOk (W : World) (H : Ho) (s : Sl) (h : isHo W H s) (hn : H.le 1048576) (hok : okHo H) : Calls Tryz.prog 60 #[.agg (hoL H s).toArray] W fun o w' => o = .returned (.bool true) ∧ Below W.heap.size W w' := (validHost_any W H s h hn).mono (by rintro o w' ⟨⟨b, rfl, hb⟩, h2⟩; rw [hb.2 hok]; exact ⟨rfl, h2⟩)
theorem vBad (W : World) (H : Ho) (s : Sl) (h : isHo W H s) (hn : H.le 1048576) (hok : ¬ okHo H) : Calls Tryz.prog 60 #[.agg (hoL H s).toArray] W fun o w' => o = .returned (.bool false) ∧ Below W.heap.size W w' := (validHost_any W H s h hn).mono (by rintro o w' ⟨⟨b, rfl, hb⟩, h2⟩; cases b; exact ⟨rfl, h2⟩; exact absurd (hb.1 rfl) hok)
end Go.Proofs.YtaamahohdnbpiaaGreat
namespace Go.Proofs.YtaamahohdnbpiaaGreat
open Go.RowKit
set_option linter.unusedVariables false
structure itS (w : World) (H : Ho) (s : Sl) (i : Int) (W : World) : Prop where
  p : blk W w.heap.size (hoL H s) 35
  x : blk W (w.heap.size + 1) [.int .i64 i] 3
  r : blk W (w.heap.size + 1 + 1) Z10 35
  b : Below w.heap.size w W
theorem itS.below {w : World} {H : Ho} {s : Sl} {i : Int} {W W' : World} (h : itS w H s i W) (hb : Below W.heap.size W W') : itS w H s i W' := ⟨h.p.below hb, h.x.below hb, h.r.below hb, h.b.trans (hb.mono h.b.size)⟩
theorem itS.new (w : World) (H : Ho) (s : Sl) (i : Int) : itS w H s i (((w.alloc (.cells (hoL H s).toArray 35)).alloc (.cells #[.int .i64 i] 3)).alloc (.cells [.int .i64 0, .int .i64 0, .int .i64 0, .int .i64 0, .slice none 0 0, .slice none 0 0, .slice none 0 0, .slice none 0 0, .int .i64 0, .int .i64 0].toArray 35)) := by
  refine ⟨((blk.new w _ 35).alloc _).alloc _, ?_, ?_, (((Below.refl _ _).alloc (Nat.le_refl _) _).alloc (by simp) _).alloc (by simp; omega) _⟩
  · have := (blk.new (w.alloc (.cells (hoL H s).toArray 35)) [.int .i64 i] 3).alloc (.cells [.int .i64 0, .int .i64 0, .int .i64 0, .int .i64 0, .slice none 0 0, .slice none 0 0, .slice none 0 0, .slice none 0 0, .int .i64 0, .int .i64 0].toArray 35)
    simpa using this
  · have := blk.new ((w.alloc (.cells (hoL H s).toArray 35)).alloc (.cells #[.int .i64 i] 3)) Z10 35
    have e : ((w.alloc (.cells (hoL H s).toArray 35)).alloc (.cells #[.int .i64 i] 3)).heap.size = w.heap.size + 1 + 1 := by simp
    rw [e] at this
    exact this
end Go.Proofs.YtaamahohdnbpiaaGreat
namespace Go.Proofs.YtaamahohdnbpiaaGreat
open Go.RowKit
set_option linter.unusedVariables false
theorem sz61h : (Tryz.prog.info? 61).map (·.size) = some 10 := by kernel_rfl
theorem sz61L (H : Ho) (s : Sl) : (Tryz.prog.info? 61).map (·.size) = some (hoL H s).length := sz61h
theorem szL (X : World) (H : Ho) (s : Sl) (h : isHo X H s) (hn : H.le 9223372036854775807) : Calls Tryz.prog 35 #[.agg (hoL H s).toArray, .int .i64 1048576] X fun o w' => ∃ z : Int, o = .returned (.int .i64 z) ∧ Below X.heap.size X w' ∧ (z = -1 ∨ ∃ m' : Nat, z = (m' : Int) ∧ H.le 1048576) := by
  have := szHost_any X H s h hn 1048576 (Nat.le_refl _)
  exact this
theorem eqL (X : World) (H : Ho) (s1 s2 : Sl) (h1 : isHo X H s1) (h2 : isHo X H s2) (hm : H.le 1048576) : Calls Tryz.prog 37 #[.agg (hoL H s1).toArray, .agg (hoL H s2).toArray] X fun o w' => o = .returned (.bool true) ∧ Below X.heap.size X w' := by
  rw [← hoV_L, ← hoV_L]
  exact eqHost_same X H s1 s2 h1 h2 hm
end Go.Proofs.YtaamahohdnbpiaaGreat
namespace Go.Proofs.YtaamahohdnbpiaaGreat
open Go.RowKit
set_option linter.unusedVariables false
/-- the host's memory is its own: what is marked in it is held -/
def MKQ (B : Nat) (T : Ho) (sg : Sl) (w : World) : Prop := ∀ W, (∀ x, B ≤ x → x < w.heap.size → W.heap[x]? = w.heap[x]?) → w.heap.size ≤ W.heap.size → Calls Tryz.prog 39 #[.agg (hoL T sg).toArray, .int .i64 1] W fun o w1 => ∃ k : Nat, o = .returned (.int .i64 (k : Int)) ∧ Below B W w1 ∧ (∀ x, w.heap.size ≤ x → x < W.heap.size → w1.heap[x]? = W.heap[x]?) ∧ ∀ W2, Below w1.heap.size w1 W2 → Calls Tryz.prog 41 #[.agg (hoL T sg).toArray, .int .i64 1] W2 fun o w2 => o = .returned (.int .i64 (k : Int)) ∧ Below W2.heap.size W2 w2
theorem whS.mkq {B : Nat} {w : World} {s : Wh} {H : Ho} (h : whS B w.heap.size w s) (hd : whD s) (he : whE s) : MKQ B H s.sl w := by
  intro W hW hz
  have hs : whS B w.heap.size W s := h.same hW
  refine (markHost_gen B w.heap.size W H.c0 H.c1 H.c2 H.c3 H.lo H.st s 1 hs hd hz (by omega)).mono ?_
  rintro o w1 ⟨rfl, hm, hs1, ho, hb⟩
  refine ⟨s.c4 1, rfl, hb, fun x h1 h2 => ho x (Or.inr h1) h2, fun W2 hW2 => ?_⟩
  have hz1 : w.heap.size ≤ w1.heap.size := Nat.le_trans hz hb.size
  have hs2 : whS B w.heap.size W2 s := hs1.same fun x _ hx => hW2.block x (by omega)
  have hm2 : whM W2 s 1 := (hm he).same hs1 fun x _ hx => hW2.block x (by omega)
  exact heldHost_gen B w.heap.size W2 H.c0 H.c1 H.c2 H.c3 H.lo H.st s 1 hs2 hm2 (Nat.le_trans hz1 hW2.size) (by omega)
theorem zHo_mkq (B : Nat) (w : World) (hB : B ≤ w.heap.size) : MKQ B zHo zSl w := by
  intro W hW hz
  refine (markHost_nil W 0 0 0 0 0 0 1 (by omega)).mono ?_
  rintro o w1 ⟨rfl, hb⟩
  refine ⟨1, rfl, hb.mono (by omega), fun x _ h2 => hb.block x h2, fun W2 hW2 => ?_⟩
  refine (heldHost_nil W2 0 0 0 0 0 0 1 (by omega)).mono ?_
  rintro o w2 ⟨rfl, hb2⟩
  exact ⟨rfl, hb2⟩
/-- the copy of the argument, marked -/
theorem xMark2 {B T : Nat} {W : World} {sx : Wh} {H : Ho} (h : whS B T W sx) (hd : whD sx) (hT : T ≤ W.heap.size) : Calls Tryz.prog 39 #[.agg (hoL H sx.sl).toArray, .int .i64 1] W fun o w1 => ∃ k : Nat, o = .returned (.int .i64 (k : Int)) ∧ (∀ x, T ≤ x → x < W.heap.size → w1.heap[x]? = W.heap[x]?) ∧ Below B W w1 := by
  refine (markHost_gen B T W H.c0 H.c1 H.c2 H.c3 H.lo H.st sx 1 h hd hT (by omega)).mono ?_
  rintro o w1 ⟨rfl, _, _, q, hb⟩
  exact ⟨_, rfl, fun x h1 h2 => q x (Or.inr h1) h2, hb⟩
theorem toWh (X : World) (H : Ho) (s : Sl) (h : isHo X H s) (hm : H.le 1048576) : Calls Tryz.prog 36 #[.agg (hoL H s).toArray] X fun o w' => ∃ s' : Wh, o = .returned (.agg (hoL H s'.sl).toArray) ∧ St X.heap.size w' (fun W => isHo W H s'.sl) ∧ whS X.heap.size w'.heap.size w' s' ∧ whD s' ∧ slSome s'.sl ∧ Below X.heap.size X w' := by
  rw [← hoV_L]
  refine (toHost_iv X H s h hm).mono ?_
  rintro o w' ⟨s', rfl, h1, h2⟩
  have hs : slSome s' := by
    obtain ⟨g1, g2, _, _, _, _, _, e, _⟩ := h1.now.2.e
    rw [e]
    exact ⟨⟨g1, rfl⟩, ⟨g2, rfl⟩⟩
  obtain ⟨s2, rfl, h3, h4⟩ := h1.now.2.wh h1.now.1 hm
  exact ⟨s2, by rw [hoV_L], fun W hW => (h1 W hW).1, h3, h4, hs, h2⟩
end Go.Proofs.YtaamahohdnbpiaaGreat
namespace Go.Proofs.YtaamahohdnbpiaaGreat
open Go.RowKit
set_option linter.unusedVariables false
set_option maxHeartbeats 8000000 in
set_option maxRecDepth 20000 in
/-- impl.changed by Submit's literal -/
theorem changed57 (w : World) (H : Ho) (s : Sl) (Bt Bf : Nat) (t : Int) (F : R5) (fa : Option Addr) (fm fc : Nat) (h : isHo w H s) (hs : slSome s) (hn : H.le 1048576) (yt : w.cell? ⟨Bt, 0, none⟩ = some (.int .i64 t)) (yf : blk w Bf [.bool F.e, .int .u32 (F.i : Int), .bool F.r, .int .i64 F.d, .slice fa fm fc] 25) (hf : isBytes w fa fm fc F.l) (hfm : fm ≤ 1048576) (hwt : (Lit.int .i64 t).wf = true) :
    Calls Tryz.prog 56 #[.agg (hoL H s).toArray, .func (.func 57) #[] #[.pointer (some ⟨Bt, 0, none⟩), .pointer (some ⟨Bf, 0, none⟩)]] w fun o w' => (okHo H ∧ toldQ w (subHo H t F) o w') ∨ (¬ okHo H ∧ o = .returned (.agg [.int .i64 0, .int .i64 0, .int .i64 0, .int .i64 0, .slice none 0 0, .slice none 0 0, .slice none 0 0, .slice none 0 0, .int .i64 0, .int .i64 0].toArray) ∧ Below w.heap.size w w') := by
  have H0 : Hid (dtS w H s ((w.alloc (.cells (hoL H s).toArray 35)).alloc (.cells [.int .i64 0, .int .i64 0, .int .i64 0, .int .i64 0, .slice none 0 0, .slice none 0 0, .slice none 0 0, .slice none 0 0, .int .i64 0, .int .i64 0].toArray 35))) := dtS.new w H s
  have HYB : Hid (∀ W, Below w.heap.size w W → W.cell? ⟨Bt, 0, none⟩ = some (.int .i64 t) ∧ blk W Bf [.bool F.e, .int .u32 (F.i : Int), .bool F.r, .int .i64 F.d, .slice fa fm fc] 25 ∧ isBytes W fa fm fc F.l) := fun W hW => ⟨(hW.cell (by exact World.block_lt_of_cell? w _ yt)).trans yt, yf.below hW, hf.below hW⟩
  have HWF : Hid ((Lit.int .i64 t).wf = true) := hwt
  clear yt yf hf hwt
  by_cases hok : okHo H
  · have HV : Hid (∀ W, Below w.heap.size w W → Calls Tryz.prog 60 #[.agg (hoL H s).toArray] W fun o w' => o = .returned (.bool true) ∧ Below W.heap.size W w') := fun W hW => vOk W H s (h.below hW) hn hok
    have HO : Hid (∀ W, Below w.heap.size w W → Calls Tryz.prog 61 #[.agg (hoL H s).toArray] W fun o w' => ∃ P, o = .returned (.pointer (some ⟨P, 0, none⟩)) ∧ Below W.heap.size W w' ∧ Calls Tryz.prog 57 #[.pointer (some ⟨P, 0, none⟩), .pointer (some ⟨Bt, 0, none⟩), .pointer (some ⟨Bf, 0, none⟩)] w' fun o w2 => o = .returned (.tuple #[]) ∧ Below W.heap.size W w2 ∧ Calls Tryz.prog 118 #[.pointer (some ⟨P, 0, none⟩)] w2 (toldQ w2 (subHo H t F))) := fun W hW => open_submit W H s Bt Bf t F fa fm fc (h.below hW) hs hok hn (HYB.out W hW).1 (HYB.out W hW).2.1 (HYB.out W hW).2.2 hfm HWF.out
    have HOK : Hid (okHo H) := hok
    clear h hn hok hs
    go_enter Tryz.func56, Tryz.ntmps56
    go_wp2_with (first
      | (refine wpList_load_mid (P := Tryz.prog) rfl 35 _ rfl w.heap.size 0 rfl (hoL H s) _ H0.out.p.load Tryz.underlying35 rfl (sz41L H s) ?_))
    refine (HV.out _ H0.out.b).mono ?_
    rintro o w1 ⟨rfl, hb1⟩
    have H1 : Hid (dtS w H s w1) := H0.out.below hb1
    clear H0 hb1
    go_wp2_with (first
      | (refine wpList_load_mid (P := Tryz.prog) rfl 35 _ rfl w.heap.size 0 rfl (hoL H s) _ H1.out.p.load Tryz.underlying35 rfl (sz41L H s) ?_))
    refine (HO.out _ H1.out.b).mono ?_
    rintro o w2 ⟨P, rfl, hb2, hc2⟩
    have HC2 : Hid (Calls Tryz.prog 57 #[.pointer (some ⟨P, 0, none⟩), .pointer (some ⟨Bt, 0, none⟩), .pointer (some ⟨Bf, 0, none⟩)] w2 fun o w3 => o = .returned (.tuple #[]) ∧ Below w1.heap.size w1 w3 ∧ Calls Tryz.prog 118 #[.pointer (some ⟨P, 0, none⟩)] w3 (toldQ w3 (subHo H t F))) := hc2
    clear hc2 hb2
    go_wp2_with fail
    refine (Calls.mono HC2.out) ?_
    rintro o w3 ⟨rfl, hb3, hc3⟩
    have H3 : Hid (dtS w H s w3) := H1.out.below hb3
    have HC3 : Hid (Calls Tryz.prog 118 #[.pointer (some ⟨P, 0, none⟩)] w3 (toldQ w3 (subHo H t F))) := hc3
    clear hc3 hb3 HC2 H1
    go_wp2_with fail
    refine (Calls.mono HC3.out) ?_
    rintro o w4 ⟨s4, rfl, q1, q2, q3, q4, hb4⟩
    have H4 : Hid (dtS w H s w4) := H3.out.below hb4
    have HQ : Hid (St w3.heap.size w4 (fun W => isHo W (subHo H t F) s4.sl) ∧ whS w3.heap.size w4.heap.size w4 s4 ∧ whD s4 ∧ whE s4) := ⟨q1, q2, q3, q4⟩
    clear q1 q2 q3 q4 hb4 HC3
    go_wp2_with (first
      | (refine wpList_store_mid (P := Tryz.prog) rfl 35 _ _ rfl (w.heap.size + 1) 0 (hoL (subHo H t F) s4.sl).toArray rfl rfl (H4.out.r.there 0 _ (by rw [List.size_toArray, hoL_len]; decide)) (sz41A (subHo H t F) s4.sl) (hoL_one (subHo H t F) s4.sl) ?_; generalize hW8 : World.setCells _ (w.heap.size + 1) 0 _ = w8; have HW8 : Hid (_ = w8) := hW8; clear hW8))
    have e8 := HW8.out
    have hF : blk w8 (w.heap.size + 1) (hoL (subHo H t F) s4.sl) 35 := by
      rw [← e8]
      have := blk.put [] Z10 [] (hoL (subHo H t F) s4.sl) (w := w4) (b := w.heap.size + 1) (T := 35) (by simpa using H4.out.r) (by rw [hoL_len]; rfl)
      simpa using this
    have hL := run_loadVar_mid (P := Tryz.prog) w8 (w.heap.size + 1) 0 35 _ _ hF.load Tryz.underlying35 rfl (sz41L (subHo H t F) s4.sl)
    refine bodyPost_ret (v := .agg (hoL (subHo H t F) s4.sl).toArray) (results_cell Tryz.results56 _ w8 (w.heap.size + 1) _ rfl hL) rfl ?_
    have oth : ∀ x, x ≠ w.heap.size + 1 → w8.heap[x]? = w4.heap[x]? := fun x hx => by rw [← e8]; exact setCells_other _ x hx _ _ _
    have hsz : w8.heap.size = w4.heap.size := by rw [← e8]; exact setCells_size ..
    have hp := toldQ.put (w := w) H3.out.b.size H3.out.r.lt HQ.out.1 HQ.out.2.1 oth hsz
    exact Or.inl ⟨HOK.out, s4, rfl, hp.1, hp.2, HQ.out.2.2.1, HQ.out.2.2.2, by rw [← e8]; exact setCells_below (by omega) 0 _ H4.out.b⟩
  · have HV : Hid (∀ W, Below w.heap.size w W → Calls Tryz.prog 60 #[.agg (hoL H s).toArray] W fun o w' => o = .returned (.bool false) ∧ Below W.heap.size W w') := fun W hW => vBad W H s (h.below hW) hn hok
    have HOK : Hid (¬ okHo H) := hok
    clear h hn hok hs
    go_enter Tryz.func56, Tryz.ntmps56
    go_wp2_with (first
      | (refine wpList_load_mid (P := Tryz.prog) rfl 35 _ rfl w.heap.size 0 rfl (hoL H s) _ H0.out.p.load Tryz.underlying35 rfl (sz41L H s) ?_))
    refine (HV.out _ H0.out.b).mono ?_
    rintro o w1 ⟨rfl, hb1⟩
    have H1 : Hid (dtS w H s w1) := H0.out.below hb1
    clear H0 hb1
    go_wp2_with (first
      | (refine wpList_store_mid (P := Tryz.prog) rfl 35 _ _ rfl (w.heap.size + 1) 0 [.int .i64 0, .int .i64 0, .int .i64 0, .int .i64 0, .slice none 0 0, .slice none 0 0, .slice none 0 0, .slice none 0 0, .int .i64 0, .int .i64 0].toArray rfl rfl (H1.out.r.there 0 10 (by simp [Z10])) sz41 (all_oneCell_toArray (by simp [Value.oneCell'])) ?_; generalize hW8 : World.setCells _ (w.heap.size + 1) 0 _ = w8; have HW8 : Hid (_ = w8) := hW8; clear hW8))
    have e8 := HW8.out
    have hF : blk w8 (w.heap.size + 1) [.int .i64 0, .int .i64 0, .int .i64 0, .int .i64 0, .slice none 0 0, .slice none 0 0, .slice none 0 0, .slice none 0 0, .int .i64 0, .int .i64 0] 35 := by
      rw [← e8]
      have := blk.put [] Z10 [] [.int .i64 0, .int .i64 0, .int .i64 0, .int .i64 0, .slice none 0 0, .slice none 0 0, .slice none 0 0, .slice none 0 0, .int .i64 0, .int .i64 0] (w := w1) (b := w.heap.size + 1) (T := 35) (by simpa using H1.out.r) rfl
      simpa using this
    have hL := run_loadVar_mid (P := Tryz.prog) w8 (w.heap.size + 1) 0 35 _ _ hF.load Tryz.underlying35 rfl sz41
    refine bodyPost_ret (v := .agg [.int .i64 0, .int .i64 0, .int .i64 0, .int .i64 0, .slice none 0 0, .slice none 0 0, .slice none 0 0, .slice none 0 0, .int .i64 0, .int .i64 0].toArray) (results_cell Tryz.results56 _ w8 (w.heap.size + 1) _ rfl hL) rfl ?_
    exact Or.inr ⟨HOK.out, rfl, by rw [← e8]; exact setCells_below (by omega) 0 _ H1.out.b⟩
structure itM (w : World) (L : List Value) (t : Int) (FL : List Value) (W : World) : Prop where
  p : blk W w.heap.size L 35
  x : blk W (w.heap.size + 1) [.int .i64 t] 3
  f : blk W (w.heap.size + 1 + 1) FL 25
  r : blk W (w.heap.size + 1 + 1 + 1) Z10 35
  b : Below w.heap.size w W
theorem itM.below {w : World} {L : List Value} {t : Int} {FL : List Value} {W W' : World} (h : itM w L t FL W) (hb : Below W.heap.size W W') : itM w L t FL W' := ⟨h.p.below hb, h.x.below hb, h.f.below hb, h.r.below hb, h.b.trans (hb.mono h.b.size)⟩
theorem itM.new (w : World) (L : List Value) (t : Int) (FL : List Value) : itM w L t FL ((((w.alloc (.cells L.toArray 35)).alloc (.cells #[.int .i64 t] 3)).alloc (.cells FL.toArray 25)).alloc (.cells Z10.toArray 35)) := by
  refine ⟨(((blk.new w _ 35).alloc _).alloc _).alloc _, ?_, ?_, ?_, ((((Below.refl _ _).alloc (Nat.le_refl _) _).alloc (by simp) _).alloc (by simp; omega) _).alloc (by simp; omega) _⟩
  · have := ((blk.new (w.alloc (.cells L.toArray 35)) [.int .i64 t] 3).alloc (.cells FL.toArray 25)).alloc (.cells Z10.toArray 35)
    simpa using this
  · have := (blk.new ((w.alloc (.cells L.toArray 35)).alloc (.cells #[.int .i64 t] 3)) FL 25).alloc (.cells Z10.toArray 35)
    have e : ((w.alloc (.cells L.toArray 35)).alloc (.cells #[.int .i64 t] 3)).heap.size = w.heap.size + 1 + 1 := by simp
    rw [e] at this
    exact this
  · have := blk.new (((w.alloc (.cells L.toArray 35)).alloc (.cells #[.int .i64 t] 3)).alloc (.cells FL.toArray 25)) Z10 35
    have e : (((w.alloc (.cells L.toArray 35)).alloc (.cells #[.int .i64 t] 3)).alloc (.cells FL.toArray 25)).heap.size = w.heap.size + 1 + 1 + 1 := by simp
    rw [e] at this
    exact this
set_option maxHeartbeats 8000000 in
set_option maxRecDepth 20000 in
/-- impl.Submit -/
theorem implSubmit_any (w : World) (H : Ho) (s : Sl) (t : Int) (F : R5) (fa : Option Addr) (fm fc : Nat) (h : isHo w H s) (hs : slSome s) (hn : H.le 1048576) (hf : isBytes w fa fm fc F.l) (hfm : fm ≤ 1048576) (hwt : (Lit.int .i64 t).wf = true) :
    Calls Tryz.prog 15 #[.agg (hoL H s).toArray, .int .i64 t, frV F.e F.i F.r F.d fa fm fc] w fun o w' => (okHo H ∧ toldQ w (subHo H t F) o w') ∨ (¬ okHo H ∧ o = .returned (.agg [.int .i64 0, .int .i64 0, .int .i64 0, .int .i64 0, .slice none 0 0, .slice none 0 0, .slice none 0 0, .slice none 0 0, .int .i64 0, .int .i64 0].toArray) ∧ Below w.heap.size w w') := by
  have H0 : Hid (itM w (hoL H s) t [.bool F.e, .int .u32 (F.i : Int), .bool F.r, .int .i64 F.d, .slice fa fm fc] ((((w.alloc (.cells (hoL H s).toArray 35)).alloc (.cells #[.int .i64 t] 3)).alloc (.cells [.bool F.e, .int .u32 (F.i : Int), .bool F.r, .int .i64 F.d, .slice fa fm fc].toArray 25)).alloc (.cells [.int .i64 0, .int .i64 0, .int .i64 0, .int .i64 0, .slice none 0 0, .slice none 0 0, .slice none 0 0, .slice none 0 0, .int .i64 0, .int .i64 0].toArray 35))) := itM.new w _ t _
  have HC : Hid (∀ W, itM w (hoL H s) t [.bool F.e, .int .u32 (F.i : Int), .bool F.r, .int .i64 F.d, .slice fa fm fc] W → Calls Tryz.prog 56 #[.agg (hoL H s).toArray, .func (.func 57) #[] #[.pointer (some ⟨w.heap.size + 1, 0, none⟩), .pointer (some ⟨w.heap.size + 1 + 1, 0, none⟩)]] W fun o w' => (okHo H ∧ toldQ W (subHo H t F) o w') ∨ (¬ okHo H ∧ o = .returned (.agg [.int .i64 0, .int .i64 0, .int .i64 0, .int .i64 0, .slice none 0 0, .slice none 0 0, .slice none 0 0, .slice none 0 0, .int .i64 0, .int .i64 0].toArray) ∧ Below W.heap.size W w')) := fun W hW => changed57 W H s (w.heap.size + 1) (w.heap.size + 1 + 1) t F fa fm fc (h.below hW.b) hs hn (hW.x.cell 0 _ rfl) hW.f (hf.below hW.b) hfm hwt
  have hmf : ∀ (fn : Fn) (first cap : Array Value) (w : World), (Instr.makeFunc fn first cap).run Tryz.prog w = .ok (.func fn first cap) w := fun _ _ _ _ => rfl
  clear h hn hs hf hwt
  go_enter Tryz.func15, Tryz.ntmps15
  go_wp2_with (first
    | (refine wpList_load_mid (P := Tryz.prog) rfl 35 _ rfl w.heap.size 0 rfl (hoL H s) _ H0.out.p.load Tryz.underlying35 rfl (sz41L H s) ?_))
  refine (HC.out _ H0.out).mono ?_
  rintro o w1 (⟨hok, s4, rfl, q1, q2, q3, q4, hb4⟩ | ⟨hok, rfl, hb4⟩)
  · have H4 : Hid (itM w (hoL H s) t [.bool F.e, .int .u32 (F.i : Int), .bool F.r, .int .i64 F.d, .slice fa fm fc] w1) := H0.out.below hb4
    have HQ : Hid (St ((((w.alloc (.cells (hoL H s).toArray 35)).alloc (.cells #[.int .i64 t] 3)).alloc (.cells [.bool F.e, .int .u32 (F.i : Int), .bool F.r, .int .i64 F.d, .slice fa fm fc].toArray 25)).alloc (.cells [.int .i64 0, .int .i64 0, .int .i64 0, .int .i64 0, .slice none 0 0, .slice none 0 0, .slice none 0 0, .slice none 0 0, .int .i64 0, .int .i64 0].toArray 35)).heap.size w1 (fun W => isHo W (subHo H t F) s4.sl) ∧ whS ((((w.alloc (.cells (hoL H s).toArray 35)).alloc (.cells #[.int .i64 t] 3)).alloc (.cells [.bool F.e, .int .u32 (F.i : Int), .bool F.r, .int .i64 F.d, .slice fa fm fc].toArray 25)).alloc (.cells [.int .i64 0, .int .i64 0, .int .i64 0, .int .i64 0, .slice none 0 0, .slice none 0 0, .slice none 0 0, .slice none 0 0, .int .i64 0, .int .i64 0].toArray 35)).heap.size w1.heap.size w1 s4 ∧ whD s4 ∧ whE s4) := ⟨q1, q2, q3, q4⟩
    have HOK : Hid (okHo H) := hok
    have HZ : Hid (w.heap.size ≤ ((((w.alloc (.cells (hoL H s).toArray 35)).alloc (.cells #[.int .i64 t] 3)).alloc (.cells [.bool F.e, .int .u32 (F.i : Int), .bool F.r, .int .i64 F.d, .slice fa fm fc].toArray 25)).alloc (.cells [.int .i64 0, .int .i64 0, .int .i64 0, .int .i64 0, .slice none 0 0, .slice none 0 0, .slice none 0 0, .slice none 0 0, .int .i64 0, .int .i64 0].toArray 35)).heap.size ∧ w.heap.size + 1 + 1 + 1 < ((((w.alloc (.cells (hoL H s).toArray 35)).alloc (.cells #[.int .i64 t] 3)).alloc (.cells [.bool F.e, .int .u32 (F.i : Int), .bool F.r, .int .i64 F.d, .slice fa fm fc].toArray 25)).alloc (.cells [.int .i64 0, .int .i64 0, .int .i64 0, .int .i64 0, .slice none 0 0, .slice none 0 0, .slice none 0 0, .slice none 0 0, .int .i64 0, .int .i64 0].toArray 35)).heap.size) := ⟨H0.out.b.size, H0.out.r.lt⟩
    clear q1 q2 q3 q4 hb4 hok HC H0
    go_wp2_with (first
      | (refine wpList_store_mid (P := Tryz.prog) rfl 35 _ _ rfl (w.heap.size + 1 + 1 + 1) 0 (hoL (subHo H t F) s4.sl).toArray rfl rfl (H4.out.r.there 0 _ (by rw [List.size_toArray, hoL_len]; decide)) (sz41A (subHo H t F) s4.sl) (hoL_one (subHo H t F) s4.sl) ?_; generalize hW8 : World.setCells _ (w.heap.size + 1 + 1 + 1) 0 _ = w8; have HW8 : Hid (_ = w8) := hW8; clear hW8))
    have e8 := HW8.out
    have hF : blk w8 (w.heap.size + 1 + 1 + 1) (hoL (subHo H t F) s4.sl) 35 := by
      rw [← e8]
      have := blk.put [] Z10 [] (hoL (subHo H t F) s4.sl) (w := w1) (b := w.heap.size + 1 + 1 + 1) (T := 35) (by simpa using H4.out.r) (by rw [hoL_len]; rfl)
      simpa using this
    have hL := run_loadVar_mid (P := Tryz.prog) w8 (w.heap.size + 1 + 1 + 1) 0 35 _ _ hF.load Tryz.underlying35 rfl (sz41L (subHo H t F) s4.sl)
    refine bodyPost_ret (v := .agg (hoL (subHo H t F) s4.sl).toArray) (results_cell Tryz.results15 _ w8 (w.heap.size + 1 + 1 + 1) _ rfl hL) rfl ?_
    have oth : ∀ x, x ≠ w.heap.size + 1 + 1 + 1 → w8.heap[x]? = w1.heap[x]? := fun x hx => by rw [← e8]; exact setCells_other _ x hx _ _ _
    have hsz : w8.heap.size = w1.heap.size := by rw [← e8]; exact setCells_size ..
    have hp := toldQ.put (w := w) HZ.out.1 HZ.out.2 HQ.out.1 HQ.out.2.1 oth hsz
    exact Or.inl ⟨HOK.out, s4, rfl, hp.1, hp.2, HQ.out.2.2.1, HQ.out.2.2.2, by rw [← e8]; exact setCells_below (by omega) 0 _ H4.out.b⟩
  · have H4 : Hid (itM w (hoL H s) t [.bool F.e, .int .u32 (F.i : Int), .bool F.r, .int .i64 F.d, .slice fa fm fc] w1) := H0.out.below hb4
    have HOK : Hid (¬ okHo H) := hok
    clear hb4 hok HC H0
    go_wp2_with (first
      | (refine wpList_store_mid (P := Tryz.prog) rfl 35 _ _ rfl (w.heap.size + 1 + 1 + 1) 0 [.int .i64 0, .int .i64 0, .int .i64 0, .int .i64 0, .slice none 0 0, .slice none 0 0, .slice none 0 0, .slice none 0 0, .int .i64 0, .int .i64 0].toArray rfl rfl (H4.out.r.there 0 10 (by simp [Z10])) sz41 (all_oneCell_toArray (by simp [Value.oneCell'])) ?_; generalize hW8 : World.setCells _ (w.heap.size + 1 + 1 + 1) 0 _ = w8; have HW8 : Hid (_ = w8) := hW8; clear hW8))
    have e8 := HW8.out
    have hF : blk w8 (w.heap.size + 1 + 1 + 1) [.int .i64 0, .int .i64 0, .int .i64 0, .int .i64 0, .slice none 0 0, .slice none 0 0, .slice none 0 0, .slice none 0 0, .int .i64 0, .int .i64 0] 35 := by
      rw [← e8]
      have := blk.put [] Z10 [] [.int .i64 0, .int .i64 0, .int .i64 0, .int .i64 0, .slice none 0 0, .slice none 0 0, .slice none 0 0, .slice none 0 0, .int .i64 0, .int .i64 0] (w := w1) (b := w.heap.size + 1 + 1 + 1) (T := 35) (by simpa using H4.out.r) rfl
      simpa using this
    have hL := run_loadVar_mid (P := Tryz.prog) w8 (w.heap.size + 1 + 1 + 1) 0 35 _ _ hF.load Tryz.underlying35 rfl sz41
    refine bodyPost_ret (v := .agg [.int .i64 0, .int .i64 0, .int .i64 0, .int .i64 0, .slice none 0 0, .slice none 0 0, .slice none 0 0, .slice none 0 0, .int .i64 0, .int .i64 0].toArray) (results_cell Tryz.results15 _ w8 (w.heap.size + 1 + 1 + 1) _ rfl hL) rfl ?_
    exact Or.inr ⟨HOK.out, rfl, by rw [← e8]; exact setCells_below (by omega) 0 _ H4.out.b⟩
/-- impl.Submit, both cases -/
theorem implTSubmit (w : World) (H : Ho) (s : Sl) (t : Int) (F : R5) (fa : Option Addr) (fm fc : Nat) (T : Ho) (hR : okRel H (subHo H t F) T) (h : isHo w H s) (hs : slSome s) (hn : H.le 1048576) (hf : isBytes w fa fm fc F.l) (hfm : fm ≤ 1048576) (hwt : (Lit.int .i64 t).wf = true) :
    Calls Tryz.prog 15 #[.agg (hoL H s).toArray, .int .i64 t, frV F.e F.i F.r F.d fa fm fc] w fun o w' => ∃ sg, o = .returned (.agg (hoL T sg).toArray) ∧ St w.heap.size w' (fun W => isHo W T sg) ∧ MKQ w.heap.size T sg w' ∧ Below w.heap.size w w' := by
  refine (implSubmit_any w H s t F fa fm fc h hs hn hf hfm hwt).mono ?_
  rintro o w' (⟨hok, s4, rfl, q1, q2, q3, q4, hb⟩ | ⟨hok, rfl, hb⟩)
  · have e := hR.yes hok
    subst e
    exact ⟨s4.sl, rfl, q1, q2.mkq q3 q4, hb⟩
  · have e := hR.no hok
    subst e
    exact ⟨zSl, rfl, fun W _ => zHo_is W, zHo_mkq _ _ hb.size, hb⟩
end Go.Proofs.YtaamahohdnbpiaaGreat
