import Derived.Test.YtaamahohdnbpiaaGreatG31
namespace Go.Proofs.YtaamahohdnbpiaaGreat
open Go.RowKit
set_option linter.unusedVariables false
set_option maxHeartbeats 8000000 in
set_option maxRecDepth 20000 in
theorem l3doDeliver_any (B T0 T1 T2 : Nat) (w : World) (H : Ho) (s : Sl) (F : R5) (fa : Option Addr) (fm fc : Nat) (h : spS B T0 T1 T2 H s w) (hn1 : s.n1 ≤ 1000) (hn3 : s.n3 ≤ 1000) (hn4' : s.n4 ≤ 900) (hlo : 0 ≤ H.lo ∧ H.lo ≤ 100000) (hf' : ∀ V, Below B w V → isBytes V fa fm fc F.l) (hfm : fm ≤ 1048576) (hsm : ∀ j (h : j < H.ff.length), H.ff[j].l.length ≤ 1048576) (hc1 : 1 ≤ H.c1 ∧ H.c1 ≤ 1000 ∧ (H.ff.length : Int) ≤ H.c1) (hc2 : H.c2 = 0 ∨ H.c2 = 1) :
    Calls Tryz.prog 107 #[.agg (hoL H s).toArray, frV F.e F.i F.r F.d fa fm fc] w fun o w' => ∃ s', o = .returned (.agg (hoL (delHo H F) s').toArray) ∧ isHo w' (delHo H F) s' ∧ Below B w w' := by
  have HFA : Hid (∀ V, Below B w V → isBytes V fa fm fc F.l) := hf'
  have hf : isBytes w fa fm fc F.l := hf' w (Below.refl _ _)
  have hn4 : s.n4 ≤ 1000 := by omega
  clear hf'
  have HA : Hid (sbS w (hoL H s) [.bool F.e, .int .u32 (F.i : Int), .bool F.r, .int .i64 F.d, .slice fa fm fc] (((w.alloc (.cells (hoL H s).toArray 35)).alloc (.cells [.bool F.e, .int .u32 (F.i : Int), .bool F.r, .int .i64 F.d, .slice fa fm fc].toArray 25)).alloc (.cells [.int .i64 0, .int .i64 0, .int .i64 0, .int .i64 0, .slice none 0 0, .slice none 0 0, .slice none 0 0, .slice none 0 0, .int .i64 0, .int .i64 0].toArray 35))) := sbS.new w _ _
  have HBA : Hid (Below w.heap.size w (((w.alloc (.cells (hoL H s).toArray 35)).alloc (.cells [.bool F.e, .int .u32 (F.i : Int), .bool F.r, .int .i64 F.d, .slice fa fm fc].toArray 25)).alloc (.cells [.int .i64 0, .int .i64 0, .int .i64 0, .int .i64 0, .slice none 0 0, .slice none 0 0, .slice none 0 0, .slice none 0 0, .int .i64 0, .int .i64 0].toArray 35))) := (((Below.refl _ _).alloc (Nat.le_refl _) _).alloc (by simp) _).alloc (by simp; omega) _
  have HS0 : Hid (spS B T0 T1 T2 H s w) := h
  have HZ0 : Hid (B ≤ w.heap.size) := by have := h.o; show _ ≤ _; omega
  obtain ⟨g4, e4, hq4⟩ := h.q
  have HE4 : Hid (s.a4 = some ⟨g4, 0, none⟩ ∧ g4 < w.heap.size ∧ T2 ≤ g4) := ⟨e4, hq4.ghi, hq4.glt⟩
  have HQ0 : Hid (rowQ8 T2 w.heap.size 46 g4 s.n4 s.k4 H.qu w) := hq4
  have HFD : Hid (isBytes w fa fm fc F.l) := hf
  have HFL : Hid (fm = F.l.length) := hf.len
  have HSM : Hid (∀ j (h : j < H.ff.length), H.ff[j].l.length ≤ 1048576) := hsm
  clear h e4 hq4 hf hsm
  go_enter Tryz.func107, Tryz.ntmps107
  go_wp2_with (first | (refine wpList_load_mid (P := Tryz.prog) rfl 25 _ rfl (w.heap.size + 1) 0 rfl [.bool F.e, .int .u32 (F.i : Int), .bool F.r, .int .i64 F.d, .slice fa fm fc] _ HA.out.f.load Tryz.underlying25 rfl sz93 ?_))
  refine (specValid_any _ F.e F.i F.r F.d fa fm fc).mono ?_
  rintro o w1 ⟨rfl, hb1⟩
  have HBW : Hid (Below w.heap.size w w1) := HBA.out.trans (hb1.mono HBA.out.size)
  have HB : Hid (sbS w (hoL H s) [.bool F.e, .int .u32 (F.i : Int), .bool F.r, .int .i64 F.d, .slice fa fm fc] w1) := HA.out.below hb1
  have HS : Hid (spS B T0 T1 T2 H s w1) := HS0.out.below HBW.out
  have HQ : Hid (rowQ8 T2 w.heap.size 46 g4 s.n4 s.k4 H.qu w1) := HQ0.out.keep fun x _ h2 => HBW.out.block x h2
  have HA1 : Hid (Below (((w.alloc (.cells (hoL H s).toArray 35)).alloc (.cells [.bool F.e, .int .u32 (F.i : Int), .bool F.r, .int .i64 F.d, .slice fa fm fc].toArray 25)).alloc (.cells [.int .i64 0, .int .i64 0, .int .i64 0, .int .i64 0, .slice none 0 0, .slice none 0 0, .slice none 0 0, .slice none 0 0, .int .i64 0, .int .i64 0].toArray 35)).heap.size (((w.alloc (.cells (hoL H s).toArray 35)).alloc (.cells [.bool F.e, .int .u32 (F.i : Int), .bool F.r, .int .i64 F.d, .slice fa fm fc].toArray 25)).alloc (.cells [.int .i64 0, .int .i64 0, .int .i64 0, .int .i64 0, .slice none 0 0, .slice none 0 0, .slice none 0 0, .slice none 0 0, .int .i64 0, .int .i64 0].toArray 35)) w1) := hb1
  clear hb1
  by_cases hv : validB F.e F.i F.r F.d fm = true
  · rw [hv]
    have HV : Hid (validB F.e F.i F.r F.d F.l.length = true) := by show _ = _; rw [← HFL.out]; exact hv
    have x4 : w1.cell? ⟨w.heap.size, 4, none⟩ = some (.slice s.a1 s.n1 s.k1) := HB.out.p.cell 4 _ rfl
    go_wp2_with (first | (refine wpList_load_midG (by first | rfl | (simp [Region.wanted, yielded]; done) | (simp [Region.wanted, yielded]; omega)) 25 _ rfl (w.heap.size + 1) 0 rfl [.bool F.e, .int .u32 (F.i : Int), .bool F.r, .int .i64 F.d, .slice fa fm fc] _ HB.out.f.load Tryz.underlying25 rfl sz93 ?_))
    refine (l3passes_any w1 s.a1 s.n1 s.k1 H.fs F fa fm fc HS.out.is.fs hn1).mono ?_
    rintro o w2 ⟨rfl, hb2⟩
    have HA2 : Hid (Below (((w.alloc (.cells (hoL H s).toArray 35)).alloc (.cells [.bool F.e, .int .u32 (F.i : Int), .bool F.r, .int .i64 F.d, .slice fa fm fc].toArray 25)).alloc (.cells [.int .i64 0, .int .i64 0, .int .i64 0, .int .i64 0, .slice none 0 0, .slice none 0 0, .slice none 0 0, .slice none 0 0, .int .i64 0, .int .i64 0].toArray 35)).heap.size (((w.alloc (.cells (hoL H s).toArray 35)).alloc (.cells [.bool F.e, .int .u32 (F.i : Int), .bool F.r, .int .i64 F.d, .slice fa fm fc].toArray 25)).alloc (.cells [.int .i64 0, .int .i64 0, .int .i64 0, .int .i64 0, .slice none 0 0, .slice none 0 0, .slice none 0 0, .slice none 0 0, .int .i64 0, .int .i64 0].toArray 35)) w2) := HA1.out.trans (hb2.mono HA1.out.size)
    clear HBW HB HS HQ hb2 x4
    have HBW : Hid (Below w.heap.size w w2) := HBA.out.trans (HA2.out.mono HBA.out.size)
    have HB : Hid (sbS w (hoL H s) [.bool F.e, .int .u32 (F.i : Int), .bool F.r, .int .i64 F.d, .slice fa fm fc] w2) := HA.out.below HA2.out
    have HS : Hid (spS B T0 T1 T2 H s w2) := HS0.out.below HBW.out
    have HQ : Hid (rowQ8 T2 w.heap.size 46 g4 s.n4 s.k4 H.qu w2) := HQ0.out.keep fun x _ h2 => HBW.out.block x h2
    clear HA1
    by_cases hp : passB H.fs F = true
    · rw [hp]
      have HD0 : Hid (delHo H F = if (H.ff.length : Int) = H.c1 then (if H.c2 = 0 then postHo H (evF 3 0 0 F) else match H.ff with | [] => H | f :: r => postHo (fHo (postHo H (evF 3 0 0 f)) (r ++ [F])) (evF 2 0 0 F)) else postHo (fHo H (H.ff ++ [F])) (evF 2 0 0 F)) := by
        show _ = _
        unfold delHo
        rw [if_pos ⟨HV.out, hp⟩]
        rfl
      obtain ⟨gq, e3, hq3⟩ := HS0.out.r
      have HE3 : Hid (s.a3 = some ⟨gq, 0, none⟩ ∧ rowQ5 T1 T2 25 gq s.n3 s.k3 H.ff w) := ⟨e3, hq3⟩
      have hl3 := hq3.is.len
      have hk3 := hq3.is.cap
      have x6 : w2.cell? ⟨w.heap.size, 6, none⟩ = some (.slice (some ⟨gq, 0, none⟩) s.n3 s.k3) := by
        rw [← e3]
        exact HB.out.p.cell 6 _ (by unfold hoL; rfl)
      have x1 : w2.cell? ⟨w.heap.size, 1, none⟩ = some (.int .i64 H.c1) := HB.out.p.cell 1 _ (by unfold hoL; rfl)
      have x2 : w2.cell? ⟨w.heap.size, 2, none⟩ = some (.int .i64 H.c2) := HB.out.p.cell 2 _ (by unfold hoL; rfl)
      have HFW : Hid (isBytes w2 fa fm fc F.l) := HFD.out.below HBW.out
      clear e3 hq3
      by_cases hfull : (H.ff.length : Int) = H.c1
      · have hfe : ((s.n3 : Int) == H.c1) = true := by rw [hl3]; simpa using hfull
        rcases hc2 with h0 | h0
        · rw [h0] at x2
          have HRL : Hid (delHo H F = postHo H (evF 3 0 0 F)) := by
            show _ = _
            rw [HD0.out, if_pos hfull, if_pos h0]
          go_wp2_with (first | (refine wpList_load_mid (P := Tryz.prog) rfl 35 _ rfl w.heap.size 0 rfl (hoL H s) _ HB.out.p.load Tryz.underlying35 rfl (sz41L H s) ?_) | (refine wpList_load_mid (P := Tryz.prog) rfl 25 _ rfl (w.heap.size + 1) 0 rfl [.bool F.e, .int .u32 (F.i : Int), .bool F.r, .int .i64 F.d, .slice fa fm fc] _ HB.out.f.load Tryz.underlying25 rfl sz93 ?_))
          refine (l3post_q w2 H s T2 w.heap.size g4 (evF 3 0 0 F) fa fm fc HE4.out.1 HQ.out (by have := HS.out.o; omega) hn4 hlo HFW.out hfm).mono ?_
          rintro o w8 ⟨g', n', k', rfl, hV, ho8, hb8⟩
          have HR8 : Hid (blk w8 (w.heap.size + 1 + 1) Z10 35) := HB.out.r.kept (ho8 _ (by have := HE4.out.2; omega) HB.out.r.lt)
          have HE8 : Hid (∀ L : List Value, spS B T0 T1 T2 (postHo H (evF 3 0 0 F)) (qSl s g' n' k') (w8.setCells (w.heap.size + 1 + 1) 0 L)) := fun L => sp_endG HS.out HS0.out.o.2.2.2 HE4.out.2.2 ⟨by omega, HB.out.r.lt⟩ hV ho8 hb8.size (fun q hq => setCells_other _ q hq _ _ _) (setCells_size ..)
          have HB8 : Hid (Below B w w8) := (HBW.out.mono HZ0.out).trans (hb8.mono (by have := HS0.out.o; omega))
          clear hV ho8 hb8
          go_wp2_with (first
            | (refine wpList_store_mid (P := Tryz.prog) rfl 35 _ _ rfl (w.heap.size + 1 + 1) 0 (hoL (postHo H (evF 3 0 0 F)) (qSl s g' n' k')).toArray rfl rfl (HR8.out.there 0 _ (by rw [List.size_toArray, hoL_len]; decide)) (sz41A _ _) (hoL_one _ _) ?_; generalize hW9 : World.setCells _ (w.heap.size + 1 + 1) 0 _ = w9; have HW9 : Hid (_ = w9) := hW9; clear hW9))
          have e9 := HW9.out
          have hF : blk w9 (w.heap.size + 1 + 1) (hoL (postHo H (evF 3 0 0 F)) (qSl s g' n' k')) 35 := by
            rw [← e9]
            have := blk.put [] Z10 [] (hoL (postHo H (evF 3 0 0 F)) (qSl s g' n' k')) (w := w8) (b := w.heap.size + 1 + 1) (T := 35) (by simpa using HR8.out) (by rw [hoL_len]; rfl)
            rw [List.nil_append, List.append_nil] at this
            exact this
          have hL := run_loadVar_mid (P := Tryz.prog) w9 (w.heap.size + 1 + 1) 0 35 _ _ hF.load Tryz.underlying35 rfl (sz41L _ _)
          refine bodyPost_ret (v := .agg (hoL (postHo H (evF 3 0 0 F)) (qSl s g' n' k')).toArray) (results_cell Tryz.results107 _ w9 (w.heap.size + 1 + 1) _ rfl hL) rfl ?_
          rw [HRL.out]
          refine ⟨_, rfl, ?_, ?_⟩
          · rw [← e9]; exact (HE8.out _).is
          · rw [← e9]; exact setCells_below (by have := HZ0.out; omega) 0 _ HB8.out
        · obtain ⟨fE, fI, fR, fD, fL, r, hfr⟩ : ∃ fE fI fR fD fL r, H.ff = ⟨fE, fI, fR, fD, fL⟩ :: r := by
            cases hff : H.ff with
            | nil => rw [hff] at hfull; simp at hfull; omega
            | cons f r => exact ⟨f.e, f.i, f.r, f.d, f.l, r, rfl⟩
          have HFR : Hid (H.ff = ⟨fE, fI, fR, fD, fL⟩ :: r) := hfr
          have HRL : Hid (delHo H F = postHo (fHo (postHo H ⟨3, 0, 0, fE, fI, fR, fD, fL⟩) (r ++ [F])) (evF 2 0 0 F)) := by
            show _ = _
            rw [HD0.out, if_pos hfull, if_neg (by omega), hfr]
          obtain ⟨ao, m, c, hat⟩ : ∃ ao m c, at5 w gq 0 ⟨fE, fI, fR, fD, fL⟩ ao m c := by
            have h5 := HE3.out.2.is
            rw [HFR.out] at h5
            obtain ⟨g', off, e, hx⟩ := h5.cells (by simp)
            cases e
            obtain ⟨ao, m, c, q⟩ := hx 0 (by simp)
            exact ⟨ao, m, c, by simpa using q⟩
          have hat5 := hat.below HBW.out
          have HM : Hid (m ≤ 1048576) := by
            have h1 := HSM.out 0 (by rw [HFR.out]; simp)
            have h2 := hat.dat.len
            have e : H.ff[0]'(by rw [HFR.out]; simp) = ⟨fE, fI, fR, fD, fL⟩ := by simp [HFR.out]
            rw [e] at h1
            show m ≤ _
            have h3 : m = fL.length := h2
            have h4 : fL.length ≤ 1048576 := h1
            omega
          rw [hfr] at hl3
          have hn0 : 0 < s.n3 := by simp only [List.length_cons] at hl3; omega
          have HRG : Hid (w2.rangeAt gq 0 [.bool fE, .int .u32 (fI : Int), .bool fR, .int .i64 fD, .slice ao m c]) := hat5.range
          have HDT : Hid (isBytes w2 ao m c fL) := hat5.dat
          have HL3 : Hid (s.n3 = r.length + 1) := hl3
          clear hat hat5 hfr hl3
          rw [h0] at x2
          go_wp2_with fail
          refine wp_region_still_tail 5 (by kernel_rfl) (by kernel_rfl) ?_
          change wpStill Tryz.prog _ (World.drew w2) (fun a' => wpList Tryz.prog _ _ _ a' (World.drew w2)) _ _
          have HBd : Hid (Below w2.heap.size w2 (World.drew w2)) := (Below.refl _ _).drew
          have HBv : Hid (Below w.heap.size w (World.drew w2)) := HBW.out.drew
          have HBB : Hid (sbS w (hoL H s) [.bool F.e, .int .u32 (F.i : Int), .bool F.r, .int .i64 F.d, .slice fa fm fc] (World.drew w2)) := HB.out.below HBd.out
          have HSv : Hid (spS B T0 T1 T2 H s (World.drew w2)) := HS0.out.below HBv.out
          have HQv : Hid (rowQ8 T2 w.heap.size 46 g4 s.n4 s.k4 H.qu (World.drew w2)) := HQ.out.keep (fun _ _ _ => rfl)
          have HRv : Hid ((World.drew w2).rangeAt gq 0 [.bool fE, .int .u32 (fI : Int), .bool fR, .int .i64 fD, .slice ao m c]) := HRG.out
          have HDv : Hid (isBytes (World.drew w2) ao m c fL) := HDT.out.below HBd.out
          have x6v : (World.drew w2).cell? ⟨w.heap.size, 6, none⟩ = some (.slice (some ⟨gq, 0, none⟩) s.n3 s.k3) := x6
          clear HBd HB HBW HS HQ HRG HDT x6 x1 x2 HFW HA2
          generalize World.drew w2 = v0 at *
          simp only [List.take_succ_cons, List.take_zero, List.drop_succ_cons, List.drop_zero]
          refine wpStill_load_mid (by rfl) 35 _ rfl w.heap.size 0 rfl (hoL H s) _ HBB.out.p.load Tryz.underlying35 rfl (sz41L H s) ?_
          still_step
          still_step
          still_step
          refine wpStill_load_mid (by rfl) 25 _ rfl gq 0 rfl [.bool fE, .int .u32 (fI : Int), .bool fR, .int .i64 fD, .slice ao m c] _ HRv.out Tryz.underlying25 rfl sz93 ?_
          refine wpStill_nil ?_
          go_wp2_with fail
          refine (l3post_q v0 H s T2 w.heap.size g4 ⟨3, 0, 0, fE, fI, fR, fD, fL⟩ ao m c HE4.out.1 HQv.out (by have := HSv.out.o; omega) hn4 hlo HDv.out HM.out).mono ?_
          rintro o w8 ⟨g', n', k', rfl, hV, ho8, hb8⟩
          have HP8 : Hid (blk w8 w.heap.size (hoL H s) 35) := HBB.out.p.kept (ho8 _ (by have := HE4.out.2; omega) HBB.out.p.lt)
          have HB8 : Hid (Below B w w8) := (HBv.out.mono HZ0.out).trans (hb8.mono (by have := HS0.out.o; omega))
          have HNW : Hid (∀ (W : World) (off k3 : Nat), (∀ x, x ≠ w.heap.size → W.heap[x]? = w8.heap[x]?) → W.heap.size = w8.heap.size → blk W w.heap.size (hoL (fHo (postHo H ⟨3, 0, 0, fE, fI, fR, fD, fL⟩) r) (fSl (qSl s g' n' k') gq off r.length k3)) 35 → ((off = 5 ∧ k3 = s.k3 - 1) ∨ (off = 0 ∧ k3 = 0 ∧ s.k3 = 1)) → Below B w W → ∃ hs, dlS B T0 T1 T2 w (fHo (postHo H ⟨3, 0, 0, fE, fI, fR, fD, fL⟩) r) (fSl (qSl s g' n' k') gq off r.length k3) [.bool F.e, .int .u32 (F.i : Int), .bool F.r, .int .i64 F.d, .slice fa fm fc] gq off hs g' W) := fun W off k3 h1 h2 h3 h4 h5 => dl_new HSv.out HBv.out HBB.out HS0.out.o.2.2.2 HE3.out.2 HFR.out HE4.out.2 hV ho8 hb8 h1 h2 h3 h4 h5
          have HNQ : Hid (n' ≤ 1000) := by
            have h1 := (hV w8 (fun _ _ _ _ => rfl) (Nat.le_refl _)).is.len
            have h2 := quP_le H.c3 H.qu ⟨3, 0, 0, fE, fI, fR, fD, fL⟩
            have h3 := HQ0.out.is.len
            show n' ≤ 1000
            omega
          have HNR : Hid (r.length ≤ 1000) := by have := HL3.out; show r.length ≤ 1000; omega
          have HLP : Hid (0 ≤ loP H.c3 H.qu H.lo ∧ loP H.c3 H.qu H.lo ≤ 100000) := loP_in hlo
          clear hV ho8 hb8
          have HK9 : Hid (∀ w9, World.setCells w8 w.heap.size 0 (hoL (postHo H ⟨3, 0, 0, fE, fI, fR, fD, fL⟩) (qSl s g' n' k')) = w9 → blk w9 w.heap.size (hoL (postHo H ⟨3, 0, 0, fE, fI, fR, fD, fL⟩) (qSl s g' n' k')) 35 ∧ w9.cell? ⟨w.heap.size, 6, none⟩ = some (.slice (some ⟨gq, 0, none⟩) (r.length + 1) s.k3)) := fun w9 e9 => by
            have h9 := blk.put [] (hoL H s) [] (hoL (postHo H ⟨3, 0, 0, fE, fI, fR, fD, fL⟩) (qSl s g' n' k')) (w := w8) (b := w.heap.size) (T := 35) (by simpa using HP8.out) (by rw [hoL_len, hoL_len])
            rw [List.nil_append, List.append_nil, List.length_nil, e9] at h9
            refine ⟨h9, ?_⟩
            have hc := h9.cell 6 _ (by unfold hoL; rfl)
            have e1 : (qSl s g' n' k').a3 = some ⟨gq, 0, none⟩ := HE3.out.1
            have e2 : (qSl s g' n' k').n3 = r.length + 1 := HL3.out
            rw [e1, e2] at hc
            exact hc
          clear HBB HBv HSv HQv HRv HDv HM x6v HD0 hfull hfe h0 HSM HFD HFL HFR
          by_cases hk1 : s.k3 = 1
          · have HK10 : Hid (∀ w9, blk w9 w.heap.size (hoL (postHo H ⟨3, 0, 0, fE, fI, fR, fD, fL⟩) (qSl s g' n' k')) 35 → blk (w9.setCell ⟨w.heap.size, 6, none⟩ (.slice (some ⟨gq, 0, none⟩) r.length 0)) w.heap.size (hoL (fHo (postHo H ⟨3, 0, 0, fE, fI, fR, fD, fL⟩) r) (fSl (qSl s g' n' k') gq 0 r.length 0)) 35) := fun w9 h9 => h9.set 6 _
            go_wp2_with (first
              | (refine wpList_store_mid (P := Tryz.prog) rfl 35 _ _ rfl w.heap.size 0 (hoL (postHo H ⟨3, 0, 0, fE, fI, fR, fD, fL⟩) (qSl s g' n' k')).toArray rfl rfl (HP8.out.there 0 _ (by rw [List.size_toArray, hoL_len, hoL_len]; decide)) (sz41A _ _) (hoL_one _ _) ?_; generalize hW9 : World.setCells w8 w.heap.size 0 _ = w9; have HW9 : Hid (World.setCells w8 w.heap.size 0 (hoL (postHo H ⟨3, 0, 0, fE, fI, fR, fD, fL⟩) (qSl s g' n' k')) = w9) := hW9; clear hW9; have HQ9 : Hid (blk w9 w.heap.size (hoL (postHo H ⟨3, 0, 0, fE, fI, fR, fD, fL⟩) (qSl s g' n' k')) 35) := (HK9.out _ HW9.out).1; have x9 := (HK9.out _ HW9.out).2; have f9 := HQ9.out.free 6))
            obtain ⟨hs5, hdl⟩ := HNW.out (w9.setCell ⟨w.heap.size, 6, none⟩ (.slice (some ⟨gq, 0, none⟩) r.length 0)) 0 0 (fun x hx => by rw [heap_setCell_other _ _ _ _ (by exact hx), ← HW9.out]; exact setCells_other _ x hx _ _ _) (by rw [← HW9.out]; simp [setCells_size]) (HK10.out _ HQ9.out) (Or.inr ⟨rfl, rfl, hk1⟩) (Below.setCell (by rw [← HW9.out]; exact setCells_below HZ0.out 0 _ HB8.out) (by exact HZ0.out) _)
            have HDL : Hid (dlS B T0 T1 T2 w (fHo (postHo H ⟨3, 0, 0, fE, fI, fR, fD, fL⟩) r) (fSl (qSl s g' n' k') gq 0 r.length 0) [.bool F.e, .int .u32 (F.i : Int), .bool F.r, .int .i64 F.d, .slice fa fm fc] gq 0 hs5 g' (w9.setCell ⟨w.heap.size, 6, none⟩ (.slice (some ⟨gq, 0, none⟩) r.length 0))) := hdl
            have HN3 : Hid ((fSl (qSl s g' n' k') gq 0 r.length 0).n3 ≤ 1000) := HNR.out
            have HN4 : Hid ((fSl (fSl (qSl s g' n' k') gq 0 r.length 0) 0 0 0 0).n4 ≤ 1000) := HNQ.out
            have HLO : Hid (0 ≤ (fHo (postHo H ⟨3, 0, 0, fE, fI, fR, fD, fL⟩) r).lo ∧ (fHo (postHo H ⟨3, 0, 0, fE, fI, fR, fD, fL⟩) r).lo ≤ 100000) := HLP.out
            clear hdl x9 f9 HK10 HQ9 HW9 HNW HK9 HP8 HB8
            generalize w9.setCell ⟨w.heap.size, 6, none⟩ (.slice (some ⟨gq, 0, none⟩) r.length 0) = w5 at *
            refine del_region B T0 T1 T2 w (fHo (postHo H ⟨3, 0, 0, fE, fI, fR, fD, fL⟩) r) (fSl (qSl s g' n' k') gq 0 r.length 0) F fa fm fc gq 0 hs5 g' w5 HDL.out HFA.out hfm HN3.out _ _ _ _ _ _ _ _ _ _ _ _ _ _ _ _ _ _ _ _ _ _ _ _ _ _ _ _ _ _ _ _ _ _ _ _ _ _ _ _ _ _ _ _ _ _ _ _ ?_
            intro gd kd gx x9 g9 o9 k9 v ex hT
            subst ex
            have HT : Hid (dlT B T0 T1 T2 w (fHo (fHo (postHo H ⟨3, 0, 0, fE, fI, fR, fD, fL⟩) r) ((fHo (postHo H ⟨3, 0, 0, fE, fI, fR, fD, fL⟩) r).ff ++ [F])) (fSl (fSl (qSl s g' n' k') gq 0 r.length 0) g9 o9 ((fSl (qSl s g' n' k') gq 0 r.length 0).n3 + 1) k9) [.bool F.e, .int .u32 (F.i : Int), .bool F.r, .int .i64 F.d, .slice fa fm fc] g' v) := hT
            clear hT HDL
            go_wp2_with (first
              | (refine wpList_load_mid (P := Tryz.prog) rfl 35 _ rfl w.heap.size 0 rfl (hoL (fHo (fHo (postHo H ⟨3, 0, 0, fE, fI, fR, fD, fL⟩) r) ((fHo (postHo H ⟨3, 0, 0, fE, fI, fR, fD, fL⟩) r).ff ++ [F])) (fSl (fSl (qSl s g' n' k') gq 0 r.length 0) g9 o9 ((fSl (qSl s g' n' k') gq 0 r.length 0).n3 + 1) k9)) _ HT.out.p.load Tryz.underlying35 rfl (sz41L _ _) ?_)
              | (refine wpList_load_mid (P := Tryz.prog) rfl 25 _ rfl (w.heap.size + 1) 0 rfl [.bool F.e, .int .u32 (F.i : Int), .bool F.r, .int .i64 F.d, .slice fa fm fc] _ HT.out.f.load Tryz.underlying25 rfl sz93 ?_))
            refine (l3post_q v (fHo (fHo (postHo H ⟨3, 0, 0, fE, fI, fR, fD, fL⟩) r) ((fHo (postHo H ⟨3, 0, 0, fE, fI, fR, fD, fL⟩) r).ff ++ [F])) (fSl (fSl (qSl s g' n' k') gq 0 r.length 0) g9 o9 ((fSl (qSl s g' n' k') gq 0 r.length 0).n3 + 1) k9) T2 v.heap.size g' (evF 2 0 0 F) fa fm fc HT.out.e4 HT.out.q (by have h1 := HT.out.o; have h2 := HT.out.p.lt; omega) HN4.out HLO.out (HFA.out _ HT.out.bl) hfm).mono ?_
            rintro o w8 ⟨g8, n8, k8, rfl, hV, ho8, hb8⟩
            have HR8 : Hid (blk w8 (w.heap.size + 1 + 1) Z10 35) := HT.out.r.kept (ho8 _ (HT.out.q.ne HT.out.r (by decide)).symm HT.out.r.lt)
            have HE8 : Hid (∀ V : World, (∀ x, x ≠ w.heap.size + 1 + 1 → V.heap[x]? = w8.heap[x]?) → isHo V (postHo (fHo (fHo (postHo H ⟨3, 0, 0, fE, fI, fR, fD, fL⟩) r) ((fHo (postHo H ⟨3, 0, 0, fE, fI, fR, fD, fL⟩) r).ff ++ [F])) (evF 2 0 0 F)) (qSl (fSl (fSl (qSl s g' n' k') gq 0 r.length 0) g9 o9 ((fSl (qSl s g' n' k') gq 0 r.length 0).n3 + 1) k9) g8 n8 k8)) := fun V hv => HT.out.end hV ho8 hb8.size hv HR8.out
            have HB8 : Hid (Below B w w8) := HT.out.bl.trans (hb8.mono (by have := HT.out.o; omega))
            clear hV ho8 hb8
            go_wp2_with (first
              | (refine wpList_store_mid (P := Tryz.prog) rfl 35 _ _ rfl (w.heap.size + 1 + 1) 0 (hoL (postHo (fHo (fHo (postHo H ⟨3, 0, 0, fE, fI, fR, fD, fL⟩) r) ((fHo (postHo H ⟨3, 0, 0, fE, fI, fR, fD, fL⟩) r).ff ++ [F])) (evF 2 0 0 F)) (qSl (fSl (fSl (qSl s g' n' k') gq 0 r.length 0) g9 o9 ((fSl (qSl s g' n' k') gq 0 r.length 0).n3 + 1) k9) g8 n8 k8)).toArray rfl rfl (HR8.out.there 0 _ (by rw [List.size_toArray, hoL_len]; decide)) (sz41A _ _) (hoL_one _ _) ?_; generalize hWa : World.setCells _ (w.heap.size + 1 + 1) 0 _ = wa; have HWa : Hid (_ = wa) := hWa; clear hWa))
            have ea := HWa.out
            have hF : blk wa (w.heap.size + 1 + 1) (hoL (postHo (fHo (fHo (postHo H ⟨3, 0, 0, fE, fI, fR, fD, fL⟩) r) ((fHo (postHo H ⟨3, 0, 0, fE, fI, fR, fD, fL⟩) r).ff ++ [F])) (evF 2 0 0 F)) (qSl (fSl (fSl (qSl s g' n' k') gq 0 r.length 0) g9 o9 ((fSl (qSl s g' n' k') gq 0 r.length 0).n3 + 1) k9) g8 n8 k8)) 35 := by
              rw [← ea]
              have := blk.put [] Z10 [] (hoL (postHo (fHo (fHo (postHo H ⟨3, 0, 0, fE, fI, fR, fD, fL⟩) r) ((fHo (postHo H ⟨3, 0, 0, fE, fI, fR, fD, fL⟩) r).ff ++ [F])) (evF 2 0 0 F)) (qSl (fSl (fSl (qSl s g' n' k') gq 0 r.length 0) g9 o9 ((fSl (qSl s g' n' k') gq 0 r.length 0).n3 + 1) k9) g8 n8 k8)) (w := w8) (b := w.heap.size + 1 + 1) (T := 35) (by simpa using HR8.out) (by rw [hoL_len]; rfl)
              rw [List.nil_append, List.append_nil] at this
              exact this
            have hL := run_loadVar_mid (P := Tryz.prog) wa (w.heap.size + 1 + 1) 0 35 _ _ hF.load Tryz.underlying35 rfl (sz41L _ _)
            refine bodyPost_ret (v := .agg (hoL (postHo (fHo (fHo (postHo H ⟨3, 0, 0, fE, fI, fR, fD, fL⟩) r) ((fHo (postHo H ⟨3, 0, 0, fE, fI, fR, fD, fL⟩) r).ff ++ [F])) (evF 2 0 0 F)) (qSl (fSl (fSl (qSl s g' n' k') gq 0 r.length 0) g9 o9 ((fSl (qSl s g' n' k') gq 0 r.length 0).n3 + 1) k9) g8 n8 k8)).toArray) (results_cell Tryz.results107 _ wa (w.heap.size + 1 + 1) _ rfl hL) rfl ?_
            rw [HRL.out]
            refine ⟨(qSl (fSl (fSl (qSl s g' n' k') gq 0 r.length 0) g9 o9 ((fSl (qSl s g' n' k') gq 0 r.length 0).n3 + 1) k9) g8 n8 k8), rfl, ?_, ?_⟩
            · exact HE8.out wa (fun x hx => by rw [← ea]; exact setCells_other _ x hx _ _ _)
            · rw [← ea]; exact setCells_below (by have := HZ0.out; omega) 0 _ HB8.out
          · have HK10 : Hid (∀ w9, blk w9 w.heap.size (hoL (postHo H ⟨3, 0, 0, fE, fI, fR, fD, fL⟩) (qSl s g' n' k')) 35 → blk (w9.setCell ⟨w.heap.size, 6, none⟩ (.slice (some ⟨gq, 5, none⟩) r.length (s.k3 - 1))) w.heap.size (hoL (fHo (postHo H ⟨3, 0, 0, fE, fI, fR, fD, fL⟩) r) (fSl (qSl s g' n' k') gq 5 r.length (s.k3 - 1))) 35) := fun w9 h9 => h9.set 6 _
            go_wp2_with (first
              | (refine wpList_store_mid (P := Tryz.prog) rfl 35 _ _ rfl w.heap.size 0 (hoL (postHo H ⟨3, 0, 0, fE, fI, fR, fD, fL⟩) (qSl s g' n' k')).toArray rfl rfl (HP8.out.there 0 _ (by rw [List.size_toArray, hoL_len, hoL_len]; decide)) (sz41A _ _) (hoL_one _ _) ?_; generalize hW9 : World.setCells w8 w.heap.size 0 _ = w9; have HW9 : Hid (World.setCells w8 w.heap.size 0 (hoL (postHo H ⟨3, 0, 0, fE, fI, fR, fD, fL⟩) (qSl s g' n' k')) = w9) := hW9; clear hW9; have HQ9 : Hid (blk w9 w.heap.size (hoL (postHo H ⟨3, 0, 0, fE, fI, fR, fD, fL⟩) (qSl s g' n' k')) 35) := (HK9.out _ HW9.out).1; have x9 := (HK9.out _ HW9.out).2; have f9 := HQ9.out.free 6))
            obtain ⟨hs5, hdl⟩ := HNW.out (w9.setCell ⟨w.heap.size, 6, none⟩ (.slice (some ⟨gq, 5, none⟩) r.length (s.k3 - 1))) 5 (s.k3 - 1) (fun x hx => by rw [heap_setCell_other _ _ _ _ (by exact hx), ← HW9.out]; exact setCells_other _ x hx _ _ _) (by rw [← HW9.out]; simp [setCells_size]) (HK10.out _ HQ9.out) (Or.inl ⟨rfl, rfl⟩) (Below.setCell (by rw [← HW9.out]; exact setCells_below HZ0.out 0 _ HB8.out) (by exact HZ0.out) _)
            have HDL : Hid (dlS B T0 T1 T2 w (fHo (postHo H ⟨3, 0, 0, fE, fI, fR, fD, fL⟩) r) (fSl (qSl s g' n' k') gq 5 r.length (s.k3 - 1)) [.bool F.e, .int .u32 (F.i : Int), .bool F.r, .int .i64 F.d, .slice fa fm fc] gq 5 hs5 g' (w9.setCell ⟨w.heap.size, 6, none⟩ (.slice (some ⟨gq, 5, none⟩) r.length (s.k3 - 1)))) := hdl
            have HN3 : Hid ((fSl (qSl s g' n' k') gq 5 r.length (s.k3 - 1)).n3 ≤ 1000) := HNR.out
            have HN4 : Hid ((fSl (fSl (qSl s g' n' k') gq 5 r.length (s.k3 - 1)) 0 0 0 0).n4 ≤ 1000) := HNQ.out
            have HLO : Hid (0 ≤ (fHo (postHo H ⟨3, 0, 0, fE, fI, fR, fD, fL⟩) r).lo ∧ (fHo (postHo H ⟨3, 0, 0, fE, fI, fR, fD, fL⟩) r).lo ≤ 100000) := HLP.out
            clear hdl x9 f9 HK10 HQ9 HW9 HNW HK9 HP8 HB8
            generalize w9.setCell ⟨w.heap.size, 6, none⟩ (.slice (some ⟨gq, 5, none⟩) r.length (s.k3 - 1)) = w5 at *
            refine del_region B T0 T1 T2 w (fHo (postHo H ⟨3, 0, 0, fE, fI, fR, fD, fL⟩) r) (fSl (qSl s g' n' k') gq 5 r.length (s.k3 - 1)) F fa fm fc gq 5 hs5 g' w5 HDL.out HFA.out hfm HN3.out _ _ _ _ _ _ _ _ _ _ _ _ _ _ _ _ _ _ _ _ _ _ _ _ _ _ _ _ _ _ _ _ _ _ _ _ _ _ _ _ _ _ _ _ _ _ _ _ ?_
            intro gd kd gx x9 g9 o9 k9 v ex hT
            subst ex
            have HT : Hid (dlT B T0 T1 T2 w (fHo (fHo (postHo H ⟨3, 0, 0, fE, fI, fR, fD, fL⟩) r) ((fHo (postHo H ⟨3, 0, 0, fE, fI, fR, fD, fL⟩) r).ff ++ [F])) (fSl (fSl (qSl s g' n' k') gq 5 r.length (s.k3 - 1)) g9 o9 ((fSl (qSl s g' n' k') gq 5 r.length (s.k3 - 1)).n3 + 1) k9) [.bool F.e, .int .u32 (F.i : Int), .bool F.r, .int .i64 F.d, .slice fa fm fc] g' v) := hT
            clear hT HDL
            go_wp2_with (first
              | (refine wpList_load_mid (P := Tryz.prog) rfl 35 _ rfl w.heap.size 0 rfl (hoL (fHo (fHo (postHo H ⟨3, 0, 0, fE, fI, fR, fD, fL⟩) r) ((fHo (postHo H ⟨3, 0, 0, fE, fI, fR, fD, fL⟩) r).ff ++ [F])) (fSl (fSl (qSl s g' n' k') gq 5 r.length (s.k3 - 1)) g9 o9 ((fSl (qSl s g' n' k') gq 5 r.length (s.k3 - 1)).n3 + 1) k9)) _ HT.out.p.load Tryz.underlying35 rfl (sz41L _ _) ?_)
              | (refine wpList_load_mid (P := Tryz.prog) rfl 25 _ rfl (w.heap.size + 1) 0 rfl [.bool F.e, .int .u32 (F.i : Int), .bool F.r, .int .i64 F.d, .slice fa fm fc] _ HT.out.f.load Tryz.underlying25 rfl sz93 ?_))
            refine (l3post_q v (fHo (fHo (postHo H ⟨3, 0, 0, fE, fI, fR, fD, fL⟩) r) ((fHo (postHo H ⟨3, 0, 0, fE, fI, fR, fD, fL⟩) r).ff ++ [F])) (fSl (fSl (qSl s g' n' k') gq 5 r.length (s.k3 - 1)) g9 o9 ((fSl (qSl s g' n' k') gq 5 r.length (s.k3 - 1)).n3 + 1) k9) T2 v.heap.size g' (evF 2 0 0 F) fa fm fc HT.out.e4 HT.out.q (by have h1 := HT.out.o; have h2 := HT.out.p.lt; omega) HN4.out HLO.out (HFA.out _ HT.out.bl) hfm).mono ?_
            rintro o w8 ⟨g8, n8, k8, rfl, hV, ho8, hb8⟩
            have HR8 : Hid (blk w8 (w.heap.size + 1 + 1) Z10 35) := HT.out.r.kept (ho8 _ (HT.out.q.ne HT.out.r (by decide)).symm HT.out.r.lt)
            have HE8 : Hid (∀ V : World, (∀ x, x ≠ w.heap.size + 1 + 1 → V.heap[x]? = w8.heap[x]?) → isHo V (postHo (fHo (fHo (postHo H ⟨3, 0, 0, fE, fI, fR, fD, fL⟩) r) ((fHo (postHo H ⟨3, 0, 0, fE, fI, fR, fD, fL⟩) r).ff ++ [F])) (evF 2 0 0 F)) (qSl (fSl (fSl (qSl s g' n' k') gq 5 r.length (s.k3 - 1)) g9 o9 ((fSl (qSl s g' n' k') gq 5 r.length (s.k3 - 1)).n3 + 1) k9) g8 n8 k8)) := fun V hv => HT.out.end hV ho8 hb8.size hv HR8.out
            have HB8 : Hid (Below B w w8) := HT.out.bl.trans (hb8.mono (by have := HT.out.o; omega))
            clear hV ho8 hb8
            go_wp2_with (first
              | (refine wpList_store_mid (P := Tryz.prog) rfl 35 _ _ rfl (w.heap.size + 1 + 1) 0 (hoL (postHo (fHo (fHo (postHo H ⟨3, 0, 0, fE, fI, fR, fD, fL⟩) r) ((fHo (postHo H ⟨3, 0, 0, fE, fI, fR, fD, fL⟩) r).ff ++ [F])) (evF 2 0 0 F)) (qSl (fSl (fSl (qSl s g' n' k') gq 5 r.length (s.k3 - 1)) g9 o9 ((fSl (qSl s g' n' k') gq 5 r.length (s.k3 - 1)).n3 + 1) k9) g8 n8 k8)).toArray rfl rfl (HR8.out.there 0 _ (by rw [List.size_toArray, hoL_len]; decide)) (sz41A _ _) (hoL_one _ _) ?_; generalize hWa : World.setCells _ (w.heap.size + 1 + 1) 0 _ = wa; have HWa : Hid (_ = wa) := hWa; clear hWa))
            have ea := HWa.out
            have hF : blk wa (w.heap.size + 1 + 1) (hoL (postHo (fHo (fHo (postHo H ⟨3, 0, 0, fE, fI, fR, fD, fL⟩) r) ((fHo (postHo H ⟨3, 0, 0, fE, fI, fR, fD, fL⟩) r).ff ++ [F])) (evF 2 0 0 F)) (qSl (fSl (fSl (qSl s g' n' k') gq 5 r.length (s.k3 - 1)) g9 o9 ((fSl (qSl s g' n' k') gq 5 r.length (s.k3 - 1)).n3 + 1) k9) g8 n8 k8)) 35 := by
              rw [← ea]
              have := blk.put [] Z10 [] (hoL (postHo (fHo (fHo (postHo H ⟨3, 0, 0, fE, fI, fR, fD, fL⟩) r) ((fHo (postHo H ⟨3, 0, 0, fE, fI, fR, fD, fL⟩) r).ff ++ [F])) (evF 2 0 0 F)) (qSl (fSl (fSl (qSl s g' n' k') gq 5 r.length (s.k3 - 1)) g9 o9 ((fSl (qSl s g' n' k') gq 5 r.length (s.k3 - 1)).n3 + 1) k9) g8 n8 k8)) (w := w8) (b := w.heap.size + 1 + 1) (T := 35) (by simpa using HR8.out) (by rw [hoL_len]; rfl)
              rw [List.nil_append, List.append_nil] at this
              exact this
            have hL := run_loadVar_mid (P := Tryz.prog) wa (w.heap.size + 1 + 1) 0 35 _ _ hF.load Tryz.underlying35 rfl (sz41L _ _)
            refine bodyPost_ret (v := .agg (hoL (postHo (fHo (fHo (postHo H ⟨3, 0, 0, fE, fI, fR, fD, fL⟩) r) ((fHo (postHo H ⟨3, 0, 0, fE, fI, fR, fD, fL⟩) r).ff ++ [F])) (evF 2 0 0 F)) (qSl (fSl (fSl (qSl s g' n' k') gq 5 r.length (s.k3 - 1)) g9 o9 ((fSl (qSl s g' n' k') gq 5 r.length (s.k3 - 1)).n3 + 1) k9) g8 n8 k8)).toArray) (results_cell Tryz.results107 _ wa (w.heap.size + 1 + 1) _ rfl hL) rfl ?_
            rw [HRL.out]
            refine ⟨(qSl (fSl (fSl (qSl s g' n' k') gq 5 r.length (s.k3 - 1)) g9 o9 ((fSl (qSl s g' n' k') gq 5 r.length (s.k3 - 1)).n3 + 1) k9) g8 n8 k8), rfl, ?_, ?_⟩
            · exact HE8.out wa (fun x hx => by rw [← ea]; exact setCells_other _ x hx _ _ _)
            · rw [← ea]; exact setCells_below (by have := HZ0.out; omega) 0 _ HB8.out
      · have hfe : ((s.n3 : Int) == H.c1) = false := by rw [hl3]; simpa using hfull
        have HRL : Hid (delHo H F = postHo (fHo H (H.ff ++ [F])) (evF 2 0 0 F)) := by
          show _ = _
          rw [HD0.out, if_neg hfull]
        obtain ⟨hs5, hdl⟩ := dlS.first HB.out HS0.out HBW.out HE3.out.1 HE3.out.2 HE4.out.1 HQ0.out
        have HDL : Hid (dlS B T0 T1 T2 w H s [.bool F.e, .int .u32 (F.i : Int), .bool F.r, .int .i64 F.d, .slice fa fm fc] gq 0 hs5 g4 w2) := hdl
        have HN3 : Hid (s.n3 ≤ 1000) := hn3
        have HN4 : Hid (s.n4 ≤ 1000) := hn4
        have HLO : Hid (0 ≤ H.lo ∧ H.lo ≤ 100000) := hlo
        clear hdl
        go_wp2_with (first | (refine wpList_load_mid (P := Tryz.prog) rfl 25 _ rfl (w.heap.size + 1) 0 rfl [.bool F.e, .int .u32 (F.i : Int), .bool F.r, .int .i64 F.d, .slice fa fm fc] _ HB.out.f.load Tryz.underlying25 rfl sz93 ?_))
        clear hl3 hk3 x6 x1 x2 hfe hfull hc1 hc2 HB HS HQ HBW HFW HA2
        refine del_region B T0 T1 T2 w H s F fa fm fc gq 0 hs5 g4 w2 HDL.out HFA.out hfm HN3.out _ _ _ _ _ _ _ _ _ _ _ _ _ _ _ _ _ _ _ _ _ _ _ _ _ _ _ _ _ _ _ _ _ _ _ _ _ _ _ _ _ _ _ _ _ _ _ _ ?_
        intro gd kd gx x9 g9 o9 k9 v ex hT
        subst ex
        have HT : Hid (dlT B T0 T1 T2 w (fHo H (H.ff ++ [F])) (fSl s g9 o9 (s.n3 + 1) k9) [.bool F.e, .int .u32 (F.i : Int), .bool F.r, .int .i64 F.d, .slice fa fm fc] g4 v) := hT
        clear hT HDL
        go_wp2_with (first
          | (refine wpList_load_mid (P := Tryz.prog) rfl 35 _ rfl w.heap.size 0 rfl (hoL (fHo H (H.ff ++ [F])) (fSl s g9 o9 (s.n3 + 1) k9)) _ HT.out.p.load Tryz.underlying35 rfl (sz41L _ _) ?_)
          | (refine wpList_load_mid (P := Tryz.prog) rfl 25 _ rfl (w.heap.size + 1) 0 rfl [.bool F.e, .int .u32 (F.i : Int), .bool F.r, .int .i64 F.d, .slice fa fm fc] _ HT.out.f.load Tryz.underlying25 rfl sz93 ?_))
        refine (l3post_q v (fHo H (H.ff ++ [F])) (fSl s g9 o9 (s.n3 + 1) k9) T2 v.heap.size g4 (evF 2 0 0 F) fa fm fc HT.out.e4 HT.out.q (by have h1 := HT.out.o; have h2 := HT.out.p.lt; omega) HN4.out HLO.out (HFA.out _ HT.out.bl) hfm).mono ?_
        rintro o w8 ⟨g8, n8, k8, rfl, hV, ho8, hb8⟩
        have HR8 : Hid (blk w8 (w.heap.size + 1 + 1) Z10 35) := HT.out.r.kept (ho8 _ (HT.out.q.ne HT.out.r (by decide)).symm HT.out.r.lt)
        have HE8 : Hid (∀ V : World, (∀ x, x ≠ w.heap.size + 1 + 1 → V.heap[x]? = w8.heap[x]?) → isHo V (postHo (fHo H (H.ff ++ [F])) (evF 2 0 0 F)) (qSl (fSl s g9 o9 (s.n3 + 1) k9) g8 n8 k8)) := fun V hv => HT.out.end hV ho8 hb8.size hv HR8.out
        have HB8 : Hid (Below B w w8) := HT.out.bl.trans (hb8.mono (by have := HT.out.o; omega))
        clear hV ho8 hb8
        go_wp2_with (first
          | (refine wpList_store_mid (P := Tryz.prog) rfl 35 _ _ rfl (w.heap.size + 1 + 1) 0 (hoL (postHo (fHo H (H.ff ++ [F])) (evF 2 0 0 F)) (qSl (fSl s g9 o9 (s.n3 + 1) k9) g8 n8 k8)).toArray rfl rfl (HR8.out.there 0 _ (by rw [List.size_toArray, hoL_len]; decide)) (sz41A _ _) (hoL_one _ _) ?_; generalize hWa : World.setCells _ (w.heap.size + 1 + 1) 0 _ = wa; have HWa : Hid (_ = wa) := hWa; clear hWa))
        have ea := HWa.out
        have hF : blk wa (w.heap.size + 1 + 1) (hoL (postHo (fHo H (H.ff ++ [F])) (evF 2 0 0 F)) (qSl (fSl s g9 o9 (s.n3 + 1) k9) g8 n8 k8)) 35 := by
          rw [← ea]
          have := blk.put [] Z10 [] (hoL (postHo (fHo H (H.ff ++ [F])) (evF 2 0 0 F)) (qSl (fSl s g9 o9 (s.n3 + 1) k9) g8 n8 k8)) (w := w8) (b := w.heap.size + 1 + 1) (T := 35) (by simpa using HR8.out) (by rw [hoL_len]; rfl)
          rw [List.nil_append, List.append_nil] at this
          exact this
        have hL := run_loadVar_mid (P := Tryz.prog) wa (w.heap.size + 1 + 1) 0 35 _ _ hF.load Tryz.underlying35 rfl (sz41L _ _)
        refine bodyPost_ret (v := .agg (hoL (postHo (fHo H (H.ff ++ [F])) (evF 2 0 0 F)) (qSl (fSl s g9 o9 (s.n3 + 1) k9) g8 n8 k8)).toArray) (results_cell Tryz.results107 _ wa (w.heap.size + 1 + 1) _ rfl hL) rfl ?_
        rw [HRL.out]
        refine ⟨(qSl (fSl s g9 o9 (s.n3 + 1) k9) g8 n8 k8), rfl, ?_, ?_⟩
        · exact HE8.out wa (fun x hx => by rw [← ea]; exact setCells_other _ x hx _ _ _)
        · rw [← ea]; exact setCells_below (by have := HZ0.out; omega) 0 _ HB8.out
    · have hp' : passB H.fs F = false := by simpa using hp
      rw [hp']
      have HRL : Hid (delHo H F = H) := by
        show _ = _
        unfold delHo
        rw [if_neg (by intro h; exact hp h.2)]
      go_wp2_with (first
        | (refine wpList_load_mid (P := Tryz.prog) rfl 35 _ rfl w.heap.size 0 rfl (hoL H s) _ HB.out.p.load Tryz.underlying35 rfl (sz41L H s) ?_)
        | (refine wpList_store_mid (P := Tryz.prog) rfl 35 _ _ rfl (w.heap.size + 1 + 1) 0 (hoL H s).toArray rfl rfl (HB.out.r.there 0 _ (by rw [List.size_toArray, hoL_len]; decide)) (sz41A _ _) (hoL_one _ _) ?_; generalize hW9 : World.setCells _ (w.heap.size + 1 + 1) 0 _ = w9; have HW9 : Hid (_ = w9) := hW9; clear hW9))
      have e9 := HW9.out
      have hF : blk w9 (w.heap.size + 1 + 1) (hoL H s) 35 := by
        rw [← e9]
        have := blk.put [] Z10 [] (hoL H s) (w := w2) (b := w.heap.size + 1 + 1) (T := 35) (by simpa using HB.out.r) (by rw [hoL_len]; rfl)
        rw [List.nil_append, List.append_nil] at this
        exact this
      have hL := run_loadVar_mid (P := Tryz.prog) w9 (w.heap.size + 1 + 1) 0 35 _ _ hF.load Tryz.underlying35 rfl (sz41L _ _)
      refine bodyPost_ret (v := .agg (hoL H s).toArray) (results_cell Tryz.results107 _ w9 (w.heap.size + 1 + 1) _ rfl hL) rfl ?_
      rw [HRL.out]
      refine ⟨s, rfl, ?_, ?_⟩
      · have hb9 : Below w.heap.size w w9 := by rw [← e9]; exact setCells_below (by omega) 0 _ HBW.out
        exact (HS0.out.below hb9).is
      · rw [← e9]; exact setCells_below (by have := HZ0.out; omega) 0 _ (HBW.out.mono HZ0.out)
  · have hv' : validB F.e F.i F.r F.d fm = false := by simpa using hv
    rw [hv']
    have HRL : Hid (delHo H F = H) := by
      show _ = _
      unfold delHo
      rw [if_neg (by intro h; rw [← HFL.out] at h; exact hv h.1)]
    go_wp2_with (first
      | (refine wpList_load_mid (P := Tryz.prog) rfl 35 _ rfl w.heap.size 0 rfl (hoL H s) _ HB.out.p.load Tryz.underlying35 rfl (sz41L H s) ?_)
      | (refine wpList_store_mid (P := Tryz.prog) rfl 35 _ _ rfl (w.heap.size + 1 + 1) 0 (hoL H s).toArray rfl rfl (HB.out.r.there 0 _ (by rw [List.size_toArray, hoL_len]; decide)) (sz41A _ _) (hoL_one _ _) ?_; generalize hW9 : World.setCells _ (w.heap.size + 1 + 1) 0 _ = w9; have HW9 : Hid (_ = w9) := hW9; clear hW9))
    have e9 := HW9.out
    have hF : blk w9 (w.heap.size + 1 + 1) (hoL H s) 35 := by
      rw [← e9]
      have := blk.put [] Z10 [] (hoL H s) (w := w1) (b := w.heap.size + 1 + 1) (T := 35) (by simpa using HB.out.r) (by rw [hoL_len]; rfl)
      rw [List.nil_append, List.append_nil] at this
      exact this
    have hL := run_loadVar_mid (P := Tryz.prog) w9 (w.heap.size + 1 + 1) 0 35 _ _ hF.load Tryz.underlying35 rfl (sz41L _ _)
    refine bodyPost_ret (v := .agg (hoL H s).toArray) (results_cell Tryz.results107 _ w9 (w.heap.size + 1 + 1) _ rfl hL) rfl ?_
    rw [HRL.out]
    refine ⟨s, rfl, ?_, ?_⟩
    · have hb9 : Below w.heap.size w w9 := by rw [← e9]; exact setCells_below (by omega) 0 _ HBW.out
      exact (HS0.out.below hb9).is
    · rw [← e9]; exact setCells_below (by have := HZ0.out; omega) 0 _ (HBW.out.mono HZ0.out)
end Go.Proofs.YtaamahohdnbpiaaGreat
