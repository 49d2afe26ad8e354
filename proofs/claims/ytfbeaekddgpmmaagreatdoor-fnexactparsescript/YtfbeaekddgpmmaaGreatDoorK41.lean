import Derived.Test.YtfbeaekddgpmmaaGreatDoorK40
namespace Go.Proofs.YtfbeaekddgpmmaaGreatDoor
open Go.RowKit Kd
set_option linter.unusedVariables false
set_option maxHeartbeats 8000000 in
set_option maxRecDepth 40000 in
/-- spec.l6line, an order -/
theorem line_od (B Bt : Nat) (S : Sc) (us : List (Su × Hd)) (os : List (Od × Hd)) (h1 h2 : Hd) (c l : Int) (bg : Bool) (g cp : Nat) (x : List UInt8) (rest : List (List UInt8)) (w : World) (hI : isSc B us os h1 h2 S w) (hB : B ≤ w.heap.size) (hS : okS S) (hok : okWs (x :: rest)) (hl : rest.length ≤ 20000) (ht : w.ownsRow Bt 9 1 (.slice (some ⟨g, 0, none⟩) (rest.length + 1) cp) (rest.length + 1) (sv (x :: rest)))
    (hz : (shapeZ (wk (x :: rest) 0)).size ≠ 0) (hlen : rest.length = (shapeZ (wk (x :: rest) 0)).size) (hpl : (bg && (((wk (x :: rest) 0).toList == wNode) || ((wk (x :: rest) 0).toList == wAccept))) = false) (hf : formAll (x :: rest) = true) (hx : ((wk (x :: rest) 0).toList == wNode) = false) (hy : ((wk (x :: rest) 0).toList == wRun) = false) (hu : ((wk (x :: rest) 0).toList == wAccept) = false) (y : Od) (bb : Bool) (hs1 : (wk (x :: rest) 1).size ≤ 8)
    (hca : ∀ W, (∀ k, k < rest.length + 1 → W.cell? ⟨g, k, none⟩ = some (.string (wk (x :: rest) k))) → Calls Tryz.prog 28 #[.slice (some ⟨g, 0, none⟩) (rest.length + 1) cp, .int .i64 (S.ticks : Int)] W (loP W y bb))
    (hgo : (S.su.length ≤ nv (wk (x :: rest) 1) → goL S (x :: rest) = (6, S)) ∧ (nv (wk (x :: rest) 1) < S.su.length → (¬ (bb = true ∧ S.od.length < 500) → goL S (x :: rest) = (6, S)) ∧ (bb = true → S.od.length < 500 → goL S (x :: rest) = (0, { S with od := S.od ++ [y] })))) :
    Calls Tryz.prog 13 #[.agg (scL c l h1 h2 (S.ticks : Int)).toArray, .slice (some ⟨g, 0, none⟩) (rest.length + 1) cp, .bool bg] w (lnP B w c l (goL S (x :: rest))) := by
  have HI := hidYY hI
  have HT := hidYY ht
  have HOK := hidYY hok
  have H0 := hidYY (lnW.zero B w hB (scL c l h1 h2 (S.ticks : Int)))
  have HSH := hidYY (fun W => shape_any (wd x) W)
  obtain ⟨n, hn⟩ : ∃ n, rest.length + 1 = n := ⟨_, rfl⟩
  have HN := hidYY hn
  have hn1 : 1 ≤ n := by omega
  have hn2 : n ≤ 20001 := by omega
  rw [hn] at HT ⊢
  clear hn hok hI ht hl
  have HB0 : Hid (Below w.heap.size w ((w.alloc (.cells (scL c l h1 h2 (S.ticks : Int)).toArray 25)).alloc (.cells (scL 0 0 noH noH 0).toArray 25))) := ((Below.refl _ _).alloc (Nat.le_refl _) _).alloc (by simp) _
  generalize hV : (w.alloc (.cells (scL c l h1 h2 (S.ticks : Int)).toArray 25)).alloc (.cells (scL 0 0 noH noH 0).toArray 25) = V at *
  have HC : Hid (∀ k W, k < n → Ky [55, 60, 67] B w W → W.cell? ⟨g, k, none⟩ = some (.string (wk (x :: rest) k)) ∧ (wk (x :: rest) k).size ≤ 20000) := fun k W hk hW => by
    have hk' : k < (x :: rest).length := by have := HN.out; simp only [List.length_cons]; omega
    have e : wk (x :: rest) k = wd (x :: rest)[k] := by unfold wk; rw [List.getD_eq_getElem?_getD, List.getElem?_eq_getElem hk']; rfl
    rw [e]
    exact ⟨words_at HT.out (by have := HN.out; simp only [List.length_cons]; omega) hW k hk', (HOK.out _ (List.getElem_mem hk')).2.1⟩
  have d0 : V.cell? ⟨g, 0, none⟩ = some (.string (wd x)) := (HC.out 0 V (by omega) H0.out.k).1
  obtain ⟨ws, hws⟩ : ∃ ws, x :: rest = ws := ⟨_, rfl⟩
  have HL : Hid (ws.length = n) := by show ws.length = n; rw [← hws, ← HN.out]; rfl
  have e0 : wd x = wk ws 0 := by rw [← hws]; rfl
  rw [e0] at d0 HSH
  rw [hws] at HC hz hlen hpl hf hx hy hu hs1 hca hgo ⊢
  clear e0
  obtain ⟨sh, hsh⟩ : ∃ sh, shapeZ (wk ws 0) = sh := ⟨_, rfl⟩
  have HSZ := hidYY hsh
  rw [hsh] at HSH
  have hs5 : sh.size ≤ 5 := by
    rw [← hsh]; unfold shapeZ
    repeat' split
    all_goals decide
  have esh : (sh.toList == ([] : List UInt8)) = decide (sh.size = 0) := toList_nil sh
  have HF5 : Hid (∀ k (hk : k < sh.size), formB (sh[k]).toNat (wk ws (k + 1)) = true) := by
    show ∀ k (hk : k < sh.size), formB (sh[k]).toNat (wk ws (k + 1)) = true
    rw [← hsh]
    exact fun k hk => form_at hf hk
  rw [hsh] at hz hlen
  have h3 : n = sh.size + 1 := by have := HN.out; omega
  have H3 := hidYY h3
  have hn3 : 2 ≤ n := by omega
  have hn4 : (1 : Int) < (n : Int) := by omega
  clear hsh hf hlen
  obtain ⟨G, hG⟩ : ∃ G, goL S ws = G := ⟨_, rfl⟩
  have HG1 := hidYY hgo
  rw [hG] at HG1 ⊢
  rw [HN.out] at hca
  have HCC := hidYY hca
  have HV1 := hidYY (fun w => value_any (wk ws 1) 10 (by decide) hs1 w)
  rw [show (valN (lt (wk ws 1)) 10 : Int) = (nv (wk ws 1) : Int) from rfl] at HV1
  clear hG hgo hca hs1
  generalize hx0 : wk ws 0 = xs at *
  have HX0 := hidYY hx0
  clear hx0
  rw [decide_eq_false hz] at esh
  have b6 : bg = false ∨ ((xs.toList == wNode) = false ∧ (xs.toList == wAccept) = false) := by
    cases hbg : bg
    · exact .inl rfl
    · rw [hbg, Bool.true_and, Bool.or_eq_false_iff] at hpl; exact .inr hpl
  have hwm : IntKind.i64.wrap ((sh.size : Int) + 1) = (sh.size : Int) + 1 := i64_wrap _ (by omega) (by omega)
  have hnn : (n : Int) = (sh.size : Int) + 1 := by omega
  clear hpl h3
  go_enter Tryz.func13, Tryz.ntmps13
  go_upto_region 2 with fail
  try rw [hV]
  refine (HSH.out V).mono ?_
  rintro o q1 ⟨rfl, rfl⟩
  go_upto_region 6 with fail
  go_cut [41] (fun t wx => t = .bool false ∧ wx = V)
  case first =>
    rcases b6 with rfl | ⟨b6, b7⟩
    · go_wp2_with fail
      go_meet
      case rel => exact ⟨rfl, rfl⟩
    · cases bg
      · go_wp2_with fail
        go_meet
        case rel => exact ⟨rfl, rfl⟩
      · go_wp2_with fail
        go_meet
        case rel => exact ⟨rfl, rfl⟩
  case rest =>
  obtain ⟨rfl, hcw⟩ := hcut
  clear hwm hnn b6 hz esh
  rw [hcw]
  clear hcw
  go_wp2
  go_loopw [9] (fun i wr => ∃ k : Nat, k ≤ sh.size ∧ i = .int .i64 (k : Int) ∧ lnW B w wr (scL c l h1 h2 (S.ticks : Int)) ∧ Hid (Below w.heap.size w wr)) (fun i _ => sh.size - (intOf i).toNat)
  case atStart => exact ⟨0, Nat.zero_le _, rfl, H0.out, HB0.out⟩
  case round =>
    obtain ⟨k, hk, rfl, hW, HBL⟩ := hrel
    clear H0 HB0 hV d0
    by_cases hp : k < sh.size
    · have HD := hidYY (hW.drew hB)
      have dk : wr.cell? ⟨g, k + 1, none⟩ = some (.string (wk ws (k + 1))) := (HC.out (k + 1) wr (by have := H3.out; omega) hW.k).1
      have HFO := hidYY (fun W => form_any (sh[k]).toNat (wk ws (k + 1)) (HC.out (k + 1) wr (by have := H3.out; omega) hW.k).2 W)
      rw [HF5.out k hp] at HFO
      have hw1 : IntKind.i64.wrap ((k : Int) + 1) = (k : Int) + 1 := i64_wrap _ (by omega) (by omega)
      have hi0 : (0 : Int) ≤ (k : Int) + 1 := by omega
      have hi1 : (k : Int) + 1 < (n : Int) := by have := H3.out; omega
      have hi2 : ((k : Int) + 1).toNat = k + 1 := by omega
      clear hW
      generalize hsk : wk ws (k + 1) = sk at *
      clear hsk
      go_upto_region 11 with fail
      go_region_held3 (fun W => W.cell? ⟨g, k + 1, none⟩ = some (.string sk)) (first | assumption | go_keep) (first | (go_at_call 23; refine (HFO.out _).mono ?_; rintro o q1 ⟨rfl, rfl⟩))
      go_wp2
      go_roundw
      case rel => exact ⟨k + 1, by omega, by go_num, HD.out, HBL.out.drew⟩
      case measure => simp [intOf]; omega
    · have hke : ¬ ((k : Int) < (sh.size : Int)) := by omega
      have HW := hidYY hW
      have d0 : wr.cell? ⟨g, 0, none⟩ = some (.string (wk ws 0)) := (HC.out 0 wr (by omega) hW.k).1
      rw [HX0.out] at d0
      clear hW HF5
      have HCA := hidYY (HCC.out wr fun k hk => (HC.out k wr hk HW.out.k).1)
      clear HCC
      have d1 : wr.cell? ⟨g, 1, none⟩ = some (.string (wk ws 1)) := (HC.out 1 wr (by omega) HW.out.k).1
      have s2 := HW.out.s.cell 2 _ rfl
      have s4 := HW.out.s.cell 4 _ rfl
      have HLU : Hid (h1.2.1 = S.su.length) := by
        show h1.2.1 = S.su.length
        rw [← HI.out.eu, List.length_map]
        exact own_len HI.out.su.own
      generalize wk ws 1 = s1 at *
      by_cases hq : S.su.length ≤ nv s1
      · have HGE := hidYY (HG1.out.1 hq)
        have hq2 : (h1.2.1 : Int) ≤ (nv s1 : Int) := by have := HLU.out; omega
        clear HG1 hq HCA
        go_upto_region 25 with (first | (go_at_call 24; refine (HV1.out _).mono ?_; rintro o q1 ⟨rfl, rfl⟩))
        go_wp2_with (first
          | (refine wpList_load_mid (P := Tryz.prog) rfl 25 (.tmp 3) rfl w.heap.size 0 rfl (scL c l h1 h2 (S.ticks : Int)) _ HW.out.s.load Tryz.underlying25 rfl sz25 ?_)
          | (refine wpList_store_mid (P := Tryz.prog) rfl 25 (.tmp 6) (.tmp 111) rfl (w.heap.size + 1) 0 (scL c l h1 h2 (S.ticks : Int)).toArray rfl rfl (HW.out.r.there 0 5 (by simp)) sz25 (one25 _ _ _ _ _) ?_; generalize hX : World.setCells _ (w.heap.size + 1) 0 _ = w9; have HX : Hid (World.setCells wr (w.heap.size + 1) 0 (scL c l h1 h2 (S.ticks : Int)) = w9) := hX; clear hX))
        have e2 := HX.out
        have hF : blk w9 (w.heap.size + 1) (scL c l h1 h2 (S.ticks : Int)) 25 := e2 ▸ blk_all HW.out.r rfl
        have hky : Ky [25] w.heap.size wr w9 := e2 ▸ (Ky.refl _ _ _).setCells _ _ _ (by omega) ⟨_, _, _, HW.out.r, by simp⟩
        have hK9 : Ky [55, 60, 67] B w w9 := HW.out.k.fin hky hB
        have hL := run_loadVar_mid (P := Tryz.prog) w9 (w.heap.size + 1) 0 25 _ _ hF.load Tryz.underlying25 rfl sz25
        refine bodyPost_ret (v := .tuple #[.agg (scL c l h1 h2 (S.ticks : Int)).toArray, .int .i64 6]) (Kd.results_cell_tmp Tryz.results13 _ w9 (w.heap.size + 1) _ rfl hL) rfl ?_
        exact lnP.bad _ _ _ (by rw [HGE.out]; rfl) (by rw [HGE.out]; simp) hK9
      · have HG := hidYY (HG1.out.2 (by omega))
        have hq2 : ¬ ((h1.2.1 : Int) ≤ (nv s1 : Int)) := by have := HLU.out; omega
        clear HG1 hq
        go_upto_region 25 with (first | (go_at_call 24; refine (HV1.out _).mono ?_; rintro o q1 ⟨rfl, rfl⟩))
        go_upto_region 33 with fail
        refine HCA.out.mono ?_
        rintro o W2 ⟨hd, rfl, hown, hb2⟩
        have HOWN := hidYY hown
        have HB2 := hidYY hb2
        clear hown hb2 HCA
        have HW2 := hidYY (HW.out.below HB2.out (Nat.le_trans hB HBL.out.size))
        have HI2 := hidYY ((HI.out.below HBL.out).below HB2.out)
        have HFR := hidYY ((HI.out.below HBL.out).od.fresh (Nat.le_refl _) HOWN.out)
        have HZ := hidYY (blk.new W2 [.int .i64 0, .int .i64 0, .int .i64 0, .int .i64 0, .bool false, .int .u32 0, .bool false, .int .i64 0, .slice none 0 0, .int .i64 0, .int .i64 0] 67)
        have HZB : Hid (Below W2.heap.size W2 (W2.alloc (.cells [.int .i64 0, .int .i64 0, .int .i64 0, .int .i64 0, .bool false, .int .u32 0, .bool false, .int .i64 0, .slice none 0 0, .int .i64 0, .int .i64 0].toArray 67))) := (Below.refl _ _).alloc (Nat.le_refl _) _
        go_upto_region 33 with (first | (refine wpList_store_mid (P := Tryz.prog) rfl 67 (.tmp 13) (.tmp 146) rfl W2.heap.size 0 (odL y hd).toArray rfl rfl (HZ.out.there 0 11 (by simp)) sz67 (one67 _ _) ?_; generalize hX : World.setCells _ W2.heap.size 0 _ = W3; have HX3 : Hid (World.setCells (W2.alloc (.cells [.int .i64 0, .int .i64 0, .int .i64 0, .int .i64 0, .bool false, .int .u32 0, .bool false, .int .i64 0, .slice none 0 0, .int .i64 0, .int .i64 0].toArray 67)) W2.heap.size 0 (odL y hd) = W3) := hX; clear hX))
        have HB3 : Hid (Below W2.heap.size W2 W3) := by show Below _ _ _; rw [← HX3.out]; exact setCells_below (Nat.le_refl _) 0 _ HZB.out
        have HP3 : Hid (blk W3 W2.heap.size (odL y hd) 67) := by
          show blk _ _ _ _
          rw [← HX3.out]
          exact blk_all HZ.out rfl
        clear HX3 HZ HZB
        have hBW2 : Hid (B ≤ W2.heap.size) := Nat.le_trans hB (Nat.le_trans HBL.out.size HB2.out.size)
        have HW3 := hidYY (HW2.out.below HB3.out hBW2.out)
        have HI3 := hidYY (HI2.out.below HB3.out)
        have HO3 := hidYY ((Ky.of (S := []) HB3.out (Nat.le_refl _)).row (ownsRow_lower HOWN.out (Nat.le_trans hB HBL.out.size)) (by simp))
        have t2 := HW3.out.s.cell 3 _ rfl
        have f2 := HW3.out.s.free 3
        have HLN : Hid (h2.2.1 = S.od.length) := by
          show h2.2.1 = S.od.length
          rw [← HI.out.eo, List.length_map]
          exact own_len HI.out.od.own
        clear HW2 HI2 HOWN HB2
        cases hb : bb
        · have HGE := hidYY (HG.out.1 (by rw [hb]; simp))
          clear HG hb
          go_wp2_with (first
            | (refine wpList_load_mid (P := Tryz.prog) rfl 25 (.tmp 3) rfl w.heap.size 0 rfl (scL c l h1 h2 (S.ticks : Int)) _ HW3.out.s.load Tryz.underlying25 rfl sz25 ?_)
            | (refine wpList_store_mid (P := Tryz.prog) rfl 25 (.tmp 6) (.tmp 156) rfl (w.heap.size + 1) 0 (scL c l h1 h2 (S.ticks : Int)).toArray rfl rfl (HW3.out.r.there 0 5 (by simp)) sz25 (one25 _ _ _ _ _) ?_; generalize hX : World.setCells _ (w.heap.size + 1) 0 _ = w9; have HX : Hid (World.setCells W3 (w.heap.size + 1) 0 (scL c l h1 h2 (S.ticks : Int)) = w9) := hX; clear hX))
          have e2 := HX.out
          have hF : blk w9 (w.heap.size + 1) (scL c l h1 h2 (S.ticks : Int)) 25 := e2 ▸ blk_all HW3.out.r rfl
          have hky : Ky [25] w.heap.size W3 w9 := e2 ▸ (Ky.refl _ _ _).setCells _ _ _ (by omega) ⟨_, _, _, HW3.out.r, by simp⟩
          have hK9 : Ky [55, 60, 67] B w w9 := HW3.out.k.fin hky hB
          have hL := run_loadVar_mid (P := Tryz.prog) w9 (w.heap.size + 1) 0 25 _ _ hF.load Tryz.underlying25 rfl sz25
          refine bodyPost_ret (v := .tuple #[.agg (scL c l h1 h2 (S.ticks : Int)).toArray, .int .i64 6]) (Kd.results_cell_tmp Tryz.results13 _ w9 (w.heap.size + 1) _ rfl hL) rfl ?_
          exact lnP.bad _ _ _ (by rw [HGE.out]; rfl) (by rw [HGE.out]; simp) hK9
        · by_cases hc : S.od.length = 500
          · have HGE := hidYY (HG.out.1 (by omega))
            have hc2 : h2.2.1 = 500 := HLN.out.trans hc
            clear HG hb hc
            go_wp2_with (first
              | (refine wpList_load_mid (P := Tryz.prog) rfl 25 (.tmp 3) rfl w.heap.size 0 rfl (scL c l h1 h2 (S.ticks : Int)) _ HW3.out.s.load Tryz.underlying25 rfl sz25 ?_)
              | (refine wpList_store_mid (P := Tryz.prog) rfl 25 (.tmp 6) (.tmp 156) rfl (w.heap.size + 1) 0 (scL c l h1 h2 (S.ticks : Int)).toArray rfl rfl (HW3.out.r.there 0 5 (by simp)) sz25 (one25 _ _ _ _ _) ?_; generalize hX : World.setCells _ (w.heap.size + 1) 0 _ = w9; have HX : Hid (World.setCells W3 (w.heap.size + 1) 0 (scL c l h1 h2 (S.ticks : Int)) = w9) := hX; clear hX))
            have e2 := HX.out
            have hF : blk w9 (w.heap.size + 1) (scL c l h1 h2 (S.ticks : Int)) 25 := e2 ▸ blk_all HW3.out.r rfl
            have hky : Ky [25] w.heap.size W3 w9 := e2 ▸ (Ky.refl _ _ _).setCells _ _ _ (by omega) ⟨_, _, _, HW3.out.r, by simp⟩
            have hK9 : Ky [55, 60, 67] B w w9 := HW3.out.k.fin hky hB
            have hL := run_loadVar_mid (P := Tryz.prog) w9 (w.heap.size + 1) 0 25 _ _ hF.load Tryz.underlying25 rfl sz25
            refine bodyPost_ret (v := .tuple #[.agg (scL c l h1 h2 (S.ticks : Int)).toArray, .int .i64 6]) (Kd.results_cell_tmp Tryz.results13 _ w9 (w.heap.size + 1) _ rfl hL) rfl ?_
            exact lnP.bad _ _ _ (by rw [HGE.out]; rfl) (by rw [HGE.out]; simp) hK9
          · have HGE := hidYY (HG.out.2 hb (by have := hS.od; omega))
            have hc2 : ¬ ((h2.2.1 : Int) = 500) := by have := HLN.out; omega
            clear HG hb hc
            have HNB := hidYY (heap_alloc_new W3 (.cells (odL y hd).toArray 67))
            have HB4 : Hid (Below W3.heap.size W3 (W3.alloc (.cells (odL y hd).toArray 67))) := (Below.refl _ _).alloc (Nat.le_refl _) _
            have hBW3 : Hid (B ≤ W3.heap.size) := Nat.le_trans hBW2.out HB3.out.size
            have HW4 := hidYY (HW3.out.below HB4.out hBW3.out)
            have HI4 := hidYY (HI3.out.below HB4.out)
            have HO4 := hidYY ((Ky.of (S := []) HB4.out (Nat.le_refl _)).row HO3.out (by simp))
            have hBW4 : Hid (B ≤ (W3.alloc (.cells (odL y hd).toArray 67)).heap.size) := Nat.le_trans hBW3.out HB4.out.size
            have HRL : Hid (os.length ≤ 1000000) := by
              show os.length ≤ 1000000
              have e := congrArg List.length HI.out.eo
              rw [List.length_map] at e
              have := hS.od
              omega
            go_wp2_with (first | (refine wpList_load_mid (P := Tryz.prog) rfl 67 (.tmp 13) rfl W2.heap.size 0 rfl (odL y hd) _ HP3.out.load Tryz.underlying67 rfl sz67 ?_) | (at_builtin; refine app_row rfl (.tmp 158) (.tmp 160) 23 67 _ 11 96 Tryz.info67 Tryz.underlying23 rfl (by decide) (by decide) rfl B os.length (hdV h2) (os.flatMap (fun (r : Od × Hd) => kO.enc r.1 r.2)) rfl HI4.out.od.own W3.heap.size (odL y hd) rfl rfl HNB.out (by simp [Value.oneCell']) HRL.out hBW4.out ?_))
            intro g' k' w5 hown5 hgr5 hgg5
            have hm := HI4.out.moreO y hd (some ⟨g', 0, none⟩, os.length + 1, k') hBW4.out HO4.out HFR.out hown5 hgr5
            have HI5 := hidYY hm.1
            have HW5 := hidYY (HW4.out.ky (hm.2.mono (by simp) (Nat.le_refl _)))
            clear hm hown5 hgr5 hgg5 t2 f2
            have t2 := HW5.out.s.cell 3 _ rfl
            have f2 := HW5.out.s.free 3
            have hh := HW5.out.hd2 hB (some ⟨g', 0, none⟩, os.length + 1, k')
            have HW6' := hidYY hh.1
            have HI6' := hidYY (HI5.out.ky25 hh.2)
            clear hh
            go_upto_region 36 with fail
            generalize hX : World.setCell w5 _ _ = W6
            have HW6 : Hid (lnW B w W6 (scL c l h1 (some ⟨g', 0, none⟩, os.length + 1, k') (S.ticks : Int))) := by show lnW _ _ _ _; rw [← hX]; exact HW6'.out
            have HI6 : Hid (isSc B us (os ++ [(y, hd)]) h1 (some ⟨g', 0, none⟩, os.length + 1, k') { S with od := S.od ++ [y] } W6) := by show isSc _ _ _ _ _ _ _; rw [← hX]; exact HI6'.out
            clear hX HW6' HI6' HW5 HI5 t2 f2
            go_wp2_with (first
              | (refine wpList_load_mid (P := Tryz.prog) rfl 25 (.tmp 3) rfl w.heap.size 0 rfl (scL c l h1 (some ⟨g', 0, none⟩, os.length + 1, k') (S.ticks : Int)) _ HW6.out.s.load Tryz.underlying25 rfl sz25 ?_)
              | (refine wpList_store_mid (P := Tryz.prog) rfl 25 (.tmp 6) (.tmp 163) rfl (w.heap.size + 1) 0 (scL c l h1 (some ⟨g', 0, none⟩, os.length + 1, k') (S.ticks : Int)).toArray rfl rfl (HW6.out.r.there 0 5 (by simp)) sz25 (one25 _ _ _ _ _) ?_; generalize hX : World.setCells _ (w.heap.size + 1) 0 _ = w9; have HX : Hid (World.setCells W6 (w.heap.size + 1) 0 (scL c l h1 (some ⟨g', 0, none⟩, os.length + 1, k') (S.ticks : Int)) = w9) := hX; clear hX))
            have e2 := HX.out
            have hF : blk w9 (w.heap.size + 1) (scL c l h1 (some ⟨g', 0, none⟩, os.length + 1, k') (S.ticks : Int)) 25 := e2 ▸ blk_all HW6.out.r rfl
            have hky : Ky [25] w.heap.size W6 w9 := e2 ▸ (Ky.refl _ _ _).setCells _ _ _ (by omega) ⟨_, _, _, HW6.out.r, by simp⟩
            have hK9 : Ky [55, 60, 67] B w w9 := HW6.out.k.fin hky hB
            have hL := run_loadVar_mid (P := Tryz.prog) w9 (w.heap.size + 1) 0 25 _ _ hF.load Tryz.underlying25 rfl sz25
            refine bodyPost_ret (v := .tuple #[.agg (scL c l h1 (some ⟨g', 0, none⟩, os.length + 1, k') (S.ticks : Int)).toArray, .int .i64 0]) (Kd.results_cell_tmp Tryz.results13 _ w9 (w.heap.size + 1) _ rfl hL) rfl ?_
            rw [HGE.out]
            have hi := HI6.out.ky25 hky
            exact ⟨⟨_, _, _, rfl, fun _ => ⟨rfl, _, _, hi⟩⟩, hK9⟩
end Go.Proofs.YtfbeaekddgpmmaaGreatDoor
