import Derived.Test.YtjmlalojfghkiaaDoorR09
namespace Go.Proofs.YtjmlalojfghkiaaDoor
open Go.RowKit
/-- the zero scan -/
abbrev scZ : Sc := ⟨0, 0, 0, 0, 0, 0, false, 0, false, 0, []⟩
theorem scZ_bytes (W : World) : isBytes W none 0 0 scZ.l := ⟨rfl, Nat.le_refl _, fun _ hx => (by cases hx), fun hne => absurd rfl hne⟩
set_option maxHeartbeats 8000000 in
set_option maxRecDepth 40000 in
/-- spec.ScanBit refuses -/
theorem specScan_bad (w : World) (S : Sc) (a : Option Addr) (n cap : Nat) (hn : n = S.l.length) (hn1 : n ≤ 1048576) (bit : Int) (h : ¬ (okS S ∧ (bit = 0 ∨ bit = 1))) :
    Calls Tryd.prog 6 #[scV S a n cap, .int .i64 bit] w fun o w' => o = .returned (.tuple #[scV scZ none 0 0, .int .i64 8]) ∧ Below w.heap.size w w' := by
  have HSO : Hid (∀ W, Calls Tryd.prog 19 #[scV S a n cap] W fun o w' => retB o (okS S) ∧ Below W.heap.size W w') := fun W => l2sound_any W S a n cap hn hn1
  have HP : Hid (¬ (okS S ∧ (bit = 0 ∨ bit = 1))) := h
  clear h hn hn1
  obtain ⟨f, lf, rn, lv, cr, ac, e, i, r, d, l⟩ := S
  go_enter Tryd.func6, Tryd.ntmps6
  go_upto_region 1 with fail
  go_cut [18] (fun s18 wx => s18 = .bool true ∧ blk wx (w.heap.size + 1) ([] ++ z11 ++ []) 31 ∧ Below w.heap.size w wx)
  case first =>
    go_wp2_with fail
    refine (HSO.out _).mono ?_
    rintro o w1 ⟨⟨bb, rfl, hbb⟩, hb1⟩
    have H1 : Hid (blk w1 (w.heap.size + 1) ([] ++ z11 ++ []) 31 ∧ Below w.heap.size w w1) := by
      refine ⟨?_, (((Below.refl _ _).alloc (Nat.le_refl _) _).alloc (by simp) _).trans (hb1.mono (by simp; try omega))⟩
      have := (blk.new (w.alloc (.cells (scL ⟨f, lf, rn, lv, cr, ac, e, i, r, d, l⟩ a n cap).toArray 31)) z11 31).below hb1
      simpa using this
    clear hb1
    cases bb
    · clear hbb
      go_wp2_with fail
      go_meet
      exact ⟨rfl, H1.out⟩
    · have hok := hbb.1 rfl
      have h0 : bit ≠ 0 := fun e => HP.out ⟨hok, Or.inl e⟩
      have h1 : bit ≠ 1 := fun e => HP.out ⟨hok, Or.inr e⟩
      have q0 : (bit != 0) = true := by simpa using h0
      have q1 : (bit != 1) = true := by simpa using h1
      clear hbb hok h0 h1
      go_wp2_with fail
      go_meet
      exact ⟨rfl, H1.out⟩
  case rest =>
    obtain ⟨rfl, h1⟩ := hcut
    have H1 : Hid (blk wc (w.heap.size + 1) ([] ++ z11 ++ []) 31 ∧ Below w.heap.size w wc) := h1
    clear h1
    go_wp2_with (first
      | (refine wpList_store_mid (P := Tryd.prog) rfl 31 (.tmp 4) (.tmp 19) rfl (w.heap.size + 1) 0 _ rfl rfl (H1.out.1.there 0 11 (by simp)) sz31 (one11 _ _ _ _ _ _ _ _ _ _ _ _ _) ?_; generalize hW9 : World.setCells wc (w.heap.size + 1) 0 _ = w9; have HW9 : Hid (World.setCells wc (w.heap.size + 1) 0 (scL scZ none 0 0) = w9) := hW9; clear hW9))
    have e9 := HW9.out
    have hF : blk w9 (w.heap.size + 1) (scL scZ none 0 0) 31 := e9 ▸ blk.put [] z11 [] _ H1.out.1 rfl
    have hL := run_loadVar_mid (P := Tryd.prog) w9 (w.heap.size + 1) 0 31 _ _ hF.load Tryd.underlying31 rfl sz31
    refine bodyPost_ret (results_cell_tmp Tryd.results6 _ w9 (w.heap.size + 1) _ rfl hL) rfl ?_
    exact ⟨rfl, e9 ▸ setCells_below (by omega) _ _ H1.out.2⟩
set_option maxHeartbeats 8000000 in
set_option maxRecDepth 40000 in
theorem specScan_stuff (w : World) (S : Sc) (hS : okS S) (a : Option Addr) (n cap : Nat) (h : isBytes w a n cap S.l) (b : Nat) (hb : b < 2) (h5 : S.rn = 5) (hv : (b : Int) = S.lv) :
    Calls Tryd.prog 6 #[scV S a n cap, .int .i64 (b : Int)] w fun o w' => o = .returned (.tuple #[scV scZ none 0 0, .int .i64 3]) ∧ Below w.heap.size w w' := by
  have HS : Hid (okS S) := hS
  have HH : Hid (isBytes w a n cap S.l) := h
  have HN : Hid (n = S.l.length) := h.len
  have hn8 : n ≤ 8 := by have := hS.2.2.2.2.2.1; have := h.len; omega
  have HSO : Hid (∀ W, Calls Tryd.prog 19 #[scV S a n cap] W fun o w' => o = .returned (.bool true) ∧ Below W.heap.size W w') := fun W => (l2sound_any W S a n cap HN.out (by omega)).mono (by rintro o w' ⟨⟨bb, rfl, h1⟩, h2⟩; rw [h1.2 hS]; exact ⟨rfl, h2⟩)
  have hb' : b = 0 ∨ b = 1 := by omega
  have HB' : Hid (b = 0 ∨ b = 1) := hb'
  clear hS h hb'
  obtain ⟨f, lf, rn, lv, cr, ac, e, i, r, d, l⟩ := S
  simp only [] at h5 hv HN HH
  have q5 : (rn == 5) = true := by simpa using h5
  have qv : ((b : Int) == lv) = true := by simpa using hv
  clear h5 hv
  go_enter Tryd.func6, Tryd.ntmps6
  go_upto_region 1 with fail
  go_cut [18] (fun s18 wx => s18 = .bool false ∧ blk wx w.heap.size (scL ⟨f, lf, rn, lv, cr, ac, e, i, r, d, l⟩ a n cap) 31 ∧ blk wx (w.heap.size + 1) ([] ++ z11 ++ []) 31 ∧ Below w.heap.size w wx)
  case first =>
    go_wp2_with fail
    refine (HSO.out _).mono ?_
    rintro o w1 ⟨rfl, hb1⟩
    have H1 : Hid (blk w1 w.heap.size (scL ⟨f, lf, rn, lv, cr, ac, e, i, r, d, l⟩ a n cap) 31 ∧ blk w1 (w.heap.size + 1) ([] ++ z11 ++ []) 31 ∧ Below w.heap.size w w1) := by
      refine ⟨((blk.new w _ 31).alloc _).below hb1, ?_, (((Below.refl _ _).alloc (Nat.le_refl _) _).alloc (by simp) _).trans (hb1.mono (by simp; try omega))⟩
      have := (blk.new (w.alloc (.cells (scL ⟨f, lf, rn, lv, cr, ac, e, i, r, d, l⟩ a n cap).toArray 31)) z11 31).below hb1
      simpa using this
    clear hb1
    rcases HB'.out with rfl | rfl
    · go_wp2_with fail
      go_meet
      exact ⟨rfl, H1.out⟩
    · go_wp2_with fail
      go_meet
      exact ⟨rfl, H1.out⟩
  case rest =>
    obtain ⟨rfl, h1⟩ := hcut
    have H1 : Hid (blk wc w.heap.size (scL ⟨f, lf, rn, lv, cr, ac, e, i, r, d, l⟩ a n cap) 31 ∧ blk wc (w.heap.size + 1) ([] ++ z11 ++ []) 31 ∧ Below w.heap.size w wc) := h1
    clear h1
    go_wp2_with (first | (refine wpList_load_mid (P := Tryd.prog) rfl 31 (.tmp 2) rfl w.heap.size 0 rfl _ _ H1.out.1.load Tryd.underlying31 rfl sz31 ?_))
    refine (l2copy_own wc ⟨f, lf, rn, lv, cr, ac, e, i, r, d, l⟩ a n cap (HH.out.below H1.out.2.2) (by omega)).mono ?_
    rintro o w2 ⟨g, k, rfl, ho2, hb2⟩
    have H2 : Hid (blk w2 w.heap.size (scL ⟨f, lf, rn, lv, cr, ac, e, i, r, d, l⟩ a n cap) 31 ∧ blk w2 (w.heap.size + 1) ([] ++ z11 ++ []) 31 ∧ Below w.heap.size w w2) := ⟨H1.out.1.below hb2, H1.out.2.1.below hb2, H1.out.2.2.trans (hb2.mono H1.out.2.2.size)⟩
    have HO2 : Hid (ownsB w2 (w.heap.size + 2) (.slice (some ⟨g, 0, none⟩) n k) l ∧ g < w2.heap.size) := ⟨ho2.mono (by have := H1.out.2.1.lt; omega), (World.ownsRow.lt ho2 g rfl).2⟩
    have HT2 : Hid (blk (w2.alloc (.cells z11.toArray 31)) w2.heap.size ([] ++ z11 ++ []) 31) := blk.new w2 _ 31
    clear ho2 hb2 H1
    go_wp2_with (first
      | (refine wpList_store_mid (P := Tryd.prog) rfl 31 (.tmp 6) (.tmp 21) rfl w2.heap.size 0 _ rfl rfl (HT2.out.there 0 11 (by simp)) sz31 (one11 _ _ _ _ _ _ _ _ _ _ _ _ _) ?_; generalize hW3 : World.setCells (World.alloc _ _) w2.heap.size 0 _ = w3; have N3 : tW w ⟨f, lf, rn, lv, cr, ac, e, i, r, d, l⟩ a n cap w2.heap.size ⟨f, lf, rn, lv, cr, ac, e, i, r, d, l⟩ g n k w3 := (hW3 ▸ ⟨⟨(H2.out.1.alloc _).other (by have := H2.out.2.1.lt; omega) _ _, (H2.out.2.1.alloc _).other (by have := H2.out.2.1.lt; omega) _ _, blk.put [] z11 [] _ HT2.out rfl, setCells_below H2.out.2.2.size _ _ (H2.out.2.2.alloc H2.out.2.2.size _), H2.out.2.1.lt⟩, (HO2.out.1.below ((Below.refl _ _).alloc (Nat.le_refl _) _)).keep HN.out ((setCells_other _ _ (by have := HO2.out.2; omega) _ _ _)), (by have := HO2.out.2; omega), HN.out⟩); have HN3 : Hid (tW w ⟨f, lf, rn, lv, cr, ac, e, i, r, d, l⟩ a n cap w2.heap.size ⟨f, lf, rn, lv, cr, ac, e, i, r, d, l⟩ g n k w3) := N3; have y2 := N3.s.p.cell 2 _ rfl; have y3 := N3.s.p.cell 3 _ rfl; clear N3 hW3)
      | (refine wpList_store_mid (P := Tryd.prog) rfl 31 (.tmp 4) (.tmp 29) rfl (w.heap.size + 1) 0 _ rfl rfl (HN3.out.s.r.there 0 11 (by simp)) sz31 (one11 _ _ _ _ _ _ _ _ _ _ _ _ _) ?_; generalize hW9 : World.setCells w3 (w.heap.size + 1) 0 _ = w9; have HW9 : Hid (World.setCells w3 (w.heap.size + 1) 0 (scL scZ none 0 0) = w9) := hW9; clear hW9))
    have e9 := HW9.out
    have hF : blk w9 (w.heap.size + 1) (scL scZ none 0 0) 31 := e9 ▸ blk.put [] z11 [] _ HN3.out.s.r rfl
    have hL := run_loadVar_mid (P := Tryd.prog) w9 (w.heap.size + 1) 0 31 _ _ hF.load Tryd.underlying31 rfl sz31
    refine bodyPost_ret (results_cell_tmp Tryd.results6 _ w9 (w.heap.size + 1) _ rfl hL) rfl ?_
    exact ⟨rfl, e9 ▸ setCells_below (by omega) _ _ HN3.out.s.b⟩
set_option maxHeartbeats 8000000 in
set_option maxRecDepth 40000 in
theorem specScan_due (w : World) (S : Sc) (hS : okS S) (a : Option Addr) (n cap : Nat) (h : isBytes w a n cap S.l) (b : Nat) (hb : b < 2) (h5 : S.rn = 5) (hv : (b : Int) ≠ S.lv) :
    Calls Tryd.prog 6 #[scV S a n cap, .int .i64 (b : Int)] w fun o w' => ∃ ao n' k', o = .returned (.tuple #[scV { S with rn := 1, lv := b } ao n' k', .int .i64 0]) ∧ isBytes w' ao n' k' S.l ∧ Below w.heap.size w w' := by
  have HS : Hid (okS S) := hS
  have HH : Hid (isBytes w a n cap S.l) := h
  have HN : Hid (n = S.l.length) := h.len
  have hn8 : n ≤ 8 := by have := hS.2.2.2.2.2.1; have := h.len; omega
  have HSO : Hid (∀ W, Calls Tryd.prog 19 #[scV S a n cap] W fun o w' => o = .returned (.bool true) ∧ Below W.heap.size W w') := fun W => (l2sound_any W S a n cap HN.out (by omega)).mono (by rintro o w' ⟨⟨bb, rfl, h1⟩, h2⟩; rw [h1.2 hS]; exact ⟨rfl, h2⟩)
  have hb' : b = 0 ∨ b = 1 := by omega
  have HB' : Hid (b = 0 ∨ b = 1) := hb'
  clear hS h hb'
  obtain ⟨f, lf, rn, lv, cr, ac, e, i, r, d, l⟩ := S
  simp only [] at h5 hv HN HH ⊢
  have q5 : (rn == 5) = true := by simpa using h5
  have qv : ((b : Int) == lv) = false := by simpa using hv
  have HSM : Hid (∀ x ∈ l, x < 256) := HH.out.small
  clear h5 hv
  go_enter Tryd.func6, Tryd.ntmps6
  go_upto_region 1 with fail
  go_cut [18] (fun s18 wx => s18 = .bool false ∧ blk wx w.heap.size (scL ⟨f, lf, rn, lv, cr, ac, e, i, r, d, l⟩ a n cap) 31 ∧ blk wx (w.heap.size + 1) ([] ++ z11 ++ []) 31 ∧ Below w.heap.size w wx)
  case first =>
    go_wp2_with fail
    refine (HSO.out _).mono ?_
    rintro o w1 ⟨rfl, hb1⟩
    have H1 : Hid (blk w1 w.heap.size (scL ⟨f, lf, rn, lv, cr, ac, e, i, r, d, l⟩ a n cap) 31 ∧ blk w1 (w.heap.size + 1) ([] ++ z11 ++ []) 31 ∧ Below w.heap.size w w1) := by
      refine ⟨((blk.new w _ 31).alloc _).below hb1, ?_, (((Below.refl _ _).alloc (Nat.le_refl _) _).alloc (by simp) _).trans (hb1.mono (by simp; try omega))⟩
      have := (blk.new (w.alloc (.cells (scL ⟨f, lf, rn, lv, cr, ac, e, i, r, d, l⟩ a n cap).toArray 31)) z11 31).below hb1
      simpa using this
    clear hb1
    rcases HB'.out with rfl | rfl
    · go_wp2_with fail
      go_meet
      exact ⟨rfl, H1.out⟩
    · go_wp2_with fail
      go_meet
      exact ⟨rfl, H1.out⟩
  case rest =>
    obtain ⟨rfl, h1⟩ := hcut
    have H1 : Hid (blk wc w.heap.size (scL ⟨f, lf, rn, lv, cr, ac, e, i, r, d, l⟩ a n cap) 31 ∧ blk wc (w.heap.size + 1) ([] ++ z11 ++ []) 31 ∧ Below w.heap.size w wc) := h1
    clear h1
    go_wp2_with (first | (refine wpList_load_mid (P := Tryd.prog) rfl 31 (.tmp 2) rfl w.heap.size 0 rfl _ _ H1.out.1.load Tryd.underlying31 rfl sz31 ?_))
    refine (l2copy_own wc ⟨f, lf, rn, lv, cr, ac, e, i, r, d, l⟩ a n cap (HH.out.below H1.out.2.2) (by omega)).mono ?_
    rintro o w2 ⟨g, k, rfl, ho2, hb2⟩
    have H2 : Hid (blk w2 w.heap.size (scL ⟨f, lf, rn, lv, cr, ac, e, i, r, d, l⟩ a n cap) 31 ∧ blk w2 (w.heap.size + 1) ([] ++ z11 ++ []) 31 ∧ Below w.heap.size w w2) := ⟨H1.out.1.below hb2, H1.out.2.1.below hb2, H1.out.2.2.trans (hb2.mono H1.out.2.2.size)⟩
    have HO2 : Hid (ownsB w2 (w.heap.size + 2) (.slice (some ⟨g, 0, none⟩) n k) l ∧ g < w2.heap.size) := ⟨ho2.mono (by have := H1.out.2.1.lt; omega), (World.ownsRow.lt ho2 g rfl).2⟩
    have HT2 : Hid (blk (w2.alloc (.cells z11.toArray 31)) w2.heap.size ([] ++ z11 ++ []) 31) := blk.new w2 _ 31
    clear ho2 hb2 H1
    go_wp2_with (first
      | (refine wpList_store_mid (P := Tryd.prog) rfl 31 (.tmp 6) (.tmp 21) rfl w2.heap.size 0 _ rfl rfl (HT2.out.there 0 11 (by simp)) sz31 (one11 _ _ _ _ _ _ _ _ _ _ _ _ _) ?_; generalize hW3 : World.setCells (World.alloc _ _) w2.heap.size 0 _ = w3; have N3 : tW w ⟨f, lf, rn, lv, cr, ac, e, i, r, d, l⟩ a n cap w2.heap.size ⟨f, lf, rn, lv, cr, ac, e, i, r, d, l⟩ g n k w3 := (hW3 ▸ ⟨⟨(H2.out.1.alloc _).other (by have := H2.out.2.1.lt; omega) _ _, (H2.out.2.1.alloc _).other (by have := H2.out.2.1.lt; omega) _ _, blk.put [] z11 [] _ HT2.out rfl, setCells_below H2.out.2.2.size _ _ (H2.out.2.2.alloc H2.out.2.2.size _), H2.out.2.1.lt⟩, (HO2.out.1.below ((Below.refl _ _).alloc (Nat.le_refl _) _)).keep HN.out ((setCells_other _ _ (by have := HO2.out.2; omega) _ _ _)), (by have := HO2.out.2; omega), HN.out⟩); have HN3 : Hid (tW w ⟨f, lf, rn, lv, cr, ac, e, i, r, d, l⟩ a n cap w2.heap.size ⟨f, lf, rn, lv, cr, ac, e, i, r, d, l⟩ g n k w3) := N3; have y2 := N3.s.p.cell 2 _ rfl; have y3 := N3.s.p.cell 3 _ rfl; have x2 := N3.s.q.cell 2 _ rfl; have x3 := N3.s.q.cell 3 _ rfl; have f2 := N3.s.q.free 2; have f3 := N3.s.q.free 3; have hzz := N3.s.z; have HN4 : Hid (tW w ⟨f, lf, rn, lv, cr, ac, e, i, r, d, l⟩ a n cap w2.heap.size ⟨f, lf, 1, b, cr, ac, e, i, r, d, l⟩ g n k ((w3.setCell ⟨w2.heap.size, 2, none⟩ (.int .i64 1)).setCell ⟨w2.heap.size, 3, none⟩ (.int .i64 (b : Int)))) := (N3.put (T' := ⟨f, lf, 1, lv, cr, ac, e, i, r, d, l⟩) 2 (.int .i64 1) rfl rfl).put 3 (.int .i64 (b : Int)) rfl rfl; clear N3 hW3)
      | (refine wpList_load_mid (P := Tryd.prog) rfl 31 (.tmp 6) rfl w2.heap.size 0 rfl _ _ HN4.out.s.q.load Tryd.underlying31 rfl sz31 ?_)
      | (refine wpList_store_mid (P := Tryd.prog) rfl 31 (.tmp 4) (.tmp 33) rfl (w.heap.size + 1) 0 _ rfl rfl (HN4.out.s.r.there 0 11 (by simp)) sz31 (one11 _ _ _ _ _ _ _ _ _ _ _ _ _) ?_; generalize hW9 : World.setCells (World.setCell (World.setCell _ _ _) _ _) (w.heap.size + 1) 0 _ = w9; have HW9 : Hid (World.setCells ((w3.setCell ⟨w2.heap.size, 2, none⟩ (.int .i64 1)).setCell ⟨w2.heap.size, 3, none⟩ (.int .i64 (b : Int))) (w.heap.size + 1) 0 (scL ⟨f, lf, 1, b, cr, ac, e, i, r, d, l⟩ (some ⟨g, 0, none⟩) n k) = w9) := hW9; clear hW9))
    have e9 := HW9.out
    have hF : blk w9 (w.heap.size + 1) (scL ⟨f, lf, 1, b, cr, ac, e, i, r, d, l⟩ (some ⟨g, 0, none⟩) n k) 31 := e9 ▸ blk.put [] z11 [] _ HN4.out.s.r rfl
    have hL := run_loadVar_mid (P := Tryd.prog) w9 (w.heap.size + 1) 0 31 _ _ hF.load Tryd.underlying31 rfl sz31
    refine bodyPost_ret (results_cell_tmp Tryd.results6 _ w9 (w.heap.size + 1) _ rfl hL) rfl ?_
    refine ⟨_, n, k, rfl, ?_, e9 ▸ setCells_below (by omega) _ _ HN4.out.s.b⟩
    rw [← e9]
    obtain ⟨gg, kk, ee, q1, q2, q3⟩ := ownsB_bytes HN4.out.o (by intro e; cases e) HSM.out
    cases ee
    have := q3.now
    rw [← HN4.out.l] at this
    exact this.setCells (fun q hq2 => by cases hq2; have := (World.ownsRow.lt HN4.out.o g rfl).1; show g ≠ _; omega) _ _
set_option maxHeartbeats 8000000 in
set_option maxRecDepth 40000 in
theorem specScan_end (w : World) (S : Sc) (hS : okS S) (a : Option Addr) (n cap : Nat) (h : isBytes w a n cap S.l) (b : Nat) (hb : b < 2) (h5 : S.rn ≠ 5) (hc : verdZ S.f S.lf S.cr S.ac b ≠ 0 ∧ verdZ S.f S.lf S.cr S.ac b ≠ 1) :
    Calls Tryd.prog 6 #[scV S a n cap, .int .i64 (b : Int)] w fun o w' => o = .returned (.tuple #[scV scZ none 0 0, .int .i64 (verdZ S.f S.lf S.cr S.ac b)]) ∧ Below w.heap.size w w' := by
  have HS : Hid (okS S) := hS
  have HH : Hid (isBytes w a n cap S.l) := h
  have HN : Hid (n = S.l.length) := h.len
  have hn8 : n ≤ 8 := by have := hS.2.2.2.2.2.1; have := h.len; omega
  have HSO : Hid (∀ W, Calls Tryd.prog 19 #[scV S a n cap] W fun o w' => o = .returned (.bool true) ∧ Below W.heap.size W w') := fun W => (l2sound_any W S a n cap HN.out (by omega)).mono (by rintro o w' ⟨⟨bb, rfl, h1⟩, h2⟩; rw [h1.2 hS]; exact ⟨rfl, h2⟩)
  have hb' : b = 0 ∨ b = 1 := by omega
  have HB' : Hid (b = 0 ∨ b = 1) := hb'
  clear hS h hb'
  have HVE : Hid (∀ W, Calls Tryd.prog 21 #[scV S a n cap, .int .i64 (b : Int)] W fun o w' => o = .returned (.int .i64 (verdZ S.f S.lf S.cr S.ac b)) ∧ Below W.heap.size W w') := fun W => l2verdict_any W S a n cap b
  generalize hV : verdZ S.f S.lf S.cr S.ac b = c at *
  clear hV
  have q0 : (c != 0) = true := by simpa using hc.1
  have q1 : (c != 1) = true := by simpa using hc.2
  clear hc
  obtain ⟨f, lf, rn, lv, cr, ac, e, i, r, d, l⟩ := S
  simp only [] at h5 HN HH
  go_enter Tryd.func6, Tryd.ntmps6
  go_upto_region 1 with fail
  go_cut [18] (fun s18 wx => s18 = .bool false ∧ blk wx w.heap.size (scL ⟨f, lf, rn, lv, cr, ac, e, i, r, d, l⟩ a n cap) 31 ∧ blk wx (w.heap.size + 1) ([] ++ z11 ++ []) 31 ∧ Below w.heap.size w wx)
  case first =>
    go_wp2_with fail
    refine (HSO.out _).mono ?_
    rintro o w1 ⟨rfl, hb1⟩
    have H1 : Hid (blk w1 w.heap.size (scL ⟨f, lf, rn, lv, cr, ac, e, i, r, d, l⟩ a n cap) 31 ∧ blk w1 (w.heap.size + 1) ([] ++ z11 ++ []) 31 ∧ Below w.heap.size w w1) := by
      refine ⟨((blk.new w _ 31).alloc _).below hb1, ?_, (((Below.refl _ _).alloc (Nat.le_refl _) _).alloc (by simp) _).trans (hb1.mono (by simp; try omega))⟩
      have := (blk.new (w.alloc (.cells (scL ⟨f, lf, rn, lv, cr, ac, e, i, r, d, l⟩ a n cap).toArray 31)) z11 31).below hb1
      simpa using this
    clear hb1
    rcases HB'.out with rfl | rfl
    · go_wp2_with fail
      go_meet
      exact ⟨rfl, H1.out⟩
    · go_wp2_with fail
      go_meet
      exact ⟨rfl, H1.out⟩
  case rest =>
    obtain ⟨rfl, h1⟩ := hcut
    have H1 : Hid (blk wc w.heap.size (scL ⟨f, lf, rn, lv, cr, ac, e, i, r, d, l⟩ a n cap) 31 ∧ blk wc (w.heap.size + 1) ([] ++ z11 ++ []) 31 ∧ Below w.heap.size w wc) := h1
    clear h1
    go_wp2_with (first | (refine wpList_load_mid (P := Tryd.prog) rfl 31 (.tmp 2) rfl w.heap.size 0 rfl _ _ H1.out.1.load Tryd.underlying31 rfl sz31 ?_))
    refine (l2copy_own wc ⟨f, lf, rn, lv, cr, ac, e, i, r, d, l⟩ a n cap (HH.out.below H1.out.2.2) (by omega)).mono ?_
    rintro o w2 ⟨g, k, rfl, ho2, hb2⟩
    have H2 : Hid (blk w2 w.heap.size (scL ⟨f, lf, rn, lv, cr, ac, e, i, r, d, l⟩ a n cap) 31 ∧ blk w2 (w.heap.size + 1) ([] ++ z11 ++ []) 31 ∧ Below w.heap.size w w2) := ⟨H1.out.1.below hb2, H1.out.2.1.below hb2, H1.out.2.2.trans (hb2.mono H1.out.2.2.size)⟩
    have HO2 : Hid (ownsB w2 (w.heap.size + 2) (.slice (some ⟨g, 0, none⟩) n k) l ∧ g < w2.heap.size) := ⟨ho2.mono (by have := H1.out.2.1.lt; omega), (World.ownsRow.lt ho2 g rfl).2⟩
    have HT2 : Hid (blk (w2.alloc (.cells z11.toArray 31)) w2.heap.size ([] ++ z11 ++ []) 31) := blk.new w2 _ 31
    clear ho2 hb2 H1
    go_wp2_with (first
      | (refine wpList_store_mid (P := Tryd.prog) rfl 31 (.tmp 6) (.tmp 21) rfl w2.heap.size 0 _ rfl rfl (HT2.out.there 0 11 (by simp)) sz31 (one11 _ _ _ _ _ _ _ _ _ _ _ _ _) ?_; generalize hW3 : World.setCells (World.alloc _ _) w2.heap.size 0 _ = w3; have N3 : tW w ⟨f, lf, rn, lv, cr, ac, e, i, r, d, l⟩ a n cap w2.heap.size ⟨f, lf, rn, lv, cr, ac, e, i, r, d, l⟩ g n k w3 := (hW3 ▸ ⟨⟨(H2.out.1.alloc _).other (by have := H2.out.2.1.lt; omega) _ _, (H2.out.2.1.alloc _).other (by have := H2.out.2.1.lt; omega) _ _, blk.put [] z11 [] _ HT2.out rfl, setCells_below H2.out.2.2.size _ _ (H2.out.2.2.alloc H2.out.2.2.size _), H2.out.2.1.lt⟩, (HO2.out.1.below ((Below.refl _ _).alloc (Nat.le_refl _) _)).keep HN.out ((setCells_other _ _ (by have := HO2.out.2; omega) _ _ _)), (by have := HO2.out.2; omega), HN.out⟩); have HN3 : Hid (tW w ⟨f, lf, rn, lv, cr, ac, e, i, r, d, l⟩ a n cap w2.heap.size ⟨f, lf, rn, lv, cr, ac, e, i, r, d, l⟩ g n k w3) := N3; have y2 := N3.s.p.cell 2 _ rfl; clear N3 hW3)
      | (refine wpList_load_mid (P := Tryd.prog) rfl 31 (.tmp 2) rfl w.heap.size 0 rfl _ _ HN3.out.s.p.load Tryd.underlying31 rfl sz31 ?_))
    clear y2 HT2 H2 HO2
    refine (HVE.out _).mono ?_
    rintro o w4 ⟨rfl, hb4⟩
    have HN4 : Hid (tW w ⟨f, lf, rn, lv, cr, ac, e, i, r, d, l⟩ a n cap w2.heap.size ⟨f, lf, rn, lv, cr, ac, e, i, r, d, l⟩ g n k w4) := HN3.out.below hb4
    clear hb4 HN3
    go_wp2_with (first
      | (refine wpList_store_mid (P := Tryd.prog) rfl 31 (.tmp 4) (.tmp 43) rfl (w.heap.size + 1) 0 _ rfl rfl (HN4.out.s.r.there 0 11 (by simp)) sz31 (one11 _ _ _ _ _ _ _ _ _ _ _ _ _) ?_; generalize hW9 : World.setCells w4 (w.heap.size + 1) 0 _ = w9; have HW9 : Hid (World.setCells w4 (w.heap.size + 1) 0 (scL scZ none 0 0) = w9) := hW9; clear hW9))
    have e9 := HW9.out
    have hF : blk w9 (w.heap.size + 1) (scL scZ none 0 0) 31 := e9 ▸ blk.put [] z11 [] _ HN4.out.s.r rfl
    have hL := run_loadVar_mid (P := Tryd.prog) w9 (w.heap.size + 1) 0 31 _ _ hF.load Tryd.underlying31 rfl sz31
    refine bodyPost_ret (results_cell_tmp Tryd.results6 _ w9 (w.heap.size + 1) _ rfl hL) rfl ?_
    exact ⟨rfl, e9 ▸ setCells_below (by omega) _ _ HN4.out.s.b⟩
end Go.Proofs.YtjmlalojfghkiaaDoor
