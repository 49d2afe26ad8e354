import Derived.Test.YtjmlalojfghkiaaDoorAC
import Derived.Test.YtjmlalojfghkiaaDoorN
namespace Go.Proofs.YtjmlalojfghkiaaDoor
open Go.RowKit
set_option linter.unusedVariables false
theorem tab_keep {w W : World} (hg : w.rangeAt 0 0 tabL) (hz : 0 < w.heap.size) {B : Nat} (hB : 0 < B) (hb : Below B w W) : W.rangeAt 0 0 tabL := fun j v hv => (hb.cell (p := ⟨0, 0 + j, none⟩) (by exact hB)).trans (hg j v hv)
set_option maxHeartbeats 8000000 in
set_option maxRecDepth 40000 in
/-- impl.ScanBit refuses -/
theorem implScan_bad (w : World) (hg : w.rangeAt 0 0 tabL) (hz : 0 < w.heap.size) (S : Sc) (a : Option Addr) (n cap : Nat) (hn : n = S.l.length) (hn1 : n ≤ 1048576) (bit : Int) (h : ¬ (okS S ∧ (bit = 0 ∨ bit = 1))) :
    Calls Tryd.prog 8 #[scV S a n cap, .int .i64 bit] w fun o w' => o = .returned (.tuple #[scV scZ none 0 0, .int .i64 8]) ∧ Below w.heap.size w w' := by
  have HSO : Hid (∀ W, Below w.heap.size w W → Calls Tryd.prog 27 #[scV S a n cap] W fun o w' => retB o (okS S) ∧ Below W.heap.size W w') := fun W hW => soundScan_any W (tab_keep hg hz hz hW) (Nat.lt_of_lt_of_le hz hW.size) S a n cap hn hn1
  have HIL : Hid (∀ W, Calls Tryd.prog 28 #[.int .i64 bit] W fun o w' => retB o (bit = 0 ∨ bit = 1) ∧ w' = W) := fun W => isLevel_any W bit
  have HP : Hid (¬ (okS S ∧ (bit = 0 ∨ bit = 1))) := h
  clear h hn hn1 hg hz
  obtain ⟨f, lf, rn, lv, cr, ac, e, i, r, d, l⟩ := S
  have H0 : Hid (blk ((w.alloc (.cells (scL ⟨f, lf, rn, lv, cr, ac, e, i, r, d, l⟩ a n cap).toArray 31)).alloc (.cells z11.toArray 31)) w.heap.size (scL ⟨f, lf, rn, lv, cr, ac, e, i, r, d, l⟩ a n cap) 31 ∧ blk ((w.alloc (.cells (scL ⟨f, lf, rn, lv, cr, ac, e, i, r, d, l⟩ a n cap).toArray 31)).alloc (.cells z11.toArray 31)) (w.heap.size + 1) ([] ++ z11 ++ []) 31 ∧ Below w.heap.size w ((w.alloc (.cells (scL ⟨f, lf, rn, lv, cr, ac, e, i, r, d, l⟩ a n cap).toArray 31)).alloc (.cells z11.toArray 31))) := by
    refine ⟨(blk.new w _ 31).alloc _, ?_, ((Below.refl _ _).alloc (Nat.le_refl _) _).alloc (by simp) _⟩
    have := blk.new (w.alloc (.cells (scL ⟨f, lf, rn, lv, cr, ac, e, i, r, d, l⟩ a n cap).toArray 31)) z11 31
    simpa using this
  go_enter Tryd.func8, Tryd.ntmps8
  go_upto_region 1 with fail
  go_cut [14] (fun s14 wx => s14 = .bool true ∧ blk wx (w.heap.size + 1) ([] ++ z11 ++ []) 31 ∧ Below w.heap.size w wx)
  case first =>
    go_wp2_with (first | (refine wpList_load_mid (P := Tryd.prog) rfl 31 (.tmp 2) rfl w.heap.size 0 rfl _ _ H0.out.1.load Tryd.underlying31 rfl sz31 ?_))
    refine (HSO.out _ H0.out.2.2).mono ?_
    rintro o w1 ⟨⟨bb, rfl, hbb⟩, hb1⟩
    have H1 : Hid (blk w1 (w.heap.size + 1) ([] ++ z11 ++ []) 31 ∧ Below w.heap.size w w1) := ⟨H0.out.2.1.below hb1, H0.out.2.2.trans (hb1.mono H0.out.2.2.size)⟩
    clear hb1
    cases bb
    · clear hbb
      go_wp2_with fail
      go_meet
      exact ⟨rfl, H1.out⟩
    · have hok := hbb.1 rfl
      have HOK : Hid (okS ⟨f, lf, rn, lv, cr, ac, e, i, r, d, l⟩) := hok
      clear hbb hok
      go_wp2_with fail
      refine (HIL.out _).mono ?_
      rintro o w2 ⟨⟨b2, rfl, hb2⟩, rfl⟩
      have e2 : b2 = false := by
        cases b2
        · rfl
        · exact absurd ⟨HOK.out, hb2.1 rfl⟩ HP.out
      subst e2
      clear hb2
      go_wp2_with fail
      go_meet
      exact ⟨rfl, H1.out⟩
  case rest =>
    obtain ⟨rfl, h1⟩ := hcut
    have H1 : Hid (blk wc (w.heap.size + 1) ([] ++ z11 ++ []) 31 ∧ Below w.heap.size w wc) := h1
    clear h1
    go_wp2_with (first
      | (refine wpList_store_mid (P := Tryd.prog) rfl 31 (.tmp 4) (.tmp 15) rfl (w.heap.size + 1) 0 _ rfl rfl (H1.out.1.there 0 11 (by simp)) sz31 (one11 _ _ _ _ _ _ _ _ _ _ _ _ _) ?_; generalize hW9 : World.setCells wc (w.heap.size + 1) 0 _ = w9; have HW9 : Hid (World.setCells wc (w.heap.size + 1) 0 (scL scZ none 0 0) = w9) := hW9; clear hW9))
    have e9 := HW9.out
    have hF : blk w9 (w.heap.size + 1) (scL scZ none 0 0) 31 := e9 ▸ blk.put [] z11 [] _ H1.out.1 rfl
    have hL := run_loadVar_mid (P := Tryd.prog) w9 (w.heap.size + 1) 0 31 _ _ hF.load Tryd.underlying31 rfl sz31
    refine bodyPost_ret (results_cell_tmp Tryd.results8 _ w9 (w.heap.size + 1) _ rfl hL) rfl ?_
    exact ⟨rfl, e9 ▸ setCells_below (by omega) _ _ H1.out.2⟩
set_option maxHeartbeats 8000000 in
set_option maxRecDepth 40000 in
/-- impl.ScanBit ends the scan -/
theorem implScan_no (w : World) (hg : w.rangeAt 0 0 tabL) (hz : 0 < w.heap.size) (S : Sc) (hS : okS S) (g n cap : Nat) (h : isBytes w (some ⟨g, 0, none⟩) n cap S.l) (b : Nat) (hb : b < 2) (c : Int) (hc : c ≠ 0 ∧ c ≠ 1)
    (HT : ∀ W g' k', blk W w.heap.size (scL S (some ⟨g', 0, none⟩) n k') 31 → Calls Tryd.prog 30 #[.pointer (some ⟨w.heap.size, 0, none⟩), .int .i64 (b : Int)] W fun o w' => o = .returned (.int .i64 c) ∧ Below W.heap.size W w') :
    Calls Tryd.prog 8 #[scV S (some ⟨g, 0, none⟩) n cap, .int .i64 (b : Int)] w fun o w' => o = .returned (.tuple #[scV scZ none 0 0, .int .i64 c]) ∧ Below w.heap.size w w' := by
  have hn := h.len
  have hn8 : n ≤ 8 := by have := hS.2.2.2.2.2.1; omega
  have HSO : Hid (∀ W, Below w.heap.size w W → Calls Tryd.prog 27 #[scV S (some ⟨g, 0, none⟩) n cap] W fun o w' => o = .returned (.bool true) ∧ Below W.heap.size W w') := fun W hW => (soundScan_any W (tab_keep hg hz hz hW) (Nat.lt_of_lt_of_le hz hW.size) S _ n cap hn (by omega)).mono (by rintro o w' ⟨⟨bb, rfl, h1⟩, h2⟩; rw [h1.2 hS]; exact ⟨rfl, h2⟩)
  have HIL : Hid (∀ W, Calls Tryd.prog 28 #[.int .i64 (b : Int)] W fun o w' => o = .returned (.bool true) ∧ w' = W) := fun W => (isLevel_any W b).mono (by rintro o w' ⟨⟨bb, rfl, h1⟩, h2⟩; rw [h1.2 (by omega)]; exact ⟨rfl, h2⟩)
  have HGO : Hid (∀ W, Calls Tryd.prog 31 #[.int .i64 c] W fun o w' => o = .returned (.bool false) ∧ w' = W) := by
    intro W
    refine (goesOn_any W c).mono ?_
    rintro o w' ⟨⟨x, rfl, hx⟩, rfl⟩
    refine ⟨?_, rfl⟩
    cases x
    · rfl
    · exact absurd (hx.1 rfl) (fun hh => hh.elim hc.1 hc.2)
  have HCL : Hid (∀ W, Below w.heap.size w W → Calls Tryd.prog 29 #[.slice (some ⟨g, 0, none⟩) n cap] W fun o w' => ∃ g' k', o = .returned (.slice (some ⟨g', 0, none⟩) n k') ∧ ownsB w' W.heap.size (.slice (some ⟨g', 0, none⟩) n k') S.l ∧ Below W.heap.size W w') := fun W hW => clone_any W g n cap S.l (h.below hW) (by omega)
  have HTT : Hid (∀ W g' k', blk W w.heap.size (scL S (some ⟨g', 0, none⟩) n k') 31 → Calls Tryd.prog 30 #[.pointer (some ⟨w.heap.size, 0, none⟩), .int .i64 (b : Int)] W fun o w' => o = .returned (.int .i64 c) ∧ Below W.heap.size W w') := HT
  clear HT hg hz h hS hn hc
  obtain ⟨f, lf, rn, lv, cr, ac, e, i, r, d, l⟩ := S
  have H0 : Hid (blk ((w.alloc (.cells (scL ⟨f, lf, rn, lv, cr, ac, e, i, r, d, l⟩ (some ⟨g, 0, none⟩) n cap).toArray 31)).alloc (.cells z11.toArray 31)) w.heap.size (scL ⟨f, lf, rn, lv, cr, ac, e, i, r, d, l⟩ (some ⟨g, 0, none⟩) n cap) 31 ∧ blk ((w.alloc (.cells (scL ⟨f, lf, rn, lv, cr, ac, e, i, r, d, l⟩ (some ⟨g, 0, none⟩) n cap).toArray 31)).alloc (.cells z11.toArray 31)) (w.heap.size + 1) ([] ++ z11 ++ []) 31 ∧ Below w.heap.size w ((w.alloc (.cells (scL ⟨f, lf, rn, lv, cr, ac, e, i, r, d, l⟩ (some ⟨g, 0, none⟩) n cap).toArray 31)).alloc (.cells z11.toArray 31))) := by
    refine ⟨(blk.new w _ 31).alloc _, ?_, ((Below.refl _ _).alloc (Nat.le_refl _) _).alloc (by simp) _⟩
    have := blk.new (w.alloc (.cells (scL ⟨f, lf, rn, lv, cr, ac, e, i, r, d, l⟩ (some ⟨g, 0, none⟩) n cap).toArray 31)) z11 31
    simpa using this
  go_enter Tryd.func8, Tryd.ntmps8
  go_upto_region 1 with fail
  go_cut [14] (fun s14 wx => s14 = .bool false ∧ blk wx w.heap.size (scL ⟨f, lf, rn, lv, cr, ac, e, i, r, d, l⟩ (some ⟨g, 0, none⟩) n cap) 31 ∧ blk wx (w.heap.size + 1) ([] ++ z11 ++ []) 31 ∧ Below w.heap.size w wx)
  case first =>
    go_wp2_with (first | (refine wpList_load_mid (P := Tryd.prog) rfl 31 (.tmp 2) rfl w.heap.size 0 rfl _ _ H0.out.1.load Tryd.underlying31 rfl sz31 ?_))
    refine (HSO.out _ H0.out.2.2).mono ?_
    rintro o w1 ⟨rfl, hb1⟩
    have H1 : Hid (blk w1 w.heap.size (scL ⟨f, lf, rn, lv, cr, ac, e, i, r, d, l⟩ (some ⟨g, 0, none⟩) n cap) 31 ∧ blk w1 (w.heap.size + 1) ([] ++ z11 ++ []) 31 ∧ Below w.heap.size w w1) := ⟨H0.out.1.below hb1, H0.out.2.1.below hb1, H0.out.2.2.trans (hb1.mono H0.out.2.2.size)⟩
    clear hb1
    go_wp2_with fail
    refine (HIL.out _).mono ?_
    rintro o w2 ⟨rfl, rfl⟩
    go_wp2_with fail
    go_meet
    exact ⟨rfl, H1.out⟩
  case rest =>
    obtain ⟨rfl, h1⟩ := hcut
    have H1 : Hid (blk wc w.heap.size (scL ⟨f, lf, rn, lv, cr, ac, e, i, r, d, l⟩ (some ⟨g, 0, none⟩) n cap) 31 ∧ blk wc (w.heap.size + 1) ([] ++ z11 ++ []) 31 ∧ Below w.heap.size w wc) := h1
    have z10 := h1.1.cell 10 _ rfl
    clear h1
    go_wp2_with fail
    refine (HCL.out _ H1.out.2.2).mono ?_
    rintro o w2 ⟨g', k', rfl, ho2, hb2⟩
    have H2 : Hid (blk w2 w.heap.size (scL ⟨f, lf, rn, lv, cr, ac, e, i, r, d, l⟩ (some ⟨g, 0, none⟩) n cap) 31 ∧ blk w2 (w.heap.size + 1) ([] ++ z11 ++ []) 31 ∧ Below w.heap.size w w2) := ⟨H1.out.1.below hb2, H1.out.2.1.below hb2, H1.out.2.2.trans (hb2.mono H1.out.2.2.size)⟩
    have y10 := H2.out.1.cell 10 _ rfl
    have x10 := H2.out.1.free 10
    have H3 : Hid (blk (w2.setCell ⟨w.heap.size, 10, none⟩ (.slice (some ⟨g', 0, none⟩) n k')) w.heap.size (scL ⟨f, lf, rn, lv, cr, ac, e, i, r, d, l⟩ (some ⟨g', 0, none⟩) n k') 31 ∧ blk (w2.setCell ⟨w.heap.size, 10, none⟩ (.slice (some ⟨g', 0, none⟩) n k')) (w.heap.size + 1) ([] ++ z11 ++ []) 31 ∧ Below w.heap.size w (w2.setCell ⟨w.heap.size, 10, none⟩ (.slice (some ⟨g', 0, none⟩) n k'))) := ⟨H2.out.1.set 10 _, H2.out.2.1.setOther (by omega) _ _, H2.out.2.2.setCell (by exact Nat.le_refl _) _⟩
    clear ho2 hb2 H1 z10
    go_wp2_with fail
    refine (HTT.out _ g' k' H3.out.1).mono ?_
    rintro o w4 ⟨rfl, hb4⟩
    have H4 : Hid (blk w4 (w.heap.size + 1) ([] ++ z11 ++ []) 31 ∧ Below w.heap.size w w4) := ⟨H3.out.2.1.below hb4, H3.out.2.2.trans (hb4.mono H3.out.2.2.size)⟩
    clear hb4
    go_wp2_with fail
    refine (HGO.out _).mono ?_
    rintro o w5 ⟨rfl, rfl⟩
    go_wp2_with (first
      | (refine wpList_store_mid (P := Tryd.prog) rfl 31 (.tmp 4) (.tmp 27) rfl (w.heap.size + 1) 0 _ rfl rfl (H4.out.1.there 0 11 (by simp)) sz31 (one11 _ _ _ _ _ _ _ _ _ _ _ _ _) ?_; generalize hW9 : World.setCells _ (w.heap.size + 1) 0 _ = w9; have HW9 : Hid (World.setCells w5 (w.heap.size + 1) 0 (scL scZ none 0 0) = w9) := hW9; clear hW9))
    have e9 := HW9.out
    have hF : blk w9 (w.heap.size + 1) (scL scZ none 0 0) 31 := e9 ▸ blk.put [] z11 [] _ H4.out.1 rfl
    have hL := run_loadVar_mid (P := Tryd.prog) w9 (w.heap.size + 1) 0 31 _ _ hF.load Tryd.underlying31 rfl sz31
    refine bodyPost_ret (results_cell_tmp Tryd.results8 _ w9 (w.heap.size + 1) _ rfl hL) rfl ?_
    exact ⟨rfl, e9 ▸ setCells_below (by omega) _ _ H4.out.2⟩
end Go.Proofs.YtjmlalojfghkiaaDoor
