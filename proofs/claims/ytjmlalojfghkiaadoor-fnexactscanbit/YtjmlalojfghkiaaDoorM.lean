import Derived.Test.YtjmlalojfghkiaaDoorL
namespace Go.Proofs.YtjmlalojfghkiaaDoor
open Go.RowKit
/-- the zero scan -/
abbrev scZ : Sc := ⟨0, 0, 0, 0, 0, 0, false, 0, false, 0, []⟩
theorem scZ_bytes (W : World) : isBytes W none 0 0 scZ.l := ⟨rfl, Nat.le_refl _, fun _ hx => (by cases hx), fun hne => absurd rfl hne⟩
set_option maxHeartbeats 8000000 in
set_option maxRecDepth 40000 in
/-- spec.ScanBit refuses -/
theorem specScan_bad (w : World) (S : Sc) (a : Option Addr) (n cap : Nat) (hn : n = S.l.length) (hn1 : n ≤ 1048576) (bit : Int) (h : ¬ (okS S ∧ (bit = 0 ∨ bit = 1))) :
    Calls Tryd.prog 6 #[scV S a n cap, .int .i64 bit] w fun o w' => o = .returned (.tuple #[scV scZ none 0 0, .int .i64 8]) ∧ Below w.heap.size w w' := by
  have HSO : Hid (∀ W, Calls Tryd.prog 19 #[scV S a n cap] W fun o w' => retB o (okS S) ∧ Below W.heap.size W w') := fun W => l2sound_any W S a n cap hn hn1
  have HP : Hid (¬ (okS S ∧ (bit = 0 ∨ bit = 1))) := h
  clear h hn hn1
  obtain ⟨f, lf, rn, lv, cr, ac, e, i, r, d, l⟩ := S
  go_enter Tryd.func6, Tryd.ntmps6
  go_upto_region 1 with fail
  go_cut [18] (fun s18 wx => s18 = .bool true ∧ blk wx (w.heap.size + 1) ([] ++ z11 ++ []) 31 ∧ Below w.heap.size w wx)
  case first =>
    go_wp2_with fail
    refine (HSO.out _).mono ?_
    rintro o w1 ⟨⟨bb, rfl, hbb⟩, hb1⟩
    have H1 : Hid (blk w1 (w.heap.size + 1) ([] ++ z11 ++ []) 31 ∧ Below w.heap.size w w1) := by
      refine ⟨?_, (((Below.refl _ _).alloc (Nat.le_refl _) _).alloc (by simp) _).trans (hb1.mono (by simp; try omega))⟩
      have := (blk.new (w.alloc (.cells (scL ⟨f, lf, rn, lv, cr, ac, e, i, r, d, l⟩ a n cap).toArray 31)) z11 31).below hb1
      simpa using this
    clear hb1
    cases bb
    · clear hbb
      go_wp2_with fail
      go_meet
      exact ⟨rfl, H1.out⟩
    · have hok := hbb.1 rfl
      have h0 : bit ≠ 0 := fun e => HP.out ⟨hok, Or.inl e⟩
      have h1 : bit ≠ 1 := fun e => HP.out ⟨hok, Or.inr e⟩
      have q0 : (bit != 0) = true := by simpa using h0
      have q1 : (bit != 1) = true := by simpa using h1
      clear hbb hok h0 h1
      go_wp2_with fail
      go_meet
      exact ⟨rfl, H1.out⟩
  case rest =>
    obtain ⟨rfl, h1⟩ := hcut
    have H1 : Hid (blk wc (w.heap.size + 1) ([] ++ z11 ++ []) 31 ∧ Below w.heap.size w wc) := h1
    clear h1
    go_wp2_with (first
      | (refine wpList_store_mid (P := Tryd.prog) rfl 31 (.tmp 4) (.tmp 19) rfl (w.heap.size + 1) 0 _ rfl rfl (H1.out.1.there 0 11 (by simp)) sz31 (one11 _ _ _ _ _ _ _ _ _ _ _ _ _) ?_; generalize hW9 : World.setCells wc (w.heap.size + 1) 0 _ = w9; have HW9 : Hid (World.setCells wc (w.heap.size + 1) 0 (scL scZ none 0 0) = w9) := hW9; clear hW9))
    have e9 := HW9.out
    have hF : blk w9 (w.heap.size + 1) (scL scZ none 0 0) 31 := e9 ▸ blk.put [] z11 [] _ H1.out.1 rfl
    have hL := run_loadVar_mid (P := Tryd.prog) w9 (w.heap.size + 1) 0 31 _ _ hF.load Tryd.underlying31 rfl sz31
    refine bodyPost_ret (results_cell_tmp Tryd.results6 _ w9 (w.heap.size + 1) _ rfl hL) rfl ?_
    exact ⟨rfl, e9 ▸ setCells_below (by omega) _ _ H1.out.2⟩
end Go.Proofs.YtjmlalojfghkiaaDoor
