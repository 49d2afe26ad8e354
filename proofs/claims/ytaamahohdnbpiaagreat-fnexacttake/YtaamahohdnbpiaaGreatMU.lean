import Derived.Test.YtaamahohdnbpiaaGreatGR
import Derived.Test.YtaamahohdnbpiaaGreatGN
namespace Go.Proofs.YtaamahohdnbpiaaGreat
open Go.RowKit
set_option linter.unusedVariables false
structure dtS (w : World) (H : Ho) (s : Sl) (W : World) : Prop where
  p : blk W w.heap.size (hoL H s) 35
  r : blk W (w.heap.size + 1) Z10 35
  b : Below w.heap.size w W
theorem setCell_block_eq {W w : World} {x : Nat} (h : W.heap[x]? = w.heap[x]?) (p : Addr) (v : Value) : (W.setCell p v).heap[x]? = (w.setCell p v).heap[x]? := by
  unfold World.setCell
  simp only [Array.getElem?_modify, h]
theorem setCell_back {w : World} {g o : Nat} {v : Value} (h : w.cell? ⟨g, o, none⟩ = some v) (u : Value) (x : Nat) : ((w.setCell ⟨g, o, none⟩ u).setCell ⟨g, o, none⟩ v).heap[x]? = w.heap[x]? := by
  by_cases e : x = g
  · subst e
    unfold World.setCell
    simp only [World.cell?] at h
    cases hg : w.heap[x]? with
    | none => simp [Array.getElem?_modify, hg]
    | some ob =>
      rw [hg] at h
      cases ob with
      | cells c t fz =>
        simp only [Array.getElem?_modify, hg, if_true, Option.map_some]
        congr 2
        have hv : c[o]? = some v := by simpa using h
        apply Array.ext_getElem?
        intro j
        simp only [Option.isSome_none, Bool.false_eq_true, if_false, Array.getElem?_setIfInBounds, Array.size_setIfInBounds]
        by_cases ej : o = j
        · subst ej
          have hlt := (Array.getElem?_eq_some_iff.1 hv).1
          simp [hlt]
          exact (Array.getElem?_eq_some_iff.1 hv).2.symm
        · simp [ej]
      | _ => simp [Array.getElem?_modify, hg]
  · rw [heap_setCell_other _ ⟨g, o, none⟩ x _ e, heap_setCell_other _ ⟨g, o, none⟩ x _ e]
structure dtP (w : World) (H : Ho) (s : Sl) (W : World) : Prop where
  p : blk W w.heap.size (hoL H s) 35
  r : blk W (w.heap.size + 1) Z10 35
theorem dtS.below {w : World} {H : Ho} {s : Sl} {W W' : World} (h : dtS w H s W) (hb : Below W.heap.size W W') : dtS w H s W' := ⟨h.p.below hb, h.r.below hb, h.b.trans (hb.mono h.b.size)⟩
theorem dtS.new (w : World) (H : Ho) (s : Sl) : dtS w H s ((w.alloc (.cells (hoL H s).toArray 35)).alloc (.cells Z10.toArray 35)) := by
  refine ⟨(blk.new w _ 35).alloc _, ?_, ((Below.refl _ _).alloc (Nat.le_refl _) _).alloc (by simp) _⟩
  have := blk.new (w.alloc (.cells (hoL H s).toArray 35)) Z10 35
  simpa using this
theorem takeHo_same {H : Ho} {i : Int} (h : takeB H.bx i = H.bx) : takeHo H i = H := by unfold takeHo; rw [h]
theorem takeHo_hoL (H : Ho) (i : Int) (s : Sl) : hoL (takeHo H i) s = hoL H s := rfl
set_option maxHeartbeats 8000000 in
set_option maxRecDepth 20000 in
/-- spec.l3doTake of a box that waits -/
theorem l3doTake_1 (B : Nat) (w : World) (H : Ho) (s : Sl) (k : Nat) (g : Nat) (hst : St B w (fun W => isHo W H s)) (ha : s.a2 = some ⟨g, 0, none⟩) (hrf : rowF w g (s.n2 * 8)) (hne : (∀ x, s.a3 = some ⟨x, 0, none⟩ ∨ s.a4 = some ⟨x, 0, none⟩ → g ≠ x) ∧ (∃ x, s.a3 = some ⟨x, 0, none⟩) ∧ (∃ x, s.a4 = some ⟨x, 0, none⟩)) (hn : s.n2 ≤ 1000) (hB : B ≤ g) (hBw : B ≤ w.heap.size) (hgw : g < w.heap.size) (hk : k < H.bx.length) (hx : H.bx[k].x = 1) :
    Calls Tryz.prog 78 #[.agg (hoL H s).toArray, .int .i64 (k : Int)] w fun o w' => o = .returned (.agg (hoL H s).toArray) ∧ St B w' (fun W => isHo W (takeHo H (k : Int)) s) ∧ Below B w w' := by
  have H0 : Hid (dtS w H s ((w.alloc (.cells (hoL H s).toArray 35)).alloc (.cells [.int .i64 0, .int .i64 0, .int .i64 0, .int .i64 0, .slice none 0 0, .slice none 0 0, .slice none 0 0, .slice none 0 0, .int .i64 0, .int .i64 0].toArray 35))) := dtS.new w H s
  have x5 : ((w.alloc (.cells (hoL H s).toArray 35)).alloc (.cells [.int .i64 0, .int .i64 0, .int .i64 0, .int .i64 0, .slice none 0 0, .slice none 0 0, .slice none 0 0, .slice none 0 0, .int .i64 0, .int .i64 0].toArray 35)).cell? ⟨w.heap.size, 5, none⟩ = some (.slice s.a2 s.n2 s.k2) := H0.out.p.cell 5 _ (by unfold hoL; rfl)
  have h : isHo w H s := hst.now
  have HST : Hid (St B w (fun W => isHo W H s)) := hst
  clear hst
  have HH : Hid (isHo w H s) := h
  have hln : s.n2 = H.bx.length := h.bx.len
  have hk2 : k < s.n2 := by omega
  obtain ⟨ao, m, c, q⟩ : ∃ ao m c, at8 w g (k * 8) H.bx[k] ao m c := by
    have hb := h.bx
    rw [ha] at hb
    obtain ⟨g', off, e, hc⟩ := hb.cells (by intro e; rw [e] at hk; cases hk)
    cases e
    have := hc k hk
    rw [Nat.zero_add] at this
    exact this
  have y0 := (q.below H0.out.b).c0
  rw [ha] at x5
  have HRF : Hid (rowF w g (s.n2 * 8)) := hrf
  have HNE : Hid ((∀ x, s.a3 = some ⟨x, 0, none⟩ ∨ s.a4 = some ⟨x, 0, none⟩ → g ≠ x) ∧ (∃ x, s.a3 = some ⟨x, 0, none⟩) ∧ (∃ x, s.a4 = some ⟨x, 0, none⟩)) := hne
  have HBS : Hid (∀ W, Below w.heap.size w W → Calls Tryz.prog 142 #[.agg (hoL H s).toArray] W fun o w' => ∃ r : Int, o = .returned (.int .i64 r) ∧ bsy H.bx r ∧ Below W.heap.size W w') := fun W hW => l3busy_any W H s (h.below hW).bx hn
  have HQ : Hid (at8 w g (k * 8) H.bx[k] ao m c) := q
  have hcp : s.n2 ≤ s.k2 := h.bx.cap
  clear h hrf hne q
  have HA2 : Hid (s.a2 = some ⟨g, 0, none⟩) := ha
  have HLN : Hid (s.n2 = H.bx.length) := hln
  have hd0 : decide ((k : Int) < 0) = false := by simp
  have hd1 : decide (s.n2 ≤ k) = false := by simp; omega
  have hd2 : (decide ((k : Int) < 0) || decide (s.n2 ≤ k)) = false := by rw [hd0, hd1]; rfl
  clear ha hln
  rw [hx] at y0
  have HX : Hid (H.bx[k].x = 1) := hx
  clear hx
  go_enter Tryz.func78, Tryz.ntmps78
  go_wp2_with (first
    | (refine wpList_load_midG (by first | rfl | (simp [Region.wanted, yielded]; done) | (simp [Region.wanted, yielded]; omega)) 35 (.tmp 2) rfl w.heap.size 0 rfl (hoL H s) _ H0.out.p.load Tryz.underlying35 rfl (sz41L H s) ?_)
    | (refine wpList_load_mid (P := Tryz.prog) rfl 35 (.tmp 2) rfl w.heap.size 0 rfl (hoL H s) _ H0.out.p.load Tryz.underlying35 rfl (sz41L H s) ?_))
  refine (HBS.out _ H0.out.b).mono ?_
  rintro o w5 ⟨r, rfl, hr, hb5⟩
  have H5 : Hid (dtS w H s w5) := H0.out.below hb5
  have HR : Hid (bsy H.bx r) := hr
  clear hr hb5 x5 y0 H0
  have x5 : w5.cell? ⟨w.heap.size, 5, none⟩ = some (.slice (some ⟨g, 0, none⟩) s.n2 s.k2) := by
    have := H5.out.p.cell 5 (.slice s.a2 s.n2 s.k2) (by unfold hoL; rfl)
    rw [HA2.out] at this
    exact this
  by_cases hr0 : r < 0
  · have y0 := (HQ.out.below H5.out.b).c0
    have f0 : w5.frozen? ⟨g, k * 8, none⟩ = false := by
      rw [World.frozen?_of_block (H5.out.b.block g hgw)]
      exact (HRF.out (k * 8) (by omega)).2
    have H6 : Hid (dtP w H s (w5.setCell ⟨g, k * 8, none⟩ (.int .i64 2))) := ⟨H5.out.p.setOther (by omega) _ _, H5.out.r.setOther (by omega) _ _⟩
    have hr1 : ¬ 0 ≤ r := by omega
    go_wp2_with (first
    | (refine wpList_load_mid (P := Tryz.prog) rfl 35 (.tmp 2) rfl w.heap.size 0 rfl (hoL H s) _ H6.out.p.load Tryz.underlying35 rfl (sz41L H s) ?_)
    | (refine wpList_store_mid (P := Tryz.prog) rfl 35 (.tmp 4) (.tmp 34) rfl (w.heap.size + 1) 0 (hoL H s).toArray rfl rfl (H6.out.r.there 0 _ (by rw [List.size_toArray, hoL_len]; decide)) (sz41A H s) (hoL_one H s) ?_; generalize hW8 : World.setCells _ (w.heap.size + 1) 0 _ = w8; have HW8 : Hid (_ = w8) := hW8; clear hW8))
    · skip
      have e8 := HW8.out
      have hF : blk w8 (w.heap.size + 1) (hoL H s) 35 := by
        rw [← e8]
        have := blk.put [] Z10 [] (hoL H s) (w := w5.setCell ⟨g, k * 8, none⟩ (.int .i64 2)) (b := w.heap.size + 1) (T := 35) (by simpa using H6.out.r) (by rw [hoL_len]; rfl)
        simpa using this
      have hL := run_loadVar_mid (P := Tryz.prog) w8 (w.heap.size + 1) 0 35 _ _ hF.load Tryz.underlying35 rfl (sz41L H s)
      refine bodyPost_ret (v := .agg (hoL H s).toArray) (results_cell Tryz.results78 _ w8 (w.heap.size + 1) _ rfl hL) rfl ?_
      have b6 : Below B w (w5.setCell ⟨g, k * 8, none⟩ (.int .i64 2)) := (H5.out.b.mono hBw).setCell (by exact hB) _
      have b8 : Below B w w8 := by
        rw [← e8]
        exact setCells_below (by omega) 0 _ b6
      have hT : takeHo H (k : Int) = { H with bx := H.bx.set k { H.bx[k] with x := 2 } } := by
        unfold takeHo
        rw [takeB_yes hk HX.out HR.out hr0]
      rw [hT]
      have q0 := HQ.out.c0
      rw [HX.out] at q0
      have k8 : ∀ x, x < w.heap.size → w8.heap[x]? = (w.setCell ⟨g, k * 8, none⟩ (.int .i64 2)).heap[x]? := fun x hx => by
        rw [← e8, setCells_other _ x (by omega)]
        exact setCell_block_eq (H5.out.b.block x hx) _ _
      refine ⟨rfl, fun V hV => ?_, b8⟩
      have key : ∀ x, B ≤ x → x < w.heap.size → V.heap[x]? = (w.setCell ⟨g, k * 8, none⟩ (.int .i64 2)).heap[x]? := fun x h1 h2 => (hV x h1 (Nat.lt_of_lt_of_le h2 b8.size)).trans (k8 x h2)
      have V0 : isHo (V.setCell ⟨g, k * 8, none⟩ (.int .i64 1)) H s := HST.out _ (fun x h1 h2 => (setCell_block_eq (key x h1 h2) _ _).trans (setCell_back q0 _ x))
      have V1 := V0.setX HA2.out HNE.out.1 HNE.out.2.1 HNE.out.2.2 k hk 2
      have c2 : V.cell? ⟨g, k * 8, none⟩ = some (.int .i64 2) := cell_up (World.cell?_setCell_same _ _ _ q0) (key g hB hgw)
      exact V1.below ⟨rfl, rfl, rfl, by simp, fun x _ => (setCell_back c2 _ x).symm⟩
  · have HT : Hid (takeHo H (k : Int) = H) := takeHo_same (takeB_busy HR.out (by omega))
    have hr1 : 0 ≤ r := by omega
    go_wp2_with (first
    | (refine wpList_load_mid (P := Tryz.prog) rfl 35 (.tmp 2) rfl w.heap.size 0 rfl (hoL H s) _ H5.out.p.load Tryz.underlying35 rfl (sz41L H s) ?_)
    | (refine wpList_store_mid (P := Tryz.prog) rfl 35 (.tmp 4) (.tmp 28) rfl (w.heap.size + 1) 0 (hoL H s).toArray rfl rfl (H5.out.r.there 0 _ (by rw [List.size_toArray, hoL_len]; decide)) (sz41A H s) (hoL_one H s) ?_; generalize hW8 : World.setCells _ (w.heap.size + 1) 0 _ = w8; have HW8 : Hid (_ = w8) := hW8; clear hW8))
    · skip
      have e8 := HW8.out
      have hF : blk w8 (w.heap.size + 1) (hoL H s) 35 := by
        rw [← e8]
        have := blk.put [] Z10 [] (hoL H s) (w := w5) (b := w.heap.size + 1) (T := 35) (by simpa using H5.out.r) (by rw [hoL_len]; rfl)
        simpa using this
      have hL := run_loadVar_mid (P := Tryz.prog) w8 (w.heap.size + 1) 0 35 _ _ hF.load Tryz.underlying35 rfl (sz41L H s)
      refine bodyPost_ret (v := .agg (hoL H s).toArray) (results_cell Tryz.results78 _ w8 (w.heap.size + 1) _ rfl hL) rfl ?_
      have b8 : Below w.heap.size w w8 := by
        rw [← e8]
        exact setCells_below (by omega) 0 _ H5.out.b
      rw [HT.out]
      exact ⟨rfl, fun W hW => HST.out W (fun x h1 h2 => (hW x h1 (Nat.lt_of_lt_of_le h2 b8.size)).trans (b8.block x h2)), b8.mono hBw⟩

set_option maxHeartbeats 8000000 in
set_option maxRecDepth 20000 in
/-- spec.l3doTake -/
theorem l3doTake_any (B : Nat) (w : World) (H : Ho) (s : Sl) (i : Int) (g : Nat) (hst : St B w (fun W => isHo W H s)) (ha : s.a2 = some ⟨g, 0, none⟩) (hrf : rowF w g (s.n2 * 8)) (hne : (∀ x, s.a3 = some ⟨x, 0, none⟩ ∨ s.a4 = some ⟨x, 0, none⟩ → g ≠ x) ∧ (∃ x, s.a3 = some ⟨x, 0, none⟩) ∧ (∃ x, s.a4 = some ⟨x, 0, none⟩)) (hn : s.n2 ≤ 1000) (hB : B ≤ g) (hBw : B ≤ w.heap.size) (hgw : g < w.heap.size) :
    Calls Tryz.prog 78 #[.agg (hoL H s).toArray, .int .i64 i] w fun o w' => o = .returned (.agg (hoL H s).toArray) ∧ St B w' (fun W => isHo W (takeHo H i) s) ∧ Below B w w' := by
  have H0 : Hid (dtS w H s ((w.alloc (.cells (hoL H s).toArray 35)).alloc (.cells [.int .i64 0, .int .i64 0, .int .i64 0, .int .i64 0, .slice none 0 0, .slice none 0 0, .slice none 0 0, .slice none 0 0, .int .i64 0, .int .i64 0].toArray 35))) := dtS.new w H s
  have x5 : ((w.alloc (.cells (hoL H s).toArray 35)).alloc (.cells [.int .i64 0, .int .i64 0, .int .i64 0, .int .i64 0, .slice none 0 0, .slice none 0 0, .slice none 0 0, .slice none 0 0, .int .i64 0, .int .i64 0].toArray 35)).cell? ⟨w.heap.size, 5, none⟩ = some (.slice s.a2 s.n2 s.k2) := H0.out.p.cell 5 _ (by unfold hoL; rfl)
  have h : isHo w H s := hst.now
  have HST : Hid (St B w (fun W => isHo W H s)) := hst
  clear hst
  have HH : Hid (isHo w H s) := h
  have hln : s.n2 = H.bx.length := h.bx.len
  by_cases hi0 : i < 0
  · have HT : Hid (takeHo H i = H) := takeHo_same (takeB_out (Or.inl hi0))
    clear h hrf hne hln x5
    go_enter Tryz.func78, Tryz.ntmps78
    go_wp2_with (first
      | (refine wpList_load_mid (P := Tryz.prog) rfl 35 (.tmp 2) rfl w.heap.size 0 rfl (hoL H s) _ H0.out.p.load Tryz.underlying35 rfl (sz41L H s) ?_)
      | (refine wpList_store_mid (P := Tryz.prog) rfl 35 (.tmp 4) (.tmp 28) rfl (w.heap.size + 1) 0 (hoL H s).toArray rfl rfl (H0.out.r.there 0 _ (by rw [List.size_toArray, hoL_len]; decide)) (sz41A H s) (hoL_one H s) ?_; generalize hW8 : World.setCells _ (w.heap.size + 1) 0 _ = w8; have HW8 : Hid (_ = w8) := hW8; clear hW8))
    · skip
      have e8 := HW8.out
      have hF : blk w8 (w.heap.size + 1) (hoL H s) 35 := by
        rw [← e8]
        have := blk.put [] Z10 [] (hoL H s) (w := ((w.alloc (.cells (hoL H s).toArray 35)).alloc (.cells [.int .i64 0, .int .i64 0, .int .i64 0, .int .i64 0, .slice none 0 0, .slice none 0 0, .slice none 0 0, .slice none 0 0, .int .i64 0, .int .i64 0].toArray 35))) (b := w.heap.size + 1) (T := 35) (by simpa using H0.out.r) (by rw [hoL_len]; rfl)
        simpa using this
      have hL := run_loadVar_mid (P := Tryz.prog) w8 (w.heap.size + 1) 0 35 _ _ hF.load Tryz.underlying35 rfl (sz41L H s)
      refine bodyPost_ret (v := .agg (hoL H s).toArray) (results_cell Tryz.results78 _ w8 (w.heap.size + 1) _ rfl hL) rfl ?_
      have b8 : Below w.heap.size w w8 := by
        rw [← e8]
        exact setCells_below (by omega) 0 _ H0.out.b
      rw [HT.out]
      exact ⟨rfl, fun W hW => HST.out W (fun x h1 h2 => (hW x h1 (Nat.lt_of_lt_of_le h2 b8.size)).trans (b8.block x h2)), b8.mono hBw⟩
  by_cases hi1 : (s.n2 : Int) ≤ i
  · have HT : Hid (takeHo H i = H) := takeHo_same (takeB_out (Or.inr (by omega)))
    clear h hrf hne hln
    go_enter Tryz.func78, Tryz.ntmps78
    go_wp2_with (first
      | (refine wpList_load_mid (P := Tryz.prog) rfl 35 (.tmp 2) rfl w.heap.size 0 rfl (hoL H s) _ H0.out.p.load Tryz.underlying35 rfl (sz41L H s) ?_)
      | (refine wpList_store_mid (P := Tryz.prog) rfl 35 (.tmp 4) (.tmp 28) rfl (w.heap.size + 1) 0 (hoL H s).toArray rfl rfl (H0.out.r.there 0 _ (by rw [List.size_toArray, hoL_len]; decide)) (sz41A H s) (hoL_one H s) ?_; generalize hW8 : World.setCells _ (w.heap.size + 1) 0 _ = w8; have HW8 : Hid (_ = w8) := hW8; clear hW8))
    · skip
      have e8 := HW8.out
      have hF : blk w8 (w.heap.size + 1) (hoL H s) 35 := by
        rw [← e8]
        have := blk.put [] Z10 [] (hoL H s) (w := ((w.alloc (.cells (hoL H s).toArray 35)).alloc (.cells [.int .i64 0, .int .i64 0, .int .i64 0, .int .i64 0, .slice none 0 0, .slice none 0 0, .slice none 0 0, .slice none 0 0, .int .i64 0, .int .i64 0].toArray 35))) (b := w.heap.size + 1) (T := 35) (by simpa using H0.out.r) (by rw [hoL_len]; rfl)
        simpa using this
      have hL := run_loadVar_mid (P := Tryz.prog) w8 (w.heap.size + 1) 0 35 _ _ hF.load Tryz.underlying35 rfl (sz41L H s)
      refine bodyPost_ret (v := .agg (hoL H s).toArray) (results_cell Tryz.results78 _ w8 (w.heap.size + 1) _ rfl hL) rfl ?_
      have b8 : Below w.heap.size w w8 := by
        rw [← e8]
        exact setCells_below (by omega) 0 _ H0.out.b
      rw [HT.out]
      exact ⟨rfl, fun W hW => HST.out W (fun x h1 h2 => (hW x h1 (Nat.lt_of_lt_of_le h2 b8.size)).trans (b8.block x h2)), b8.mono hBw⟩
  obtain ⟨k, rfl⟩ : ∃ k : Nat, i = (k : Int) := ⟨i.toNat, by omega⟩
  have hk : k < H.bx.length := by omega
  have hk2 : k < s.n2 := by omega
  obtain ⟨ao, m, c, q⟩ : ∃ ao m c, at8 w g (k * 8) H.bx[k] ao m c := by
    have hb := h.bx
    rw [ha] at hb
    obtain ⟨g', off, e, hc⟩ := hb.cells (by intro e; rw [e] at hk; cases hk)
    cases e
    have := hc k hk
    rw [Nat.zero_add] at this
    exact this
  have y0 := (q.below H0.out.b).c0
  rw [ha] at x5
  have HRF : Hid (rowF w g (s.n2 * 8)) := hrf
  have HNE : Hid ((∀ x, s.a3 = some ⟨x, 0, none⟩ ∨ s.a4 = some ⟨x, 0, none⟩ → g ≠ x) ∧ (∃ x, s.a3 = some ⟨x, 0, none⟩) ∧ (∃ x, s.a4 = some ⟨x, 0, none⟩)) := hne
  have HBS : Hid (∀ W, Below w.heap.size w W → Calls Tryz.prog 142 #[.agg (hoL H s).toArray] W fun o w' => ∃ r : Int, o = .returned (.int .i64 r) ∧ bsy H.bx r ∧ Below W.heap.size W w') := fun W hW => l3busy_any W H s (h.below hW).bx hn
  have HQ : Hid (at8 w g (k * 8) H.bx[k] ao m c) := q
  have hcp : s.n2 ≤ s.k2 := h.bx.cap
  clear h hrf hne q hi0 hi1
  have HA2 : Hid (s.a2 = some ⟨g, 0, none⟩) := ha
  have HLN : Hid (s.n2 = H.bx.length) := hln
  have hd0 : decide ((k : Int) < 0) = false := by simp
  have hd1 : decide (s.n2 ≤ k) = false := by simp; omega
  clear ha hln
  by_cases hx : H.bx[k].x = 1
  · exact l3doTake_1 B w H s k g HST.out HA2.out HRF.out HNE.out hn hB hBw hgw hk hx
  · have HT : Hid (takeHo H (k : Int) = H) := takeHo_same (takeB_no hk hx)
    have hx' : (H.bx[k].x != 1) = true := by simpa using hx
    clear HQ HBS HRF HNE
    generalize H.bx[k].x = x at *
    go_enter Tryz.func78, Tryz.ntmps78
    go_wp2_with (first
      | (refine wpList_load_mid (P := Tryz.prog) rfl 35 (.tmp 2) rfl w.heap.size 0 rfl (hoL H s) _ H0.out.p.load Tryz.underlying35 rfl (sz41L H s) ?_)
      | (refine wpList_store_mid (P := Tryz.prog) rfl 35 (.tmp 4) (.tmp 28) rfl (w.heap.size + 1) 0 (hoL H s).toArray rfl rfl (H0.out.r.there 0 _ (by rw [List.size_toArray, hoL_len]; decide)) (sz41A H s) (hoL_one H s) ?_; generalize hW8 : World.setCells _ (w.heap.size + 1) 0 _ = w8; have HW8 : Hid (_ = w8) := hW8; clear hW8))
    · skip
      have e8 := HW8.out
      have hF : blk w8 (w.heap.size + 1) (hoL H s) 35 := by
        rw [← e8]
        have := blk.put [] Z10 [] (hoL H s) (w := ((w.alloc (.cells (hoL H s).toArray 35)).alloc (.cells [.int .i64 0, .int .i64 0, .int .i64 0, .int .i64 0, .slice none 0 0, .slice none 0 0, .slice none 0 0, .slice none 0 0, .int .i64 0, .int .i64 0].toArray 35))) (b := w.heap.size + 1) (T := 35) (by simpa using H0.out.r) (by rw [hoL_len]; rfl)
        simpa using this
      have hL := run_loadVar_mid (P := Tryz.prog) w8 (w.heap.size + 1) 0 35 _ _ hF.load Tryz.underlying35 rfl (sz41L H s)
      refine bodyPost_ret (v := .agg (hoL H s).toArray) (results_cell Tryz.results78 _ w8 (w.heap.size + 1) _ rfl hL) rfl ?_
      have b8 : Below w.heap.size w w8 := by
        rw [← e8]
        exact setCells_below (by omega) 0 _ H0.out.b
      rw [HT.out]
      exact ⟨rfl, fun W hW => HST.out W (fun x h1 h2 => (hW x h1 (Nat.lt_of_lt_of_le h2 b8.size)).trans (b8.block x h2)), b8.mono hBw⟩
end Go.Proofs.YtaamahohdnbpiaaGreat
