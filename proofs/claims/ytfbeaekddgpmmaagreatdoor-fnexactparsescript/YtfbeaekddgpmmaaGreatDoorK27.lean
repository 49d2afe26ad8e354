import Derived.Test.YtfbeaekddgpmmaaGreatDoorK24
namespace Go.Proofs.YtfbeaekddgpmmaaGreatDoor
open Go.RowKit Kd
set_option linter.unusedVariables false
abbrev z6 : List Value := [.int .i64 0, .int .i64 0, .int .i64 0, .int .i64 0, .int .i64 0, .slice none 0 0]
abbrev l6 (a b c d e : Int) (h : Hd) : List Value := [.int .i64 a, .int .i64 b, .int .i64 c, .int .i64 d, .int .i64 e, hdV h]
theorem one6 (a b c d e : Int) (h : Hd) : (l6 a b c d e h).toArray.all (·.oneCell') = true := all_oneCell_toArray (by simp [Value.oneCell'])
/-- the setup that is being made: the result's block, the variable's, the row of filters -/
structure mkS (w W : World) (lr lv : List Value) : Prop where
  r : blk W w.heap.size lr 55
  v : blk W (w.heap.size + 2) lv 55
  f : W.ownsRow w.heap.size 60 3 (.slice (some ⟨w.heap.size + 1, 0, none⟩) 0 0) 0 []
  b : Below w.heap.size w W
theorem mkS.zero (w : World) : mkS w (((w.alloc (.cells z6.toArray 55)).alloc (.cells #[] 60)).alloc (.cells z6.toArray 55)) z6 z6 := by
  refine ⟨((blk.new w z6 55).alloc _).alloc _, ?_, ?_, (((Below.refl _ _).alloc (Nat.le_refl _) _).alloc (by simp) _).alloc (by simp; omega) _⟩
  · have := blk.new ((w.alloc (.cells z6.toArray 55)).alloc (.cells #[] 60)) z6 55
    simpa using this
  · have := World.ownsRow.alloc (World.ownsRow_made (base := w.heap.size) (e := 60) (size := 3) (w.alloc (.cells z6.toArray 55)) #[] 0 (by simp) (by decide) (by simp)) (.cells z6.toArray 55)
    simpa using this
theorem mkS.putV {w W : World} {lr lv : List Value} (h : mkS w W lr lv) (pre old post vs : List Value) (he : lv = pre ++ old ++ post) (hl : old.length = vs.length) : mkS w (W.setCells (w.heap.size + 2) pre.length vs) lr (pre ++ vs ++ post) := by
  subst he
  refine ⟨h.r.other (by omega) _ _, blk.put pre old post vs h.v hl, ?_, setCells_below (by omega) _ _ h.b⟩
  exact ownsRow_at h.f fun g k e => by cases e; exact setCells_other _ _ (by omega) _ _ _
theorem mkS.putR {w W : World} {lr lv : List Value} (h : mkS w W lr lv) (vs : List Value) (hl : lr.length = vs.length) : mkS w (W.setCells w.heap.size 0 vs) vs lv := by
  refine ⟨blk_all h.r hl, h.v.other (by omega) _ _, ?_, setCells_below (Nat.le_refl _) _ _ h.b⟩
  exact ownsRow_at h.f fun g k e => by cases e; exact setCells_other _ _ (by omega) _ _ _
theorem mkS.below {w W V : World} {lr lv : List Value} (h : mkS w W lr lv) (hb : Below W.heap.size W V) : mkS w V lr lv :=
  ⟨h.r.below hb, h.v.below hb, (Ky.of (S := []) hb (Nat.le_refl _)).row h.f (by simp), h.b.trans (hb.mono (by have := h.b.size; exact this))⟩
theorem mkS.drew {w W : World} {lr lv : List Value} (h : mkS w W lr lv) : mkS w W.drew lr lv := h.below (Below.refl _ _).drew
set_option maxHeartbeats 4000000 in
set_option maxRecDepth 20000 in
/-- spec.l6setup -/
theorem setup_any (g cp : Nat) (s1 s2 s3 s4 s5 : ByteArray) (w : World) (c1 : w.cell? ⟨g, 1, none⟩ = some (.string s1)) (c2 : w.cell? ⟨g, 2, none⟩ = some (.string s2)) (c3 : w.cell? ⟨g, 3, none⟩ = some (.string s3)) (c4 : w.cell? ⟨g, 4, none⟩ = some (.string s4)) (c5 : w.cell? ⟨g, 5, none⟩ = some (.string s5)) (h2 : s2.size ≤ 8) (h3 : s3.size ≤ 8) (h5 : s5.size ≤ 8) :
    Calls Tryz.prog 25 #[.slice (some ⟨g, 0, none⟩) 6 cp] w fun o w' => ∃ h, o = .returned (.tuple #[suV (suOf s1 s2 s3 s4 s5) h, .bool (H.okCf (nv s2) (nv s3) (isN s4 wNew) (nv s5))]) ∧ w'.ownsRow w.heap.size 60 3 (hdV h) 0 [] ∧ Below w.heap.size w w' := by
  have hgl : g < w.heap.size := World.block_lt_of_cell? w _ c1
  have HV2 := hidYY (fun w => value_any s2 10 (by decide) h2 w)
  have HV3 := hidYY (fun w => value_any s3 10 (by decide) h3 w)
  have HV5 := hidYY (fun w => value_any s5 10 (by decide) h5 w)
  have e2 : (valN (lt s2) 10 : Int) = (nv s2 : Int) := rfl
  have e3 : (valN (lt s3) 10 : Int) = (nv s3 : Int) := rfl
  have e5 : (valN (lt s5) 10 : Int) = (nv s5 : Int) := rfl
  rw [e2] at HV2
  rw [e3] at HV3
  rw [e5] at HV5
  clear e2 e3 e5 h2 h3 h5
  have HCF := hidYY (fun W a b c d => H.l3okConfig_any W a b c d)
  have HC : Hid (∀ V, Below w.heap.size w V → V.cell? ⟨g, 1, none⟩ = some (.string s1) ∧ V.cell? ⟨g, 2, none⟩ = some (.string s2) ∧ V.cell? ⟨g, 3, none⟩ = some (.string s3) ∧ V.cell? ⟨g, 4, none⟩ = some (.string s4) ∧ V.cell? ⟨g, 5, none⟩ = some (.string s5)) := fun V hV => ⟨(hV.cell hgl).trans c1, (hV.cell hgl).trans c2, (hV.cell hgl).trans c3, (hV.cell hgl).trans c4, (hV.cell hgl).trans c5⟩
  clear c1 c2 c3 c4 c5
  have H0 := hidYY (mkS.zero w)
  have HFH : Hid (∀ h, suV (suOf s1 s2 s3 s4 s5) h = .agg #[.int .i64 (isN s1 wOpt : Int), .int .i64 (nv s2 : Int), .int .i64 (nv s3 : Int), .int .i64 (isN s4 wNew : Int), .int .i64 (nv s5 : Int), hdV h]) := fun h => rfl
  have hgn : g ≠ w.heap.size + 2 := by omega
  have hgn' : w.heap.size + 2 ≠ g := by omega
  obtain ⟨K1, hK1⟩ : ∃ K1 : Nat, isN s1 wOpt = K1 := ⟨_, rfl⟩
  obtain ⟨K4, hK4⟩ : ∃ K4 : Nat, isN s4 wNew = K4 := ⟨_, rfl⟩
  rw [hK1, hK4] at HFH
  rw [hK4]
  go_enter Tryz.func25, Tryz.ntmps25
  go_upto_region 2 with (first | (refine wpList_store_mid (P := Tryz.prog) rfl 55 (.tmp 4) (.tmp 6) rfl (w.heap.size + 2) 0 (l6 0 0 0 0 0 (some ⟨w.heap.size + 1, 0, none⟩, 0, 0)).toArray rfl rfl (H0.out.v.there 0 6 (by simp)) sz55 (one6 _ _ _ _ _ _) ?_; generalize hX : World.setCells _ (w.heap.size + 2) 0 _ = w1; have HX : Hid (World.setCells (((w.alloc (.cells z6.toArray 55)).alloc (.cells #[] 60)).alloc (.cells z6.toArray 55)) (w.heap.size + 2) 0 (l6 0 0 0 0 0 (some ⟨w.heap.size + 1, 0, none⟩, 0, 0)) = w1) := hX; clear hX))
  have H1 : Hid (mkS w w1 z6 (l6 0 0 0 0 0 (some ⟨w.heap.size + 1, 0, none⟩, 0, 0))) := by
    have := H0.out.putV [] z6 [] (l6 0 0 0 0 0 (some ⟨w.heap.size + 1, 0, none⟩, 0, 0)) (by simp) rfl
    show mkS _ _ _ _
    rw [← HX.out]
    simpa using this
  clear HX H0
  obtain ⟨d1, d2, d3, d4, d5⟩ := HC.out w1 H1.out.b
  cases b1 : (s1.toList == wOpt)
  · have hk1 : K1 = 0 := by rw [← hK1]; unfold isN; rw [b1]; rfl
    subst hk1
    go_upto_region 4 with fail
    obtain ⟨w2, hw2⟩ : ∃ w2, w2 = w1 := ⟨_, rfl⟩
    rw [← hw2]
    rw [← hw2] at H1
    have H2 := H1
    clear H1 hw2 d1 d2 d3 d4 d5
    cases b4 : (s4.toList == wNew)
    · have hk4 : K4 = 0 := by rw [← hK4]; unfold isN; rw [b4]; rfl
      subst hk4
      obtain ⟨d1, d2, d3, d4, d5⟩ := HC.out w2 H2.out.b
      have v1 := H2.out.v.cell 1 _ rfl
      have v2 := H2.out.v.cell 2 _ rfl
      have v3 := H2.out.v.cell 3 _ rfl
      have v4 := H2.out.v.cell 4 _ rfl
      have f1 := H2.out.v.free 1
      have f2 := H2.out.v.free 2
      have f3 := H2.out.v.free 3
      have f4 := H2.out.v.free 4
      go_wp2
      go_region_held3 (fun V => V.cell? ⟨g, 2, none⟩ = some (.string s2) ∧ V.cell? ⟨g, 3, none⟩ = some (.string s3) ∧ V.cell? ⟨g, 5, none⟩ = some (.string s5)) (first | assumption | go_keep) (first | (go_at_call_of 24 (Value.string s2); refine (HV2.out _).mono ?_; rintro o q1 ⟨rfl, rfl⟩) | (go_at_call_of 24 (Value.string s3); refine (HV3.out _).mono ?_; rintro o q1 ⟨rfl, rfl⟩) | (go_at_call_of 24 (Value.string s5); refine (HV5.out _).mono ?_; rintro o q1 ⟨rfl, rfl⟩))
      generalize hX : World.drew _ = w3
      have H3 : Hid (mkS w w3 z6 (l6 0 (nv s2) (nv s3) 0 (nv s5) (some ⟨w.heap.size + 1, 0, none⟩, 0, 0))) := by
        have := (H2.out.putV [.int .i64 0] [.int .i64 0, .int .i64 0, .int .i64 0, .int .i64 0] [hdV (some ⟨w.heap.size + 1, 0, none⟩, 0, 0)] [.int .i64 (nv s2), .int .i64 (nv s3), .int .i64 0, .int .i64 (nv s5)] rfl rfl).drew
        show mkS _ _ _ _
        rw [← hX]
        exact this
      clear hX H2 d1 d2 d3 d4 d5 v1 v2 v3 v4 f1 f2 f3 f4
      obtain ⟨d1, d2, d3, d4, d5⟩ := HC.out w3 H3.out.b
      go_upto_region 7 with fail
      obtain ⟨w4, hw4⟩ : ∃ w4, w4 = w3 := ⟨_, rfl⟩
      rw [← hw4]
      rw [← hw4] at H3
      have H4 := H3
      clear H3 d1 d2 d3 d4 d5 hw4
      refine wp_region_held (S := (fun V => blk V (w.heap.size + 2) (l6 0 (nv s2) (nv s3) 0 (nv s5) (some ⟨w.heap.size + 1, 0, none⟩, 0, 0)) 55)) (by kernel_rfl) ?_
      have hS : blk w4.drew (w.heap.size + 2) (l6 0 (nv s2) (nv s3) 0 (nv s5) (some ⟨w.heap.size + 1, 0, none⟩, 0, 0)) 55 := H4.out.drew.v
      refine wpAnyH_take (i := 0) (v := .agg (l6 0 (nv s2) (nv s3) 0 (nv s5) (some ⟨w.heap.size + 1, 0, none⟩, 0, 0)).toArray) rfl (by kernel_rfl) (by kernel_rfl) (by kernel_rfl) (fun _ _ _ h => h) (yieldsIf_load_mid (by rfl) 55 (.tmp 4) rfl (w.heap.size + 2) 0 rfl (l6 0 (nv s2) (nv s3) 0 (nv s5) (some ⟨w.heap.size + 1, 0, none⟩, 0, 0)) _ (fun W h => h.load) Tryz.underlying55 rfl sz55) hS ?_
      simp only [Act.put, List.setIfInBounds_toArray, List.set_cons_zero, List.set_cons_succ, List.getElem_toArray, List.getElem_cons_zero]
      refine wpAnyH_take (i := 1) (v := .pointer (some ⟨w.heap.size + 2, 1, none⟩)) rfl (by kernel_rfl) (by kernel_rfl) (by kernel_rfl) (fun _ _ _ h => h) (Or.inl ⟨by rfl, ?_⟩) hS ?_
      · intro W hSw
        clear hS
        go_simp
      simp only [Act.put, List.setIfInBounds_toArray, List.set_cons_zero, List.set_cons_succ, List.getElem_toArray, List.getElem_cons_zero, List.getElem_cons_succ]
      refine wpAnyH_take (i := 2) (v := .agg [.int .i64 (nv s2), .int .i64 (nv s3), .int .i64 0, .int .i64 (nv s5)].toArray) rfl (by kernel_rfl) (by kernel_rfl) (by kernel_rfl) (fun _ _ _ h => h) (yieldsIf_load_mid (by rfl) 52 (.tmp 33) rfl (w.heap.size + 2) 1 rfl [.int .i64 (nv s2), .int .i64 (nv s3), .int .i64 0, .int .i64 (nv s5)] _ (fun W h => blk.loadAt [.int .i64 0] [.int .i64 (nv s2), .int .i64 (nv s3), .int .i64 0, .int .i64 (nv s5)] [hdV (some ⟨w.heap.size + 1, 0, none⟩, 0, 0)] h) Tryz.underlying52 rfl sz52) hS ?_
      simp only [Act.put, List.setIfInBounds_toArray, List.set_cons_zero, List.set_cons_succ, List.getElem_toArray, List.getElem_cons_zero, List.getElem_cons_succ]
      refine wpAnyH_all (rs := [3]) (by kernel_rfl) (by simp) ?_
      refine AllReadyH.cons rfl (fun K hK => ?_) AllReadyH.nil
      go_simp
      refine (HCF.out _ _ _ _ _).mono ?_
      rintro o q ⟨rfl, hq⟩
      have HQ := hidYY (H4.out.drew.below hq)
      go_wp2_with fail
      refine hK.out _ _ HQ.out.v (fun hS2 => ?_)
      clear hS hK K hq
      refine wpAnyH_all (rs := [4]) (by kernel_rfl) (by simp) ?_
      refine AllReadyH.cons rfl (fun K hK => ?_) AllReadyH.nil
      refine wp_store_mid (P := Tryz.prog) 55 (.tmp 2) (.tmp 32) rfl w.heap.size 0 (l6 0 (nv s2) (nv s3) 0 (nv s5) (some ⟨w.heap.size + 1, 0, none⟩, 0, 0)).toArray rfl rfl (HQ.out.r.there 0 6 (by simp)) sz55 (one6 _ _ _ _ _ _) ?_
      have HR := hidYY (HQ.out.putR (l6 0 (nv s2) (nv s3) 0 (nv s5) (some ⟨w.heap.size + 1, 0, none⟩, 0, 0)) rfl)
      refine hK.out _ _ HR.out.v (fun hS3 => ?_)
      refine wpAnyH_take (i := 5) (v := .bool (H.okCf (nv s2) (nv s3) 0 (nv s5))) rfl (by kernel_rfl) (by kernel_rfl) (by kernel_rfl) (fun _ _ _ h => h) (Or.inl ⟨by rfl, ?_⟩) hS3 ?_
      · intro W hSw
        clear hS2 hS3
        go_simp
      simp only [Act.put, List.setIfInBounds_toArray, List.set_cons_zero, List.set_cons_succ, List.getElem_toArray, List.getElem_cons_zero, List.getElem_cons_succ]
      refine wpAnyH_done (by kernel_rfl) ?_ _
      clear hS2 hS3 hK
      go_wp2
      have hL := run_loadVar_mid (P := Tryz.prog) _ w.heap.size 0 55 _ _ HR.out.r.load Tryz.underlying55 rfl sz55
      refine bodyPost_ret (v := .tuple #[.agg (l6 0 (nv s2) (nv s3) 0 (nv s5) (some ⟨w.heap.size + 1, 0, none⟩, 0, 0)).toArray, .bool (H.okCf (nv s2) (nv s3) 0 (nv s5))]) (Kd.results_cell_tmp Tryz.results25 _ _ w.heap.size _ rfl hL) rfl ?_
      exact ⟨(some ⟨w.heap.size + 1, 0, none⟩, 0, 0), by rw [HFH.out]; rfl, HR.out.f, HR.out.b⟩
    · have hk4 : K4 = 1 := by rw [← hK4]; unfold isN; rw [b4]; rfl
      subst hk4
      obtain ⟨d1, d2, d3, d4, d5⟩ := HC.out w2 H2.out.b
      have v1 := H2.out.v.cell 1 _ rfl
      have v2 := H2.out.v.cell 2 _ rfl
      have v3 := H2.out.v.cell 3 _ rfl
      have v4 := H2.out.v.cell 4 _ rfl
      have f1 := H2.out.v.free 1
      have f2 := H2.out.v.free 2
      have f3 := H2.out.v.free 3
      have f4 := H2.out.v.free 4
      go_wp2
      go_region_held3 (fun V => V.cell? ⟨g, 2, none⟩ = some (.string s2) ∧ V.cell? ⟨g, 3, none⟩ = some (.string s3) ∧ V.cell? ⟨g, 5, none⟩ = some (.string s5)) (first | assumption | go_keep) (first | (go_at_call_of 24 (Value.string s2); refine (HV2.out _).mono ?_; rintro o q1 ⟨rfl, rfl⟩) | (go_at_call_of 24 (Value.string s3); refine (HV3.out _).mono ?_; rintro o q1 ⟨rfl, rfl⟩) | (go_at_call_of 24 (Value.string s5); refine (HV5.out _).mono ?_; rintro o q1 ⟨rfl, rfl⟩))
      generalize hX : World.drew _ = w3
      have H3 : Hid (mkS w w3 z6 (l6 0 (nv s2) (nv s3) 0 (nv s5) (some ⟨w.heap.size + 1, 0, none⟩, 0, 0))) := by
        have := (H2.out.putV [.int .i64 0] [.int .i64 0, .int .i64 0, .int .i64 0, .int .i64 0] [hdV (some ⟨w.heap.size + 1, 0, none⟩, 0, 0)] [.int .i64 (nv s2), .int .i64 (nv s3), .int .i64 0, .int .i64 (nv s5)] rfl rfl).drew
        show mkS _ _ _ _
        rw [← hX]
        exact this
      clear hX H2 d1 d2 d3 d4 d5 v1 v2 v3 v4 f1 f2 f3 f4
      obtain ⟨d1, d2, d3, d4, d5⟩ := HC.out w3 H3.out.b
      have v3 := H3.out.v.cell 3 _ rfl
      have f3 := H3.out.v.free 3
      go_upto_region 7 with fail
      generalize hX : World.setCell _ _ _ = w4
      have H4 : Hid (mkS w w4 z6 (l6 0 (nv s2) (nv s3) 1 (nv s5) (some ⟨w.heap.size + 1, 0, none⟩, 0, 0))) := by
        have := H3.out.putV [.int .i64 0, .int .i64 (nv s2), .int .i64 (nv s3)] [.int .i64 0] [.int .i64 (nv s5), hdV (some ⟨w.heap.size + 1, 0, none⟩, 0, 0)] [.int .i64 1] rfl rfl
        show mkS _ _ _ _
        rw [← hX]
        exact this
      clear hX H3 d1 d2 d3 d4 d5 v3 f3
      refine wp_region_held (S := (fun V => blk V (w.heap.size + 2) (l6 0 (nv s2) (nv s3) 1 (nv s5) (some ⟨w.heap.size + 1, 0, none⟩, 0, 0)) 55)) (by kernel_rfl) ?_
      have hS : blk w4.drew (w.heap.size + 2) (l6 0 (nv s2) (nv s3) 1 (nv s5) (some ⟨w.heap.size + 1, 0, none⟩, 0, 0)) 55 := H4.out.drew.v
      refine wpAnyH_take (i := 0) (v := .agg (l6 0 (nv s2) (nv s3) 1 (nv s5) (some ⟨w.heap.size + 1, 0, none⟩, 0, 0)).toArray) rfl (by kernel_rfl) (by kernel_rfl) (by kernel_rfl) (fun _ _ _ h => h) (yieldsIf_load_mid (by rfl) 55 (.tmp 4) rfl (w.heap.size + 2) 0 rfl (l6 0 (nv s2) (nv s3) 1 (nv s5) (some ⟨w.heap.size + 1, 0, none⟩, 0, 0)) _ (fun W h => h.load) Tryz.underlying55 rfl sz55) hS ?_
      simp only [Act.put, List.setIfInBounds_toArray, List.set_cons_zero, List.set_cons_succ, List.getElem_toArray, List.getElem_cons_zero]
      refine wpAnyH_take (i := 1) (v := .pointer (some ⟨w.heap.size + 2, 1, none⟩)) rfl (by kernel_rfl) (by kernel_rfl) (by kernel_rfl) (fun _ _ _ h => h) (Or.inl ⟨by rfl, ?_⟩) hS ?_
      · intro W hSw
        clear hS
        go_simp
      simp only [Act.put, List.setIfInBounds_toArray, List.set_cons_zero, List.set_cons_succ, List.getElem_toArray, List.getElem_cons_zero, List.getElem_cons_succ]
      refine wpAnyH_take (i := 2) (v := .agg [.int .i64 (nv s2), .int .i64 (nv s3), .int .i64 1, .int .i64 (nv s5)].toArray) rfl (by kernel_rfl) (by kernel_rfl) (by kernel_rfl) (fun _ _ _ h => h) (yieldsIf_load_mid (by rfl) 52 (.tmp 33) rfl (w.heap.size + 2) 1 rfl [.int .i64 (nv s2), .int .i64 (nv s3), .int .i64 1, .int .i64 (nv s5)] _ (fun W h => blk.loadAt [.int .i64 0] [.int .i64 (nv s2), .int .i64 (nv s3), .int .i64 1, .int .i64 (nv s5)] [hdV (some ⟨w.heap.size + 1, 0, none⟩, 0, 0)] h) Tryz.underlying52 rfl sz52) hS ?_
      simp only [Act.put, List.setIfInBounds_toArray, List.set_cons_zero, List.set_cons_succ, List.getElem_toArray, List.getElem_cons_zero, List.getElem_cons_succ]
      refine wpAnyH_all (rs := [3]) (by kernel_rfl) (by simp) ?_
      refine AllReadyH.cons rfl (fun K hK => ?_) AllReadyH.nil
      go_simp
      refine (HCF.out _ _ _ _ _).mono ?_
      rintro o q ⟨rfl, hq⟩
      have HQ := hidYY (H4.out.drew.below hq)
      go_wp2_with fail
      refine hK.out _ _ HQ.out.v (fun hS2 => ?_)
      clear hS hK K hq
      refine wpAnyH_all (rs := [4]) (by kernel_rfl) (by simp) ?_
      refine AllReadyH.cons rfl (fun K hK => ?_) AllReadyH.nil
      refine wp_store_mid (P := Tryz.prog) 55 (.tmp 2) (.tmp 32) rfl w.heap.size 0 (l6 0 (nv s2) (nv s3) 1 (nv s5) (some ⟨w.heap.size + 1, 0, none⟩, 0, 0)).toArray rfl rfl (HQ.out.r.there 0 6 (by simp)) sz55 (one6 _ _ _ _ _ _) ?_
      have HR := hidYY (HQ.out.putR (l6 0 (nv s2) (nv s3) 1 (nv s5) (some ⟨w.heap.size + 1, 0, none⟩, 0, 0)) rfl)
      refine hK.out _ _ HR.out.v (fun hS3 => ?_)
      refine wpAnyH_take (i := 5) (v := .bool (H.okCf (nv s2) (nv s3) 1 (nv s5))) rfl (by kernel_rfl) (by kernel_rfl) (by kernel_rfl) (fun _ _ _ h => h) (Or.inl ⟨by rfl, ?_⟩) hS3 ?_
      · intro W hSw
        clear hS2 hS3
        go_simp
      simp only [Act.put, List.setIfInBounds_toArray, List.set_cons_zero, List.set_cons_succ, List.getElem_toArray, List.getElem_cons_zero, List.getElem_cons_succ]
      refine wpAnyH_done (by kernel_rfl) ?_ _
      clear hS2 hS3 hK
      go_wp2
      have hL := run_loadVar_mid (P := Tryz.prog) _ w.heap.size 0 55 _ _ HR.out.r.load Tryz.underlying55 rfl sz55
      refine bodyPost_ret (v := .tuple #[.agg (l6 0 (nv s2) (nv s3) 1 (nv s5) (some ⟨w.heap.size + 1, 0, none⟩, 0, 0)).toArray, .bool (H.okCf (nv s2) (nv s3) 1 (nv s5))]) (Kd.results_cell_tmp Tryz.results25 _ _ w.heap.size _ rfl hL) rfl ?_
      exact ⟨(some ⟨w.heap.size + 1, 0, none⟩, 0, 0), by rw [HFH.out]; rfl, HR.out.f, HR.out.b⟩
  · have hk1 : K1 = 1 := by rw [← hK1]; unfold isN; rw [b1]; rfl
    subst hk1
    have v0 := H1.out.v.cell 0 _ rfl
    have f0 := H1.out.v.free 0
    go_upto_region 4 with fail
    generalize hX : World.setCell _ _ _ = w2
    have H2 : Hid (mkS w w2 z6 (l6 1 0 0 0 0 (some ⟨w.heap.size + 1, 0, none⟩, 0, 0))) := by
      have := H1.out.putV [] [.int .i64 0] [.int .i64 0, .int .i64 0, .int .i64 0, .int .i64 0, hdV (some ⟨w.heap.size + 1, 0, none⟩, 0, 0)] [.int .i64 1] rfl rfl
      show mkS _ _ _ _
      rw [← hX]
      exact this
    clear hX H1 d1 d2 d3 d4 d5 v0 f0
    cases b4 : (s4.toList == wNew)
    · have hk4 : K4 = 0 := by rw [← hK4]; unfold isN; rw [b4]; rfl
      subst hk4
      obtain ⟨d1, d2, d3, d4, d5⟩ := HC.out w2 H2.out.b
      have v1 := H2.out.v.cell 1 _ rfl
      have v2 := H2.out.v.cell 2 _ rfl
      have v3 := H2.out.v.cell 3 _ rfl
      have v4 := H2.out.v.cell 4 _ rfl
      have f1 := H2.out.v.free 1
      have f2 := H2.out.v.free 2
      have f3 := H2.out.v.free 3
      have f4 := H2.out.v.free 4
      go_wp2
      go_region_held3 (fun V => V.cell? ⟨g, 2, none⟩ = some (.string s2) ∧ V.cell? ⟨g, 3, none⟩ = some (.string s3) ∧ V.cell? ⟨g, 5, none⟩ = some (.string s5)) (first | assumption | go_keep) (first | (go_at_call_of 24 (Value.string s2); refine (HV2.out _).mono ?_; rintro o q1 ⟨rfl, rfl⟩) | (go_at_call_of 24 (Value.string s3); refine (HV3.out _).mono ?_; rintro o q1 ⟨rfl, rfl⟩) | (go_at_call_of 24 (Value.string s5); refine (HV5.out _).mono ?_; rintro o q1 ⟨rfl, rfl⟩))
      generalize hX : World.drew _ = w3
      have H3 : Hid (mkS w w3 z6 (l6 1 (nv s2) (nv s3) 0 (nv s5) (some ⟨w.heap.size + 1, 0, none⟩, 0, 0))) := by
        have := (H2.out.putV [.int .i64 1] [.int .i64 0, .int .i64 0, .int .i64 0, .int .i64 0] [hdV (some ⟨w.heap.size + 1, 0, none⟩, 0, 0)] [.int .i64 (nv s2), .int .i64 (nv s3), .int .i64 0, .int .i64 (nv s5)] rfl rfl).drew
        show mkS _ _ _ _
        rw [← hX]
        exact this
      clear hX H2 d1 d2 d3 d4 d5 v1 v2 v3 v4 f1 f2 f3 f4
      obtain ⟨d1, d2, d3, d4, d5⟩ := HC.out w3 H3.out.b
      go_upto_region 7 with fail
      obtain ⟨w4, hw4⟩ : ∃ w4, w4 = w3 := ⟨_, rfl⟩
      rw [← hw4]
      rw [← hw4] at H3
      have H4 := H3
      clear H3 d1 d2 d3 d4 d5 hw4
      refine wp_region_held (S := (fun V => blk V (w.heap.size + 2) (l6 1 (nv s2) (nv s3) 0 (nv s5) (some ⟨w.heap.size + 1, 0, none⟩, 0, 0)) 55)) (by kernel_rfl) ?_
      have hS : blk w4.drew (w.heap.size + 2) (l6 1 (nv s2) (nv s3) 0 (nv s5) (some ⟨w.heap.size + 1, 0, none⟩, 0, 0)) 55 := H4.out.drew.v
      refine wpAnyH_take (i := 0) (v := .agg (l6 1 (nv s2) (nv s3) 0 (nv s5) (some ⟨w.heap.size + 1, 0, none⟩, 0, 0)).toArray) rfl (by kernel_rfl) (by kernel_rfl) (by kernel_rfl) (fun _ _ _ h => h) (yieldsIf_load_mid (by rfl) 55 (.tmp 4) rfl (w.heap.size + 2) 0 rfl (l6 1 (nv s2) (nv s3) 0 (nv s5) (some ⟨w.heap.size + 1, 0, none⟩, 0, 0)) _ (fun W h => h.load) Tryz.underlying55 rfl sz55) hS ?_
      simp only [Act.put, List.setIfInBounds_toArray, List.set_cons_zero, List.set_cons_succ, List.getElem_toArray, List.getElem_cons_zero]
      refine wpAnyH_take (i := 1) (v := .pointer (some ⟨w.heap.size + 2, 1, none⟩)) rfl (by kernel_rfl) (by kernel_rfl) (by kernel_rfl) (fun _ _ _ h => h) (Or.inl ⟨by rfl, ?_⟩) hS ?_
      · intro W hSw
        clear hS
        go_simp
      simp only [Act.put, List.setIfInBounds_toArray, List.set_cons_zero, List.set_cons_succ, List.getElem_toArray, List.getElem_cons_zero, List.getElem_cons_succ]
      refine wpAnyH_take (i := 2) (v := .agg [.int .i64 (nv s2), .int .i64 (nv s3), .int .i64 0, .int .i64 (nv s5)].toArray) rfl (by kernel_rfl) (by kernel_rfl) (by kernel_rfl) (fun _ _ _ h => h) (yieldsIf_load_mid (by rfl) 52 (.tmp 33) rfl (w.heap.size + 2) 1 rfl [.int .i64 (nv s2), .int .i64 (nv s3), .int .i64 0, .int .i64 (nv s5)] _ (fun W h => blk.loadAt [.int .i64 1] [.int .i64 (nv s2), .int .i64 (nv s3), .int .i64 0, .int .i64 (nv s5)] [hdV (some ⟨w.heap.size + 1, 0, none⟩, 0, 0)] h) Tryz.underlying52 rfl sz52) hS ?_
      simp only [Act.put, List.setIfInBounds_toArray, List.set_cons_zero, List.set_cons_succ, List.getElem_toArray, List.getElem_cons_zero, List.getElem_cons_succ]
      refine wpAnyH_all (rs := [3]) (by kernel_rfl) (by simp) ?_
      refine AllReadyH.cons rfl (fun K hK => ?_) AllReadyH.nil
      go_simp
      refine (HCF.out _ _ _ _ _).mono ?_
      rintro o q ⟨rfl, hq⟩
      have HQ := hidYY (H4.out.drew.below hq)
      go_wp2_with fail
      refine hK.out _ _ HQ.out.v (fun hS2 => ?_)
      clear hS hK K hq
      refine wpAnyH_all (rs := [4]) (by kernel_rfl) (by simp) ?_
      refine AllReadyH.cons rfl (fun K hK => ?_) AllReadyH.nil
      refine wp_store_mid (P := Tryz.prog) 55 (.tmp 2) (.tmp 32) rfl w.heap.size 0 (l6 1 (nv s2) (nv s3) 0 (nv s5) (some ⟨w.heap.size + 1, 0, none⟩, 0, 0)).toArray rfl rfl (HQ.out.r.there 0 6 (by simp)) sz55 (one6 _ _ _ _ _ _) ?_
      have HR := hidYY (HQ.out.putR (l6 1 (nv s2) (nv s3) 0 (nv s5) (some ⟨w.heap.size + 1, 0, none⟩, 0, 0)) rfl)
      refine hK.out _ _ HR.out.v (fun hS3 => ?_)
      refine wpAnyH_take (i := 5) (v := .bool (H.okCf (nv s2) (nv s3) 0 (nv s5))) rfl (by kernel_rfl) (by kernel_rfl) (by kernel_rfl) (fun _ _ _ h => h) (Or.inl ⟨by rfl, ?_⟩) hS3 ?_
      · intro W hSw
        clear hS2 hS3
        go_simp
      simp only [Act.put, List.setIfInBounds_toArray, List.set_cons_zero, List.set_cons_succ, List.getElem_toArray, List.getElem_cons_zero, List.getElem_cons_succ]
      refine wpAnyH_done (by kernel_rfl) ?_ _
      clear hS2 hS3 hK
      go_wp2
      have hL := run_loadVar_mid (P := Tryz.prog) _ w.heap.size 0 55 _ _ HR.out.r.load Tryz.underlying55 rfl sz55
      refine bodyPost_ret (v := .tuple #[.agg (l6 1 (nv s2) (nv s3) 0 (nv s5) (some ⟨w.heap.size + 1, 0, none⟩, 0, 0)).toArray, .bool (H.okCf (nv s2) (nv s3) 0 (nv s5))]) (Kd.results_cell_tmp Tryz.results25 _ _ w.heap.size _ rfl hL) rfl ?_
      exact ⟨(some ⟨w.heap.size + 1, 0, none⟩, 0, 0), by rw [HFH.out]; rfl, HR.out.f, HR.out.b⟩
    · have hk4 : K4 = 1 := by rw [← hK4]; unfold isN; rw [b4]; rfl
      subst hk4
      obtain ⟨d1, d2, d3, d4, d5⟩ := HC.out w2 H2.out.b
      have v1 := H2.out.v.cell 1 _ rfl
      have v2 := H2.out.v.cell 2 _ rfl
      have v3 := H2.out.v.cell 3 _ rfl
      have v4 := H2.out.v.cell 4 _ rfl
      have f1 := H2.out.v.free 1
      have f2 := H2.out.v.free 2
      have f3 := H2.out.v.free 3
      have f4 := H2.out.v.free 4
      go_wp2
      go_region_held3 (fun V => V.cell? ⟨g, 2, none⟩ = some (.string s2) ∧ V.cell? ⟨g, 3, none⟩ = some (.string s3) ∧ V.cell? ⟨g, 5, none⟩ = some (.string s5)) (first | assumption | go_keep) (first | (go_at_call_of 24 (Value.string s2); refine (HV2.out _).mono ?_; rintro o q1 ⟨rfl, rfl⟩) | (go_at_call_of 24 (Value.string s3); refine (HV3.out _).mono ?_; rintro o q1 ⟨rfl, rfl⟩) | (go_at_call_of 24 (Value.string s5); refine (HV5.out _).mono ?_; rintro o q1 ⟨rfl, rfl⟩))
      generalize hX : World.drew _ = w3
      have H3 : Hid (mkS w w3 z6 (l6 1 (nv s2) (nv s3) 0 (nv s5) (some ⟨w.heap.size + 1, 0, none⟩, 0, 0))) := by
        have := (H2.out.putV [.int .i64 1] [.int .i64 0, .int .i64 0, .int .i64 0, .int .i64 0] [hdV (some ⟨w.heap.size + 1, 0, none⟩, 0, 0)] [.int .i64 (nv s2), .int .i64 (nv s3), .int .i64 0, .int .i64 (nv s5)] rfl rfl).drew
        show mkS _ _ _ _
        rw [← hX]
        exact this
      clear hX H2 d1 d2 d3 d4 d5 v1 v2 v3 v4 f1 f2 f3 f4
      obtain ⟨d1, d2, d3, d4, d5⟩ := HC.out w3 H3.out.b
      have v3 := H3.out.v.cell 3 _ rfl
      have f3 := H3.out.v.free 3
      go_upto_region 7 with fail
      generalize hX : World.setCell _ _ _ = w4
      have H4 : Hid (mkS w w4 z6 (l6 1 (nv s2) (nv s3) 1 (nv s5) (some ⟨w.heap.size + 1, 0, none⟩, 0, 0))) := by
        have := H3.out.putV [.int .i64 1, .int .i64 (nv s2), .int .i64 (nv s3)] [.int .i64 0] [.int .i64 (nv s5), hdV (some ⟨w.heap.size + 1, 0, none⟩, 0, 0)] [.int .i64 1] rfl rfl
        show mkS _ _ _ _
        rw [← hX]
        exact this
      clear hX H3 d1 d2 d3 d4 d5 v3 f3
      refine wp_region_held (S := (fun V => blk V (w.heap.size + 2) (l6 1 (nv s2) (nv s3) 1 (nv s5) (some ⟨w.heap.size + 1, 0, none⟩, 0, 0)) 55)) (by kernel_rfl) ?_
      have hS : blk w4.drew (w.heap.size + 2) (l6 1 (nv s2) (nv s3) 1 (nv s5) (some ⟨w.heap.size + 1, 0, none⟩, 0, 0)) 55 := H4.out.drew.v
      refine wpAnyH_take (i := 0) (v := .agg (l6 1 (nv s2) (nv s3) 1 (nv s5) (some ⟨w.heap.size + 1, 0, none⟩, 0, 0)).toArray) rfl (by kernel_rfl) (by kernel_rfl) (by kernel_rfl) (fun _ _ _ h => h) (yieldsIf_load_mid (by rfl) 55 (.tmp 4) rfl (w.heap.size + 2) 0 rfl (l6 1 (nv s2) (nv s3) 1 (nv s5) (some ⟨w.heap.size + 1, 0, none⟩, 0, 0)) _ (fun W h => h.load) Tryz.underlying55 rfl sz55) hS ?_
      simp only [Act.put, List.setIfInBounds_toArray, List.set_cons_zero, List.set_cons_succ, List.getElem_toArray, List.getElem_cons_zero]
      refine wpAnyH_take (i := 1) (v := .pointer (some ⟨w.heap.size + 2, 1, none⟩)) rfl (by kernel_rfl) (by kernel_rfl) (by kernel_rfl) (fun _ _ _ h => h) (Or.inl ⟨by rfl, ?_⟩) hS ?_
      · intro W hSw
        clear hS
        go_simp
      simp only [Act.put, List.setIfInBounds_toArray, List.set_cons_zero, List.set_cons_succ, List.getElem_toArray, List.getElem_cons_zero, List.getElem_cons_succ]
      refine wpAnyH_take (i := 2) (v := .agg [.int .i64 (nv s2), .int .i64 (nv s3), .int .i64 1, .int .i64 (nv s5)].toArray) rfl (by kernel_rfl) (by kernel_rfl) (by kernel_rfl) (fun _ _ _ h => h) (yieldsIf_load_mid (by rfl) 52 (.tmp 33) rfl (w.heap.size + 2) 1 rfl [.int .i64 (nv s2), .int .i64 (nv s3), .int .i64 1, .int .i64 (nv s5)] _ (fun W h => blk.loadAt [.int .i64 1] [.int .i64 (nv s2), .int .i64 (nv s3), .int .i64 1, .int .i64 (nv s5)] [hdV (some ⟨w.heap.size + 1, 0, none⟩, 0, 0)] h) Tryz.underlying52 rfl sz52) hS ?_
      simp only [Act.put, List.setIfInBounds_toArray, List.set_cons_zero, List.set_cons_succ, List.getElem_toArray, List.getElem_cons_zero, List.getElem_cons_succ]
      refine wpAnyH_all (rs := [3]) (by kernel_rfl) (by simp) ?_
      refine AllReadyH.cons rfl (fun K hK => ?_) AllReadyH.nil
      go_simp
      refine (HCF.out _ _ _ _ _).mono ?_
      rintro o q ⟨rfl, hq⟩
      have HQ := hidYY (H4.out.drew.below hq)
      go_wp2_with fail
      refine hK.out _ _ HQ.out.v (fun hS2 => ?_)
      clear hS hK K hq
      refine wpAnyH_all (rs := [4]) (by kernel_rfl) (by simp) ?_
      refine AllReadyH.cons rfl (fun K hK => ?_) AllReadyH.nil
      refine wp_store_mid (P := Tryz.prog) 55 (.tmp 2) (.tmp 32) rfl w.heap.size 0 (l6 1 (nv s2) (nv s3) 1 (nv s5) (some ⟨w.heap.size + 1, 0, none⟩, 0, 0)).toArray rfl rfl (HQ.out.r.there 0 6 (by simp)) sz55 (one6 _ _ _ _ _ _) ?_
      have HR := hidYY (HQ.out.putR (l6 1 (nv s2) (nv s3) 1 (nv s5) (some ⟨w.heap.size + 1, 0, none⟩, 0, 0)) rfl)
      refine hK.out _ _ HR.out.v (fun hS3 => ?_)
      refine wpAnyH_take (i := 5) (v := .bool (H.okCf (nv s2) (nv s3) 1 (nv s5))) rfl (by kernel_rfl) (by kernel_rfl) (by kernel_rfl) (fun _ _ _ h => h) (Or.inl ⟨by rfl, ?_⟩) hS3 ?_
      · intro W hSw
        clear hS2 hS3
        go_simp
      simp only [Act.put, List.setIfInBounds_toArray, List.set_cons_zero, List.set_cons_succ, List.getElem_toArray, List.getElem_cons_zero, List.getElem_cons_succ]
      refine wpAnyH_done (by kernel_rfl) ?_ _
      clear hS2 hS3 hK
      go_wp2
      have hL := run_loadVar_mid (P := Tryz.prog) _ w.heap.size 0 55 _ _ HR.out.r.load Tryz.underlying55 rfl sz55
      refine bodyPost_ret (v := .tuple #[.agg (l6 1 (nv s2) (nv s3) 1 (nv s5) (some ⟨w.heap.size + 1, 0, none⟩, 0, 0)).toArray, .bool (H.okCf (nv s2) (nv s3) 1 (nv s5))]) (Kd.results_cell_tmp Tryz.results25 _ _ w.heap.size _ rfl hL) rfl ?_
      exact ⟨(some ⟨w.heap.size + 1, 0, none⟩, 0, 0), by rw [HFH.out]; rfl, HR.out.f, HR.out.b⟩
end Go.Proofs.YtfbeaekddgpmmaaGreatDoor
