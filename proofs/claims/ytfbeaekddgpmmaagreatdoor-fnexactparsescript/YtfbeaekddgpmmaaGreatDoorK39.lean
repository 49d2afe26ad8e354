import Derived.Test.YtfbeaekddgpmmaaGreatDoorK34
namespace Go.Proofs.YtfbeaekddgpmmaaGreatDoor
open Go.RowKit Kd
set_option linter.unusedVariables false
/-- the frame put in -/
theorem mkOd.putF {w W : World} {now n m : Nat} {h : Hd} (H : mkOd w W (odNone now 1 n m 0 0) h) (e : Bool) (i : Nat) (r : Bool) (d : Nat) (l : List Nat) (h' : Hd) (hf : W.ownsRow w.heap.size 5 1 (hdV h') l.length (bv l)) : mkOd w (W.setCells (w.heap.size + 1) 4 (l5 e (i : Int) r (d : Int) h')) ⟨now, 1, n, m, e, i, r, d, l, 0, 0⟩ h' := by
  have k : Ky [67] w.heap.size W (W.setCells (w.heap.size + 1) 4 (l5 e (i : Int) r (d : Int) h')) := (Ky.refl _ _ _).setCells _ _ _ (by omega) ⟨_, _, _, H.v, by simp⟩
  refine ⟨H.r.other (by omega) 4 _, ?_, k.row hf (by decide), H.b.trans k.low⟩
  exact blk.put [.int .i64 (now : Int), .int .i64 ((1 : Nat) : Int), .int .i64 (n : Int), .int .i64 (m : Int)] [.bool false, .int .u32 ((0 : Nat) : Int), .bool false, .int .i64 ((0 : Nat) : Int), hdV h] [.int .i64 ((0 : Nat) : Int), .int .i64 ((0 : Nat) : Int)] (l5 e (i : Int) r (d : Int) h') H.v rfl
set_option maxHeartbeats 4000000 in
set_option maxRecDepth 20000 in
theorem order_ask (g cp now : Nat) (s0 s1 s2 s3 s4 s5 : ByteArray) (w : World) (c0 : w.cell? ⟨g, 0, none⟩ = some (.string s0)) (c1 : w.cell? ⟨g, 1, none⟩ = some (.string s1)) (c2 : w.cell? ⟨g, 2, none⟩ = some (.string s2)) (c3 : w.cell? ⟨g, 3, none⟩ = some (.string s3)) (c4 : w.cell? ⟨g, 4, none⟩ = some (.string s4)) (c5 : w.cell? ⟨g, 5, none⟩ = some (.string s5)) (h1 : s1.size ≤ 8) (h2 : s2.size ≤ 8) (h4 : s4.size ≤ 8) (hv4 : hv s4 < 4294967296) (h5 : s5.size ≤ 8) (hs0 : s0.toList = wAsk) :
    Calls Tryz.prog 28 #[.slice (some ⟨g, 0, none⟩) 6 cp, .int .i64 (now : Int)] w (loP w ⟨now, 1, nv s1, nv s2, (s3.toList == wX), hv s4, true, nv s5, [], 0, 0⟩ (decide (nv s2 ≤ 9999) && J.validB (s3.toList == wX) (hv s4) true ((nv s5) : Int) 0)) := by
  have hgl : g < w.heap.size := World.block_lt_of_cell? w _ c0
  have HV1 := hidYY (fun w => value_any s1 10 (by decide) h1 w)
  rw [show (valN (lt s1) 10 : Int) = (nv s1 : Int) from rfl] at HV1
  have HV2 := hidYY (fun w => value_any s2 10 (by decide) h2 w)
  rw [show (valN (lt s2) 10 : Int) = (nv s2 : Int) from rfl] at HV2
  have HC : Hid (∀ V, Below w.heap.size w V → V.cell? ⟨g, 0, none⟩ = some (.string s0) ∧ V.cell? ⟨g, 1, none⟩ = some (.string s1) ∧ V.cell? ⟨g, 2, none⟩ = some (.string s2) ∧ V.cell? ⟨g, 3, none⟩ = some (.string s3) ∧ V.cell? ⟨g, 4, none⟩ = some (.string s4) ∧ V.cell? ⟨g, 5, none⟩ = some (.string s5)) := fun V hV => ⟨(hV.cell hgl).trans c0, (hV.cell hgl).trans c1, (hV.cell hgl).trans c2, (hV.cell hgl).trans c3, (hV.cell hgl).trans c4, (hV.cell hgl).trans c5⟩
  clear c0 c1 c2 c3 c4 c5 h1 h2
  have b_send : (s0.toList == wSend) = false := by rw [hs0]; decide
  have b_ask : (s0.toList == wAsk) = true := by rw [hs0]; decide
  have b_drop : (s0.toList == wDrop) = false := by rw [hs0]; decide
  have b_restart : (s0.toList == wRestart) = false := by rw [hs0]; decide
  have b_fetch : (s0.toList == wFetch) = false := by rw [hs0]; decide
  have b_flip : (s0.toList == wFlip) = false := by rw [hs0]; decide
  have HFR : Hid (∀ V, Below w.heap.size w V → Calls Tryz.prog 47 #[.slice (some ⟨g, 0, none⟩) 6 cp] V fun o w' => ∃ h : Hd, o = .returned (.agg (l5 (s3.toList == wX) (hv s4) true (nv s5) h).toArray) ∧ w'.ownsRow V.heap.size 5 1 (hdV h) 0 [] ∧ Below V.heap.size V w') := fun V hV => by
    obtain ⟨e0, e1, e2, e3, e4, e5⟩ := HC.out V hV
    exact frame_ask g cp s0 s3 s4 s5 V e0 e3 e4 e5 h4 hv4 h5 b_ask
  clear h4 hv4 h5
  have H0 := hidYY (mkOd.zero w now (nv s1))
  have HZ := hidYY (blk.new (w.alloc (.cells z11'.toArray 67)) z11' 67)
  have hbz : Below w.heap.size w (w.alloc (.cells z11'.toArray 67)) := (Below.refl _ _).alloc (Nat.le_refl _) _
  obtain ⟨d0, d1, d2, d3, d4, d5⟩ := HC.out _ hbz
  clear hbz hs0
  go_enter Tryz.func28, Tryz.ntmps28
  go_upto_region 3 with (first | (go_at_call 24; refine (HV1.out _).mono ?_; rintro o q1 ⟨rfl, rfl⟩))
  generalize hX : World.alloc _ _ = w3
  have H3 : Hid (mkOd w w3 (odNone now 0 (nv s1) 0 0 0) (some ⟨w.heap.size + 1 + 1, 0, none⟩, 0, 0)) := by
    show mkOd _ _ _ _
    rw [← hX]
    exact H0.out
  clear hX H0 HZ
  clear d0 d1 d2 d3 d4 d5
  obtain ⟨d0, d1, d2, d3, d4, d5⟩ := HC.out w3 H3.out.b
  have v1 := H3.out.v.cell 1 _ rfl
  have f1 := H3.out.v.free 1
  go_upto_region 7 with fail
  generalize hX : World.setCell _ _ _ = w4
  have H4 : Hid (mkOd w w4 (odNone now 1 (nv s1) 0 0 0) (some ⟨w.heap.size + 1 + 1, 0, none⟩, 0, 0)) := by
    show mkOd _ _ _ _
    rw [← hX]
    exact H3.out.setV 1 (.int .i64 1) (odNone now 1 (nv s1) 0 0 0) rfl rfl
  clear hX H3 d0 d1 d2 d3 d4 d5 v1 f1
  obtain ⟨d0, d1, d2, d3, d4, d5⟩ := HC.out w4 H4.out.b
  have v3 := H4.out.v.cell 3 _ rfl
  have f3 := H4.out.v.free 3
  go_upto_region 8 with (first | (go_at_call 24; refine (HV2.out _).mono ?_; rintro o q1 ⟨rfl, rfl⟩))
  generalize hX : World.setCell _ _ _ = w5
  have H5 : Hid (mkOd w w5 (odNone now 1 (nv s1) (nv s2) 0 0) (some ⟨w.heap.size + 1 + 1, 0, none⟩, 0, 0)) := by
    show mkOd _ _ _ _
    rw [← hX]
    exact H4.out.setV 3 (.int .i64 (nv s2 : Int)) (odNone now 1 (nv s1) (nv s2) 0 0) rfl rfl
  clear hX H4 d0 d1 d2 d3 d4 d5 v3 f3
  go_wp2_with fail
  refine (HFR.out w5 H5.out.b).mono ?_
  rintro o w6 ⟨h', rfl, hf', hb6⟩
  have H6 := hidYY (H5.out.below hb6)
  have HF6 : Hid (w6.ownsRow w.heap.size 5 1 (hdV h') ([] : List Nat).length (bv ([] : List Nat))) := ownsRow_lower hf' H5.out.b.size
  clear hf' hb6
  go_upto_region 9 with (first | (refine wpList_store_mid (P := Tryz.prog) rfl 65 (.tmp 30) (.tmp 29) rfl (w.heap.size + 1) 4 (l5 (s3.toList == wX) (hv s4) true (nv s5 : Int) h').toArray rfl rfl (H6.out.v.there 4 5 (by simp)) sz29 (one5h _ _ _ _ _) ?_; generalize hX : World.setCells _ (w.heap.size + 1) 4 _ = w7; have HX : Hid (World.setCells w6 (w.heap.size + 1) 4 (l5 (s3.toList == wX) (hv s4) true (nv s5 : Int) h') = w7) := hX; clear hX))
  have H7 : Hid (mkOd w w7 ⟨now, 1, nv s1, nv s2, (s3.toList == wX), hv s4, true, nv s5, [], 0, 0⟩ h') := by
    show mkOd _ _ _ _
    rw [← HX.out]
    exact H6.out.putF (s3.toList == wX) (hv s4) true (nv s5) ([] : List Nat) h' HF6.out
  clear HX H6 HF6 H5
  have HDL : Hid (h'.2.1 = 0) := by
    rcases ownsRow_shape H7.out.f with ⟨e1, e2⟩ | ⟨g2, k2, e1, _⟩
    · have e3 : h'.2.1 = 0 := by injection e1
      first
        | exact e3
        | exact e3.trans e2.symm
    · injection e1
  have HVF : Hid (∀ V, Calls Tryz.prog 48 #[J.frV (s3.toList == wX) (hv s4) true ((nv s5) : Int) h'.1 h'.2.1 h'.2.2] V fun o w' => o = .returned (.bool (J.validB (s3.toList == wX) (hv s4) true ((nv s5) : Int) 0)) ∧ Below V.heap.size V w') := fun V => by
    have := J.specValid_any V (s3.toList == wX) (hv s4) true ((nv s5) : Int) h'.1 h'.2.1 h'.2.2
    rw [HDL.out] at this
    rw [HDL.out]
    exact this
  by_cases ha : nv s2 ≤ 9999
  · have ha' : (nv s2 : Int) ≤ 9999 := by omega
    have HBO : Hid ((decide (nv s2 ≤ 9999) && J.validB (s3.toList == wX) (hv s4) true ((nv s5) : Int) 0) = J.validB (s3.toList == wX) (hv s4) true ((nv s5) : Int) 0) := by show _ = _; simp [ha]
    clear ha
    refine wp_region_held (S := (fun U => blk U (w.heap.size + 1) (odL (⟨now, 1, nv s1, nv s2, (s3.toList == wX), hv s4, true, nv s5, [], 0, 0⟩ : Od) h') 67)) (by kernel_rfl) ?_
    have hS : (fun U => blk U (w.heap.size + 1) (odL (⟨now, 1, nv s1, nv s2, (s3.toList == wX), hv s4, true, nv s5, [], 0, 0⟩ : Od) h') 67) w7.drew := H7.out.v
    refine wpAnyH_take (i := 0) (v := .agg (odL (⟨now, 1, nv s1, nv s2, (s3.toList == wX), hv s4, true, nv s5, [], 0, 0⟩ : Od) h').toArray) rfl (by kernel_rfl) (by kernel_rfl) (by kernel_rfl) (fun _ _ _ h => h) (yieldsIf_load_mid (by rfl) 67 (.tmp 6) rfl (w.heap.size + 1) 0 rfl (odL (⟨now, 1, nv s1, nv s2, (s3.toList == wX), hv s4, true, nv s5, [], 0, 0⟩ : Od) h') _ (fun W h => h.load) Tryz.underlying67 rfl sz67) hS ?_
    simp only [Act.put, List.setIfInBounds_toArray, List.set_cons_zero, List.set_cons_succ, List.getElem_toArray, List.getElem_cons_zero]
    refine wpAnyH_take (i := 1) (v := (.pointer (some ⟨w.heap.size + 1, 3, none⟩))) rfl (by kernel_rfl) (by kernel_rfl) (by kernel_rfl) (fun _ _ _ h => h) (Or.inl ⟨by rfl, ?_⟩) hS ?_
    · intro W hSw
      clear hS
      go_simp
    simp only [Act.put, List.setIfInBounds_toArray, List.set_cons_zero, List.set_cons_succ, List.getElem_toArray, List.getElem_cons_zero, List.getElem_cons_succ]
    refine wpAnyH_take (i := 2) (v := (.int .i64 (nv s2 : Int))) rfl (by kernel_rfl) (by kernel_rfl) (by kernel_rfl) (fun _ _ _ h => h) (Or.inl ⟨by rfl, ?_⟩) hS ?_
    · intro W hSw
      clear hS
      have y3 : W.cell? ⟨w.heap.size + 1, 3, none⟩ = some (.int .i64 (nv s2 : Int)) := hSw.cell 3 _ rfl
      go_simp
    simp only [Act.put, List.setIfInBounds_toArray, List.set_cons_zero, List.set_cons_succ, List.getElem_toArray, List.getElem_cons_zero, List.getElem_cons_succ]
    refine wpAnyH_take (i := 3) (v := (.bool true)) rfl (by kernel_rfl) (by kernel_rfl) (by kernel_rfl) (fun _ _ _ h => h) (Or.inl ⟨by rfl, ?_⟩) hS ?_
    · intro W hSw
      clear hS
      go_simp
    simp only [Act.put, List.setIfInBounds_toArray, List.set_cons_zero, List.set_cons_succ, List.getElem_toArray, List.getElem_cons_zero, List.getElem_cons_succ]
    refine wpAnyH_take (i := 4) (v := (.bool true)) rfl (by kernel_rfl) (by kernel_rfl) (by kernel_rfl) (fun _ _ _ h => h) (Or.inl ⟨by rfl, ?_⟩) hS ?_
    · intro W hSw
      clear hS
      go_simp
    simp only [Act.put, List.setIfInBounds_toArray, List.set_cons_zero, List.set_cons_succ, List.getElem_toArray, List.getElem_cons_zero, List.getElem_cons_succ]
    refine wpAnyH_take (i := 5) (v := (.pointer (some ⟨w.heap.size + 1, 4, none⟩))) rfl (by kernel_rfl) (by kernel_rfl) (by kernel_rfl) (fun _ _ _ h => h) (Or.inl ⟨by rfl, ?_⟩) hS ?_
    · intro W hSw
      clear hS
      go_simp
    simp only [Act.put, List.setIfInBounds_toArray, List.set_cons_zero, List.set_cons_succ, List.getElem_toArray, List.getElem_cons_zero, List.getElem_cons_succ]
    refine wpAnyH_take (i := 6) (v := .agg (l5 (s3.toList == wX) (hv s4) true (nv s5 : Int) h').toArray) rfl (by kernel_rfl) (by kernel_rfl) (by kernel_rfl) (fun _ _ _ h => h) (yieldsIf_load_mid (by rfl) 65 (.tmp 36) rfl (w.heap.size + 1) 4 rfl (l5 (s3.toList == wX) (hv s4) true (nv s5 : Int) h') _ (fun W h => blk.loadAt [.int .i64 (now : Int), .int .i64 ((1 : Nat) : Int), .int .i64 (nv s1 : Int), .int .i64 (nv s2 : Int)] (l5 (s3.toList == wX) (hv s4) true (nv s5 : Int) h') [.int .i64 ((0 : Nat) : Int), .int .i64 ((0 : Nat) : Int)] h) Tryz.underlying65 rfl sz29) hS ?_
    simp only [Act.put, List.setIfInBounds_toArray, List.set_cons_zero, List.set_cons_succ, List.getElem_toArray, List.getElem_cons_zero, List.getElem_cons_succ]
    refine wpAnyH_all (rs := [7]) (by kernel_rfl) (by simp) ?_
    refine AllReadyH.cons rfl (fun K hK => ?_) AllReadyH.nil
    go_simp
    refine (HVF.out _).mono ?_
    rintro o w8 ⟨rfl, hb8⟩
    have H8 := hidYY (H7.out.below ((Below.refl _ _).drew.trans hb8))
    go_wp2_with fail
    refine hK.out _ _ H8.out.v (fun hS2 => ?_)
    clear hS hK K hb8
    have hS := hS2
    clear hS2
    obtain ⟨bv0, hbv0⟩ : ∃ bv0, J.validB (s3.toList == wX) (hv s4) true ((nv s5) : Int) 0 = bv0 := ⟨_, rfl⟩
    have HBV := hidYY hbv0
    rw [hbv0]
    clear hbv0
    refine wpAnyH_take (i := 8) (v := (.bool bv0)) rfl (by kernel_rfl) (by kernel_rfl) (by kernel_rfl) (fun _ _ _ h => h) (Or.inl ⟨by rfl, ?_⟩) hS ?_
    · intro W hSw
      clear hS
      go_simp
    simp only [Act.put, List.setIfInBounds_toArray, List.set_cons_zero, List.set_cons_succ, List.getElem_toArray, List.getElem_cons_zero, List.getElem_cons_succ]
    refine wpAnyH_all (rs := [9]) (by kernel_rfl) (by simp) ?_
    refine AllReadyH.cons rfl (fun K hK => ?_) AllReadyH.nil
    refine wp_store_mid (P := Tryz.prog) 67 (.tmp 4) (.tmp 31) rfl w.heap.size 0 (odL (⟨now, 1, nv s1, nv s2, (s3.toList == wX), hv s4, true, nv s5, [], 0, 0⟩ : Od) h').toArray rfl rfl (H8.out.r.there 0 11 (by simp)) sz67 (one67 _ _) ?_
    have HR := hidYY (H8.out.putR (odL (⟨now, 1, nv s1, nv s2, (s3.toList == wX), hv s4, true, nv s5, [], 0, 0⟩ : Od) h') rfl)
    refine hK.out _ _ HR.out.2.2.2 (fun hS3 => ?_)
    clear hS hK K
    have hS := hS3
    clear hS3
    refine wpAnyH_take (i := 10) (v := (.bool bv0)) rfl (by kernel_rfl) (by kernel_rfl) (by kernel_rfl) (fun _ _ _ h => h) (Or.inl ⟨by rfl, ?_⟩) hS ?_
    · intro W hSw
      clear hS
      go_simp
    simp only [Act.put, List.setIfInBounds_toArray, List.set_cons_zero, List.set_cons_succ, List.getElem_toArray, List.getElem_cons_zero, List.getElem_cons_succ]
    refine wpAnyH_done (by kernel_rfl) ?_ _
    clear hS
    go_wp2
    have hL := run_loadVar_mid (P := Tryz.prog) _ w.heap.size 0 67 _ _ HR.out.1.load Tryz.underlying67 rfl sz67
    refine bodyPost_ret (v := .tuple #[.agg (odL (⟨now, 1, nv s1, nv s2, (s3.toList == wX), hv s4, true, nv s5, [], 0, 0⟩ : Od) h').toArray, .bool bv0]) (Kd.results_cell_tmp Tryz.results28 _ _ w.heap.size _ rfl hL) rfl ?_
    exact loP.mk _ (by rw [HBO.out, HBV.out]) HR.out.2.1 HR.out.2.2.1
  · have ha' : ¬ (nv s2 : Int) ≤ 9999 := by omega
    have HBO : Hid ((decide (nv s2 ≤ 9999) && J.validB (s3.toList == wX) (hv s4) true ((nv s5) : Int) 0) = false) := by show _ = _; simp [ha]
    clear ha
    refine wp_region_held (S := (fun U => blk U (w.heap.size + 1) (odL (⟨now, 1, nv s1, nv s2, (s3.toList == wX), hv s4, true, nv s5, [], 0, 0⟩ : Od) h') 67)) (by kernel_rfl) ?_
    have hS : (fun U => blk U (w.heap.size + 1) (odL (⟨now, 1, nv s1, nv s2, (s3.toList == wX), hv s4, true, nv s5, [], 0, 0⟩ : Od) h') 67) w7.drew := H7.out.v
    refine wpAnyH_take (i := 0) (v := .agg (odL (⟨now, 1, nv s1, nv s2, (s3.toList == wX), hv s4, true, nv s5, [], 0, 0⟩ : Od) h').toArray) rfl (by kernel_rfl) (by kernel_rfl) (by kernel_rfl) (fun _ _ _ h => h) (yieldsIf_load_mid (by rfl) 67 (.tmp 6) rfl (w.heap.size + 1) 0 rfl (odL (⟨now, 1, nv s1, nv s2, (s3.toList == wX), hv s4, true, nv s5, [], 0, 0⟩ : Od) h') _ (fun W h => h.load) Tryz.underlying67 rfl sz67) hS ?_
    simp only [Act.put, List.setIfInBounds_toArray, List.set_cons_zero, List.set_cons_succ, List.getElem_toArray, List.getElem_cons_zero]
    refine wpAnyH_take (i := 1) (v := (.pointer (some ⟨w.heap.size + 1, 3, none⟩))) rfl (by kernel_rfl) (by kernel_rfl) (by kernel_rfl) (fun _ _ _ h => h) (Or.inl ⟨by rfl, ?_⟩) hS ?_
    · intro W hSw
      clear hS
      go_simp
    simp only [Act.put, List.setIfInBounds_toArray, List.set_cons_zero, List.set_cons_succ, List.getElem_toArray, List.getElem_cons_zero, List.getElem_cons_succ]
    refine wpAnyH_take (i := 2) (v := (.int .i64 (nv s2 : Int))) rfl (by kernel_rfl) (by kernel_rfl) (by kernel_rfl) (fun _ _ _ h => h) (Or.inl ⟨by rfl, ?_⟩) hS ?_
    · intro W hSw
      clear hS
      have y3 : W.cell? ⟨w.heap.size + 1, 3, none⟩ = some (.int .i64 (nv s2 : Int)) := hSw.cell 3 _ rfl
      go_simp
    simp only [Act.put, List.setIfInBounds_toArray, List.set_cons_zero, List.set_cons_succ, List.getElem_toArray, List.getElem_cons_zero, List.getElem_cons_succ]
    refine wpAnyH_take (i := 3) (v := (.bool false)) rfl (by kernel_rfl) (by kernel_rfl) (by kernel_rfl) (fun _ _ _ h => h) (Or.inl ⟨by rfl, ?_⟩) hS ?_
    · intro W hSw
      clear hS
      go_simp
    simp only [Act.put, List.setIfInBounds_toArray, List.set_cons_zero, List.set_cons_succ, List.getElem_toArray, List.getElem_cons_zero, List.getElem_cons_succ]
    refine wpAnyH_take (i := 4) (v := (.bool false)) rfl (by kernel_rfl) (by kernel_rfl) (by kernel_rfl) (fun _ _ _ h => h) (Or.inl ⟨by rfl, ?_⟩) hS ?_
    · intro W hSw
      clear hS
      go_simp
    simp only [Act.put, List.setIfInBounds_toArray, List.set_cons_zero, List.set_cons_succ, List.getElem_toArray, List.getElem_cons_zero, List.getElem_cons_succ]
    refine wpAnyH_take (i := 5) (v := undef) rfl (by kernel_rfl) (by kernel_rfl) (by kernel_rfl) (fun _ _ _ h => h) (Or.inr ⟨by rfl, rfl⟩) hS ?_
    simp only [Act.put, List.setIfInBounds_toArray, List.set_cons_zero, List.set_cons_succ, List.getElem_toArray, List.getElem_cons_zero, List.getElem_cons_succ]
    refine wpAnyH_take (i := 6) (v := undef) rfl (by kernel_rfl) (by kernel_rfl) (by kernel_rfl) (fun _ _ _ h => h) (Or.inr ⟨by rfl, rfl⟩) hS ?_
    simp only [Act.put, List.setIfInBounds_toArray, List.set_cons_zero, List.set_cons_succ, List.getElem_toArray, List.getElem_cons_zero, List.getElem_cons_succ]
    refine wpAnyH_take (i := 7) (v := undef) rfl (by kernel_rfl) (by kernel_rfl) (by kernel_rfl) (fun _ _ _ h => h) (Or.inr ⟨by rfl, rfl⟩) hS ?_
    simp only [Act.put, List.setIfInBounds_toArray, List.set_cons_zero, List.set_cons_succ, List.getElem_toArray, List.getElem_cons_zero, List.getElem_cons_succ]
    refine wpAnyH_take (i := 8) (v := (.bool false)) rfl (by kernel_rfl) (by kernel_rfl) (by kernel_rfl) (fun _ _ _ h => h) (Or.inl ⟨by rfl, ?_⟩) hS ?_
    · intro W hSw
      clear hS
      go_simp
    simp only [Act.put, List.setIfInBounds_toArray, List.set_cons_zero, List.set_cons_succ, List.getElem_toArray, List.getElem_cons_zero, List.getElem_cons_succ]
    have H7d := hidYY (H7.out.below (Below.refl _ _).drew)
    refine wpAnyH_all (rs := [9]) (by kernel_rfl) (by simp) ?_
    refine AllReadyH.cons rfl (fun K hK => ?_) AllReadyH.nil
    refine wp_store_mid (P := Tryz.prog) 67 (.tmp 4) (.tmp 31) rfl w.heap.size 0 (odL (⟨now, 1, nv s1, nv s2, (s3.toList == wX), hv s4, true, nv s5, [], 0, 0⟩ : Od) h').toArray rfl rfl (H7d.out.r.there 0 11 (by simp)) sz67 (one67 _ _) ?_
    have HR := hidYY (H7d.out.putR (odL (⟨now, 1, nv s1, nv s2, (s3.toList == wX), hv s4, true, nv s5, [], 0, 0⟩ : Od) h') rfl)
    refine hK.out _ _ HR.out.2.2.2 (fun hS3 => ?_)
    clear hS hK K
    have hS := hS3
    clear hS3
    refine wpAnyH_take (i := 10) (v := (.bool false)) rfl (by kernel_rfl) (by kernel_rfl) (by kernel_rfl) (fun _ _ _ h => h) (Or.inl ⟨by rfl, ?_⟩) hS ?_
    · intro W hSw
      clear hS
      go_simp
    simp only [Act.put, List.setIfInBounds_toArray, List.set_cons_zero, List.set_cons_succ, List.getElem_toArray, List.getElem_cons_zero, List.getElem_cons_succ]
    refine wpAnyH_done (by kernel_rfl) ?_ _
    clear hS
    go_wp2
    have hL := run_loadVar_mid (P := Tryz.prog) _ w.heap.size 0 67 _ _ HR.out.1.load Tryz.underlying67 rfl sz67
    refine bodyPost_ret (v := .tuple #[.agg (odL (⟨now, 1, nv s1, nv s2, (s3.toList == wX), hv s4, true, nv s5, [], 0, 0⟩ : Od) h').toArray, .bool false]) (Kd.results_cell_tmp Tryz.results28 _ _ w.heap.size _ rfl hL) rfl ?_
    exact loP.mk _ (by rw [HBO.out]) HR.out.2.1 HR.out.2.2.1
set_option maxHeartbeats 4000000 in
set_option maxRecDepth 20000 in
theorem order_send (g cp now : Nat) (s0 s1 s2 s3 s4 s5 : ByteArray) (w : World) (c0 : w.cell? ⟨g, 0, none⟩ = some (.string s0)) (c1 : w.cell? ⟨g, 1, none⟩ = some (.string s1)) (c2 : w.cell? ⟨g, 2, none⟩ = some (.string s2)) (c3 : w.cell? ⟨g, 3, none⟩ = some (.string s3)) (c4 : w.cell? ⟨g, 4, none⟩ = some (.string s4)) (c5 : w.cell? ⟨g, 5, none⟩ = some (.string s5)) (h1 : s1.size ≤ 8) (h2 : s2.size ≤ 8) (h4 : s4.size ≤ 8) (hv4 : hv s4 < 4294967296) (h5 : s5.size ≤ 16) (he5 : s5.size % 2 = 0 ∨ (s5.toList == wDash) = true) (hby : ∀ k, 2 * k + 2 ≤ s5.size → byteAt s5 k < 256) (hs0 : s0.toList = wSend) :
    Calls Tryz.prog 28 #[.slice (some ⟨g, 0, none⟩) 6 cp, .int .i64 (now : Int)] w (loP w ⟨now, 1, nv s1, nv s2, (s3.toList == wX), hv s4, false, (datL s5).length, datL s5, 0, 0⟩ (decide (nv s2 ≤ 9999) && J.validB (s3.toList == wX) (hv s4) false ((datL s5).length : Int) (datL s5).length)) := by
  have hgl : g < w.heap.size := World.block_lt_of_cell? w _ c0
  have HV1 := hidYY (fun w => value_any s1 10 (by decide) h1 w)
  rw [show (valN (lt s1) 10 : Int) = (nv s1 : Int) from rfl] at HV1
  have HV2 := hidYY (fun w => value_any s2 10 (by decide) h2 w)
  rw [show (valN (lt s2) 10 : Int) = (nv s2 : Int) from rfl] at HV2
  have HC : Hid (∀ V, Below w.heap.size w V → V.cell? ⟨g, 0, none⟩ = some (.string s0) ∧ V.cell? ⟨g, 1, none⟩ = some (.string s1) ∧ V.cell? ⟨g, 2, none⟩ = some (.string s2) ∧ V.cell? ⟨g, 3, none⟩ = some (.string s3) ∧ V.cell? ⟨g, 4, none⟩ = some (.string s4) ∧ V.cell? ⟨g, 5, none⟩ = some (.string s5)) := fun V hV => ⟨(hV.cell hgl).trans c0, (hV.cell hgl).trans c1, (hV.cell hgl).trans c2, (hV.cell hgl).trans c3, (hV.cell hgl).trans c4, (hV.cell hgl).trans c5⟩
  clear c0 c1 c2 c3 c4 c5 h1 h2
  have b_send : (s0.toList == wSend) = true := by rw [hs0]; decide
  have b_ask : (s0.toList == wAsk) = false := by rw [hs0]; decide
  have b_drop : (s0.toList == wDrop) = false := by rw [hs0]; decide
  have b_restart : (s0.toList == wRestart) = false := by rw [hs0]; decide
  have b_fetch : (s0.toList == wFetch) = false := by rw [hs0]; decide
  have b_flip : (s0.toList == wFlip) = false := by rw [hs0]; decide
  have HFR : Hid (∀ V, Below w.heap.size w V → Calls Tryz.prog 47 #[.slice (some ⟨g, 0, none⟩) 6 cp] V fun o w' => frP V (s3.toList == wX) (hv s4) false ((datL s5).length : Int) (datL s5) o w') := fun V hV => by
    obtain ⟨e0, e1, e2, e3, e4, e5⟩ := HC.out V hV
    exact frame_send g cp s0 s3 s4 s5 V e0 e3 e4 e5 h4 hv4 h5 he5 hby b_ask
  clear h4 hv4 h5 he5 hby
  have H0 := hidYY (mkOd.zero w now (nv s1))
  have HZ := hidYY (blk.new (w.alloc (.cells z11'.toArray 67)) z11' 67)
  have hbz : Below w.heap.size w (w.alloc (.cells z11'.toArray 67)) := (Below.refl _ _).alloc (Nat.le_refl _) _
  obtain ⟨d0, d1, d2, d3, d4, d5⟩ := HC.out _ hbz
  clear hbz hs0
  go_enter Tryz.func28, Tryz.ntmps28
  go_upto_region 3 with (first | (go_at_call 24; refine (HV1.out _).mono ?_; rintro o q1 ⟨rfl, rfl⟩))
  generalize hX : World.alloc _ _ = w3
  have H3 : Hid (mkOd w w3 (odNone now 0 (nv s1) 0 0 0) (some ⟨w.heap.size + 1 + 1, 0, none⟩, 0, 0)) := by
    show mkOd _ _ _ _
    rw [← hX]
    exact H0.out
  clear hX H0 HZ
  clear d0 d1 d2 d3 d4 d5
  obtain ⟨d0, d1, d2, d3, d4, d5⟩ := HC.out w3 H3.out.b
  have v1 := H3.out.v.cell 1 _ rfl
  have f1 := H3.out.v.free 1
  go_upto_region 7 with fail
  generalize hX : World.setCell _ _ _ = w4
  have H4 : Hid (mkOd w w4 (odNone now 1 (nv s1) 0 0 0) (some ⟨w.heap.size + 1 + 1, 0, none⟩, 0, 0)) := by
    show mkOd _ _ _ _
    rw [← hX]
    exact H3.out.setV 1 (.int .i64 1) (odNone now 1 (nv s1) 0 0 0) rfl rfl
  clear hX H3 d0 d1 d2 d3 d4 d5 v1 f1
  obtain ⟨d0, d1, d2, d3, d4, d5⟩ := HC.out w4 H4.out.b
  have v3 := H4.out.v.cell 3 _ rfl
  have f3 := H4.out.v.free 3
  go_upto_region 8 with (first | (go_at_call 24; refine (HV2.out _).mono ?_; rintro o q1 ⟨rfl, rfl⟩))
  generalize hX : World.setCell _ _ _ = w5
  have H5 : Hid (mkOd w w5 (odNone now 1 (nv s1) (nv s2) 0 0) (some ⟨w.heap.size + 1 + 1, 0, none⟩, 0, 0)) := by
    show mkOd _ _ _ _
    rw [← hX]
    exact H4.out.setV 3 (.int .i64 (nv s2 : Int)) (odNone now 1 (nv s1) (nv s2) 0 0) rfl rfl
  clear hX H4 d0 d1 d2 d3 d4 d5 v3 f3
  go_wp2_with fail
  refine (HFR.out w5 H5.out.b).mono ?_
  rintro o w6 ⟨h', rfl, hf', hb6⟩
  have H6 := hidYY (H5.out.below hb6)
  have HF6 : Hid (w6.ownsRow w.heap.size 5 1 (hdV h') (datL s5).length (bv (datL s5))) := ownsRow_lower hf' H5.out.b.size
  clear hf' hb6
  go_upto_region 9 with (first | (refine wpList_store_mid (P := Tryz.prog) rfl 65 (.tmp 30) (.tmp 29) rfl (w.heap.size + 1) 4 (l5 (s3.toList == wX) (hv s4) false ((datL s5).length : Int) h').toArray rfl rfl (H6.out.v.there 4 5 (by simp)) sz29 (one5h _ _ _ _ _) ?_; generalize hX : World.setCells _ (w.heap.size + 1) 4 _ = w7; have HX : Hid (World.setCells w6 (w.heap.size + 1) 4 (l5 (s3.toList == wX) (hv s4) false ((datL s5).length : Int) h') = w7) := hX; clear hX))
  have H7 : Hid (mkOd w w7 ⟨now, 1, nv s1, nv s2, (s3.toList == wX), hv s4, false, (datL s5).length, datL s5, 0, 0⟩ h') := by
    show mkOd _ _ _ _
    rw [← HX.out]
    exact H6.out.putF (s3.toList == wX) (hv s4) false (datL s5).length (datL s5) h' HF6.out
  clear HX H6 HF6 H5
  have HDL : Hid (h'.2.1 = (datL s5).length) := by
    rcases ownsRow_shape H7.out.f with ⟨e1, e2⟩ | ⟨g2, k2, e1, _⟩
    · have e3 : h'.2.1 = 0 := by injection e1
      first
        | exact e3
        | exact e3.trans e2.symm
    · injection e1
  have HVF : Hid (∀ V, Calls Tryz.prog 48 #[J.frV (s3.toList == wX) (hv s4) false ((datL s5).length : Int) h'.1 h'.2.1 h'.2.2] V fun o w' => o = .returned (.bool (J.validB (s3.toList == wX) (hv s4) false ((datL s5).length : Int) (datL s5).length)) ∧ Below V.heap.size V w') := fun V => by
    have := J.specValid_any V (s3.toList == wX) (hv s4) false ((datL s5).length : Int) h'.1 h'.2.1 h'.2.2
    rw [HDL.out] at this
    rw [HDL.out]
    exact this
  by_cases ha : nv s2 ≤ 9999
  · have ha' : (nv s2 : Int) ≤ 9999 := by omega
    have HBO : Hid ((decide (nv s2 ≤ 9999) && J.validB (s3.toList == wX) (hv s4) false ((datL s5).length : Int) (datL s5).length) = J.validB (s3.toList == wX) (hv s4) false ((datL s5).length : Int) (datL s5).length) := by show _ = _; simp [ha]
    clear ha
    refine wp_region_held (S := (fun U => blk U (w.heap.size + 1) (odL (⟨now, 1, nv s1, nv s2, (s3.toList == wX), hv s4, false, (datL s5).length, datL s5, 0, 0⟩ : Od) h') 67)) (by kernel_rfl) ?_
    have hS : (fun U => blk U (w.heap.size + 1) (odL (⟨now, 1, nv s1, nv s2, (s3.toList == wX), hv s4, false, (datL s5).length, datL s5, 0, 0⟩ : Od) h') 67) w7.drew := H7.out.v
    refine wpAnyH_take (i := 0) (v := .agg (odL (⟨now, 1, nv s1, nv s2, (s3.toList == wX), hv s4, false, (datL s5).length, datL s5, 0, 0⟩ : Od) h').toArray) rfl (by kernel_rfl) (by kernel_rfl) (by kernel_rfl) (fun _ _ _ h => h) (yieldsIf_load_mid (by rfl) 67 (.tmp 6) rfl (w.heap.size + 1) 0 rfl (odL (⟨now, 1, nv s1, nv s2, (s3.toList == wX), hv s4, false, (datL s5).length, datL s5, 0, 0⟩ : Od) h') _ (fun W h => h.load) Tryz.underlying67 rfl sz67) hS ?_
    simp only [Act.put, List.setIfInBounds_toArray, List.set_cons_zero, List.set_cons_succ, List.getElem_toArray, List.getElem_cons_zero]
    refine wpAnyH_take (i := 1) (v := (.pointer (some ⟨w.heap.size + 1, 3, none⟩))) rfl (by kernel_rfl) (by kernel_rfl) (by kernel_rfl) (fun _ _ _ h => h) (Or.inl ⟨by rfl, ?_⟩) hS ?_
    · intro W hSw
      clear hS
      go_simp
    simp only [Act.put, List.setIfInBounds_toArray, List.set_cons_zero, List.set_cons_succ, List.getElem_toArray, List.getElem_cons_zero, List.getElem_cons_succ]
    refine wpAnyH_take (i := 2) (v := (.int .i64 (nv s2 : Int))) rfl (by kernel_rfl) (by kernel_rfl) (by kernel_rfl) (fun _ _ _ h => h) (Or.inl ⟨by rfl, ?_⟩) hS ?_
    · intro W hSw
      clear hS
      have y3 : W.cell? ⟨w.heap.size + 1, 3, none⟩ = some (.int .i64 (nv s2 : Int)) := hSw.cell 3 _ rfl
      go_simp
    simp only [Act.put, List.setIfInBounds_toArray, List.set_cons_zero, List.set_cons_succ, List.getElem_toArray, List.getElem_cons_zero, List.getElem_cons_succ]
    refine wpAnyH_take (i := 3) (v := (.bool true)) rfl (by kernel_rfl) (by kernel_rfl) (by kernel_rfl) (fun _ _ _ h => h) (Or.inl ⟨by rfl, ?_⟩) hS ?_
    · intro W hSw
      clear hS
      go_simp
    simp only [Act.put, List.setIfInBounds_toArray, List.set_cons_zero, List.set_cons_succ, List.getElem_toArray, List.getElem_cons_zero, List.getElem_cons_succ]
    refine wpAnyH_take (i := 4) (v := (.bool true)) rfl (by kernel_rfl) (by kernel_rfl) (by kernel_rfl) (fun _ _ _ h => h) (Or.inl ⟨by rfl, ?_⟩) hS ?_
    · intro W hSw
      clear hS
      go_simp
    simp only [Act.put, List.setIfInBounds_toArray, List.set_cons_zero, List.set_cons_succ, List.getElem_toArray, List.getElem_cons_zero, List.getElem_cons_succ]
    refine wpAnyH_take (i := 5) (v := (.pointer (some ⟨w.heap.size + 1, 4, none⟩))) rfl (by kernel_rfl) (by kernel_rfl) (by kernel_rfl) (fun _ _ _ h => h) (Or.inl ⟨by rfl, ?_⟩) hS ?_
    · intro W hSw
      clear hS
      go_simp
    simp only [Act.put, List.setIfInBounds_toArray, List.set_cons_zero, List.set_cons_succ, List.getElem_toArray, List.getElem_cons_zero, List.getElem_cons_succ]
    refine wpAnyH_take (i := 6) (v := .agg (l5 (s3.toList == wX) (hv s4) false ((datL s5).length : Int) h').toArray) rfl (by kernel_rfl) (by kernel_rfl) (by kernel_rfl) (fun _ _ _ h => h) (yieldsIf_load_mid (by rfl) 65 (.tmp 36) rfl (w.heap.size + 1) 4 rfl (l5 (s3.toList == wX) (hv s4) false ((datL s5).length : Int) h') _ (fun W h => blk.loadAt [.int .i64 (now : Int), .int .i64 ((1 : Nat) : Int), .int .i64 (nv s1 : Int), .int .i64 (nv s2 : Int)] (l5 (s3.toList == wX) (hv s4) false ((datL s5).length : Int) h') [.int .i64 ((0 : Nat) : Int), .int .i64 ((0 : Nat) : Int)] h) Tryz.underlying65 rfl sz29) hS ?_
    simp only [Act.put, List.setIfInBounds_toArray, List.set_cons_zero, List.set_cons_succ, List.getElem_toArray, List.getElem_cons_zero, List.getElem_cons_succ]
    refine wpAnyH_all (rs := [7]) (by kernel_rfl) (by simp) ?_
    refine AllReadyH.cons rfl (fun K hK => ?_) AllReadyH.nil
    go_simp
    refine (HVF.out _).mono ?_
    rintro o w8 ⟨rfl, hb8⟩
    have H8 := hidYY (H7.out.below ((Below.refl _ _).drew.trans hb8))
    go_wp2_with fail
    refine hK.out _ _ H8.out.v (fun hS2 => ?_)
    clear hS hK K hb8
    have hS := hS2
    clear hS2
    obtain ⟨bv0, hbv0⟩ : ∃ bv0, J.validB (s3.toList == wX) (hv s4) false ((datL s5).length : Int) (datL s5).length = bv0 := ⟨_, rfl⟩
    have HBV := hidYY hbv0
    rw [hbv0]
    clear hbv0
    refine wpAnyH_take (i := 8) (v := (.bool bv0)) rfl (by kernel_rfl) (by kernel_rfl) (by kernel_rfl) (fun _ _ _ h => h) (Or.inl ⟨by rfl, ?_⟩) hS ?_
    · intro W hSw
      clear hS
      go_simp
    simp only [Act.put, List.setIfInBounds_toArray, List.set_cons_zero, List.set_cons_succ, List.getElem_toArray, List.getElem_cons_zero, List.getElem_cons_succ]
    refine wpAnyH_all (rs := [9]) (by kernel_rfl) (by simp) ?_
    refine AllReadyH.cons rfl (fun K hK => ?_) AllReadyH.nil
    refine wp_store_mid (P := Tryz.prog) 67 (.tmp 4) (.tmp 31) rfl w.heap.size 0 (odL (⟨now, 1, nv s1, nv s2, (s3.toList == wX), hv s4, false, (datL s5).length, datL s5, 0, 0⟩ : Od) h').toArray rfl rfl (H8.out.r.there 0 11 (by simp)) sz67 (one67 _ _) ?_
    have HR := hidYY (H8.out.putR (odL (⟨now, 1, nv s1, nv s2, (s3.toList == wX), hv s4, false, (datL s5).length, datL s5, 0, 0⟩ : Od) h') rfl)
    refine hK.out _ _ HR.out.2.2.2 (fun hS3 => ?_)
    clear hS hK K
    have hS := hS3
    clear hS3
    refine wpAnyH_take (i := 10) (v := (.bool bv0)) rfl (by kernel_rfl) (by kernel_rfl) (by kernel_rfl) (fun _ _ _ h => h) (Or.inl ⟨by rfl, ?_⟩) hS ?_
    · intro W hSw
      clear hS
      go_simp
    simp only [Act.put, List.setIfInBounds_toArray, List.set_cons_zero, List.set_cons_succ, List.getElem_toArray, List.getElem_cons_zero, List.getElem_cons_succ]
    refine wpAnyH_done (by kernel_rfl) ?_ _
    clear hS
    go_wp2
    have hL := run_loadVar_mid (P := Tryz.prog) _ w.heap.size 0 67 _ _ HR.out.1.load Tryz.underlying67 rfl sz67
    refine bodyPost_ret (v := .tuple #[.agg (odL (⟨now, 1, nv s1, nv s2, (s3.toList == wX), hv s4, false, (datL s5).length, datL s5, 0, 0⟩ : Od) h').toArray, .bool bv0]) (Kd.results_cell_tmp Tryz.results28 _ _ w.heap.size _ rfl hL) rfl ?_
    exact loP.mk _ (by rw [HBO.out, HBV.out]) HR.out.2.1 HR.out.2.2.1
  · have ha' : ¬ (nv s2 : Int) ≤ 9999 := by omega
    have HBO : Hid ((decide (nv s2 ≤ 9999) && J.validB (s3.toList == wX) (hv s4) false ((datL s5).length : Int) (datL s5).length) = false) := by show _ = _; simp [ha]
    clear ha
    refine wp_region_held (S := (fun U => blk U (w.heap.size + 1) (odL (⟨now, 1, nv s1, nv s2, (s3.toList == wX), hv s4, false, (datL s5).length, datL s5, 0, 0⟩ : Od) h') 67)) (by kernel_rfl) ?_
    have hS : (fun U => blk U (w.heap.size + 1) (odL (⟨now, 1, nv s1, nv s2, (s3.toList == wX), hv s4, false, (datL s5).length, datL s5, 0, 0⟩ : Od) h') 67) w7.drew := H7.out.v
    refine wpAnyH_take (i := 0) (v := .agg (odL (⟨now, 1, nv s1, nv s2, (s3.toList == wX), hv s4, false, (datL s5).length, datL s5, 0, 0⟩ : Od) h').toArray) rfl (by kernel_rfl) (by kernel_rfl) (by kernel_rfl) (fun _ _ _ h => h) (yieldsIf_load_mid (by rfl) 67 (.tmp 6) rfl (w.heap.size + 1) 0 rfl (odL (⟨now, 1, nv s1, nv s2, (s3.toList == wX), hv s4, false, (datL s5).length, datL s5, 0, 0⟩ : Od) h') _ (fun W h => h.load) Tryz.underlying67 rfl sz67) hS ?_
    simp only [Act.put, List.setIfInBounds_toArray, List.set_cons_zero, List.set_cons_succ, List.getElem_toArray, List.getElem_cons_zero]
    refine wpAnyH_take (i := 1) (v := (.pointer (some ⟨w.heap.size + 1, 3, none⟩))) rfl (by kernel_rfl) (by kernel_rfl) (by kernel_rfl) (fun _ _ _ h => h) (Or.inl ⟨by rfl, ?_⟩) hS ?_
    · intro W hSw
      clear hS
      go_simp
    simp only [Act.put, List.setIfInBounds_toArray, List.set_cons_zero, List.set_cons_succ, List.getElem_toArray, List.getElem_cons_zero, List.getElem_cons_succ]
    refine wpAnyH_take (i := 2) (v := (.int .i64 (nv s2 : Int))) rfl (by kernel_rfl) (by kernel_rfl) (by kernel_rfl) (fun _ _ _ h => h) (Or.inl ⟨by rfl, ?_⟩) hS ?_
    · intro W hSw
      clear hS
      have y3 : W.cell? ⟨w.heap.size + 1, 3, none⟩ = some (.int .i64 (nv s2 : Int)) := hSw.cell 3 _ rfl
      go_simp
    simp only [Act.put, List.setIfInBounds_toArray, List.set_cons_zero, List.set_cons_succ, List.getElem_toArray, List.getElem_cons_zero, List.getElem_cons_succ]
    refine wpAnyH_take (i := 3) (v := (.bool false)) rfl (by kernel_rfl) (by kernel_rfl) (by kernel_rfl) (fun _ _ _ h => h) (Or.inl ⟨by rfl, ?_⟩) hS ?_
    · intro W hSw
      clear hS
      go_simp
    simp only [Act.put, List.setIfInBounds_toArray, List.set_cons_zero, List.set_cons_succ, List.getElem_toArray, List.getElem_cons_zero, List.getElem_cons_succ]
    refine wpAnyH_take (i := 4) (v := (.bool false)) rfl (by kernel_rfl) (by kernel_rfl) (by kernel_rfl) (fun _ _ _ h => h) (Or.inl ⟨by rfl, ?_⟩) hS ?_
    · intro W hSw
      clear hS
      go_simp
    simp only [Act.put, List.setIfInBounds_toArray, List.set_cons_zero, List.set_cons_succ, List.getElem_toArray, List.getElem_cons_zero, List.getElem_cons_succ]
    refine wpAnyH_take (i := 5) (v := undef) rfl (by kernel_rfl) (by kernel_rfl) (by kernel_rfl) (fun _ _ _ h => h) (Or.inr ⟨by rfl, rfl⟩) hS ?_
    simp only [Act.put, List.setIfInBounds_toArray, List.set_cons_zero, List.set_cons_succ, List.getElem_toArray, List.getElem_cons_zero, List.getElem_cons_succ]
    refine wpAnyH_take (i := 6) (v := undef) rfl (by kernel_rfl) (by kernel_rfl) (by kernel_rfl) (fun _ _ _ h => h) (Or.inr ⟨by rfl, rfl⟩) hS ?_
    simp only [Act.put, List.setIfInBounds_toArray, List.set_cons_zero, List.set_cons_succ, List.getElem_toArray, List.getElem_cons_zero, List.getElem_cons_succ]
    refine wpAnyH_take (i := 7) (v := undef) rfl (by kernel_rfl) (by kernel_rfl) (by kernel_rfl) (fun _ _ _ h => h) (Or.inr ⟨by rfl, rfl⟩) hS ?_
    simp only [Act.put, List.setIfInBounds_toArray, List.set_cons_zero, List.set_cons_succ, List.getElem_toArray, List.getElem_cons_zero, List.getElem_cons_succ]
    refine wpAnyH_take (i := 8) (v := (.bool false)) rfl (by kernel_rfl) (by kernel_rfl) (by kernel_rfl) (fun _ _ _ h => h) (Or.inl ⟨by rfl, ?_⟩) hS ?_
    · intro W hSw
      clear hS
      go_simp
    simp only [Act.put, List.setIfInBounds_toArray, List.set_cons_zero, List.set_cons_succ, List.getElem_toArray, List.getElem_cons_zero, List.getElem_cons_succ]
    have H7d := hidYY (H7.out.below (Below.refl _ _).drew)
    refine wpAnyH_all (rs := [9]) (by kernel_rfl) (by simp) ?_
    refine AllReadyH.cons rfl (fun K hK => ?_) AllReadyH.nil
    refine wp_store_mid (P := Tryz.prog) 67 (.tmp 4) (.tmp 31) rfl w.heap.size 0 (odL (⟨now, 1, nv s1, nv s2, (s3.toList == wX), hv s4, false, (datL s5).length, datL s5, 0, 0⟩ : Od) h').toArray rfl rfl (H7d.out.r.there 0 11 (by simp)) sz67 (one67 _ _) ?_
    have HR := hidYY (H7d.out.putR (odL (⟨now, 1, nv s1, nv s2, (s3.toList == wX), hv s4, false, (datL s5).length, datL s5, 0, 0⟩ : Od) h') rfl)
    refine hK.out _ _ HR.out.2.2.2 (fun hS3 => ?_)
    clear hS hK K
    have hS := hS3
    clear hS3
    refine wpAnyH_take (i := 10) (v := (.bool false)) rfl (by kernel_rfl) (by kernel_rfl) (by kernel_rfl) (fun _ _ _ h => h) (Or.inl ⟨by rfl, ?_⟩) hS ?_
    · intro W hSw
      clear hS
      go_simp
    simp only [Act.put, List.setIfInBounds_toArray, List.set_cons_zero, List.set_cons_succ, List.getElem_toArray, List.getElem_cons_zero, List.getElem_cons_succ]
    refine wpAnyH_done (by kernel_rfl) ?_ _
    clear hS
    go_wp2
    have hL := run_loadVar_mid (P := Tryz.prog) _ w.heap.size 0 67 _ _ HR.out.1.load Tryz.underlying67 rfl sz67
    refine bodyPost_ret (v := .tuple #[.agg (odL (⟨now, 1, nv s1, nv s2, (s3.toList == wX), hv s4, false, (datL s5).length, datL s5, 0, 0⟩ : Od) h').toArray, .bool false]) (Kd.results_cell_tmp Tryz.results28 _ _ w.heap.size _ rfl hL) rfl ?_
    exact loP.mk _ (by rw [HBO.out]) HR.out.2.1 HR.out.2.2.1
end Go.Proofs.YtfbeaekddgpmmaaGreatDoor
