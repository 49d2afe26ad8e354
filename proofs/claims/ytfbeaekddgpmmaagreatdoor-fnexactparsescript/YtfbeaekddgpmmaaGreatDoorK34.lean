import Derived.Test.YtfbeaekddgpmmaaGreatDoorK29
import Derived.Test.YtfbeaekddgpmmaaGreatDoorK26
import Derived.Test.YtfbeaekddgpmmaaGreatDoorK33
import Derived.Test.YtfbeaekddgpmmaaGreatDoorK24
import Derived.Test.YtfbeaekddgpmmaaGreatDoorK13
import Derived.Test.YtfbeaekddgpmmaaGreatDoorK28
namespace Go.Proofs.YtfbeaekddgpmmaaGreatDoor
open Go.RowKit Kd
set_option linter.unusedVariables false
abbrev z11' : List Value := [.int .i64 0, .int .i64 0, .int .i64 0, .int .i64 0, .bool false, .int .u32 0, .bool false, .int .i64 0, .slice none 0 0, .int .i64 0, .int .i64 0]
/-- the order that is being made: the result's block, the variable's, its bytes -/
structure mkOd (w W : World) (x : Od) (h : Hd) : Prop where
  r : blk W w.heap.size z11' 67
  v : blk W (w.heap.size + 1) (odL x h) 67
  f : W.ownsRow w.heap.size 5 1 (hdV h) x.d.length (bv x.d)
  b : Below w.heap.size w W
theorem mkOd.below {w W U : World} {x : Od} {h : Hd} (H : mkOd w W x h) (hb : Below W.heap.size W U) : mkOd w U x h :=
  ⟨H.r.below hb, H.v.below hb, (Ky.of (S := []) hb (Nat.le_refl _)).row H.f (by simp), H.b.trans (hb.mono H.b.size)⟩
theorem mkOd.setV {w W : World} {x : Od} {h : Hd} (H : mkOd w W x h) (o : Nat) (v : Value) (x' : Od) (he : (odL x h).set o v = odL x' h) (hd : x'.d = x.d) : mkOd w (W.setCell ⟨w.heap.size + 1, o, none⟩ v) x' h := by
  have k : Ky [67] w.heap.size W (W.setCell ⟨w.heap.size + 1, o, none⟩ v) := (Ky.refl _ _ _).setCell _ _ _ (by omega) ⟨_, _, _, H.v, by simp⟩
  refine ⟨H.r.setOther (by omega) o v, he ▸ H.v.set o v, ?_, H.b.trans k.low⟩
  rw [hd]
  exact k.row H.f (by decide)
theorem mkOd.putR {w W : World} {x : Od} {h : Hd} (H : mkOd w W x h) (vs : List Value) (hl : vs.length = 11) : blk (W.setCells w.heap.size 0 vs) w.heap.size vs 67 ∧ (W.setCells w.heap.size 0 vs).ownsRow w.heap.size 5 1 (hdV h) x.d.length (bv x.d) ∧ Below w.heap.size w (W.setCells w.heap.size 0 vs) ∧ blk (W.setCells w.heap.size 0 vs) (w.heap.size + 1) (odL x h) 67 := by
  have k : Ky [67] w.heap.size W (W.setCells w.heap.size 0 vs) := (Ky.refl _ _ _).setCells _ _ _ (Nat.le_refl _) ⟨_, _, _, H.r, by simp⟩
  exact ⟨blk_all H.r (by rw [hl]; rfl), k.row H.f (by decide), H.b.trans k.low, H.v.other (by omega) 0 vs⟩
theorem one67 (x : Od) (h : Hd) : (odL x h).toArray.all (·.oneCell') = true := all_oneCell_toArray (one11 x h)
/-- what l6order answers -/
def loP (w : World) (x : Od) (b : Bool) (o : Ending) (w' : World) : Prop := ∃ h : Hd, o = .returned (.tuple #[.agg (odL x h).toArray, .bool b]) ∧ w'.ownsRow w.heap.size 5 1 (hdV h) x.d.length (bv x.d) ∧ Below w.heap.size w w'
theorem loP.mk {w : World} {x : Od} {b : Bool} {o : Ending} {w' : World} (h : Hd) (h1 : o = .returned (.tuple #[.agg (odL x h).toArray, .bool b])) (h2 : w'.ownsRow w.heap.size 5 1 (hdV h) x.d.length (bv x.d)) (h3 : Below w.heap.size w w') : loP w x b o w' := ⟨h, h1, h2, h3⟩
theorem mkOd.zero (w : World) (t n : Nat) : mkOd w (((w.alloc (.cells z11'.toArray 67)).alloc (.cells (odL (odNone t 0 n 0 0 0) (some ⟨w.heap.size + 1 + 1, 0, none⟩, 0, 0)).toArray 67)).alloc (.cells #[] 5)) (odNone t 0 n 0 0 0) (some ⟨w.heap.size + 1 + 1, 0, none⟩, 0, 0) := by
  refine ⟨((blk.new w z11' 67).alloc _).alloc _, ?_, ?_, (((Below.refl _ _).alloc (Nat.le_refl _) _).alloc (by simp) _).alloc (by simp; omega) _⟩
  · have := (blk.new (w.alloc (.cells z11'.toArray 67)) (odL (odNone t 0 n 0 0 0) (some ⟨w.heap.size + 1 + 1, 0, none⟩, 0, 0)) 67).alloc (.cells #[] 5)
    have e : (w.alloc (.cells z11'.toArray 67)).heap.size = w.heap.size + 1 := by simp
    rw [e] at this
    exact this
  · have := World.ownsRow_made (base := w.heap.size) (e := 5) (size := 1) ((w.alloc (.cells z11'.toArray 67)).alloc (.cells (odL (odNone t 0 n 0 0 0) (some ⟨w.heap.size + 1 + 1, 0, none⟩, 0, 0)).toArray 67)) #[] 0 (by simp; omega) (by decide) (by simp)
    simpa [bv, odNone] using this
set_option maxHeartbeats 4000000 in
set_option maxRecDepth 20000 in
theorem order_drop (g cp now : Nat) (s0 s1 s2 : ByteArray) (w : World) (c0 : w.cell? ⟨g, 0, none⟩ = some (.string s0)) (c1 : w.cell? ⟨g, 1, none⟩ = some (.string s1)) (c2 : w.cell? ⟨g, 2, none⟩ = some (.string s2)) (h1 : s1.size ≤ 8) (h2 : s2.size ≤ 8) (hs0 : s0.toList = wDrop) :
    Calls Tryz.prog 28 #[.slice (some ⟨g, 0, none⟩) 3 cp, .int .i64 (now : Int)] w (loP w (odNone now 2 (nv s1) (nv s2) 0 0) (decide (nv s2 ≤ 9999))) := by
  have hgl : g < w.heap.size := World.block_lt_of_cell? w _ c0
  have HV1 := hidYY (fun w => value_any s1 10 (by decide) h1 w)
  rw [show (valN (lt s1) 10 : Int) = (nv s1 : Int) from rfl] at HV1
  have HV2 := hidYY (fun w => value_any s2 10 (by decide) h2 w)
  rw [show (valN (lt s2) 10 : Int) = (nv s2 : Int) from rfl] at HV2
  have HC : Hid (∀ V, Below w.heap.size w V → V.cell? ⟨g, 0, none⟩ = some (.string s0) ∧ V.cell? ⟨g, 1, none⟩ = some (.string s1) ∧ V.cell? ⟨g, 2, none⟩ = some (.string s2)) := fun V hV => ⟨(hV.cell hgl).trans c0, (hV.cell hgl).trans c1, (hV.cell hgl).trans c2⟩
  clear c0 c1 c2 h1 h2
  have b_send : (s0.toList == wSend) = false := by rw [hs0]; decide
  have b_ask : (s0.toList == wAsk) = false := by rw [hs0]; decide
  have b_drop : (s0.toList == wDrop) = true := by rw [hs0]; decide
  have b_restart : (s0.toList == wRestart) = false := by rw [hs0]; decide
  have b_fetch : (s0.toList == wFetch) = false := by rw [hs0]; decide
  have b_flip : (s0.toList == wFlip) = false := by rw [hs0]; decide
  have H0 := hidYY (mkOd.zero w now (nv s1))
  have HZ := hidYY (blk.new (w.alloc (.cells z11'.toArray 67)) z11' 67)
  have hbz : Below w.heap.size w (w.alloc (.cells z11'.toArray 67)) := (Below.refl _ _).alloc (Nat.le_refl _) _
  obtain ⟨d0, d1, d2⟩ := HC.out _ hbz
  clear hbz hs0
  go_enter Tryz.func28, Tryz.ntmps28
  go_upto_region 3 with (first | (go_at_call 24; refine (HV1.out _).mono ?_; rintro o q1 ⟨rfl, rfl⟩))
  generalize hX : World.alloc _ _ = w3
  have H3 : Hid (mkOd w w3 (odNone now 0 (nv s1) 0 0 0) (some ⟨w.heap.size + 1 + 1, 0, none⟩, 0, 0)) := by
    show mkOd _ _ _ _
    rw [← hX]
    exact H0.out
  clear hX H0 HZ
  clear d0 d1 d2
  obtain ⟨d0, d1, d2⟩ := HC.out w3 H3.out.b
  have v1 := H3.out.v.cell 1 _ rfl
  have f1 := H3.out.v.free 1
  go_upto_region 12 with fail
  generalize hX : World.setCell _ _ _ = w4
  have H4 : Hid (mkOd w w4 (odNone now 2 (nv s1) 0 0 0) (some ⟨w.heap.size + 1 + 1, 0, none⟩, 0, 0)) := by
    show mkOd _ _ _ _
    rw [← hX]
    exact H3.out.setV 1 (.int .i64 2) (odNone now 2 (nv s1) 0 0 0) rfl rfl
  clear hX H3 d0 d1 d2 v1 f1
  obtain ⟨d0, d1, d2⟩ := HC.out w4 H4.out.b
  have v3 := H4.out.v.cell 3 _ rfl
  have f3 := H4.out.v.free 3
  go_upto_region 13 with (first | (go_at_call 24; refine (HV2.out _).mono ?_; rintro o q1 ⟨rfl, rfl⟩))
  generalize hX : World.setCell _ _ _ = w5
  have H5 : Hid (mkOd w w5 (odNone now 2 (nv s1) (nv s2) 0 0) (some ⟨w.heap.size + 1 + 1, 0, none⟩, 0, 0)) := by
    show mkOd _ _ _ _
    rw [← hX]
    exact H4.out.setV 3 (.int .i64 (nv s2 : Int)) (odNone now 2 (nv s1) (nv s2) 0 0) rfl rfl
  clear hX H4 d0 d1 d2 v3 f3
  obtain ⟨bo, hbo⟩ : ∃ bo, decide (nv s2 ≤ 9999) = bo := ⟨_, rfl⟩
  have hbo' : decide ((nv s2 : Int) ≤ 9999) = bo := by rw [← hbo]; apply decide_eq_decide.2; omega
  have HBO := hidYY hbo
  rw [hbo]
  clear hbo
  refine wp_region_held (S := (fun U => blk U (w.heap.size + 1) (odL (odNone now 2 (nv s1) (nv s2) 0 0) (some ⟨w.heap.size + 1 + 1, 0, none⟩, 0, 0)) 67)) (by kernel_rfl) ?_
  have hS : (fun U => blk U (w.heap.size + 1) (odL (odNone now 2 (nv s1) (nv s2) 0 0) (some ⟨w.heap.size + 1 + 1, 0, none⟩, 0, 0)) 67) w5.drew := H5.out.v
  refine wpAnyH_take (i := 0) (v := .agg (odL (odNone now 2 (nv s1) (nv s2) 0 0) (some ⟨w.heap.size + 1 + 1, 0, none⟩, 0, 0)).toArray) rfl (by kernel_rfl) (by kernel_rfl) (by kernel_rfl) (fun _ _ _ h => h) (yieldsIf_load_mid (by rfl) 67 (.tmp 6) rfl (w.heap.size + 1) 0 rfl (odL (odNone now 2 (nv s1) (nv s2) 0 0) (some ⟨w.heap.size + 1 + 1, 0, none⟩, 0, 0)) _ (fun W h => h.load) Tryz.underlying67 rfl sz67) hS ?_
  simp only [Act.put, List.setIfInBounds_toArray, List.set_cons_zero, List.set_cons_succ, List.getElem_toArray, List.getElem_cons_zero]
  refine wpAnyH_take (i := 1) (v := (.pointer (some ⟨w.heap.size + 1, 3, none⟩))) rfl (by kernel_rfl) (by kernel_rfl) (by kernel_rfl) (fun _ _ _ h => h) (Or.inl ⟨by rfl, ?_⟩) hS ?_
  · intro W hSw
    clear hS
    go_simp
  simp only [Act.put, List.setIfInBounds_toArray, List.set_cons_zero, List.set_cons_succ, List.getElem_toArray, List.getElem_cons_zero, List.getElem_cons_succ]
  refine wpAnyH_take (i := 2) (v := (.int .i64 (nv s2 : Int))) rfl (by kernel_rfl) (by kernel_rfl) (by kernel_rfl) (fun _ _ _ h => h) (Or.inl ⟨by rfl, ?_⟩) hS ?_
  · intro W hSw
    clear hS
    have y3 : W.cell? ⟨w.heap.size + 1, 3, none⟩ = some (.int .i64 (nv s2 : Int)) := hSw.cell 3 _ rfl
    go_simp
  simp only [Act.put, List.setIfInBounds_toArray, List.set_cons_zero, List.set_cons_succ, List.getElem_toArray, List.getElem_cons_zero, List.getElem_cons_succ]
  refine wpAnyH_take (i := 3) (v := (.bool bo)) rfl (by kernel_rfl) (by kernel_rfl) (by kernel_rfl) (fun _ _ _ h => h) (Or.inl ⟨by rfl, ?_⟩) hS ?_
  · intro W hSw
    clear hS
    go_simp
  simp only [Act.put, List.setIfInBounds_toArray, List.set_cons_zero, List.set_cons_succ, List.getElem_toArray, List.getElem_cons_zero, List.getElem_cons_succ]
  have H5d := hidYY (H5.out.below (Below.refl _ _).drew)
  refine wpAnyH_all (rs := [4]) (by kernel_rfl) (by simp) ?_
  refine AllReadyH.cons rfl (fun K hK => ?_) AllReadyH.nil
  refine wp_store_mid (P := Tryz.prog) 67 (.tmp 4) (.tmp 48) rfl w.heap.size 0 (odL (odNone now 2 (nv s1) (nv s2) 0 0) (some ⟨w.heap.size + 1 + 1, 0, none⟩, 0, 0)).toArray rfl rfl (H5d.out.r.there 0 11 (by simp)) sz67 (one67 _ _) ?_
  have HR := hidYY (H5d.out.putR (odL (odNone now 2 (nv s1) (nv s2) 0 0) (some ⟨w.heap.size + 1 + 1, 0, none⟩, 0, 0)) rfl)
  refine hK.out _ _ HR.out.2.2.2 (fun hS3 => ?_)
  clear hS hK K
  have hS := hS3
  clear hS3
  refine wpAnyH_take (i := 5) (v := (.bool bo)) rfl (by kernel_rfl) (by kernel_rfl) (by kernel_rfl) (fun _ _ _ h => h) (Or.inl ⟨by rfl, ?_⟩) hS ?_
  · intro W hSw
    clear hS
    go_simp
  simp only [Act.put, List.setIfInBounds_toArray, List.set_cons_zero, List.set_cons_succ, List.getElem_toArray, List.getElem_cons_zero, List.getElem_cons_succ]
  refine wpAnyH_done (by kernel_rfl) ?_ _
  clear hS
  go_wp2
  have hL := run_loadVar_mid (P := Tryz.prog) _ w.heap.size 0 67 _ _ HR.out.1.load Tryz.underlying67 rfl sz67
  refine bodyPost_ret (v := .tuple #[.agg (odL (odNone now 2 (nv s1) (nv s2) 0 0) (some ⟨w.heap.size + 1 + 1, 0, none⟩, 0, 0)).toArray, .bool bo]) (Kd.results_cell_tmp Tryz.results28 _ _ w.heap.size _ rfl hL) rfl ?_
  exact loP.mk _ (by rw [HBO.out]) HR.out.2.1 HR.out.2.2.1
set_option maxHeartbeats 4000000 in
set_option maxRecDepth 20000 in
theorem order_restart (g cp now : Nat) (s0 s1 : ByteArray) (w : World) (c0 : w.cell? ⟨g, 0, none⟩ = some (.string s0)) (c1 : w.cell? ⟨g, 1, none⟩ = some (.string s1)) (h1 : s1.size ≤ 8) (hs0 : s0.toList = wRestart) :
    Calls Tryz.prog 28 #[.slice (some ⟨g, 0, none⟩) 2 cp, .int .i64 (now : Int)] w (loP w (odNone now 3 (nv s1) 0 0 0) true) := by
  have hgl : g < w.heap.size := World.block_lt_of_cell? w _ c0
  have HV1 := hidYY (fun w => value_any s1 10 (by decide) h1 w)
  rw [show (valN (lt s1) 10 : Int) = (nv s1 : Int) from rfl] at HV1
  have HC : Hid (∀ V, Below w.heap.size w V → V.cell? ⟨g, 0, none⟩ = some (.string s0) ∧ V.cell? ⟨g, 1, none⟩ = some (.string s1)) := fun V hV => ⟨(hV.cell hgl).trans c0, (hV.cell hgl).trans c1⟩
  clear c0 c1 h1
  have b_send : (s0.toList == wSend) = false := by rw [hs0]; decide
  have b_ask : (s0.toList == wAsk) = false := by rw [hs0]; decide
  have b_drop : (s0.toList == wDrop) = false := by rw [hs0]; decide
  have b_restart : (s0.toList == wRestart) = true := by rw [hs0]; decide
  have b_fetch : (s0.toList == wFetch) = false := by rw [hs0]; decide
  have b_flip : (s0.toList == wFlip) = false := by rw [hs0]; decide
  have H0 := hidYY (mkOd.zero w now (nv s1))
  have HZ := hidYY (blk.new (w.alloc (.cells z11'.toArray 67)) z11' 67)
  have hbz : Below w.heap.size w (w.alloc (.cells z11'.toArray 67)) := (Below.refl _ _).alloc (Nat.le_refl _) _
  obtain ⟨d0, d1⟩ := HC.out _ hbz
  clear hbz hs0
  go_enter Tryz.func28, Tryz.ntmps28
  go_upto_region 3 with (first | (go_at_call 24; refine (HV1.out _).mono ?_; rintro o q1 ⟨rfl, rfl⟩))
  generalize hX : World.alloc _ _ = w3
  have H3 : Hid (mkOd w w3 (odNone now 0 (nv s1) 0 0 0) (some ⟨w.heap.size + 1 + 1, 0, none⟩, 0, 0)) := by
    show mkOd _ _ _ _
    rw [← hX]
    exact H0.out
  clear hX H0 HZ
  clear d0 d1
  obtain ⟨d0, d1⟩ := HC.out w3 H3.out.b
  have v1 := H3.out.v.cell 1 _ rfl
  have f1 := H3.out.v.free 1
  go_upto_region 23 with fail
  generalize hX : World.setCell _ _ _ = w4
  have H4 : Hid (mkOd w w4 (odNone now 3 (nv s1) 0 0 0) (some ⟨w.heap.size + 1 + 1, 0, none⟩, 0, 0)) := by
    show mkOd _ _ _ _
    rw [← hX]
    exact H3.out.setV 1 (.int .i64 3) (odNone now 3 (nv s1) 0 0 0) rfl rfl
  clear hX H3 d0 d1 v1 f1
  go_wp2_with (first
    | (refine wpList_load_mid (P := Tryz.prog) rfl 67 (.tmp 6) rfl (w.heap.size + 1) 0 rfl (odL (odNone now 3 (nv s1) 0 0 0) (some ⟨w.heap.size + 1 + 1, 0, none⟩, 0, 0)) _ H4.out.v.load Tryz.underlying67 rfl sz67 ?_)
    | (refine wpList_store_mid (P := Tryz.prog) rfl 67 (.tmp 4) (.tmp 84) rfl w.heap.size 0 (odL (odNone now 3 (nv s1) 0 0 0) (some ⟨w.heap.size + 1 + 1, 0, none⟩, 0, 0)).toArray rfl rfl (H4.out.r.there 0 11 (by simp)) sz67 (one67 _ _) ?_; generalize hX : World.setCells _ w.heap.size 0 _ = w9; have HX : Hid (World.setCells w4 w.heap.size 0 (odL (odNone now 3 (nv s1) 0 0 0) (some ⟨w.heap.size + 1 + 1, 0, none⟩, 0, 0)) = w9) := hX; clear hX))
  have HR := hidYY (H4.out.putR (odL (odNone now 3 (nv s1) 0 0 0) (some ⟨w.heap.size + 1 + 1, 0, none⟩, 0, 0)) rfl)
  rw [HX.out] at HR
  have hL := run_loadVar_mid (P := Tryz.prog) _ w.heap.size 0 67 _ _ HR.out.1.load Tryz.underlying67 rfl sz67
  refine bodyPost_ret (v := .tuple #[.agg (odL (odNone now 3 (nv s1) 0 0 0) (some ⟨w.heap.size + 1 + 1, 0, none⟩, 0, 0)).toArray, .bool true]) (Kd.results_cell_tmp Tryz.results28 _ _ w.heap.size _ rfl hL) rfl ?_
  exact loP.mk _ rfl HR.out.2.1 HR.out.2.2.1
set_option maxHeartbeats 4000000 in
set_option maxRecDepth 20000 in
theorem order_fetch (g cp now : Nat) (s0 s1 : ByteArray) (w : World) (c0 : w.cell? ⟨g, 0, none⟩ = some (.string s0)) (c1 : w.cell? ⟨g, 1, none⟩ = some (.string s1)) (h1 : s1.size ≤ 8) (hs0 : s0.toList = wFetch) :
    Calls Tryz.prog 28 #[.slice (some ⟨g, 0, none⟩) 2 cp, .int .i64 (now : Int)] w (loP w (odNone now 4 (nv s1) 0 0 0) true) := by
  have hgl : g < w.heap.size := World.block_lt_of_cell? w _ c0
  have HV1 := hidYY (fun w => value_any s1 10 (by decide) h1 w)
  rw [show (valN (lt s1) 10 : Int) = (nv s1 : Int) from rfl] at HV1
  have HC : Hid (∀ V, Below w.heap.size w V → V.cell? ⟨g, 0, none⟩ = some (.string s0) ∧ V.cell? ⟨g, 1, none⟩ = some (.string s1)) := fun V hV => ⟨(hV.cell hgl).trans c0, (hV.cell hgl).trans c1⟩
  clear c0 c1 h1
  have b_send : (s0.toList == wSend) = false := by rw [hs0]; decide
  have b_ask : (s0.toList == wAsk) = false := by rw [hs0]; decide
  have b_drop : (s0.toList == wDrop) = false := by rw [hs0]; decide
  have b_restart : (s0.toList == wRestart) = false := by rw [hs0]; decide
  have b_fetch : (s0.toList == wFetch) = true := by rw [hs0]; decide
  have b_flip : (s0.toList == wFlip) = false := by rw [hs0]; decide
  have H0 := hidYY (mkOd.zero w now (nv s1))
  have HZ := hidYY (blk.new (w.alloc (.cells z11'.toArray 67)) z11' 67)
  have hbz : Below w.heap.size w (w.alloc (.cells z11'.toArray 67)) := (Below.refl _ _).alloc (Nat.le_refl _) _
  obtain ⟨d0, d1⟩ := HC.out _ hbz
  clear hbz hs0
  go_enter Tryz.func28, Tryz.ntmps28
  go_upto_region 3 with (first | (go_at_call 24; refine (HV1.out _).mono ?_; rintro o q1 ⟨rfl, rfl⟩))
  generalize hX : World.alloc _ _ = w3
  have H3 : Hid (mkOd w w3 (odNone now 0 (nv s1) 0 0 0) (some ⟨w.heap.size + 1 + 1, 0, none⟩, 0, 0)) := by
    show mkOd _ _ _ _
    rw [← hX]
    exact H0.out
  clear hX H0 HZ
  clear d0 d1
  obtain ⟨d0, d1⟩ := HC.out w3 H3.out.b
  have v1 := H3.out.v.cell 1 _ rfl
  have f1 := H3.out.v.free 1
  go_upto_region 23 with fail
  generalize hX : World.setCell _ _ _ = w4
  have H4 : Hid (mkOd w w4 (odNone now 4 (nv s1) 0 0 0) (some ⟨w.heap.size + 1 + 1, 0, none⟩, 0, 0)) := by
    show mkOd _ _ _ _
    rw [← hX]
    exact H3.out.setV 1 (.int .i64 4) (odNone now 4 (nv s1) 0 0 0) rfl rfl
  clear hX H3 d0 d1 v1 f1
  go_wp2_with (first
    | (refine wpList_load_mid (P := Tryz.prog) rfl 67 (.tmp 6) rfl (w.heap.size + 1) 0 rfl (odL (odNone now 4 (nv s1) 0 0 0) (some ⟨w.heap.size + 1 + 1, 0, none⟩, 0, 0)) _ H4.out.v.load Tryz.underlying67 rfl sz67 ?_)
    | (refine wpList_store_mid (P := Tryz.prog) rfl 67 (.tmp 4) (.tmp 84) rfl w.heap.size 0 (odL (odNone now 4 (nv s1) 0 0 0) (some ⟨w.heap.size + 1 + 1, 0, none⟩, 0, 0)).toArray rfl rfl (H4.out.r.there 0 11 (by simp)) sz67 (one67 _ _) ?_; generalize hX : World.setCells _ w.heap.size 0 _ = w9; have HX : Hid (World.setCells w4 w.heap.size 0 (odL (odNone now 4 (nv s1) 0 0 0) (some ⟨w.heap.size + 1 + 1, 0, none⟩, 0, 0)) = w9) := hX; clear hX))
  have HR := hidYY (H4.out.putR (odL (odNone now 4 (nv s1) 0 0 0) (some ⟨w.heap.size + 1 + 1, 0, none⟩, 0, 0)) rfl)
  rw [HX.out] at HR
  have hL := run_loadVar_mid (P := Tryz.prog) _ w.heap.size 0 67 _ _ HR.out.1.load Tryz.underlying67 rfl sz67
  refine bodyPost_ret (v := .tuple #[.agg (odL (odNone now 4 (nv s1) 0 0 0) (some ⟨w.heap.size + 1 + 1, 0, none⟩, 0, 0)).toArray, .bool true]) (Kd.results_cell_tmp Tryz.results28 _ _ w.heap.size _ rfl hL) rfl ?_
  exact loP.mk _ rfl HR.out.2.1 HR.out.2.2.1
set_option maxHeartbeats 4000000 in
set_option maxRecDepth 20000 in
theorem order_flip (g cp now : Nat) (s0 s1 s2 s3 : ByteArray) (w : World) (c0 : w.cell? ⟨g, 0, none⟩ = some (.string s0)) (c1 : w.cell? ⟨g, 1, none⟩ = some (.string s1)) (c2 : w.cell? ⟨g, 2, none⟩ = some (.string s2)) (c3 : w.cell? ⟨g, 3, none⟩ = some (.string s3)) (h1 : s1.size ≤ 8) (h2 : s2.size ≤ 8) (h3 : s3.size ≤ 8) (hs0 : s0.toList = wFlip) (hnow : now ≤ 6000) (hn2 : nv s2 < 1000000) :
    Calls Tryz.prog 28 #[.slice (some ⟨g, 0, none⟩) 4 cp, .int .i64 (now : Int)] w (loP w (odNone now 5 (nv s1) 0 (now + nv s2) (nv s3)) (decide (nv s2 ≤ 6000) && decide (nv s3 ≤ 6000))) := by
  have hgl : g < w.heap.size := World.block_lt_of_cell? w _ c0
  have HV1 := hidYY (fun w => value_any s1 10 (by decide) h1 w)
  rw [show (valN (lt s1) 10 : Int) = (nv s1 : Int) from rfl] at HV1
  have HV2 := hidYY (fun w => value_any s2 10 (by decide) h2 w)
  rw [show (valN (lt s2) 10 : Int) = (nv s2 : Int) from rfl] at HV2
  have HV3 := hidYY (fun w => value_any s3 10 (by decide) h3 w)
  rw [show (valN (lt s3) 10 : Int) = (nv s3 : Int) from rfl] at HV3
  have HC : Hid (∀ V, Below w.heap.size w V → V.cell? ⟨g, 0, none⟩ = some (.string s0) ∧ V.cell? ⟨g, 1, none⟩ = some (.string s1) ∧ V.cell? ⟨g, 2, none⟩ = some (.string s2) ∧ V.cell? ⟨g, 3, none⟩ = some (.string s3)) := fun V hV => ⟨(hV.cell hgl).trans c0, (hV.cell hgl).trans c1, (hV.cell hgl).trans c2, (hV.cell hgl).trans c3⟩
  clear c0 c1 c2 c3 h1 h2 h3
  have b_send : (s0.toList == wSend) = false := by rw [hs0]; decide
  have b_ask : (s0.toList == wAsk) = false := by rw [hs0]; decide
  have b_drop : (s0.toList == wDrop) = false := by rw [hs0]; decide
  have b_restart : (s0.toList == wRestart) = false := by rw [hs0]; decide
  have b_fetch : (s0.toList == wFetch) = false := by rw [hs0]; decide
  have b_flip : (s0.toList == wFlip) = true := by rw [hs0]; decide
  have H0 := hidYY (mkOd.zero w now (nv s1))
  have HZ := hidYY (blk.new (w.alloc (.cells z11'.toArray 67)) z11' 67)
  have hbz : Below w.heap.size w (w.alloc (.cells z11'.toArray 67)) := (Below.refl _ _).alloc (Nat.le_refl _) _
  obtain ⟨d0, d1, d2, d3⟩ := HC.out _ hbz
  clear hbz hs0
  go_enter Tryz.func28, Tryz.ntmps28
  go_upto_region 3 with (first | (go_at_call 24; refine (HV1.out _).mono ?_; rintro o q1 ⟨rfl, rfl⟩))
  generalize hX : World.alloc _ _ = w3
  have H3 : Hid (mkOd w w3 (odNone now 0 (nv s1) 0 0 0) (some ⟨w.heap.size + 1 + 1, 0, none⟩, 0, 0)) := by
    show mkOd _ _ _ _
    rw [← hX]
    exact H0.out
  clear hX H0 HZ
  clear d0 d1 d2 d3
  have hwA : IntKind.i64.wrap ((now : Int) + (nv s2 : Int)) = (now : Int) + (nv s2 : Int) := i64_wrap _ (by omega) (by omega)
  obtain ⟨d0, d1, d2, d3⟩ := HC.out w3 H3.out.b
  have v1 := H3.out.v.cell 1 _ rfl
  have f1 := H3.out.v.free 1
  go_upto_region 20 with fail
  generalize hX : World.setCell _ _ _ = w4
  have H4 : Hid (mkOd w w4 (odNone now 5 (nv s1) 0 0 0) (some ⟨w.heap.size + 1 + 1, 0, none⟩, 0, 0)) := by
    show mkOd _ _ _ _
    rw [← hX]
    exact H3.out.setV 1 (.int .i64 5) (odNone now 5 (nv s1) 0 0 0) rfl rfl
  clear hX H3 d0 d1 d2 d3 v1 f1
  obtain ⟨d0, d1, d2, d3⟩ := HC.out w4 H4.out.b
  have v9 := H4.out.v.cell 9 _ rfl
  have f9 := H4.out.v.free 9
  go_upto_region 21 with (first | (go_at_call 24; refine (HV2.out _).mono ?_; rintro o q1 ⟨rfl, rfl⟩))
  generalize hX : World.setCell _ _ _ = w5
  have H5 : Hid (mkOd w w5 (odNone now 5 (nv s1) 0 (now + nv s2) 0) (some ⟨w.heap.size + 1 + 1, 0, none⟩, 0, 0)) := by
    show mkOd _ _ _ _
    rw [← hX]
    have := H4.out.setV 9 (.int .i64 ((now + nv s2 : Nat) : Int)) (odNone now 5 (nv s1) 0 (now + nv s2) 0) rfl rfl
    have e : (((now + nv s2 : Nat)) : Int) = (now : Int) + (nv s2 : Int) := by omega
    rw [e] at this
    exact this
  clear hX H4 d0 d1 d2 d3 v9 f9
  obtain ⟨d0, d1, d2, d3⟩ := HC.out w5 H5.out.b
  have v10 := H5.out.v.cell 10 _ rfl
  have f10 := H5.out.v.free 10
  go_upto_region 22 with (first | (go_at_call 24; refine (HV3.out _).mono ?_; rintro o q1 ⟨rfl, rfl⟩))
  generalize hX : World.setCell _ _ _ = w6
  have H6 : Hid (mkOd w w6 (odNone now 5 (nv s1) 0 (now + nv s2) (nv s3)) (some ⟨w.heap.size + 1 + 1, 0, none⟩, 0, 0)) := by
    show mkOd _ _ _ _
    rw [← hX]
    exact H5.out.setV 10 (.int .i64 (nv s3 : Int)) (odNone now 5 (nv s1) 0 (now + nv s2) (nv s3)) rfl rfl
  clear hX H5 d0 d1 d2 d3 v10 f10
  obtain ⟨d0, d1, d2, d3⟩ := HC.out w6 H6.out.b
  by_cases ha : nv s2 ≤ 6000
  · have ha' : (nv s2 : Int) ≤ 6000 := by omega
    by_cases hc : nv s3 ≤ 6000
    · have hc' : (nv s3 : Int) ≤ 6000 := by omega
      have HBO : Hid ((decide (nv s2 ≤ 6000) && decide (nv s3 ≤ 6000)) = true) := by show _ = _; simp [ha, hc]
      clear ha hc
      refine wp_region_held (S := (fun U => blk U (w.heap.size + 1) (odL (odNone now 5 (nv s1) 0 (now + nv s2) (nv s3)) (some ⟨w.heap.size + 1 + 1, 0, none⟩, 0, 0)) 67 ∧ U.cell? ⟨g, 2, none⟩ = some (.string s2))) (by kernel_rfl) ?_
      have hS : (fun U => blk U (w.heap.size + 1) (odL (odNone now 5 (nv s1) 0 (now + nv s2) (nv s3)) (some ⟨w.heap.size + 1 + 1, 0, none⟩, 0, 0)) 67 ∧ U.cell? ⟨g, 2, none⟩ = some (.string s2)) w6.drew := ⟨H6.out.v, d2⟩
      refine wpAnyH_take (i := 0) (v := .agg (odL (odNone now 5 (nv s1) 0 (now + nv s2) (nv s3)) (some ⟨w.heap.size + 1 + 1, 0, none⟩, 0, 0)).toArray) rfl (by kernel_rfl) (by kernel_rfl) (by kernel_rfl) (fun _ _ _ h => h) (yieldsIf_load_mid (by rfl) 67 (.tmp 6) rfl (w.heap.size + 1) 0 rfl (odL (odNone now 5 (nv s1) 0 (now + nv s2) (nv s3)) (some ⟨w.heap.size + 1 + 1, 0, none⟩, 0, 0)) _ (fun W h => h.1.load) Tryz.underlying67 rfl sz67) hS ?_
      simp only [Act.put, List.setIfInBounds_toArray, List.set_cons_zero, List.set_cons_succ, List.getElem_toArray, List.getElem_cons_zero]
      refine wpAnyH_take (i := 1) (v := (.slice (some ⟨g, 0, none⟩) 4 cp)) rfl (by kernel_rfl) (by kernel_rfl) (by kernel_rfl) (fun _ _ _ h => h) (Or.inl ⟨by rfl, ?_⟩) hS ?_
      · intro W hSw
        clear hS
        go_simp
      simp only [Act.put, List.setIfInBounds_toArray, List.set_cons_zero, List.set_cons_succ, List.getElem_toArray, List.getElem_cons_zero, List.getElem_cons_succ]
      refine wpAnyH_take (i := 2) (v := (.pointer (some ⟨g, 2, none⟩))) rfl (by kernel_rfl) (by kernel_rfl) (by kernel_rfl) (fun _ _ _ h => h) (Or.inl ⟨by rfl, ?_⟩) hS ?_
      · intro W hSw
        clear hS
        go_simp
      simp only [Act.put, List.setIfInBounds_toArray, List.set_cons_zero, List.set_cons_succ, List.getElem_toArray, List.getElem_cons_zero, List.getElem_cons_succ]
      refine wpAnyH_take (i := 3) (v := (.string s2)) rfl (by kernel_rfl) (by kernel_rfl) (by kernel_rfl) (fun _ _ _ h => h) (Or.inl ⟨by rfl, ?_⟩) hS ?_
      · intro W hSw
        clear hS
        obtain ⟨hSv, hSw2⟩ := hSw
        go_simp
      simp only [Act.put, List.setIfInBounds_toArray, List.set_cons_zero, List.set_cons_succ, List.getElem_toArray, List.getElem_cons_zero, List.getElem_cons_succ]
      refine wpAnyH_all (rs := [4]) (by kernel_rfl) (by simp) ?_
      refine AllReadyH.cons rfl (fun K hK => ?_) AllReadyH.nil
      go_simp
      refine (HV2.out _).mono ?_
      rintro o q1 ⟨rfl, rfl⟩
      go_wp2_with fail
      refine hK.out _ _ hS (fun hS2 => ?_)
      clear hS hK K
      have hS := hS2
      clear hS2
      refine wpAnyH_take (i := 5) (v := (.bool true)) rfl (by kernel_rfl) (by kernel_rfl) (by kernel_rfl) (fun _ _ _ h => h) (Or.inl ⟨by rfl, ?_⟩) hS ?_
      · intro W hSw
        clear hS
        go_simp
      simp only [Act.put, List.setIfInBounds_toArray, List.set_cons_zero, List.set_cons_succ, List.getElem_toArray, List.getElem_cons_zero, List.getElem_cons_succ]
      refine wpAnyH_take (i := 6) (v := (.bool true)) rfl (by kernel_rfl) (by kernel_rfl) (by kernel_rfl) (fun _ _ _ h => h) (Or.inl ⟨by rfl, ?_⟩) hS ?_
      · intro W hSw
        clear hS
        go_simp
      simp only [Act.put, List.setIfInBounds_toArray, List.set_cons_zero, List.set_cons_succ, List.getElem_toArray, List.getElem_cons_zero, List.getElem_cons_succ]
      refine wpAnyH_take (i := 7) (v := (.pointer (some ⟨w.heap.size + 1, 10, none⟩))) rfl (by kernel_rfl) (by kernel_rfl) (by kernel_rfl) (fun _ _ _ h => h) (Or.inl ⟨by rfl, ?_⟩) hS ?_
      · intro W hSw
        clear hS
        go_simp
      simp only [Act.put, List.setIfInBounds_toArray, List.set_cons_zero, List.set_cons_succ, List.getElem_toArray, List.getElem_cons_zero, List.getElem_cons_succ]
      refine wpAnyH_take (i := 8) (v := (.int .i64 (nv s3 : Int))) rfl (by kernel_rfl) (by kernel_rfl) (by kernel_rfl) (fun _ _ _ h => h) (Or.inl ⟨by rfl, ?_⟩) hS ?_
      · intro W hSw
        clear hS
        have y10 : W.cell? ⟨w.heap.size + 1, 10, none⟩ = some (.int .i64 (nv s3 : Int)) := hSw.1.cell 10 _ rfl
        go_simp
      simp only [Act.put, List.setIfInBounds_toArray, List.set_cons_zero, List.set_cons_succ, List.getElem_toArray, List.getElem_cons_zero, List.getElem_cons_succ]
      refine wpAnyH_take (i := 9) (v := (.bool true)) rfl (by kernel_rfl) (by kernel_rfl) (by kernel_rfl) (fun _ _ _ h => h) (Or.inl ⟨by rfl, ?_⟩) hS ?_
      · intro W hSw
        clear hS
        go_simp
      simp only [Act.put, List.setIfInBounds_toArray, List.set_cons_zero, List.set_cons_succ, List.getElem_toArray, List.getElem_cons_zero, List.getElem_cons_succ]
      refine wpAnyH_take (i := 10) (v := (.bool true)) rfl (by kernel_rfl) (by kernel_rfl) (by kernel_rfl) (fun _ _ _ h => h) (Or.inl ⟨by rfl, ?_⟩) hS ?_
      · intro W hSw
        clear hS
        go_simp
      simp only [Act.put, List.setIfInBounds_toArray, List.set_cons_zero, List.set_cons_succ, List.getElem_toArray, List.getElem_cons_zero, List.getElem_cons_succ]
      have H6d := hidYY (H6.out.below (Below.refl _ _).drew)
      refine wpAnyH_all (rs := [11]) (by kernel_rfl) (by simp) ?_
      refine AllReadyH.cons rfl (fun K hK => ?_) AllReadyH.nil
      refine wp_store_mid (P := Tryz.prog) 67 (.tmp 4) (.tmp 73) rfl w.heap.size 0 (odL (odNone now 5 (nv s1) 0 (now + nv s2) (nv s3)) (some ⟨w.heap.size + 1 + 1, 0, none⟩, 0, 0)).toArray rfl rfl (H6d.out.r.there 0 11 (by simp)) sz67 (one67 _ _) ?_
      have HR := hidYY (H6d.out.putR (odL (odNone now 5 (nv s1) 0 (now + nv s2) (nv s3)) (some ⟨w.heap.size + 1 + 1, 0, none⟩, 0, 0)) rfl)
      refine hK.out _ _ ⟨HR.out.2.2.2, (HC.out _ HR.out.2.2.1).2.2.1⟩ (fun hS3 => ?_)
      clear hS hK K
      have hS := hS3
      clear hS3
      refine wpAnyH_take (i := 12) (v := (.bool true)) rfl (by kernel_rfl) (by kernel_rfl) (by kernel_rfl) (fun _ _ _ h => h) (Or.inl ⟨by rfl, ?_⟩) hS ?_
      · intro W hSw
        clear hS
        go_simp
      simp only [Act.put, List.setIfInBounds_toArray, List.set_cons_zero, List.set_cons_succ, List.getElem_toArray, List.getElem_cons_zero, List.getElem_cons_succ]
      refine wpAnyH_done (by kernel_rfl) ?_ _
      clear hS
      go_wp2
      have hL := run_loadVar_mid (P := Tryz.prog) _ w.heap.size 0 67 _ _ HR.out.1.load Tryz.underlying67 rfl sz67
      refine bodyPost_ret (v := .tuple #[.agg (odL (odNone now 5 (nv s1) 0 (now + nv s2) (nv s3)) (some ⟨w.heap.size + 1 + 1, 0, none⟩, 0, 0)).toArray, .bool true]) (Kd.results_cell_tmp Tryz.results28 _ _ w.heap.size _ rfl hL) rfl ?_
      exact loP.mk _ (by rw [HBO.out]) HR.out.2.1 HR.out.2.2.1
    · have hc' : ¬ (nv s3 : Int) ≤ 6000 := by omega
      have HBO : Hid ((decide (nv s2 ≤ 6000) && decide (nv s3 ≤ 6000)) = false) := by show _ = _; simp [hc]
      clear ha hc
      refine wp_region_held (S := (fun U => blk U (w.heap.size + 1) (odL (odNone now 5 (nv s1) 0 (now + nv s2) (nv s3)) (some ⟨w.heap.size + 1 + 1, 0, none⟩, 0, 0)) 67 ∧ U.cell? ⟨g, 2, none⟩ = some (.string s2))) (by kernel_rfl) ?_
      have hS : (fun U => blk U (w.heap.size + 1) (odL (odNone now 5 (nv s1) 0 (now + nv s2) (nv s3)) (some ⟨w.heap.size + 1 + 1, 0, none⟩, 0, 0)) 67 ∧ U.cell? ⟨g, 2, none⟩ = some (.string s2)) w6.drew := ⟨H6.out.v, d2⟩
      refine wpAnyH_take (i := 0) (v := .agg (odL (odNone now 5 (nv s1) 0 (now + nv s2) (nv s3)) (some ⟨w.heap.size + 1 + 1, 0, none⟩, 0, 0)).toArray) rfl (by kernel_rfl) (by kernel_rfl) (by kernel_rfl) (fun _ _ _ h => h) (yieldsIf_load_mid (by rfl) 67 (.tmp 6) rfl (w.heap.size + 1) 0 rfl (odL (odNone now 5 (nv s1) 0 (now + nv s2) (nv s3)) (some ⟨w.heap.size + 1 + 1, 0, none⟩, 0, 0)) _ (fun W h => h.1.load) Tryz.underlying67 rfl sz67) hS ?_
      simp only [Act.put, List.setIfInBounds_toArray, List.set_cons_zero, List.set_cons_succ, List.getElem_toArray, List.getElem_cons_zero]
      refine wpAnyH_take (i := 1) (v := (.slice (some ⟨g, 0, none⟩) 4 cp)) rfl (by kernel_rfl) (by kernel_rfl) (by kernel_rfl) (fun _ _ _ h => h) (Or.inl ⟨by rfl, ?_⟩) hS ?_
      · intro W hSw
        clear hS
        go_simp
      simp only [Act.put, List.setIfInBounds_toArray, List.set_cons_zero, List.set_cons_succ, List.getElem_toArray, List.getElem_cons_zero, List.getElem_cons_succ]
      refine wpAnyH_take (i := 2) (v := (.pointer (some ⟨g, 2, none⟩))) rfl (by kernel_rfl) (by kernel_rfl) (by kernel_rfl) (fun _ _ _ h => h) (Or.inl ⟨by rfl, ?_⟩) hS ?_
      · intro W hSw
        clear hS
        go_simp
      simp only [Act.put, List.setIfInBounds_toArray, List.set_cons_zero, List.set_cons_succ, List.getElem_toArray, List.getElem_cons_zero, List.getElem_cons_succ]
      refine wpAnyH_take (i := 3) (v := (.string s2)) rfl (by kernel_rfl) (by kernel_rfl) (by kernel_rfl) (fun _ _ _ h => h) (Or.inl ⟨by rfl, ?_⟩) hS ?_
      · intro W hSw
        clear hS
        obtain ⟨hSv, hSw2⟩ := hSw
        go_simp
      simp only [Act.put, List.setIfInBounds_toArray, List.set_cons_zero, List.set_cons_succ, List.getElem_toArray, List.getElem_cons_zero, List.getElem_cons_succ]
      refine wpAnyH_all (rs := [4]) (by kernel_rfl) (by simp) ?_
      refine AllReadyH.cons rfl (fun K hK => ?_) AllReadyH.nil
      go_simp
      refine (HV2.out _).mono ?_
      rintro o q1 ⟨rfl, rfl⟩
      go_wp2_with fail
      refine hK.out _ _ hS (fun hS2 => ?_)
      clear hS hK K
      have hS := hS2
      clear hS2
      refine wpAnyH_take (i := 5) (v := (.bool true)) rfl (by kernel_rfl) (by kernel_rfl) (by kernel_rfl) (fun _ _ _ h => h) (Or.inl ⟨by rfl, ?_⟩) hS ?_
      · intro W hSw
        clear hS
        go_simp
      simp only [Act.put, List.setIfInBounds_toArray, List.set_cons_zero, List.set_cons_succ, List.getElem_toArray, List.getElem_cons_zero, List.getElem_cons_succ]
      refine wpAnyH_take (i := 6) (v := (.bool true)) rfl (by kernel_rfl) (by kernel_rfl) (by kernel_rfl) (fun _ _ _ h => h) (Or.inl ⟨by rfl, ?_⟩) hS ?_
      · intro W hSw
        clear hS
        go_simp
      simp only [Act.put, List.setIfInBounds_toArray, List.set_cons_zero, List.set_cons_succ, List.getElem_toArray, List.getElem_cons_zero, List.getElem_cons_succ]
      refine wpAnyH_take (i := 7) (v := (.pointer (some ⟨w.heap.size + 1, 10, none⟩))) rfl (by kernel_rfl) (by kernel_rfl) (by kernel_rfl) (fun _ _ _ h => h) (Or.inl ⟨by rfl, ?_⟩) hS ?_
      · intro W hSw
        clear hS
        go_simp
      simp only [Act.put, List.setIfInBounds_toArray, List.set_cons_zero, List.set_cons_succ, List.getElem_toArray, List.getElem_cons_zero, List.getElem_cons_succ]
      refine wpAnyH_take (i := 8) (v := (.int .i64 (nv s3 : Int))) rfl (by kernel_rfl) (by kernel_rfl) (by kernel_rfl) (fun _ _ _ h => h) (Or.inl ⟨by rfl, ?_⟩) hS ?_
      · intro W hSw
        clear hS
        have y10 : W.cell? ⟨w.heap.size + 1, 10, none⟩ = some (.int .i64 (nv s3 : Int)) := hSw.1.cell 10 _ rfl
        go_simp
      simp only [Act.put, List.setIfInBounds_toArray, List.set_cons_zero, List.set_cons_succ, List.getElem_toArray, List.getElem_cons_zero, List.getElem_cons_succ]
      refine wpAnyH_take (i := 9) (v := (.bool false)) rfl (by kernel_rfl) (by kernel_rfl) (by kernel_rfl) (fun _ _ _ h => h) (Or.inl ⟨by rfl, ?_⟩) hS ?_
      · intro W hSw
        clear hS
        go_simp
      simp only [Act.put, List.setIfInBounds_toArray, List.set_cons_zero, List.set_cons_succ, List.getElem_toArray, List.getElem_cons_zero, List.getElem_cons_succ]
      refine wpAnyH_take (i := 10) (v := (.bool false)) rfl (by kernel_rfl) (by kernel_rfl) (by kernel_rfl) (fun _ _ _ h => h) (Or.inl ⟨by rfl, ?_⟩) hS ?_
      · intro W hSw
        clear hS
        go_simp
      simp only [Act.put, List.setIfInBounds_toArray, List.set_cons_zero, List.set_cons_succ, List.getElem_toArray, List.getElem_cons_zero, List.getElem_cons_succ]
      have H6d := hidYY (H6.out.below (Below.refl _ _).drew)
      refine wpAnyH_all (rs := [11]) (by kernel_rfl) (by simp) ?_
      refine AllReadyH.cons rfl (fun K hK => ?_) AllReadyH.nil
      refine wp_store_mid (P := Tryz.prog) 67 (.tmp 4) (.tmp 73) rfl w.heap.size 0 (odL (odNone now 5 (nv s1) 0 (now + nv s2) (nv s3)) (some ⟨w.heap.size + 1 + 1, 0, none⟩, 0, 0)).toArray rfl rfl (H6d.out.r.there 0 11 (by simp)) sz67 (one67 _ _) ?_
      have HR := hidYY (H6d.out.putR (odL (odNone now 5 (nv s1) 0 (now + nv s2) (nv s3)) (some ⟨w.heap.size + 1 + 1, 0, none⟩, 0, 0)) rfl)
      refine hK.out _ _ ⟨HR.out.2.2.2, (HC.out _ HR.out.2.2.1).2.2.1⟩ (fun hS3 => ?_)
      clear hS hK K
      have hS := hS3
      clear hS3
      refine wpAnyH_take (i := 12) (v := (.bool false)) rfl (by kernel_rfl) (by kernel_rfl) (by kernel_rfl) (fun _ _ _ h => h) (Or.inl ⟨by rfl, ?_⟩) hS ?_
      · intro W hSw
        clear hS
        go_simp
      simp only [Act.put, List.setIfInBounds_toArray, List.set_cons_zero, List.set_cons_succ, List.getElem_toArray, List.getElem_cons_zero, List.getElem_cons_succ]
      refine wpAnyH_done (by kernel_rfl) ?_ _
      clear hS
      go_wp2
      have hL := run_loadVar_mid (P := Tryz.prog) _ w.heap.size 0 67 _ _ HR.out.1.load Tryz.underlying67 rfl sz67
      refine bodyPost_ret (v := .tuple #[.agg (odL (odNone now 5 (nv s1) 0 (now + nv s2) (nv s3)) (some ⟨w.heap.size + 1 + 1, 0, none⟩, 0, 0)).toArray, .bool false]) (Kd.results_cell_tmp Tryz.results28 _ _ w.heap.size _ rfl hL) rfl ?_
      exact loP.mk _ (by rw [HBO.out]) HR.out.2.1 HR.out.2.2.1
  · have ha' : ¬ (nv s2 : Int) ≤ 6000 := by omega
    have HBO : Hid ((decide (nv s2 ≤ 6000) && decide (nv s3 ≤ 6000)) = false) := by show _ = _; simp [ha]
    clear ha
    refine wp_region_held (S := (fun U => blk U (w.heap.size + 1) (odL (odNone now 5 (nv s1) 0 (now + nv s2) (nv s3)) (some ⟨w.heap.size + 1 + 1, 0, none⟩, 0, 0)) 67 ∧ U.cell? ⟨g, 2, none⟩ = some (.string s2))) (by kernel_rfl) ?_
    have hS : (fun U => blk U (w.heap.size + 1) (odL (odNone now 5 (nv s1) 0 (now + nv s2) (nv s3)) (some ⟨w.heap.size + 1 + 1, 0, none⟩, 0, 0)) 67 ∧ U.cell? ⟨g, 2, none⟩ = some (.string s2)) w6.drew := ⟨H6.out.v, d2⟩
    refine wpAnyH_take (i := 0) (v := .agg (odL (odNone now 5 (nv s1) 0 (now + nv s2) (nv s3)) (some ⟨w.heap.size + 1 + 1, 0, none⟩, 0, 0)).toArray) rfl (by kernel_rfl) (by kernel_rfl) (by kernel_rfl) (fun _ _ _ h => h) (yieldsIf_load_mid (by rfl) 67 (.tmp 6) rfl (w.heap.size + 1) 0 rfl (odL (odNone now 5 (nv s1) 0 (now + nv s2) (nv s3)) (some ⟨w.heap.size + 1 + 1, 0, none⟩, 0, 0)) _ (fun W h => h.1.load) Tryz.underlying67 rfl sz67) hS ?_
    simp only [Act.put, List.setIfInBounds_toArray, List.set_cons_zero, List.set_cons_succ, List.getElem_toArray, List.getElem_cons_zero]
    refine wpAnyH_take (i := 1) (v := (.slice (some ⟨g, 0, none⟩) 4 cp)) rfl (by kernel_rfl) (by kernel_rfl) (by kernel_rfl) (fun _ _ _ h => h) (Or.inl ⟨by rfl, ?_⟩) hS ?_
    · intro W hSw
      clear hS
      go_simp
    simp only [Act.put, List.setIfInBounds_toArray, List.set_cons_zero, List.set_cons_succ, List.getElem_toArray, List.getElem_cons_zero, List.getElem_cons_succ]
    refine wpAnyH_take (i := 2) (v := (.pointer (some ⟨g, 2, none⟩))) rfl (by kernel_rfl) (by kernel_rfl) (by kernel_rfl) (fun _ _ _ h => h) (Or.inl ⟨by rfl, ?_⟩) hS ?_
    · intro W hSw
      clear hS
      go_simp
    simp only [Act.put, List.setIfInBounds_toArray, List.set_cons_zero, List.set_cons_succ, List.getElem_toArray, List.getElem_cons_zero, List.getElem_cons_succ]
    refine wpAnyH_take (i := 3) (v := (.string s2)) rfl (by kernel_rfl) (by kernel_rfl) (by kernel_rfl) (fun _ _ _ h => h) (Or.inl ⟨by rfl, ?_⟩) hS ?_
    · intro W hSw
      clear hS
      obtain ⟨hSv, hSw2⟩ := hSw
      go_simp
    simp only [Act.put, List.setIfInBounds_toArray, List.set_cons_zero, List.set_cons_succ, List.getElem_toArray, List.getElem_cons_zero, List.getElem_cons_succ]
    refine wpAnyH_all (rs := [4]) (by kernel_rfl) (by simp) ?_
    refine AllReadyH.cons rfl (fun K hK => ?_) AllReadyH.nil
    go_simp
    refine (HV2.out _).mono ?_
    rintro o q1 ⟨rfl, rfl⟩
    go_wp2_with fail
    refine hK.out _ _ hS (fun hS2 => ?_)
    clear hS hK K
    have hS := hS2
    clear hS2
    refine wpAnyH_take (i := 5) (v := (.bool false)) rfl (by kernel_rfl) (by kernel_rfl) (by kernel_rfl) (fun _ _ _ h => h) (Or.inl ⟨by rfl, ?_⟩) hS ?_
    · intro W hSw
      clear hS
      go_simp
    simp only [Act.put, List.setIfInBounds_toArray, List.set_cons_zero, List.set_cons_succ, List.getElem_toArray, List.getElem_cons_zero, List.getElem_cons_succ]
    refine wpAnyH_take (i := 6) (v := (.bool false)) rfl (by kernel_rfl) (by kernel_rfl) (by kernel_rfl) (fun _ _ _ h => h) (Or.inl ⟨by rfl, ?_⟩) hS ?_
    · intro W hSw
      clear hS
      go_simp
    simp only [Act.put, List.setIfInBounds_toArray, List.set_cons_zero, List.set_cons_succ, List.getElem_toArray, List.getElem_cons_zero, List.getElem_cons_succ]
    refine wpAnyH_take (i := 7) (v := undef) rfl (by kernel_rfl) (by kernel_rfl) (by kernel_rfl) (fun _ _ _ h => h) (Or.inr ⟨by rfl, rfl⟩) hS ?_
    simp only [Act.put, List.setIfInBounds_toArray, List.set_cons_zero, List.set_cons_succ, List.getElem_toArray, List.getElem_cons_zero, List.getElem_cons_succ]
    refine wpAnyH_take (i := 8) (v := undef) rfl (by kernel_rfl) (by kernel_rfl) (by kernel_rfl) (fun _ _ _ h => h) (Or.inr ⟨by rfl, rfl⟩) hS ?_
    simp only [Act.put, List.setIfInBounds_toArray, List.set_cons_zero, List.set_cons_succ, List.getElem_toArray, List.getElem_cons_zero, List.getElem_cons_succ]
    refine wpAnyH_take (i := 9) (v := undef) rfl (by kernel_rfl) (by kernel_rfl) (by kernel_rfl) (fun _ _ _ h => h) (Or.inr ⟨by rfl, rfl⟩) hS ?_
    simp only [Act.put, List.setIfInBounds_toArray, List.set_cons_zero, List.set_cons_succ, List.getElem_toArray, List.getElem_cons_zero, List.getElem_cons_succ]
    refine wpAnyH_take (i := 10) (v := (.bool false)) rfl (by kernel_rfl) (by kernel_rfl) (by kernel_rfl) (fun _ _ _ h => h) (Or.inl ⟨by rfl, ?_⟩) hS ?_
    · intro W hSw
      clear hS
      go_simp
    simp only [Act.put, List.setIfInBounds_toArray, List.set_cons_zero, List.set_cons_succ, List.getElem_toArray, List.getElem_cons_zero, List.getElem_cons_succ]
    have H6d := hidYY (H6.out.below (Below.refl _ _).drew)
    refine wpAnyH_all (rs := [11]) (by kernel_rfl) (by simp) ?_
    refine AllReadyH.cons rfl (fun K hK => ?_) AllReadyH.nil
    refine wp_store_mid (P := Tryz.prog) 67 (.tmp 4) (.tmp 73) rfl w.heap.size 0 (odL (odNone now 5 (nv s1) 0 (now + nv s2) (nv s3)) (some ⟨w.heap.size + 1 + 1, 0, none⟩, 0, 0)).toArray rfl rfl (H6d.out.r.there 0 11 (by simp)) sz67 (one67 _ _) ?_
    have HR := hidYY (H6d.out.putR (odL (odNone now 5 (nv s1) 0 (now + nv s2) (nv s3)) (some ⟨w.heap.size + 1 + 1, 0, none⟩, 0, 0)) rfl)
    refine hK.out _ _ ⟨HR.out.2.2.2, (HC.out _ HR.out.2.2.1).2.2.1⟩ (fun hS3 => ?_)
    clear hS hK K
    have hS := hS3
    clear hS3
    refine wpAnyH_take (i := 12) (v := (.bool false)) rfl (by kernel_rfl) (by kernel_rfl) (by kernel_rfl) (fun _ _ _ h => h) (Or.inl ⟨by rfl, ?_⟩) hS ?_
    · intro W hSw
      clear hS
      go_simp
    simp only [Act.put, List.setIfInBounds_toArray, List.set_cons_zero, List.set_cons_succ, List.getElem_toArray, List.getElem_cons_zero, List.getElem_cons_succ]
    refine wpAnyH_done (by kernel_rfl) ?_ _
    clear hS
    go_wp2
    have hL := run_loadVar_mid (P := Tryz.prog) _ w.heap.size 0 67 _ _ HR.out.1.load Tryz.underlying67 rfl sz67
    refine bodyPost_ret (v := .tuple #[.agg (odL (odNone now 5 (nv s1) 0 (now + nv s2) (nv s3)) (some ⟨w.heap.size + 1 + 1, 0, none⟩, 0, 0)).toArray, .bool false]) (Kd.results_cell_tmp Tryz.results28 _ _ w.heap.size _ rfl hL) rfl ?_
    exact loP.mk _ (by rw [HBO.out]) HR.out.2.1 HR.out.2.2.1
theorem zip_of {α β : Type} (rs : List (α × β)) (l : List α) (h : rs.map (·.1) = l) : ∃ qs : List β, qs.length = l.length ∧ rs = l.zip qs := by
  refine ⟨rs.map (·.2), by rw [← h]; simp, ?_⟩
  subst h
  induction rs with
  | nil => rfl
  | cons a rs ih => simp only [List.map_cons, List.zip_cons_cons]; rw [← ih]
set_option maxRecDepth 20000 in
set_option maxHeartbeats 2000000 in
/-- whatever the row takes -/
theorem take_row {B B' rb gr : Nat} {S : Sc} {ln : Int} {bg : Bool} {us : List (Su × Hd)} {os : List (Od × Hd)} {h1 h2 : Hd} (r : List UInt8 × Bool × List UInt8 × Nat) (hr : r ∈ lrs) (rest : List (List UInt8)) (v : Value) (rs : List (Vl × Hd)) (w : World) (hR : rdS B rb gr S ln bg us os h1 h2 w) (hS : okS S) (hV : rcR kV B' v rs w) (hB : B ≤ B') (hm : rs.map (·.1) = vals r.2.2.1 rest) (hf : allForm r.2.2.1 rest = true) (hl : rest.length = r.2.2.1.length) (hfr : ∀ q ∈ rs, ∀ r ∈ os, ∀ y, r.2.1 = some y → q.2.1 ≠ some y) :
    Calls Tryz.prog r.2.2.2 #[.pointer (some ⟨rb, 0, none⟩), v] w (tkP B rb gr S ln bg w (r.1 :: rest)) := by
  have hpos := (rows_ok r hr).pos
  have hln : rs.length = r.2.2.1.length := by
    have := congrArg List.length hm
    rw [List.length_map] at this
    rw [this]
    unfold vals
    rw [List.length_zipWith, hl, Nat.min_self]
  obtain ⟨gv, cp, rfl, cs, hcs⟩ := vrow hV (by omega)
  have hne : gv ≠ rb := by
    intro e
    have := hR.r
    unfold blk at this
    rw [← e, hcs] at this
    injection this with this
    injection this with _ this _
    cases this
  have hcT : ∃ cs, w.heap[gv]? = some (.cells cs 132 (0, 0)) := ⟨cs, hcs⟩
  obtain ⟨qs, hq, hrs⟩ := zip_of rs _ hm
  have hq' : qs.length = r.2.2.1.length := by
    rw [hq]
    unfold vals
    rw [List.length_zipWith, hl, Nat.min_self]
  clear hq
  have hq := hq'
  clear hq' hm hpos
  rw [hln] at hV ⊢
  clear hln
  simp only [lrs, List.mem_cons, List.not_mem_nil, or_false] at hr
  rcases hr with rfl | rfl | rfl | rfl | rfl | rfl | rfl | rfl | rfl
  · match rest, qs, hl, hq with
    | [a, b, c, d, e], [q0, q1, q2, q3, q4], _, _ =>
      have hf' := hf
      simp only [allForm, List.zipWith_cons_cons, List.zipWith_nil_left, List.all_cons, List.all_nil, Bool.and_true, Bool.and_eq_true, id] at hf'
      obtain ⟨f0, f1, f2, f3, f4⟩ := hf'
      subst hrs
      exact take_node gv cp a b c d e q0 q1 q2 q3 q4 w hR hS hV hB hne hcT hfr f0 f1 f2 f3 f4
  · match rest, qs, hl, hq with
    | [a, b, c, d], [q0, q1, q2, q3], _, _ =>
      have hf' := hf
      simp only [allForm, List.zipWith_cons_cons, List.zipWith_nil_left, List.all_cons, List.all_nil, Bool.and_true, Bool.and_eq_true, id] at hf'
      obtain ⟨f0, f1, f2, f3⟩ := hf'
      subst hrs
      exact take_accept gv cp a b c d q0 q1 q2 q3 w hR hS hV hB hne hcT hfr f0 f1 f2 f3
  · match rest, qs, hl, hq with
    | [a, b, c, d, e], [q0, q1, q2, q3, q4], _, _ =>
      have hf' := hf
      simp only [allForm, List.zipWith_cons_cons, List.zipWith_nil_left, List.all_cons, List.all_nil, Bool.and_true, Bool.and_eq_true, id] at hf'
      obtain ⟨f0, f1, f2, f3, f4⟩ := hf'
      subst hrs
      exact take_send gv cp a b c d e q0 q1 q2 q3 q4 w hR hS hV hB hne hcT hfr f0 f1 f2 f3 f4
  · match rest, qs, hl, hq with
    | [a, b, c, d, e], [q0, q1, q2, q3, q4], _, _ =>
      have hf' := hf
      simp only [allForm, List.zipWith_cons_cons, List.zipWith_nil_left, List.all_cons, List.all_nil, Bool.and_true, Bool.and_eq_true, id] at hf'
      obtain ⟨f0, f1, f2, f3, f4⟩ := hf'
      subst hrs
      exact take_ask gv cp a b c d e q0 q1 q2 q3 q4 w hR hS hV hB hne hcT hfr f0 f1 f2 f3 f4
  · match rest, qs, hl, hq with
    | [a, b], [q0, q1], _, _ =>
      have hf' := hf
      simp only [allForm, List.zipWith_cons_cons, List.zipWith_nil_left, List.all_cons, List.all_nil, Bool.and_true, Bool.and_eq_true, id] at hf'
      obtain ⟨f0, f1⟩ := hf'
      subst hrs
      exact take_drop gv cp a b q0 q1 w hR hS hV hB hne hcT hfr f0 f1
  · match rest, qs, hl, hq with
    | [a], [q0], _, _ =>
      have hf' := hf
      simp only [allForm, List.zipWith_cons_cons, List.zipWith_nil_left, List.all_cons, List.all_nil, Bool.and_true, id] at hf'
      have f0 := hf'
      subst hrs
      exact take_restart gv cp a q0 w hR hS hV hB hne hcT hfr f0
  · match rest, qs, hl, hq with
    | [a], [q0], _, _ =>
      have hf' := hf
      simp only [allForm, List.zipWith_cons_cons, List.zipWith_nil_left, List.all_cons, List.all_nil, Bool.and_true, id] at hf'
      have f0 := hf'
      subst hrs
      exact take_fetch gv cp a q0 w hR hS hV hB hne hcT hfr f0
  · match rest, qs, hl, hq with
    | [a, b, c], [q0, q1, q2], _, _ =>
      have hf' := hf
      simp only [allForm, List.zipWith_cons_cons, List.zipWith_nil_left, List.all_cons, List.all_nil, Bool.and_true, Bool.and_eq_true, id] at hf'
      obtain ⟨f0, f1, f2⟩ := hf'
      subst hrs
      exact take_flip gv cp a b c q0 q1 q2 w hR hS hV hB hne hcT hfr f0 f1 f2
  · match rest, qs, hl, hq with
    | [a], [q0], _, _ =>
      have hf' := hf
      simp only [allForm, List.zipWith_cons_cons, List.zipWith_nil_left, List.all_cons, List.all_nil, Bool.and_true, id] at hf'
      have f0 := hf'
      subst hrs
      exact take_run gv cp a q0 w hR hS hV hB hne hcT hfr f0
/-- the reader begun -/
theorem rdS.setB {B rb gr : Nat} {S : Sc} {ln : Int} {bg : Bool} {us : List (Su × Hd)} {os : List (Od × Hd)} {h1 h2 : Hd} {W : World} (h : rdS B rb gr S ln bg us os h1 h2 W) (b : Bool) : rdS B rb gr S ln b us os h1 h2 (W.setCell ⟨rb, 7, none⟩ (.bool b)) ∧ Ky [73] B W (W.setCell ⟨rb, 7, none⟩ (.bool b)) := by
  have k : Ky [73] B W (W.setCell ⟨rb, 7, none⟩ (.bool b)) := (Ky.refl _ _ _).setCell _ _ _ h.lo ⟨_, _, _, h.r, by simp⟩
  exact ⟨⟨h.r.set 7 (.bool b), h.su.ky k (by decide) (by decide), h.od.ky k (by decide) (by decide), h.eu, h.eo, k.blk h.lr (by decide), h.lo⟩, k⟩
abbrev noSc : Sc := ⟨[], [], 0⟩
/-- does a line's first word set up -/
def bodyZ (bg : Bool) (ws : List (List UInt8)) : Bool := bg || !(((wk ws 0).toList == wNode) || ((wk ws 0).toList == wAccept))
/-- the lines from number i on: code, line, script -/
def goS : List (List UInt8) → Nat → Bool → Sc → Nat × Nat × Sc
  | [], _, _, S => if S.su.length = 0 then (7, 0, noSc) else (0, 0, S)
  | ln :: ls, i, bg, S =>
    if (wordsB (wd ln)).length = 0 then goS ls (i + 1) bg S
    else if (stepZ S bg (wordsB (wd ln))).1 = 0 then goS ls (i + 1) (bodyZ bg (wordsB (wd ln))) (stepZ S bg (wordsB (wd ln))).2
    else ((stepZ S bg (wordsB (wd ln))).1, i + 1, noSc)
def parseZ (s : ByteArray) : Nat × Nat × Sc := if okTx s = true then goS (cutB 10 s) 0 false noSc else (1, 0, noSc)
/-- every order's bytes are bytes -/
def okD (S : Sc) : Prop := ∀ x ∈ S.od, (∀ y ∈ x.d, y < 256) ∧ x.d.length ≤ 8
theorem step_zero {S : Sc} {bg : Bool} {x : List UInt8} {rest : List (List UInt8)} (h : (stepZ S bg (x :: rest)).1 = 0) : ∃ r ∈ lrs, r.1 = x ∧ rest.length = r.2.2.1.length ∧ allForm r.2.2.1 rest = true ∧ stepZ S bg (x :: rest) = goL S (x :: rest) := by
  rcases lrAt_cases x with ⟨_, hsh⟩ | ⟨i, r, hi, _, rfl, _⟩
  · rw [step_word S bg x rest hsh] at h; cases h
  · have hr : r ∈ lrs := List.mem_of_getElem? hi
    have ro := rows_ok r hr
    by_cases hl : rest.length = r.2.2.1.length
    · by_cases hp : (r.2.1 && bg) = true
      · rw [step_place ro hl hp] at h; cases h
      · have hp' : (r.2.1 && bg) = false := by simpa using hp
        cases hf : allForm r.2.2.1 rest
        · rw [step_form ro hl hp' hf] at h; cases h
        · exact ⟨r, hr, rfl, hl, hf, step_go ro hl hp' hf⟩
    · rw [step_count ro hl] at h; cases h
theorem okD_key {S : Sc} (hd : okD S) (T : Sc) (od : Od) (h : T.od = S.od ∨ (T.od = S.od ++ [od] ∧ (∀ y ∈ od.d, y < 256) ∧ od.d.length ≤ 8)) : okD T := by
  rcases h with h | ⟨h, h1, h2⟩
  · intro y hy
    rw [h] at hy; exact hd y hy
  · intro y hy
    rw [h] at hy
    rcases List.mem_append.1 hy with hy | hy
    · exact hd y hy
    · have : y = od := by simpa using hy
      subst this
      exact ⟨h1, h2⟩
theorem okD_od {S : Sc} (hd : okD S) (x a : List UInt8) (rest : List (List UInt8)) (b1 : (x == wRun) = false) (b2 : (x == wNode) = false) (b3 : (x == wAccept) = false) (hb : (∀ y ∈ (odOf S.ticks (x :: a :: rest)).d, y < 256) ∧ (odOf S.ticks (x :: a :: rest)).d.length ≤ 8) : okD (goL S (x :: a :: rest)).2 := by
  refine okD_key hd _ (odOf S.ticks (x :: a :: rest)) ?_
  rw [goL_od S x a rest b1 b2 b3]
  split
  · exact .inl rfl
  · split
    · exact .inr ⟨rfl, hb⟩
    · exact .inl rfl
theorem okD.step {S : Sc} {bg : Bool} {x : List UInt8} {rest : List (List UInt8)} (hd : okD S) (h : (stepZ S bg (x :: rest)).1 = 0) : okD (stepZ S bg (x :: rest)).2 := by
  obtain ⟨r, hr, rfl, hl, hf, e⟩ := step_zero h
  rw [e] at h ⊢
  simp only [lrs, List.mem_cons, List.not_mem_nil, or_false] at hr
  rcases hr with rfl | rfl | rfl | rfl | rfl | rfl | rfl | rfl | rfl
  · match rest, hl with
    | [a, b, c, d, e], _ =>
      refine okD_key hd _ ⟨0, 0, 0, 0, false, 0, false, 0, [], 0, 0⟩ (.inl ?_)
      rw [goL_node]; split <;> rfl
  · match rest, hl with
    | [a, b, c, d], _ =>
      refine okD_key hd _ ⟨0, 0, 0, 0, false, 0, false, 0, [], 0, 0⟩ (.inl ?_)
      rw [goL_accept]
      split
      · rfl
      · split
        · split <;> rfl
        · rfl
  · match rest, hl with
    | [a, b, c, d, e], _ =>
      refine okD_od hd wSend a [b, c, d, e] (by decide) (by decide) (by decide) ?_
      rw [od_send]
      have hf' := hf
      simp only [allForm, List.zipWith_cons_cons, List.zipWith_nil_left, List.all_cons, List.all_nil, Bool.and_true, Bool.and_eq_true, id] at hf'
      exact fm_d hf'.2.2.2.2
  · match rest, hl with
    | [a, b, c, d, e], _ =>
      refine okD_od hd wAsk a [b, c, d, e] (by decide) (by decide) (by decide) ?_
      rw [od_ask]; simp
  · match rest, hl with
    | [a, b], _ =>
      refine okD_od hd wDrop a [b] (by decide) (by decide) (by decide) ?_
      rw [od_drop]; simp [odNone]
  · match rest, hl with
    | [a], _ =>
      refine okD_od hd wRestart a [] (by decide) (by decide) (by decide) ?_
      rw [od_restart]; simp [odNone]
  · match rest, hl with
    | [a], _ =>
      refine okD_od hd wFetch a [] (by decide) (by decide) (by decide) ?_
      rw [od_fetch]; simp [odNone]
  · match rest, hl with
    | [a, b, c], _ =>
      refine okD_od hd wFlip a [b, c] (by decide) (by decide) (by decide) ?_
      rw [od_flip]; simp [odNone]
  · match rest, hl with
    | [a], _ =>
      refine okD_key hd _ ⟨0, 0, 0, 0, false, 0, false, 0, [], 0, 0⟩ (.inl ?_)
      rw [goL_run]; split <;> rfl
theorem finS.of {S : Sc} (h : okS S) (hd : okD S) : finS S := ⟨h.su, h.od, h.fl, hd⟩
theorem goS_fin : ∀ (ls : List (List UInt8)) (i : Nat) (bg : Bool) (S : Sc), okS S → okD S → finS (goS ls i bg S).2.2
  | [], i, bg, S, h, hd => by
    unfold goS
    split
    · exact finS.of okS.zero (by intro x hx; cases hx)
    · exact finS.of h hd
  | ln :: ls, i, bg, S, h, hd => by
    unfold goS
    split
    · exact goS_fin ls _ _ _ h hd
    · split
      · rename_i hw hc
        refine goS_fin ls _ _ _ (h.step _ _ hc) ?_
        cases hws : wordsB (wd ln) with
        | nil => rw [hws] at hw; exact absurd rfl hw
        | cons x rest =>
          rw [hws] at hc
          exact hd.step hc
      · exact finS.of okS.zero (by intro x hx; cases hx)
theorem parseZ_fin (s : ByteArray) : finS (parseZ s).2.2 := by
  unfold parseZ
  split
  · exact goS_fin _ _ _ _ okS.zero (by intro x hx; cases hx)
  · exact finS.of okS.zero (by intro x hx; cases hx)
theorem cutA_mem (c : UInt8) : ∀ (l cur x : List UInt8), x ∈ cutA c cur l → x.length ≤ cur.length + l.length ∧ ∀ b ∈ x, b ∈ cur ∨ (b ∈ l ∧ b ≠ c)
  | [], cur, x, hx => by
    have : x = cur := by simpa [cutA] using hx
    subst this
    exact ⟨by simp, fun b hb => .inl hb⟩
  | y :: l, cur, x, hx => by
    unfold cutA at hx
    split at hx
    · rcases List.mem_cons.1 hx with rfl | hx
      · exact ⟨by simp, fun b hb => .inl hb⟩
      · obtain ⟨h1, h2⟩ := cutA_mem c l [] x hx
        refine ⟨by simp only [List.length_cons, List.length_nil] at h1 ⊢; omega, fun b hb => ?_⟩
        rcases h2 b hb with h | ⟨h, hc⟩
        · cases h
        · exact .inr ⟨List.mem_cons_of_mem _ h, hc⟩
    · rename_i hy
      obtain ⟨h1, h2⟩ := cutA_mem c l (cur ++ [y]) x hx
      refine ⟨by simp only [List.length_append, List.length_cons, List.length_nil] at h1 ⊢; omega, fun b hb => ?_⟩
      rcases h2 b hb with h | ⟨h, hc⟩
      · rcases List.mem_append.1 h with h | h
        · exact .inl h
        · have : b = y := by simpa using h
          subst this
          exact .inr ⟨List.mem_cons_self, hy⟩
      · exact .inr ⟨List.mem_cons_of_mem _ h, hc⟩
theorem wd_data (x : List UInt8) : (wd x).data.toList = x := rfl
/-- the words of a line -/
theorem words_ok (ln : List UInt8) (hl : ln.length ≤ 20000) (h : ∀ b ∈ ln, b.toNat < 128) : okWs (wordsB (wd ln)) := by
  intro x hx
  unfold wordsB fil at hx
  obtain ⟨h1, h2⟩ := List.mem_filter.1 hx
  have hne : x ≠ [] := by simpa using h2
  obtain ⟨h3, h4⟩ := cutA_mem 32 _ _ _ h1
  rw [wd_data] at h3 h4
  refine ⟨List.length_pos_iff.2 hne, by simp only [List.length_nil] at h3; omega, fun b hb => ?_⟩
  rcases h4 b hb with h5 | ⟨h5, _⟩
  · cases h5
  · exact h b h5
theorem words_len (ln : List UInt8) (hl : ln.length ≤ 20000) : (wordsB (wd ln)).length ≤ 20001 := by
  have h1 := fil_len (cutB 32 (wd ln))
  have h2 := cutA_len 32 (wd ln).data.toList []
  unfold wordsB
  have h3 : (wd ln).data.toList.length = ln.length := rfl
  unfold cutB at h1 ⊢
  omega
/-- the lines of a script's text -/
theorem lines_ok (s : ByteArray) (hs : okTx s = true) : ∀ x ∈ cutB 10 s, x.length ≤ 20000 ∧ ∀ b ∈ x, 32 ≤ b.toNat ∧ b.toNat < 128 := by
  unfold okTx at hs
  rw [Bool.and_eq_true, decide_eq_true_eq] at hs
  intro x hx
  obtain ⟨h1, h2⟩ := cutA_mem 10 _ _ _ hx
  have hz : s.data.toList.length = s.size := by simp
  refine ⟨by simp only [List.length_nil] at h1; omega, fun b hb => ?_⟩
  rcases h2 b hb with h | ⟨h, hc⟩
  · cases h
  · have hm : b.toNat ∈ lt s := List.mem_map_of_mem h
    have := List.all_eq_true.1 hs.2 _ hm
    have hne : b.toNat ≠ 10 := fun e => hc (UInt8.toNat_inj.1 e)
    unfold okC at this
    simp at this
    omega
end Go.Proofs.YtfbeaekddgpmmaaGreatDoor
