import Derived.Test.YtfbeaekddgpmmaaGreatDoorK24
import Derived.Test.YtfbeaekddgpmmaaGreatDoorK28
namespace Go.Proofs.YtfbeaekddgpmmaaGreatDoor
open Go.RowKit Kd
set_option linter.unusedVariables false
theorem i64w (x : Int) (h0 : -9223372036854775808 ≤ x) (h1 : x < 9223372036854775808) : IntKind.i64.wrap x = x := by
  unfold IntKind.wrap
  simp [IntKind.signed, IntKind.bits]
  omega
theorem u8_wrap (x : Int) (h0 : 0 ≤ x) (h1 : x < 256) : IntKind.u8.wrap x = x := by
  simp only [IntKind.wrap, IntKind.bits, IntKind.signed]
  have e : (2 : Int) ^ 8 = 256 := by decide
  first
    | (rw [e]; exact Int.emod_eq_of_lt h0 h1)
    | (simp; omega)
abbrev z5 : List Value := [.bool false, .int .u32 0, .bool false, .int .i64 0, .slice none 0 0]
abbrev l5 (e : Bool) (i : Int) (r : Bool) (d : Int) (h : Hd) : List Value := [.bool e, .int .u32 i, .bool r, .int .i64 d, hdV h]
theorem one5h (e : Bool) (i : Int) (r : Bool) (d : Int) (h : Hd) : (l5 e i r d h).toArray.all (·.oneCell') = true := all_oneCell_toArray (by simp [Value.oneCell'])
/-- the frame that is being made: the result's block, V the variable's -/
structure mkFr (w W : World) (V : Nat) (e : Bool) (i : Int) (r : Bool) (d : Int) (h : Hd) (l : List Nat) : Prop where
  res : blk W w.heap.size z5 65
  v : blk W V (l5 e i r d h) 65
  ne : w.heap.size < V
  f : W.ownsRow w.heap.size 5 1 (hdV h) l.length (bv l)
  b : Below w.heap.size w W
/-- a frame as it is given back -/
def frP (w : World) (e : Bool) (i : Int) (r : Bool) (d : Int) (l : List Nat) (o : Ending) (w' : World) : Prop := ∃ h : Hd, o = .returned (.agg (l5 e i r d h).toArray) ∧ w'.ownsRow w.heap.size 5 1 (hdV h) l.length (bv l) ∧ Below w.heap.size w w'
theorem frP.mk {w : World} {e : Bool} {i : Int} {r : Bool} {d : Int} {l : List Nat} {o : Ending} {w' : World} (h : Hd) (h1 : o = .returned (.agg (l5 e i r d h).toArray)) (h2 : w'.ownsRow w.heap.size 5 1 (hdV h) l.length (bv l)) (h3 : Below w.heap.size w w') : frP w e i r d l o w' := ⟨h, h1, h2, h3⟩
theorem mkFr.below {w W U : World} {V : Nat} {e : Bool} {i : Int} {r : Bool} {d : Int} {h : Hd} {l : List Nat} (H : mkFr w W V e i r d h l) (hb : Below W.heap.size W U) : mkFr w U V e i r d h l :=
  ⟨H.res.below hb, H.v.below hb, H.ne, (Ky.of (S := []) hb (Nat.le_refl _)).row H.f (by simp), H.b.trans (hb.mono H.b.size)⟩
theorem mkFr.ky {w W : World} {V : Nat} {e : Bool} {i : Int} {r : Bool} {d : Int} {h : Hd} {l : List Nat} (H : mkFr w W V e i r d h l) (o : Nat) (vs : List Value) : Ky [65] w.heap.size W (W.setCells V o vs) := (Ky.refl _ _ _).setCells _ _ _ (Nat.le_of_lt H.ne) ⟨_, _, _, H.v, by simp⟩
theorem mkFr.set2 {w W : World} {V : Nat} {e : Bool} {i : Int} {r : Bool} {d : Int} {h : Hd} {l : List Nat} (H : mkFr w W V e i r d h l) (r' : Bool) : mkFr w (W.setCell ⟨V, 2, none⟩ (.bool r')) V e i r' d h l :=
  ⟨H.res.setOther (Nat.ne_of_lt H.ne) 2 _, H.v.set 2 (.bool r'), H.ne, (H.ky 2 [.bool r']).row H.f (by decide), H.b.setCell (p := ⟨V, 2, none⟩) (Nat.le_of_lt H.ne) _⟩
theorem mkFr.set3 {w W : World} {V : Nat} {e : Bool} {i : Int} {r : Bool} {d : Int} {h : Hd} {l : List Nat} (H : mkFr w W V e i r d h l) (d' : Int) : mkFr w (W.setCell ⟨V, 3, none⟩ (.int .i64 d')) V e i r d' h l :=
  ⟨H.res.setOther (Nat.ne_of_lt H.ne) 3 _, H.v.set 3 (.int .i64 d'), H.ne, (H.ky 3 [.int .i64 d']).row H.f (by decide), H.b.setCell (p := ⟨V, 3, none⟩) (Nat.le_of_lt H.ne) _⟩
/-- one byte more -/
theorem mkFr.app {w W U : World} {V : Nat} {e : Bool} {i : Int} {r : Bool} {d : Int} {h h' : Hd} {l : List Nat} (c : Nat) (H : mkFr w W V e i r d h l) (ho : U.ownsRow w.heap.size 5 1 (hdV h') (l.length + 1) (bv l ++ [.int .u8 (c : Int)])) (hg : W.grownBy U (hdV h).ownBlock) (hB : w.heap.size ≤ W.heap.size) : mkFr w (U.setCell ⟨V, 4, none⟩ (hdV h')) V e i r d h' (l ++ [c]) := by
  have k1 : Ky [5] w.heap.size W U := (Ky.refl _ _ _).grown hg hB fun x e => by
    rcases ownsRow_shape H.f with ⟨e2, _⟩ | ⟨g2, k2, e2, h2, _⟩
    · rw [e2] at e; cases e
    · obtain ⟨c2, hc2⟩ := ownsRow_kind H.f e2
      rw [e2] at e
      cases e
      exact ⟨h2, _, _, _, hc2, by simp⟩
  have hv := k1.blk H.v (by decide)
  have k2 : Ky [65] w.heap.size U (U.setCell ⟨V, 4, none⟩ (hdV h')) := (Ky.refl _ _ _).setCell _ _ _ (Nat.le_of_lt H.ne) ⟨_, _, _, hv, by simp⟩
  refine ⟨(k1.blk H.res (by decide)).setOther (Nat.ne_of_lt H.ne) 4 _, hv.set 4 (hdV h'), H.ne, ?_, H.b.trans (k1.low.trans k2.low)⟩
  have e1 : bv (l ++ [c]) = bv l ++ [.int .u8 (c : Int)] := by simp [bv]
  rw [e1, List.length_append]
  exact k2.row ho (by decide)
theorem mkFr.a (w : World) (e : Bool) (i : Int) : ∃ V h, Value.pointer (some ⟨w.heap.size + 1 + 1, 0, none⟩) = .pointer (some ⟨V, 0, none⟩) ∧ mkFr w (((w.alloc (.cells z5.toArray 65)).alloc (.cells #[] 5)).alloc (.cells (l5 e i false 0 (some ⟨w.heap.size + 1, 0, none⟩, 0, 0)).toArray 65)).drew V e i false 0 h [] := by
  refine ⟨_, (some ⟨w.heap.size + 1, 0, none⟩, 0, 0), rfl, ?_⟩
  have hb : Below w.heap.size w (((w.alloc (.cells z5.toArray 65)).alloc (.cells #[] 5)).alloc (.cells (l5 e i false 0 (some ⟨w.heap.size + 1, 0, none⟩, 0, 0)).toArray 65)) := (((Below.refl _ _).alloc (Nat.le_refl _) _).alloc (by simp) _).alloc (by simp; omega) _
  refine mkFr.below ⟨((blk.new w z5 65).alloc _).alloc _, ?_, by omega, ?_, hb⟩ (Below.refl _ _).drew
  · have := blk.new ((w.alloc (.cells z5.toArray 65)).alloc (.cells #[] 5)) (l5 e i false 0 (some ⟨w.heap.size + 1, 0, none⟩, 0, 0)) 65
    simpa using this
  · have := World.ownsRow.alloc (World.ownsRow_made (base := w.heap.size) (e := 5) (size := 1) (w.alloc (.cells z5.toArray 65)) #[] 0 (by simp) (by decide) (by simp)) (.cells (l5 e i false 0 (some ⟨w.heap.size + 1, 0, none⟩, 0, 0)).toArray 65)
    simpa [bv] using this
theorem mkFr.c (w : World) (e : Bool) (i : Int) : ∃ V h, Value.pointer (some ⟨w.heap.size + 1, 0, none⟩) = .pointer (some ⟨V, 0, none⟩) ∧ mkFr w (((w.alloc (.cells z5.toArray 65)).alloc (.cells (l5 e i false 0 (some ⟨w.heap.size + 1 + 1, 0, none⟩, 0, 0)).toArray 65)).alloc (.cells #[] 5)).drew V e i false 0 h [] := by
  refine ⟨_, (some ⟨w.heap.size + 1 + 1, 0, none⟩, 0, 0), rfl, ?_⟩
  have hb : Below w.heap.size w (((w.alloc (.cells z5.toArray 65)).alloc (.cells (l5 e i false 0 (some ⟨w.heap.size + 1 + 1, 0, none⟩, 0, 0)).toArray 65)).alloc (.cells #[] 5)) := (((Below.refl _ _).alloc (Nat.le_refl _) _).alloc (by simp) _).alloc (by simp; omega) _
  refine mkFr.below ⟨((blk.new w z5 65).alloc _).alloc _, ?_, by omega, ?_, hb⟩ (Below.refl _ _).drew
  · have := (blk.new (w.alloc (.cells z5.toArray 65)) (l5 e i false 0 (some ⟨w.heap.size + 1 + 1, 0, none⟩, 0, 0)) 65).alloc (.cells #[] 5)
    simpa using this
  · have := World.ownsRow_made (base := w.heap.size) (e := 5) (size := 1) ((w.alloc (.cells z5.toArray 65)).alloc (.cells (l5 e i false 0 (some ⟨w.heap.size + 1 + 1, 0, none⟩, 0, 0)).toArray 65)) #[] 0 (by simp; omega) (by decide) (by simp)
    simpa [bv] using this
set_option maxHeartbeats 4000000 in
set_option maxRecDepth 20000 in
/-- spec.l6frame of an ask line -/
theorem frame_ask (g cp : Nat) (s0 s3 s4 s5 : ByteArray) (w : World) (c0 : w.cell? ⟨g, 0, none⟩ = some (.string s0)) (c3 : w.cell? ⟨g, 3, none⟩ = some (.string s3)) (c4 : w.cell? ⟨g, 4, none⟩ = some (.string s4)) (c5 : w.cell? ⟨g, 5, none⟩ = some (.string s5)) (h4 : s4.size ≤ 8) (hv4 : hv s4 < 4294967296) (h5 : s5.size ≤ 8) (hA : (s0.toList == wAsk) = true) :
    Calls Tryz.prog 47 #[.slice (some ⟨g, 0, none⟩) 6 cp] w fun o w' => ∃ h, o = .returned (.agg (l5 (s3.toList == wX) (hv s4) true (nv s5) h).toArray) ∧ w'.ownsRow w.heap.size 5 1 (hdV h) 0 [] ∧ Below w.heap.size w w' := by
  have hgl : g < w.heap.size := World.block_lt_of_cell? w _ c0
  have HV4 := hidYY (fun w => value_any s4 16 (by decide) h4 w)
  have HV5 := hidYY (fun w => value_any s5 10 (by decide) h5 w)
  have e4 : (valN (lt s4) 16 : Int) = (hv s4 : Int) := rfl
  have e5 : (valN (lt s5) 10 : Int) = (nv s5 : Int) := rfl
  rw [e4] at HV4
  rw [e5] at HV5
  have w4 : IntKind.u32.wrap (hv s4 : Int) = (hv s4 : Int) := u32_wrap _ (by omega) (by omega)
  clear e4 h4 e5 h5
  have HC : Hid (∀ V, Below w.heap.size w V → V.cell? ⟨g, 0, none⟩ = some (.string s0) ∧ V.cell? ⟨g, 3, none⟩ = some (.string s3) ∧ V.cell? ⟨g, 4, none⟩ = some (.string s4) ∧ V.cell? ⟨g, 5, none⟩ = some (.string s5)) := fun V hV => ⟨(hV.cell hgl).trans c0, (hV.cell hgl).trans c3, (hV.cell hgl).trans c4, (hV.cell hgl).trans c5⟩
  clear c0 c3 c4 c5
  have HB0 : Hid (Below w.heap.size w (w.alloc (.cells z5.toArray 65))) := (Below.refl _ _).alloc (Nat.le_refl _) _
  obtain ⟨d0, d3, d4, d5⟩ := HC.out _ HB0.out
  have hgn : g ≠ w.heap.size := by omega
  have hgn1 : g ≠ w.heap.size + 1 := by omega
  have hgn2 : g ≠ w.heap.size + 2 := by omega
  go_enter Tryz.func47, Tryz.ntmps47
  go_upto_region 1 with fail
  go_cut [3] (fun p wx => ∃ V h, p = .pointer (some ⟨V, 0, none⟩) ∧ mkFr w wx V (s3.toList == wX) (hv s4) false 0 h [])
  case first =>
    go_region_held3 (fun V => V.cell? ⟨g, 3, none⟩ = some (.string s3) ∧ V.cell? ⟨g, 4, none⟩ = some (.string s4)) (first | assumption | go_keep) (first | (go_at_call_of 24 (Value.string s4); refine (HV4.out _).mono ?_; rintro o q1 ⟨rfl, rfl⟩))
    all_goals
      go_wp2_with fail
      go_meet
      case rel => first
        | exact mkFr.a w _ _
        | exact mkFr.c w _ _
  case rest =>
  obtain ⟨V, h, rfl, hF⟩ := hcut
  clear d0 d3 d4 d5
  have HF := hidYY hF
  obtain ⟨d0, d3, d4, d5⟩ := HC.out _ hF.b
  have v2 := hF.v.cell 2 _ rfl
  have f2 := hF.v.free 2
  clear hF
  go_upto_region 4 with fail
  generalize hX : World.setCell _ _ _ = w2
  have H2 : Hid (mkFr w w2 V (s3.toList == wX) (hv s4) true 0 h []) := by
    show mkFr _ _ _ _ _ _ _ _ _
    rw [← hX]
    exact HF.out.set2 true
  clear hX HF d0 d3 d4 d5 v2 f2
  obtain ⟨d0, d3, d4, d5⟩ := HC.out _ H2.out.b
  have v3 := H2.out.v.cell 3 _ rfl
  have f3 := H2.out.v.free 3
  go_upto_region 5 with (first | (go_at_call 24; refine (HV5.out _).mono ?_; rintro o q1 ⟨rfl, rfl⟩))
  generalize hX : World.setCell _ _ _ = w3
  have H3 : Hid (mkFr w w3 V (s3.toList == wX) (hv s4) true (nv s5) h []) := by
    show mkFr _ _ _ _ _ _ _ _ _
    rw [← hX]
    exact H2.out.set3 (nv s5)
  clear hX H2 d0 d3 d4 d5 v3 f3
  have hF3 := H3.out
  go_wp2_with (first
    | (refine wpList_load_mid (P := Tryz.prog) rfl 65 (.tmp 3) rfl V 0 rfl (l5 (s3.toList == wX) (hv s4) true (nv s5) h) _ H3.out.v.load Tryz.underlying65 rfl sz29 ?_)
    | (refine wpList_store_mid (P := Tryz.prog) rfl 65 (.tmp 2) (.tmp 26) rfl w.heap.size 0 (l5 (s3.toList == wX) (hv s4) true (nv s5) h).toArray rfl rfl (H3.out.res.there 0 5 (by simp)) sz29 (one5h _ _ _ _ _) ?_; generalize hX : World.setCells _ w.heap.size 0 _ = w4; have HX : Hid (World.setCells w3 w.heap.size 0 (l5 (s3.toList == wX) (hv s4) true (nv s5) h) = w4) := hX; clear hX))
  have e4 := HX.out
  have hR : blk w4 w.heap.size (l5 (s3.toList == wX) (hv s4) true (nv s5) h) 65 := e4 ▸ blk_all H3.out.res rfl
  have hk : Ky [65] w.heap.size w3 w4 := e4 ▸ (Ky.refl _ _ _).setCells _ _ _ (Nat.le_refl _) ⟨_, _, _, H3.out.res, by simp⟩
  have hL := run_loadVar_mid (P := Tryz.prog) w4 w.heap.size 0 65 _ _ hR.load Tryz.underlying65 rfl sz29
  refine bodyPost_ret (v := .agg (l5 (s3.toList == wX) (hv s4) true (nv s5) h).toArray) (Kd.results_cell Tryz.results47 _ w4 w.heap.size _ rfl hL) rfl ?_
  exact ⟨h, rfl, hk.row H3.out.f (by decide), H3.out.b.trans hk.low⟩
set_option maxHeartbeats 4000000 in
set_option maxRecDepth 20000 in
/-- spec.l6frame of a send line -/
theorem frame_send (g cp : Nat) (s0 s3 s4 s5 : ByteArray) (w : World) (c0 : w.cell? ⟨g, 0, none⟩ = some (.string s0)) (c3 : w.cell? ⟨g, 3, none⟩ = some (.string s3)) (c4 : w.cell? ⟨g, 4, none⟩ = some (.string s4)) (c5 : w.cell? ⟨g, 5, none⟩ = some (.string s5)) (h4 : s4.size ≤ 8) (hv4 : hv s4 < 4294967296) (h5 : s5.size ≤ 16) (he : s5.size % 2 = 0 ∨ (s5.toList == wDash) = true) (hby : ∀ k, 2 * k + 2 ≤ s5.size → byteAt s5 k < 256) (hA : (s0.toList == wAsk) = false) :
    Calls Tryz.prog 47 #[.slice (some ⟨g, 0, none⟩) 6 cp] w fun o w' => frP w (s3.toList == wX) (hv s4) false ((datL s5).length : Int) (datL s5) o w' := by
  have hgl : g < w.heap.size := World.block_lt_of_cell? w _ c0
  have HV4 := hidYY (fun w => value_any s4 16 (by decide) h4 w)
  have e4 : (valN (lt s4) 16 : Int) = (hv s4 : Int) := rfl
  rw [e4] at HV4
  have w4 : IntKind.u32.wrap (hv s4 : Int) = (hv s4 : Int) := u32_wrap _ (by omega) (by omega)
  clear e4 h4
  have HC : Hid (∀ V, Below w.heap.size w V → V.cell? ⟨g, 0, none⟩ = some (.string s0) ∧ V.cell? ⟨g, 3, none⟩ = some (.string s3) ∧ V.cell? ⟨g, 4, none⟩ = some (.string s4) ∧ V.cell? ⟨g, 5, none⟩ = some (.string s5)) := fun V hV => ⟨(hV.cell hgl).trans c0, (hV.cell hgl).trans c3, (hV.cell hgl).trans c4, (hV.cell hgl).trans c5⟩
  clear c0 c3 c4 c5
  have HB0 : Hid (Below w.heap.size w (w.alloc (.cells z5.toArray 65))) := (Below.refl _ _).alloc (Nat.le_refl _) _
  obtain ⟨d0, d3, d4, d5⟩ := HC.out _ HB0.out
  have hgn : g ≠ w.heap.size := by omega
  have hgn1 : g ≠ w.heap.size + 1 := by omega
  have hgn2 : g ≠ w.heap.size + 2 := by omega
  go_enter Tryz.func47, Tryz.ntmps47
  go_upto_region 1 with fail
  go_cut [3] (fun p wx => ∃ V h, p = .pointer (some ⟨V, 0, none⟩) ∧ mkFr w wx V (s3.toList == wX) (hv s4) false 0 h [])
  case first =>
    go_region_held3 (fun V => V.cell? ⟨g, 3, none⟩ = some (.string s3) ∧ V.cell? ⟨g, 4, none⟩ = some (.string s4)) (first | assumption | go_keep) (first | (go_at_call_of 24 (Value.string s4); refine (HV4.out _).mono ?_; rintro o q1 ⟨rfl, rfl⟩))
    all_goals
      go_wp2_with fail
      go_meet
      case rel => first
        | exact mkFr.a w _ _
        | exact mkFr.c w _ _
  case rest =>
  obtain ⟨V, h, rfl, hF⟩ := hcut
  clear d0 d3 d4 d5
  have HF := hidYY hF
  obtain ⟨d0, d3, d4, d5⟩ := HC.out _ hF.b
  have v3 := hF.v.cell 3 _ rfl
  have f3 := hF.v.free 3
  clear hF
  have HBY := hidYY hby
  clear hby
  cases hD : (s5.toList == wDash)
  · have hev : s5.size % 2 = 0 := by
      rcases he with h | h
      · exact h
      · rw [hD] at h; cases h
    have HED : Hid ((s5.size : Int) / 2 = ((s5.size / 2 : Nat) : Int)) := by show _ = _; omega
    go_upto_region 8 with fail
    generalize hX : World.setCell _ _ _ = w2
    have H2 : Hid (mkFr w w2 V (s3.toList == wX) (hv s4) false ((s5.size / 2 : Nat) : Int) h (dtK s5 0)) := by
      show mkFr _ _ _ _ _ _ _ _ _
      rw [← hX, HED.out]
      exact HF.out.set3 ((s5.size / 2 : Nat) : Int)
    have HDL : Hid (datL s5 = dtK s5 (s5.size / 2)) := by show datL s5 = _; unfold datL; rw [hD]; rfl
    obtain ⟨M, hM⟩ : ∃ M, s5.size / 2 = M := ⟨_, rfl⟩
    have HMM := hidYY hM
    have hM8 : M ≤ 8 := by omega
    have hM2 : 2 * M = s5.size := by omega
    rw [hM] at H2 HDL
    clear hX HF d0 d3 d4 d5 v3 f3 he hev HED hM
    have HSZ : Hid (2 * M = s5.size) := hM2
    go_wp2
    go_loopw [4] (fun i wr => ∃ (k : Nat) (hh : Hd), k ≤ M ∧ i = .int .i64 (k : Int) ∧ mkFr w wr V (s3.toList == wX) (hv s4) false (M : Int) hh (dtK s5 k)) (fun i _ => M - (intOf i).toNat)
    case atStart => exact ⟨0, h, Nat.zero_le _, rfl, H2.out⟩
    case round =>
      clear H2
      obtain ⟨k, hh, hk, rfl, hF⟩ := hrel
      have HF := hidYY hF
      obtain ⟨d0, d3, d4, d5⟩ := HC.out _ hF.b
      have v3 := hF.v.cell 3 _ rfl
      have v4 := hF.v.cell 4 _ rfl
      have f4 := hF.v.free 4
      clear hF
      by_cases hlt : k < M
      · have h2k : 2 * k + 2 ≤ s5.size := by omega
        have HVB := hidYY (fun w => value_any (s5.extract (2 * k) (2 * k + 2)) 16 (by decide) (by simp; omega) w)
        go_wp2_with fail
        clear d0 d3 d4 v3
        have hby := HBY.out k h2k
        have ebv : valN (lt (s5.extract (2 * k) (2 * k + 2))) 16 = byteAt s5 k := rfl
        rw [ebv] at HVB
        have hwb : IntKind.u8.wrap (byteAt s5 k : Int) = (byteAt s5 k : Int) := u8_wrap _ (by omega) (by omega)
        clear ebv
        have w2k : IntKind.i64.wrap (2 * (k : Int)) = 2 * (k : Int) := i64w _ (by omega) (by omega)
        have w2k2 : IntKind.i64.wrap (2 * (k : Int) + 2) = 2 * (k : Int) + 2 := i64w _ (by omega) (by omega)
        have t2k : (2 * (k : Int)).toNat = 2 * k := by omega
        have t2k2 : (2 * (k : Int) + 2).toNat = 2 * k + 2 := by omega
        have b1 : (0 : Int) ≤ 2 * (k : Int) := by omega
        have b2 : 2 * (k : Int) ≤ 2 * (k : Int) + 2 := by omega
        have b3 : 2 * (k : Int) + 2 ≤ (s5.size : Int) := by omega
        have b4 : (0 : Int) ≤ 2 * (k : Int) + 2 := by omega
        have HA : Hid (mkFr w (wr.drew.alloc (.cells [.int .u8 (byteAt s5 k : Int)].toArray 5)) V (s3.toList == wX) (hv s4) false (M : Int) hh (dtK s5 k)) := HF.out.below ((Below.refl _ _).drew.alloc (Nat.le_refl _) _)
        have y4 : (wr.drew.alloc (.cells [.int .u8 (byteAt s5 k : Int)].toArray 5)).cell? ⟨V, 4, none⟩ = some (hdV hh) := HA.out.v.cell 4 _ rfl
        have y4' : (wr.alloc (.cells [.int .u8 (byteAt s5 k : Int)].toArray 5)).cell? ⟨V, 4, none⟩ = some (hdV hh) := y4
        have HNB := hidYY (heap_alloc_new wr.drew (.cells [.int .u8 (byteAt s5 k : Int)].toArray 5))
        have HKY : Hid (∀ U, (wr.drew.alloc (.cells [.int .u8 (byteAt s5 k : Int)].toArray 5)).grownBy U (hdV hh).ownBlock → Ky [5] w.heap.size (wr.drew.alloc (.cells [.int .u8 (byteAt s5 k : Int)].toArray 5)) U) := fun U hg => (Ky.refl _ _ _).grown hg HA.out.b.size fun x e => by
          rcases ownsRow_shape HA.out.f with ⟨e2, _⟩ | ⟨g2, k2, e2, h2, _⟩
          · rw [e2] at e; cases e
          · obtain ⟨c2, hc2⟩ := ownsRow_kind HA.out.f e2
            rw [e2] at e
            cases e
            exact ⟨h2, _, _, _, hc2, by simp⟩
        have HS5 : Hid (∀ U, (wr.drew.alloc (.cells [.int .u8 (byteAt s5 k : Int)].toArray 5)).grownBy U (hdV hh).ownBlock → U.cell? ⟨g, 5, none⟩ = some (.string s5)) := fun U hg => (HC.out U (HA.out.b.trans (HKY.out U hg).low)).2.2.2
        have HV5 : Hid (∀ U, (wr.drew.alloc (.cells [.int .u8 (byteAt s5 k : Int)].toArray 5)).grownBy U (hdV hh).ownBlock → U.cell? ⟨V, 4, none⟩ = some (hdV hh) ∧ U.frozen? ⟨V, 4, none⟩ = false) := fun U hg => by
          have := (HKY.out U hg).blk HA.out.v (by decide)
          exact ⟨this.cell 4 _ rfl, this.free 4⟩
        refine wp_region_held (S := (fun U => U.cell? ⟨g, 5, none⟩ = some (.string s5))) (by kernel_rfl) ?_
        have hS : (fun U => U.cell? ⟨g, 5, none⟩ = some (.string s5)) wr.drew := d5
        refine wpAnyH_take (i := 0) (v := (.pointer (some ⟨V, 4, none⟩))) rfl (by kernel_rfl) (by kernel_rfl) (by kernel_rfl) (fun _ _ _ h => h) (Or.inl ⟨by rfl, ?_⟩) hS ?_
        · intro W hSw
          clear hS
          go_simp
        simp only [Act.put, List.setIfInBounds_toArray, List.set_cons_zero, List.set_cons_succ, List.getElem_toArray, List.getElem_cons_zero]
        refine wpAnyH_take (i := 2) (v := (.slice (some ⟨g, 0, none⟩) 6 cp)) rfl (by kernel_rfl) (by kernel_rfl) (by kernel_rfl) (fun _ _ _ h => h) (Or.inl ⟨by rfl, ?_⟩) hS ?_
        · intro W hSw
          clear hS
          go_simp
        simp only [Act.put, List.setIfInBounds_toArray, List.set_cons_zero, List.set_cons_succ, List.getElem_toArray, List.getElem_cons_zero, List.getElem_cons_succ]
        refine wpAnyH_take (i := 3) (v := (.pointer (some ⟨g, 5, none⟩))) rfl (by kernel_rfl) (by kernel_rfl) (by kernel_rfl) (fun _ _ _ h => h) (Or.inl ⟨by rfl, ?_⟩) hS ?_
        · intro W hSw
          clear hS
          go_simp
        simp only [Act.put, List.setIfInBounds_toArray, List.set_cons_zero, List.set_cons_succ, List.getElem_toArray, List.getElem_cons_zero, List.getElem_cons_succ]
        refine wpAnyH_take (i := 4) (v := (.string s5)) rfl (by kernel_rfl) (by kernel_rfl) (by kernel_rfl) (fun _ _ _ h => h) (Or.inl ⟨by rfl, ?_⟩) hS ?_
        · intro W hSw
          clear hS
          go_simp
        simp only [Act.put, List.setIfInBounds_toArray, List.set_cons_zero, List.set_cons_succ, List.getElem_toArray, List.getElem_cons_zero, List.getElem_cons_succ]
        refine wpAnyH_take (i := 5) (v := (.int .i64 (k : Int))) rfl (by kernel_rfl) (by kernel_rfl) (by kernel_rfl) (fun _ _ _ h => h) (Or.inl ⟨by rfl, ?_⟩) hS ?_
        · intro W hSw
          clear hS
          go_simp
        simp only [Act.put, List.setIfInBounds_toArray, List.set_cons_zero, List.set_cons_succ, List.getElem_toArray, List.getElem_cons_zero, List.getElem_cons_succ]
        refine wpAnyH_take (i := 6) (v := (.int .i64 (2 * (k : Int)))) rfl (by kernel_rfl) (by kernel_rfl) (by kernel_rfl) (fun _ _ _ h => h) (Or.inl ⟨by rfl, ?_⟩) hS ?_
        · intro W hSw
          clear hS
          go_simp
        simp only [Act.put, List.setIfInBounds_toArray, List.set_cons_zero, List.set_cons_succ, List.getElem_toArray, List.getElem_cons_zero, List.getElem_cons_succ]
        refine wpAnyH_take (i := 7) (v := (.int .i64 (k : Int))) rfl (by kernel_rfl) (by kernel_rfl) (by kernel_rfl) (fun _ _ _ h => h) (Or.inl ⟨by rfl, ?_⟩) hS ?_
        · intro W hSw
          clear hS
          go_simp
        simp only [Act.put, List.setIfInBounds_toArray, List.set_cons_zero, List.set_cons_succ, List.getElem_toArray, List.getElem_cons_zero, List.getElem_cons_succ]
        refine wpAnyH_take (i := 8) (v := (.int .i64 (2 * (k : Int)))) rfl (by kernel_rfl) (by kernel_rfl) (by kernel_rfl) (fun _ _ _ h => h) (Or.inl ⟨by rfl, ?_⟩) hS ?_
        · intro W hSw
          clear hS
          go_simp
        simp only [Act.put, List.setIfInBounds_toArray, List.set_cons_zero, List.set_cons_succ, List.getElem_toArray, List.getElem_cons_zero, List.getElem_cons_succ]
        refine wpAnyH_take (i := 9) (v := (.int .i64 (2 * (k : Int) + 2))) rfl (by kernel_rfl) (by kernel_rfl) (by kernel_rfl) (fun _ _ _ h => h) (Or.inl ⟨by rfl, ?_⟩) hS ?_
        · intro W hSw
          clear hS
          go_simp
        simp only [Act.put, List.setIfInBounds_toArray, List.set_cons_zero, List.set_cons_succ, List.getElem_toArray, List.getElem_cons_zero, List.getElem_cons_succ]
        refine wpAnyH_take (i := 10) (v := (.string (s5.extract (2 * k) (2 * k + 2)))) rfl (by kernel_rfl) (by kernel_rfl) (by kernel_rfl) (fun _ _ _ h => h) (Or.inl ⟨by rfl, ?_⟩) hS ?_
        · intro W hSw
          clear hS
          go_simp
        simp only [Act.put, List.setIfInBounds_toArray, List.set_cons_zero, List.set_cons_succ, List.getElem_toArray, List.getElem_cons_zero, List.getElem_cons_succ]
        refine wpAnyH_all (rs := [1, 11]) (by kernel_rfl) (by simp) ?_
        refine AllReadyH.cons rfl (fun K hK => ?_) (AllReadyH.cons rfl (fun K hK => ?_) AllReadyH.nil)
        · go_simp
          refine hK.out _ _ hS (fun hS2 => ?_)
          clear hS hK K
          have hS := hS2
          clear hS2
          refine wpAnyH_all (rs := [11]) (by kernel_rfl) (by simp) ?_
          refine AllReadyH.cons rfl (fun K hK => ?_) AllReadyH.nil
          go_simp
          refine (HVB.out _).mono ?_
          rintro o q1 ⟨rfl, rfl⟩
          go_wp2_with fail
          refine hK.out _ _ hS (fun hS2 => ?_)
          clear hS hK K
          have hS := hS2
          clear hS2
          refine wpAnyH_take (i := 12) (v := (.int .u8 (byteAt s5 k : Int))) rfl (by kernel_rfl) (by kernel_rfl) (by kernel_rfl) (fun _ _ _ h => h) (Or.inl ⟨by rfl, ?_⟩) hS ?_
          · intro W hSw
            clear hS
            go_simp
          simp only [Act.put, List.setIfInBounds_toArray, List.set_cons_zero, List.set_cons_succ, List.getElem_toArray, List.getElem_cons_zero, List.getElem_cons_succ]
          refine wpAnyH_all (rs := [13]) (by kernel_rfl) (by simp) ?_
          refine AllReadyH.cons rfl (fun K hK => ?_) AllReadyH.nil
          go_simp
          have hSq : (fun U => U.cell? ⟨g, 5, none⟩ = some (.string s5)) (wr.drew.alloc (.cells [.int .u8 (byteAt s5 k : Int)].toArray 5)) := (World.cell?_alloc_lt _ _ ⟨g, 5, none⟩ (World.block_lt_of_cell? wr _ d5)).trans d5
          refine hK.out _ _ hSq (fun hS2 => ?_)
          clear hSq
          clear hS hK K
          have hS := hS2
          clear hS2
          refine wpAnyH_all (rs := [14]) (by kernel_rfl) (by simp) ?_
          refine AllReadyH.cons rfl (fun K hK => ?_) AllReadyH.nil
          refine wp_app_row (.tmp 44) (.tmp 56) 63 5 _ 1 1 Tryz.info5 Tryz.underlying63 rfl (by decide) (by decide) rfl w.heap.size (dtK s5 k).length (hdV hh) (bv (dtK s5 k)) rfl HA.out.f wr.heap.size [.int .u8 (byteAt s5 k : Int)] rfl rfl HNB.out (by simp [Value.oneCell']) (by rw [dtK_len]; omega) HA.out.b.size ?_
          intro g' k' w5 hown5 hgr5 hgg5
          have hm := HA.out.app (h' := (some ⟨g', 0, none⟩, (dtK s5 k).length + 1, k')) (byteAt s5 k) hown5 hgr5 HA.out.b.size
          have HM := hidYY hm
          have hSq : (fun U => U.cell? ⟨g, 5, none⟩ = some (.string s5)) w5 := HS5.out w5 hgr5
          obtain ⟨y4, yf4⟩ := HV5.out w5 hgr5
          clear hm hown5 hgr5 hgg5
          refine hK.out _ _ hSq (fun hS2 => ?_)
          clear hSq
          clear hS hK K
          have hS := hS2
          clear hS2
          refine wpAnyH_take (i := 15) (v := (.pointer (some ⟨V, 4, none⟩))) rfl (by kernel_rfl) (by kernel_rfl) (by kernel_rfl) (fun _ _ _ h => h) (Or.inl ⟨by rfl, ?_⟩) hS ?_
          · intro W hSw
            clear hS
            go_simp
          simp only [Act.put, List.setIfInBounds_toArray, List.set_cons_zero, List.set_cons_succ, List.getElem_toArray, List.getElem_cons_zero, List.getElem_cons_succ]
          refine wpAnyH_all (rs := [16]) (by kernel_rfl) (by simp) ?_
          refine AllReadyH.cons rfl (fun K hK => ?_) AllReadyH.nil
          go_simp
          have hSq : (fun U => U.cell? ⟨g, 5, none⟩ = some (.string s5)) (w5.setCell ⟨V, 4, none⟩ (.slice (some ⟨g', 0, none⟩) ((dtK s5 k).length + 1) k')) := (HC.out _ HM.out.b).2.2.2
          refine hK.out _ _ hSq (fun hS2 => ?_)
          clear hSq
          clear hS hK K
          have hS := hS2
          clear hS2
          refine wpAnyH_done (by kernel_rfl) ?_ _
          clear hS
          go_wp2
          go_roundw
          case rel => exact ⟨k + 1, _, by omega, by go_num, by rw [dtK_succ]; exact HM.out⟩
          case measure => simp [intOf]; omega
        · go_simp
          refine (HVB.out _).mono ?_
          rintro o q1 ⟨rfl, rfl⟩
          go_wp2_with fail
          refine hK.out _ _ hS (fun hS2 => ?_)
          clear hS hK K
          have hS := hS2
          clear hS2
          refine wpAnyH_take (i := 12) (v := (.int .u8 (byteAt s5 k : Int))) rfl (by kernel_rfl) (by kernel_rfl) (by kernel_rfl) (fun _ _ _ h => h) (Or.inl ⟨by rfl, ?_⟩) hS ?_
          · intro W hSw
            clear hS
            go_simp
          simp only [Act.put, List.setIfInBounds_toArray, List.set_cons_zero, List.set_cons_succ, List.getElem_toArray, List.getElem_cons_zero, List.getElem_cons_succ]
          refine wpAnyH_all (rs := [1, 13]) (by kernel_rfl) (by simp) ?_
          refine AllReadyH.cons rfl (fun K hK => ?_) (AllReadyH.cons rfl (fun K hK => ?_) AllReadyH.nil)
          · go_simp
            refine hK.out _ _ hS (fun hS2 => ?_)
            clear hS hK K
            have hS := hS2
            clear hS2
            refine wpAnyH_all (rs := [13]) (by kernel_rfl) (by simp) ?_
            refine AllReadyH.cons rfl (fun K hK => ?_) AllReadyH.nil
            go_simp
            have hSq : (fun U => U.cell? ⟨g, 5, none⟩ = some (.string s5)) (wr.drew.alloc (.cells [.int .u8 (byteAt s5 k : Int)].toArray 5)) := (World.cell?_alloc_lt _ _ ⟨g, 5, none⟩ (World.block_lt_of_cell? wr _ d5)).trans d5
            refine hK.out _ _ hSq (fun hS2 => ?_)
            clear hSq
            clear hS hK K
            have hS := hS2
            clear hS2
            refine wpAnyH_all (rs := [14]) (by kernel_rfl) (by simp) ?_
            refine AllReadyH.cons rfl (fun K hK => ?_) AllReadyH.nil
            refine wp_app_row (.tmp 44) (.tmp 56) 63 5 _ 1 1 Tryz.info5 Tryz.underlying63 rfl (by decide) (by decide) rfl w.heap.size (dtK s5 k).length (hdV hh) (bv (dtK s5 k)) rfl HA.out.f wr.heap.size [.int .u8 (byteAt s5 k : Int)] rfl rfl HNB.out (by simp [Value.oneCell']) (by rw [dtK_len]; omega) HA.out.b.size ?_
            intro g' k' w5 hown5 hgr5 hgg5
            have hm := HA.out.app (h' := (some ⟨g', 0, none⟩, (dtK s5 k).length + 1, k')) (byteAt s5 k) hown5 hgr5 HA.out.b.size
            have HM := hidYY hm
            have hSq : (fun U => U.cell? ⟨g, 5, none⟩ = some (.string s5)) w5 := HS5.out w5 hgr5
            obtain ⟨y4, yf4⟩ := HV5.out w5 hgr5
            clear hm hown5 hgr5 hgg5
            refine hK.out _ _ hSq (fun hS2 => ?_)
            clear hSq
            clear hS hK K
            have hS := hS2
            clear hS2
            refine wpAnyH_take (i := 15) (v := (.pointer (some ⟨V, 4, none⟩))) rfl (by kernel_rfl) (by kernel_rfl) (by kernel_rfl) (fun _ _ _ h => h) (Or.inl ⟨by rfl, ?_⟩) hS ?_
            · intro W hSw
              clear hS
              go_simp
            simp only [Act.put, List.setIfInBounds_toArray, List.set_cons_zero, List.set_cons_succ, List.getElem_toArray, List.getElem_cons_zero, List.getElem_cons_succ]
            refine wpAnyH_all (rs := [16]) (by kernel_rfl) (by simp) ?_
            refine AllReadyH.cons rfl (fun K hK => ?_) AllReadyH.nil
            go_simp
            have hSq : (fun U => U.cell? ⟨g, 5, none⟩ = some (.string s5)) (w5.setCell ⟨V, 4, none⟩ (.slice (some ⟨g', 0, none⟩) ((dtK s5 k).length + 1) k')) := (HC.out _ HM.out.b).2.2.2
            refine hK.out _ _ hSq (fun hS2 => ?_)
            clear hSq
            clear hS hK K
            have hS := hS2
            clear hS2
            refine wpAnyH_done (by kernel_rfl) ?_ _
            clear hS
            go_wp2
            go_roundw
            case rel => exact ⟨k + 1, _, by omega, by go_num, by rw [dtK_succ]; exact HM.out⟩
            case measure => simp [intOf]; omega
          · go_simp
            have hSq : (fun U => U.cell? ⟨g, 5, none⟩ = some (.string s5)) (wr.drew.alloc (.cells [.int .u8 (byteAt s5 k : Int)].toArray 5)) := (World.cell?_alloc_lt _ _ ⟨g, 5, none⟩ (World.block_lt_of_cell? wr _ d5)).trans d5
            refine hK.out _ _ hSq (fun hS2 => ?_)
            clear hSq
            clear hS hK K
            have hS := hS2
            clear hS2
            refine wpAnyH_all (rs := [1]) (by kernel_rfl) (by simp) ?_
            refine AllReadyH.cons rfl (fun K hK => ?_) AllReadyH.nil
            go_simp
            refine hK.out _ _ hS (fun hS2 => ?_)
            clear hS hK K
            have hS := hS2
            clear hS2
            refine wpAnyH_all (rs := [14]) (by kernel_rfl) (by simp) ?_
            refine AllReadyH.cons rfl (fun K hK => ?_) AllReadyH.nil
            refine wp_app_row (.tmp 44) (.tmp 56) 63 5 _ 1 1 Tryz.info5 Tryz.underlying63 rfl (by decide) (by decide) rfl w.heap.size (dtK s5 k).length (hdV hh) (bv (dtK s5 k)) rfl HA.out.f wr.heap.size [.int .u8 (byteAt s5 k : Int)] rfl rfl HNB.out (by simp [Value.oneCell']) (by rw [dtK_len]; omega) HA.out.b.size ?_
            intro g' k' w5 hown5 hgr5 hgg5
            have hm := HA.out.app (h' := (some ⟨g', 0, none⟩, (dtK s5 k).length + 1, k')) (byteAt s5 k) hown5 hgr5 HA.out.b.size
            have HM := hidYY hm
            have hSq : (fun U => U.cell? ⟨g, 5, none⟩ = some (.string s5)) w5 := HS5.out w5 hgr5
            obtain ⟨y4, yf4⟩ := HV5.out w5 hgr5
            clear hm hown5 hgr5 hgg5
            refine hK.out _ _ hSq (fun hS2 => ?_)
            clear hSq
            clear hS hK K
            have hS := hS2
            clear hS2
            refine wpAnyH_take (i := 15) (v := (.pointer (some ⟨V, 4, none⟩))) rfl (by kernel_rfl) (by kernel_rfl) (by kernel_rfl) (fun _ _ _ h => h) (Or.inl ⟨by rfl, ?_⟩) hS ?_
            · intro W hSw
              clear hS
              go_simp
            simp only [Act.put, List.setIfInBounds_toArray, List.set_cons_zero, List.set_cons_succ, List.getElem_toArray, List.getElem_cons_zero, List.getElem_cons_succ]
            refine wpAnyH_all (rs := [16]) (by kernel_rfl) (by simp) ?_
            refine AllReadyH.cons rfl (fun K hK => ?_) AllReadyH.nil
            go_simp
            have hSq : (fun U => U.cell? ⟨g, 5, none⟩ = some (.string s5)) (w5.setCell ⟨V, 4, none⟩ (.slice (some ⟨g', 0, none⟩) ((dtK s5 k).length + 1) k')) := (HC.out _ HM.out.b).2.2.2
            refine hK.out _ _ hSq (fun hS2 => ?_)
            clear hSq
            clear hS hK K
            have hS := hS2
            clear hS2
            refine wpAnyH_done (by kernel_rfl) ?_ _
            clear hS
            go_wp2
            go_roundw
            case rel => exact ⟨k + 1, _, by omega, by go_num, by rw [dtK_succ]; exact HM.out⟩
            case measure => simp [intOf]; omega
      · have hke : k = M := by omega
        have hnl : ¬ (k : Int) < (M : Int) := by omega
        have HKE := hidYY hke
        clear hke
        go_wp2_with (first
          | (refine wpList_load_mid (P := Tryz.prog) rfl 65 (.tmp 3) rfl V 0 rfl (l5 (s3.toList == wX) (hv s4) false (M : Int) hh) _ HF.out.v.load Tryz.underlying65 rfl sz29 ?_)
          | (refine wpList_store_mid (P := Tryz.prog) rfl 65 (.tmp 2) (.tmp 59) rfl w.heap.size 0 (l5 (s3.toList == wX) (hv s4) false (M : Int) hh).toArray rfl rfl (HF.out.res.there 0 5 (by simp)) sz29 (one5h _ _ _ _ _) ?_; generalize hX : World.setCells _ w.heap.size 0 _ = w4; have HX : Hid (World.setCells wr w.heap.size 0 (l5 (s3.toList == wX) (hv s4) false (M : Int) hh) = w4) := hX; clear hX))
        have e4 := HX.out
        have hR : blk w4 w.heap.size (l5 (s3.toList == wX) (hv s4) false (M : Int) hh) 65 := e4 ▸ blk_all HF.out.res rfl
        have hky : Ky [65] w.heap.size wr w4 := e4 ▸ (Ky.refl _ _ _).setCells _ _ _ (Nat.le_refl _) ⟨_, _, _, HF.out.res, by simp⟩
        have hL := run_loadVar_mid (P := Tryz.prog) w4 w.heap.size 0 65 _ _ hR.load Tryz.underlying65 rfl sz29
        refine bodyPost_ret (v := .agg (l5 (s3.toList == wX) (hv s4) false (M : Int) hh).toArray) (Kd.results_cell Tryz.results47 _ w4 w.heap.size _ rfl hL) rfl ?_
        refine frP.mk hh ?_ ?_ (HF.out.b.trans hky.low)
        · rw [HDL.out, dtK_len]
        · rw [HDL.out]
          have := HF.out.f
          rw [HKE.out] at this
          exact hky.row this (by decide)
  · have HDL : Hid (datL s5 = []) := by show datL s5 = _; unfold datL; rw [hD]; rfl
    go_upto_region 8 with fail
    go_wp2
    go_loopw [4] (fun i wr => i = .int .i64 0 ∧ wr = wc) (fun _ _ => 0)
    case atStart => exact ⟨rfl, rfl⟩
    case round =>
      obtain ⟨rfl, rfl⟩ := hrel
      go_wp2_with (first
        | (refine wpList_load_mid (P := Tryz.prog) rfl 65 (.tmp 3) rfl V 0 rfl (l5 (s3.toList == wX) (hv s4) false 0 h) _ HF.out.v.load Tryz.underlying65 rfl sz29 ?_)
        | (refine wpList_store_mid (P := Tryz.prog) rfl 65 (.tmp 2) (.tmp 59) rfl w.heap.size 0 (l5 (s3.toList == wX) (hv s4) false 0 h).toArray rfl rfl (HF.out.res.there 0 5 (by simp)) sz29 (one5h _ _ _ _ _) ?_; generalize hX : World.setCells _ w.heap.size 0 _ = w4; have HX : Hid (World.setCells wr w.heap.size 0 (l5 (s3.toList == wX) (hv s4) false 0 h) = w4) := hX; clear hX))
      have e4 := HX.out
      have hR : blk w4 w.heap.size (l5 (s3.toList == wX) (hv s4) false 0 h) 65 := e4 ▸ blk_all HF.out.res rfl
      have hky : Ky [65] w.heap.size wr w4 := e4 ▸ (Ky.refl _ _ _).setCells _ _ _ (Nat.le_refl _) ⟨_, _, _, HF.out.res, by simp⟩
      have hL := run_loadVar_mid (P := Tryz.prog) w4 w.heap.size 0 65 _ _ hR.load Tryz.underlying65 rfl sz29
      refine bodyPost_ret (v := .agg (l5 (s3.toList == wX) (hv s4) false 0 h).toArray) (Kd.results_cell Tryz.results47 _ w4 w.heap.size _ rfl hL) rfl ?_
      refine frP.mk h ?_ ?_ (HF.out.b.trans hky.low)
      · rw [HDL.out]
        rfl
      · rw [HDL.out]
        exact hky.row HF.out.f (by decide)
end Go.Proofs.YtfbeaekddgpmmaaGreatDoor
