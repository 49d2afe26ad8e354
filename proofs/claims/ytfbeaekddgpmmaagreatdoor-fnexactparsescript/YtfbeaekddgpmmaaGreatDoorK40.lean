import Derived.Test.YtfbeaekddgpmmaaGreatDoorK39
import Derived.Test.YtfbeaekddgpmmaaGreatDoorK27
import Derived.Test.YtfbeaekddgpmmaaGreatDoorK38
namespace Go.Proofs.YtfbeaekddgpmmaaGreatDoor
open Go.RowKit Kd
set_option linter.unusedVariables false
theorem Ky.fin {B : Nat} {w W V : World} (h : Ky [55, 60, 67] B w W) (hk : Ky [25] w.heap.size W V) (hB : B ≤ w.heap.size) : Ky [55, 60, 67] B w V := by
  refine ⟨h.low.trans (hk.low.mono hB), fun g c T f hg hT => ?_⟩
  have e := h.keep g c T f hg hT
  exact (hk.low.block g (lt_of_some hg)).trans e
/-- what l6line answers -/
def lnP (B : Nat) (w : World) (c l : Int) (p : Nat × Sc) (o : Ending) (w' : World) : Prop :=
  (∃ h1 h2 t, o = .returned (.tuple #[.agg (scL c l h1 h2 t).toArray, .int .i64 (p.1 : Int)]) ∧ (p.1 = 0 → t = (p.2.ticks : Int) ∧ ∃ us os, isSc B us os h1 h2 p.2 w')) ∧ Ky [55, 60, 67] B w w'
theorem lnP.bad {B : Nat} {w : World} {c l : Int} {p : Nat × Sc} {o : Ending} {w' : World} (h1 h2 : Hd) (t : Int) (ho : o = .returned (.tuple #[.agg (scL c l h1 h2 t).toArray, .int .i64 (p.1 : Int)])) (hp : p.1 ≠ 0) (hk : Ky [55, 60, 67] B w w') : lnP B w c l p o w' := ⟨⟨h1, h2, t, ho, fun h => absurd h hp⟩, hk⟩
/-- the line at work: the script's block, the result's -/
structure lnW (B : Nat) (w W : World) (v : List Value) : Prop where
  s : blk W w.heap.size v 25
  r : blk W (w.heap.size + 1) (scL 0 0 noH noH 0) 25
  k : Ky [55, 60, 67] B w W
theorem lnW.zero (B : Nat) (w : World) (hB : B ≤ w.heap.size) (v : List Value) : lnW B w ((w.alloc (.cells v.toArray 25)).alloc (.cells (scL 0 0 noH noH 0).toArray 25)) v := by
  refine ⟨(blk.new w v 25).alloc _, ?_, Ky.of (((Below.refl _ _).alloc (Nat.le_refl _) _).alloc (by simp) _) hB⟩
  have := blk.new (w.alloc (.cells v.toArray 25)) (scL 0 0 noH noH 0) 25
  have e : (w.alloc (.cells v.toArray 25)).heap.size = w.heap.size + 1 := by simp
  rw [e] at this
  exact this
theorem lnW.ky {B : Nat} {w W V : World} {v : List Value} (h : lnW B w W v) (hk : Ky [55, 60, 67] B W V) : lnW B w V v := ⟨hk.blk h.s (by decide), hk.blk h.r (by decide), h.k.trans hk⟩
theorem lnW.below {B : Nat} {w W V : World} {v : List Value} (h : lnW B w W v) (hb : Below W.heap.size W V) (hB : B ≤ W.heap.size) : lnW B w V v := h.ky (Ky.of hb hB)
theorem lnW.drew {B : Nat} {w W : World} {v : List Value} (h : lnW B w W v) (hB : B ≤ w.heap.size) : lnW B w W.drew v := h.below (Below.refl _ _).drew (Nat.le_trans hB h.k.low.size)
/-- the words, wherever the walk is -/
theorem words_at {B Bt g n cp : Nat} {w W : World} {ws : List (List UInt8)} (ht : w.ownsRow Bt 9 1 (.slice (some ⟨g, 0, none⟩) n cp) n (sv ws)) (hn : n = ws.length) (hk : Ky [55, 60, 67] B w W) (j : Nat) (hj : j < ws.length) : W.cell? ⟨g, j, none⟩ = some (.string (wd ws[j])) := by
  have := hk.row ht (by decide)
  rw [World.ownsRow.cellAt this j (by omega), sv_at ws j hj]
theorem toList_nil (s : ByteArray) : (s.toList == ([] : List UInt8)) = decide (s.size = 0) := by
  obtain ⟨⟨l⟩⟩ := s
  rw [toList_mk]
  cases l <;> rfl
theorem form_at {ws : List (List UInt8)} (h : formAll ws = true) {k : Nat} (hk : k < (shapeZ (wk ws 0)).size) : formB ((shapeZ (wk ws 0))[k]).toNat (wk ws (k + 1)) = true := by
  unfold formAll at h
  have := List.all_eq_true.1 h k (List.mem_range.2 hk)
  have e : (shapeZ (wk ws 0)).data.toList.getD k 0 = (shapeZ (wk ws 0))[k] := by
    rw [List.getD_eq_getElem?_getD, List.getElem?_eq_getElem (by rw [Array.length_toList]; exact hk), Array.getElem_toList]; rfl
  rw [e] at this
  exact this
theorem form_no {ws : List (List UInt8)} {k : Nat} (hk : k < (shapeZ (wk ws 0)).size) (h : formB ((shapeZ (wk ws 0))[k]).toNat (wk ws (k + 1)) = false) : formAll ws = false := by
  cases hf : formAll ws
  · rfl
  · rw [form_at hf hk] at h; cases h
theorem form_yes {ws : List (List UInt8)} (h : ∀ k (hk : k < (shapeZ (wk ws 0)).size), formB ((shapeZ (wk ws 0))[k]).toNat (wk ws (k + 1)) = true) : formAll ws = true := by
  unfold formAll
  rw [List.all_eq_true]
  intro k hk
  have hk := List.mem_range.1 hk
  have e : (shapeZ (wk ws 0)).data.toList.getD k 0 = (shapeZ (wk ws 0))[k] := by
    rw [List.getD_eq_getElem?_getD, List.getElem?_eq_getElem (by rw [Array.length_toList]; exact hk), Array.getElem_toList]; rfl
  rw [e]
  exact h k hk
theorem step2 {S : Sc} {bg : Bool} {ws : List (List UInt8)} {sh : ByteArray} (hs : shapeZ (wk ws 0) = sh) (h : sh.size = 0) : stepZ S bg ws = (2, S) := by unfold stepZ; rw [hs, if_pos h]
theorem step3 {S : Sc} {bg : Bool} {ws : List (List UInt8)} {sh : ByteArray} (hs : shapeZ (wk ws 0) = sh) (h : sh.size ≠ 0) (h3 : ws.length ≠ sh.size + 1) : stepZ S bg ws = (3, S) := by unfold stepZ; rw [hs, if_neg h, if_pos h3]
theorem step4 {S : Sc} {bg : Bool} {ws : List (List UInt8)} {sh : ByteArray} (hs : shapeZ (wk ws 0) = sh) (h : sh.size ≠ 0) (h3 : ws.length = sh.size + 1) (h4 : (bg && (((wk ws 0).toList == wNode) || ((wk ws 0).toList == wAccept))) = true) : stepZ S bg ws = (4, S) := by unfold stepZ; rw [hs, if_neg h, if_neg (fun hh => hh h3), if_pos h4]
theorem step5 {S : Sc} {bg : Bool} {ws : List (List UInt8)} {sh : ByteArray} (hs : shapeZ (wk ws 0) = sh) (h : sh.size ≠ 0) (h3 : ws.length = sh.size + 1) (h4 : (bg && (((wk ws 0).toList == wNode) || ((wk ws 0).toList == wAccept))) = false) (h5 : formAll ws = false) : stepZ S bg ws = (5, S) := by unfold stepZ; rw [hs, if_neg h, if_neg (fun hh => hh h3), if_neg (by rw [h4]; simp), if_pos h5]
set_option maxHeartbeats 8000000 in
set_option maxRecDepth 40000 in
/-- spec.l6line, a line at fault -/
theorem line_bad (B Bt : Nat) (S : Sc) (us : List (Su × Hd)) (os : List (Od × Hd)) (h1 h2 : Hd) (c l : Int) (bg : Bool) (g cp : Nat) (x : List UInt8) (rest : List (List UInt8)) (w : World) (hI : isSc B us os h1 h2 S w) (hB : B ≤ w.heap.size) (hS : okS S) (hok : okWs (x :: rest)) (hl : rest.length ≤ 20000) (ht : w.ownsRow Bt 9 1 (.slice (some ⟨g, 0, none⟩) (rest.length + 1) cp) (rest.length + 1) (sv (x :: rest)))
    (hbad : (shapeZ (wk (x :: rest) 0)).size = 0 ∨ (x :: rest).length ≠ (shapeZ (wk (x :: rest) 0)).size + 1 ∨ (bg && (((wk (x :: rest) 0).toList == wNode) || ((wk (x :: rest) 0).toList == wAccept))) = true ∨ formAll (x :: rest) = false) :
    Calls Tryz.prog 13 #[.agg (scL c l h1 h2 (S.ticks : Int)).toArray, .slice (some ⟨g, 0, none⟩) (rest.length + 1) cp, .bool bg] w (lnP B w c l (stepZ S bg (x :: rest))) := by
  have HI := hidYY hI
  have HT := hidYY ht
  have HOK := hidYY hok
  have H0 := hidYY (lnW.zero B w hB (scL c l h1 h2 (S.ticks : Int)))
  have HSH := hidYY (fun W => shape_any (wd x) W)
  obtain ⟨n, hn⟩ : ∃ n, rest.length + 1 = n := ⟨_, rfl⟩
  have HN := hidYY hn
  have hn1 : 1 ≤ n := by omega
  have hn2 : n ≤ 20001 := by omega
  rw [hn] at HT ⊢
  clear hn hok hI ht hl
  generalize hV : (w.alloc (.cells (scL c l h1 h2 (S.ticks : Int)).toArray 25)).alloc (.cells (scL 0 0 noH noH 0).toArray 25) = V at *
  have HC : Hid (∀ k W, k < n → Ky [55, 60, 67] B w W → W.cell? ⟨g, k, none⟩ = some (.string (wk (x :: rest) k)) ∧ (wk (x :: rest) k).size ≤ 20000) := fun k W hk hW => by
    have hk' : k < (x :: rest).length := by have := HN.out; simp only [List.length_cons]; omega
    have e : wk (x :: rest) k = wd (x :: rest)[k] := by unfold wk; rw [List.getD_eq_getElem?_getD, List.getElem?_eq_getElem hk']; rfl
    rw [e]
    exact ⟨words_at HT.out (by have := HN.out; simp only [List.length_cons]; omega) hW k hk', (HOK.out _ (List.getElem_mem hk')).2.1⟩
  have d0 : V.cell? ⟨g, 0, none⟩ = some (.string (wd x)) := (HC.out 0 V (by omega) H0.out.k).1
  obtain ⟨ws, hws⟩ : ∃ ws, x :: rest = ws := ⟨_, rfl⟩
  have HL : Hid (ws.length = n) := by show ws.length = n; rw [← hws, ← HN.out]; rfl
  have e0 : wd x = wk ws 0 := by rw [← hws]; rfl
  rw [e0] at d0 HSH
  rw [hws] at HC hbad ⊢
  clear e0
  obtain ⟨sh, hsh⟩ : ∃ sh, shapeZ (wk ws 0) = sh := ⟨_, rfl⟩
  have HSZ := hidYY hsh
  rw [hsh] at HSH
  have hs5 : sh.size ≤ 5 := by
    rw [← hsh]; unfold shapeZ
    repeat' split
    all_goals decide
  have esh : (sh.toList == ([] : List UInt8)) = decide (sh.size = 0) := toList_nil sh
  obtain ⟨st, hst⟩ : ∃ st, stepZ S bg ws = st := ⟨_, rfl⟩
  have HE := hidYY hst
  rw [hst]
  clear hst
  have HF5 : Hid (∀ k (hk : k < sh.size), formB (sh[k]).toNat (wk ws (k + 1)) = false → formAll ws = false) := by
    show ∀ k (hk : k < sh.size), formB (sh[k]).toNat (wk ws (k + 1)) = false → formAll ws = false
    rw [← hsh]
    exact fun k hk h => form_no hk h
  have HF6 : Hid ((∀ k (hk : k < sh.size), formB (sh[k]).toNat (wk ws (k + 1)) = true) → formAll ws = true) := by
    show (∀ k (hk : k < sh.size), formB (sh[k]).toNat (wk ws (k + 1)) = true) → formAll ws = true
    rw [← hsh]
    exact fun h => form_yes h
  rw [hsh, HL.out] at hbad
  clear hsh
  have HS2 := hidYY (fun h => step2 (S := S) (bg := bg) HSZ.out h)
  have HS3 := hidYY (fun h h3 => step3 (S := S) (bg := bg) HSZ.out h h3)
  have HS4 := hidYY (fun h h3 h4 => step4 (S := S) (bg := bg) HSZ.out h h3 h4)
  have HS5 := hidYY (fun h h3 h4 h5 => step5 (S := S) (bg := bg) HSZ.out h h3 h4 h5)
  rw [HE.out] at HS2 HS3 HS4 HS5
  rw [HL.out] at HS3 HS4 HS5
  clear HE HSZ
  generalize wk ws 0 = xs at *
  by_cases hz : sh.size = 0
  · have HST := hidYY (HS2.out hz)
    rw [decide_eq_true hz] at esh
    clear HS2 HS3 HS4 HS5 HF5 HF6 HC
    go_enter Tryz.func13, Tryz.ntmps13
    go_upto_region 2 with fail
    try rw [hV]
    refine (HSH.out V).mono ?_
    rintro o q1 ⟨rfl, rfl⟩
    go_wp2_with (first
      | (refine wpList_load_mid (P := Tryz.prog) rfl 25 (.tmp 3) rfl w.heap.size 0 rfl (scL c l h1 h2 (S.ticks : Int)) _ H0.out.s.load Tryz.underlying25 rfl sz25 ?_)
      | (refine wpList_store_mid (P := Tryz.prog) rfl 25 (.tmp 6) (.tmp 21) rfl (w.heap.size + 1) 0 (scL c l h1 h2 (S.ticks : Int)).toArray rfl rfl (H0.out.r.there 0 5 (by simp)) sz25 (one25 _ _ _ _ _) ?_; generalize hX : World.setCells _ (w.heap.size + 1) 0 _ = w9; have HX : Hid (World.setCells V (w.heap.size + 1) 0 (scL c l h1 h2 (S.ticks : Int)) = w9) := hX; clear hX))
    have e2 := HX.out
    have hF : blk w9 (w.heap.size + 1) (scL c l h1 h2 (S.ticks : Int)) 25 := e2 ▸ blk_all H0.out.r rfl
    have hky : Ky [25] w.heap.size V w9 := e2 ▸ (Ky.refl _ _ _).setCells _ _ _ (by omega) ⟨_, _, _, H0.out.r, by simp⟩
    have hK9 : Ky [55, 60, 67] B w w9 := H0.out.k.fin hky hB
    have hL := run_loadVar_mid (P := Tryz.prog) w9 (w.heap.size + 1) 0 25 _ _ hF.load Tryz.underlying25 rfl sz25
    refine bodyPost_ret (v := .tuple #[.agg (scL c l h1 h2 (S.ticks : Int)).toArray, .int .i64 2]) (Kd.results_cell_tmp Tryz.results13 _ w9 (w.heap.size + 1) _ rfl hL) rfl ?_
    exact lnP.bad _ _ _ (by rw [HST.out]; rfl) (by rw [HST.out]; simp) hK9
  rw [decide_eq_false hz] at esh
  by_cases h3 : n = sh.size + 1
  · cases h4 : (bg && ((xs.toList == wNode) || (xs.toList == wAccept)))
    · have HB5 : Hid (formAll ws = false) := by
        rcases hbad with h | h | h | h
        · exact absurd h hz
        · exact absurd h3 h
        · rw [h4] at h; cases h
        · exact h
      have HST := hidYY (HS5.out hz h3 h4 HB5.out)
      clear HS2 HS3 HS4 HS5 hbad
      have b6 : bg = false ∨ ((xs.toList == wNode) = false ∧ (xs.toList == wAccept) = false) := by
        cases hbg : bg
        · exact .inl rfl
        · rw [hbg, Bool.true_and, Bool.or_eq_false_iff] at h4; exact .inr h4
      have hwm : IntKind.i64.wrap ((sh.size : Int) + 1) = (sh.size : Int) + 1 := i64_wrap _ (by omega) (by omega)
      have hnn : (n : Int) = (sh.size : Int) + 1 := by omega
      have H3 := hidYY h3
      clear h4 h3
      go_enter Tryz.func13, Tryz.ntmps13
      go_upto_region 2 with fail
      try rw [hV]
      refine (HSH.out V).mono ?_
      rintro o q1 ⟨rfl, rfl⟩
      go_upto_region 6 with fail
      go_cut [41] (fun t wx => t = .bool false ∧ wx = V)
      case first =>
        rcases b6 with rfl | ⟨b6, b7⟩
        · go_wp2_with fail
          go_meet
          case rel => exact ⟨rfl, rfl⟩
        · cases bg
          · go_wp2_with fail
            go_meet
            case rel => exact ⟨rfl, rfl⟩
          · go_wp2_with fail
            go_meet
            case rel => exact ⟨rfl, rfl⟩
      case rest =>
        obtain ⟨rfl, hcw⟩ := hcut
        clear hwm hnn b6 hn1 hz esh
        rw [hcw]
        clear hcw
        go_wp2
        go_loopw [9] (fun i wr => ∃ k : Nat, k ≤ sh.size ∧ i = .int .i64 (k : Int) ∧ lnW B w wr (scL c l h1 h2 (S.ticks : Int)) ∧ Hid (∀ j (hj : j < sh.size), j < k → formB (sh[j]).toNat (wk ws (j + 1)) = true)) (fun i _ => sh.size - (intOf i).toNat)
        case atStart => exact ⟨0, Nat.zero_le _, rfl, H0.out, fun j _ hj => absurd hj (Nat.not_lt_zero _)⟩
        case round =>
          obtain ⟨k, hk, rfl, hW, hfo⟩ := hrel
          have HD := hidYY (hW.drew hB)
          clear H0 hV
          by_cases hp : k < sh.size
          · have dk : wr.cell? ⟨g, k + 1, none⟩ = some (.string (wk ws (k + 1))) := (HC.out (k + 1) wr (by have := H3.out; omega) hW.k).1
            have HFO := hidYY (fun W => form_any (sh[k]).toNat (wk ws (k + 1)) (HC.out (k + 1) wr (by have := H3.out; omega) hW.k).2 W)
            have HF1 : Hid (formB (sh[k]).toNat (wk ws (k + 1)) = true → ∀ j (hj : j < sh.size), j < k + 1 → formB (sh[j]).toNat (wk ws (j + 1)) = true) := fun h j hj hj' => by
              by_cases e : j = k
              · subst e; exact h
              · exact hfo.out j hj (by omega)
            have hw1 : IntKind.i64.wrap ((k : Int) + 1) = (k : Int) + 1 := i64_wrap _ (by omega) (by omega)
            have hi0 : (0 : Int) ≤ (k : Int) + 1 := by omega
            have hi1 : (k : Int) + 1 < (n : Int) := by have := H3.out; omega
            have hi2 : ((k : Int) + 1).toNat = k + 1 := by omega
            clear hW
            generalize hsk : wk ws (k + 1) = sk at *
            cases hfb : formB (sh[k]).toNat sk
            · rw [hfb] at HFO
              clear HF1 hfb hsk
              go_upto_region 11 with fail
              go_region_held3 (fun W => W.cell? ⟨g, k + 1, none⟩ = some (.string sk)) (first | assumption | go_keep) (first | (go_at_call 23; refine (HFO.out _).mono ?_; rintro o q1 ⟨rfl, rfl⟩))
              go_wp2_with (first
                | (refine wpList_load_mid (P := Tryz.prog) rfl 25 (.tmp 3) rfl w.heap.size 0 rfl (scL c l h1 h2 (S.ticks : Int)) _ HD.out.s.load Tryz.underlying25 rfl sz25 ?_)
                | (refine wpList_store_mid (P := Tryz.prog) rfl 25 (.tmp 6) (.tmp 59) rfl (w.heap.size + 1) 0 (scL c l h1 h2 (S.ticks : Int)).toArray rfl rfl (HD.out.r.there 0 5 (by simp)) sz25 (one25 _ _ _ _ _) ?_; generalize hX : World.setCells _ (w.heap.size + 1) 0 _ = w9; have HX : Hid (World.setCells wr.drew (w.heap.size + 1) 0 (scL c l h1 h2 (S.ticks : Int)) = w9) := hX; clear hX))
              have e2 := HX.out
              have hF : blk w9 (w.heap.size + 1) (scL c l h1 h2 (S.ticks : Int)) 25 := e2 ▸ blk_all HD.out.r rfl
              have hky : Ky [25] w.heap.size wr.drew w9 := e2 ▸ (Ky.refl _ _ _).setCells _ _ _ (by omega) ⟨_, _, _, HD.out.r, by simp⟩
              have hK9 : Ky [55, 60, 67] B w w9 := HD.out.k.fin hky hB
              have hL := run_loadVar_mid (P := Tryz.prog) w9 (w.heap.size + 1) 0 25 _ _ hF.load Tryz.underlying25 rfl sz25
              refine bodyPost_ret (v := .tuple #[.agg (scL c l h1 h2 (S.ticks : Int)).toArray, .int .i64 5]) (Kd.results_cell_tmp Tryz.results13 _ w9 (w.heap.size + 1) _ rfl hL) rfl ?_
              exact lnP.bad _ _ _ (by rw [HST.out]; rfl) (by rw [HST.out]; simp) hK9
            · rw [hfb] at HFO
              have HF2 : Hid (∀ j (hj : j < sh.size), j < k + 1 → formB (sh[j]).toNat (wk ws (j + 1)) = true) := HF1.out hfb
              clear hfb hsk HF1
              go_upto_region 11 with fail
              go_region_held3 (fun W => W.cell? ⟨g, k + 1, none⟩ = some (.string sk)) (first | assumption | go_keep) (first | (go_at_call 23; refine (HFO.out _).mono ?_; rintro o q1 ⟨rfl, rfl⟩))
              go_wp2
              go_roundw
              case rel => exact ⟨k + 1, by omega, by go_num, HD.out, HF2.out⟩
              case measure => simp [intOf]; omega
          · exfalso
            have := HF6.out fun j hj => hfo.out j hj (by omega)
            rw [HB5.out] at this
            cases this
    · have HST := hidYY (HS4.out hz h3 h4)
      clear HS2 HS3 HS4 HS5 HF5 HF6 HC hbad
      rw [Bool.and_eq_true, Bool.or_eq_true] at h4
      obtain ⟨h4, b6⟩ := h4
      rw [h4] at *
      have hwm : IntKind.i64.wrap ((sh.size : Int) + 1) = (sh.size : Int) + 1 := i64_wrap _ (by omega) (by omega)
      have hnn : (n : Int) = (sh.size : Int) + 1 := by omega
      rcases b6 with b6 | b6
      · go_enter Tryz.func13, Tryz.ntmps13
        go_upto_region 2 with fail
        try rw [hV]
        refine (HSH.out V).mono ?_
        rintro o q1 ⟨rfl, rfl⟩
        go_wp2_with (first
          | (refine wpList_load_mid (P := Tryz.prog) rfl 25 (.tmp 3) rfl w.heap.size 0 rfl (scL c l h1 h2 (S.ticks : Int)) _ H0.out.s.load Tryz.underlying25 rfl sz25 ?_)
          | (refine wpList_store_mid (P := Tryz.prog) rfl 25 (.tmp 6) (.tmp 42) rfl (w.heap.size + 1) 0 (scL c l h1 h2 (S.ticks : Int)).toArray rfl rfl (H0.out.r.there 0 5 (by simp)) sz25 (one25 _ _ _ _ _) ?_; generalize hX : World.setCells _ (w.heap.size + 1) 0 _ = w9; have HX : Hid (World.setCells V (w.heap.size + 1) 0 (scL c l h1 h2 (S.ticks : Int)) = w9) := hX; clear hX))
        have e2 := HX.out
        have hF : blk w9 (w.heap.size + 1) (scL c l h1 h2 (S.ticks : Int)) 25 := e2 ▸ blk_all H0.out.r rfl
        have hky : Ky [25] w.heap.size V w9 := e2 ▸ (Ky.refl _ _ _).setCells _ _ _ (by omega) ⟨_, _, _, H0.out.r, by simp⟩
        have hK9 : Ky [55, 60, 67] B w w9 := H0.out.k.fin hky hB
        have hL := run_loadVar_mid (P := Tryz.prog) w9 (w.heap.size + 1) 0 25 _ _ hF.load Tryz.underlying25 rfl sz25
        refine bodyPost_ret (v := .tuple #[.agg (scL c l h1 h2 (S.ticks : Int)).toArray, .int .i64 4]) (Kd.results_cell_tmp Tryz.results13 _ w9 (w.heap.size + 1) _ rfl hL) rfl ?_
        exact lnP.bad _ _ _ (by rw [HST.out]; rfl) (by rw [HST.out]; simp) hK9
      · cases b7 : (xs.toList == wNode)
        · go_enter Tryz.func13, Tryz.ntmps13
          go_upto_region 2 with fail
          try rw [hV]
          refine (HSH.out V).mono ?_
          rintro o q1 ⟨rfl, rfl⟩
          go_wp2_with (first
            | (refine wpList_load_mid (P := Tryz.prog) rfl 25 (.tmp 3) rfl w.heap.size 0 rfl (scL c l h1 h2 (S.ticks : Int)) _ H0.out.s.load Tryz.underlying25 rfl sz25 ?_)
            | (refine wpList_store_mid (P := Tryz.prog) rfl 25 (.tmp 6) (.tmp 42) rfl (w.heap.size + 1) 0 (scL c l h1 h2 (S.ticks : Int)).toArray rfl rfl (H0.out.r.there 0 5 (by simp)) sz25 (one25 _ _ _ _ _) ?_; generalize hX : World.setCells _ (w.heap.size + 1) 0 _ = w9; have HX : Hid (World.setCells V (w.heap.size + 1) 0 (scL c l h1 h2 (S.ticks : Int)) = w9) := hX; clear hX))
          have e2 := HX.out
          have hF : blk w9 (w.heap.size + 1) (scL c l h1 h2 (S.ticks : Int)) 25 := e2 ▸ blk_all H0.out.r rfl
          have hky : Ky [25] w.heap.size V w9 := e2 ▸ (Ky.refl _ _ _).setCells _ _ _ (by omega) ⟨_, _, _, H0.out.r, by simp⟩
          have hK9 : Ky [55, 60, 67] B w w9 := H0.out.k.fin hky hB
          have hL := run_loadVar_mid (P := Tryz.prog) w9 (w.heap.size + 1) 0 25 _ _ hF.load Tryz.underlying25 rfl sz25
          refine bodyPost_ret (v := .tuple #[.agg (scL c l h1 h2 (S.ticks : Int)).toArray, .int .i64 4]) (Kd.results_cell_tmp Tryz.results13 _ w9 (w.heap.size + 1) _ rfl hL) rfl ?_
          exact lnP.bad _ _ _ (by rw [HST.out]; rfl) (by rw [HST.out]; simp) hK9
        · go_enter Tryz.func13, Tryz.ntmps13
          go_upto_region 2 with fail
          try rw [hV]
          refine (HSH.out V).mono ?_
          rintro o q1 ⟨rfl, rfl⟩
          go_wp2_with (first
            | (refine wpList_load_mid (P := Tryz.prog) rfl 25 (.tmp 3) rfl w.heap.size 0 rfl (scL c l h1 h2 (S.ticks : Int)) _ H0.out.s.load Tryz.underlying25 rfl sz25 ?_)
            | (refine wpList_store_mid (P := Tryz.prog) rfl 25 (.tmp 6) (.tmp 42) rfl (w.heap.size + 1) 0 (scL c l h1 h2 (S.ticks : Int)).toArray rfl rfl (H0.out.r.there 0 5 (by simp)) sz25 (one25 _ _ _ _ _) ?_; generalize hX : World.setCells _ (w.heap.size + 1) 0 _ = w9; have HX : Hid (World.setCells V (w.heap.size + 1) 0 (scL c l h1 h2 (S.ticks : Int)) = w9) := hX; clear hX))
          have e2 := HX.out
          have hF : blk w9 (w.heap.size + 1) (scL c l h1 h2 (S.ticks : Int)) 25 := e2 ▸ blk_all H0.out.r rfl
          have hky : Ky [25] w.heap.size V w9 := e2 ▸ (Ky.refl _ _ _).setCells _ _ _ (by omega) ⟨_, _, _, H0.out.r, by simp⟩
          have hK9 : Ky [55, 60, 67] B w w9 := H0.out.k.fin hky hB
          have hL := run_loadVar_mid (P := Tryz.prog) w9 (w.heap.size + 1) 0 25 _ _ hF.load Tryz.underlying25 rfl sz25
          refine bodyPost_ret (v := .tuple #[.agg (scL c l h1 h2 (S.ticks : Int)).toArray, .int .i64 4]) (Kd.results_cell_tmp Tryz.results13 _ w9 (w.heap.size + 1) _ rfl hL) rfl ?_
          exact lnP.bad _ _ _ (by rw [HST.out]; rfl) (by rw [HST.out]; simp) hK9
  · have HST := hidYY (HS3.out hz h3)
    clear HS2 HS3 HS4 HS5 HF5 HF6 HC hbad
    have hwm : IntKind.i64.wrap ((sh.size : Int) + 1) = (sh.size : Int) + 1 := i64_wrap _ (by omega) (by omega)
    have hnn : ((n : Int) = (sh.size : Int) + 1) = False := eq_false (by omega)
    go_enter Tryz.func13, Tryz.ntmps13
    go_upto_region 2 with fail
    try rw [hV]
    refine (HSH.out V).mono ?_
    rintro o q1 ⟨rfl, rfl⟩
    go_wp2_with (first
      | (refine wpList_load_mid (P := Tryz.prog) rfl 25 (.tmp 3) rfl w.heap.size 0 rfl (scL c l h1 h2 (S.ticks : Int)) _ H0.out.s.load Tryz.underlying25 rfl sz25 ?_)
      | (refine wpList_store_mid (P := Tryz.prog) rfl 25 (.tmp 6) (.tmp 28) rfl (w.heap.size + 1) 0 (scL c l h1 h2 (S.ticks : Int)).toArray rfl rfl (H0.out.r.there 0 5 (by simp)) sz25 (one25 _ _ _ _ _) ?_; generalize hX : World.setCells _ (w.heap.size + 1) 0 _ = w9; have HX : Hid (World.setCells V (w.heap.size + 1) 0 (scL c l h1 h2 (S.ticks : Int)) = w9) := hX; clear hX))
    have e2 := HX.out
    have hF : blk w9 (w.heap.size + 1) (scL c l h1 h2 (S.ticks : Int)) 25 := e2 ▸ blk_all H0.out.r rfl
    have hky : Ky [25] w.heap.size V w9 := e2 ▸ (Ky.refl _ _ _).setCells _ _ _ (by omega) ⟨_, _, _, H0.out.r, by simp⟩
    have hK9 : Ky [55, 60, 67] B w w9 := H0.out.k.fin hky hB
    have hL := run_loadVar_mid (P := Tryz.prog) w9 (w.heap.size + 1) 0 25 _ _ hF.load Tryz.underlying25 rfl sz25
    refine bodyPost_ret (v := .tuple #[.agg (scL c l h1 h2 (S.ticks : Int)).toArray, .int .i64 3]) (Kd.results_cell_tmp Tryz.results13 _ w9 (w.heap.size + 1) _ rfl hL) rfl ?_
    exact lnP.bad _ _ _ (by rw [HST.out]; rfl) (by rw [HST.out]; simp) hK9
theorem lnW.tick {B : Nat} {w W : World} {c l : Int} {h1 h2 : Hd} {t : Int} (h : lnW B w W (scL c l h1 h2 t)) (hB : B ≤ w.heap.size) (t' : Int) : lnW B w (W.setCell ⟨w.heap.size, 4, none⟩ (.int .i64 t')) (scL c l h1 h2 t') := by
  have hk : Ky [25] w.heap.size W (W.setCell ⟨w.heap.size, 4, none⟩ (.int .i64 t')) := (Ky.refl _ _ _).setCell _ _ _ (Nat.le_refl _) ⟨_, _, _, h.s, by simp⟩
  refine ⟨?_, ?_, h.k.fin hk hB⟩
  · exact h.s.set 4 (.int .i64 t')
  · exact h.r.setOther (by simp) 4 _
set_option maxHeartbeats 8000000 in
set_option maxRecDepth 40000 in
/-- spec.l6line, a run -/
theorem line_run (B Bt : Nat) (S : Sc) (us : List (Su × Hd)) (os : List (Od × Hd)) (h1 h2 : Hd) (c l : Int) (bg : Bool) (g cp : Nat) (x : List UInt8) (rest : List (List UInt8)) (w : World) (hI : isSc B us os h1 h2 S w) (hB : B ≤ w.heap.size) (hS : okS S) (hok : okWs (x :: rest)) (hl : rest.length ≤ 20000) (ht : w.ownsRow Bt 9 1 (.slice (some ⟨g, 0, none⟩) (rest.length + 1) cp) (rest.length + 1) (sv (x :: rest)))
    (hz : (shapeZ (wk (x :: rest) 0)).size ≠ 0) (hlen : rest.length = (shapeZ (wk (x :: rest) 0)).size) (hpl : (bg && (((wk (x :: rest) 0).toList == wNode) || ((wk (x :: rest) 0).toList == wAccept))) = false) (hf : formAll (x :: rest) = true) (hx : ((wk (x :: rest) 0).toList == wRun) = true) (hs1 : (wk (x :: rest) 1).size ≤ 8) (hv1 : nv (wk (x :: rest) 1) < 1000000) :
    Calls Tryz.prog 13 #[.agg (scL c l h1 h2 (S.ticks : Int)).toArray, .slice (some ⟨g, 0, none⟩) (rest.length + 1) cp, .bool bg] w (lnP B w c l (goL S (x :: rest))) := by
  have HI := hidYY hI
  have HT := hidYY ht
  have HOK := hidYY hok
  have H0 := hidYY (lnW.zero B w hB (scL c l h1 h2 (S.ticks : Int)))
  have HSH := hidYY (fun W => shape_any (wd x) W)
  obtain ⟨n, hn⟩ : ∃ n, rest.length + 1 = n := ⟨_, rfl⟩
  have HN := hidYY hn
  have hn1 : 1 ≤ n := by omega
  have hn2 : n ≤ 20001 := by omega
  rw [hn] at HT ⊢
  clear hn hok hI ht hl
  have HB0 : Hid (Below w.heap.size w ((w.alloc (.cells (scL c l h1 h2 (S.ticks : Int)).toArray 25)).alloc (.cells (scL 0 0 noH noH 0).toArray 25))) := ((Below.refl _ _).alloc (Nat.le_refl _) _).alloc (by simp) _
  generalize hV : (w.alloc (.cells (scL c l h1 h2 (S.ticks : Int)).toArray 25)).alloc (.cells (scL 0 0 noH noH 0).toArray 25) = V at *
  have HC : Hid (∀ k W, k < n → Ky [55, 60, 67] B w W → W.cell? ⟨g, k, none⟩ = some (.string (wk (x :: rest) k)) ∧ (wk (x :: rest) k).size ≤ 20000) := fun k W hk hW => by
    have hk' : k < (x :: rest).length := by have := HN.out; simp only [List.length_cons]; omega
    have e : wk (x :: rest) k = wd (x :: rest)[k] := by unfold wk; rw [List.getD_eq_getElem?_getD, List.getElem?_eq_getElem hk']; rfl
    rw [e]
    exact ⟨words_at HT.out (by have := HN.out; simp only [List.length_cons]; omega) hW k hk', (HOK.out _ (List.getElem_mem hk')).2.1⟩
  have d0 : V.cell? ⟨g, 0, none⟩ = some (.string (wd x)) := (HC.out 0 V (by omega) H0.out.k).1
  obtain ⟨ws, hws⟩ : ∃ ws, x :: rest = ws := ⟨_, rfl⟩
  have HL : Hid (ws.length = n) := by show ws.length = n; rw [← hws, ← HN.out]; rfl
  have e0 : wd x = wk ws 0 := by rw [← hws]; rfl
  rw [e0] at d0 HSH
  rw [hws] at HC hz hlen hpl hf hx hs1 hv1 ⊢
  clear e0
  obtain ⟨sh, hsh⟩ : ∃ sh, shapeZ (wk ws 0) = sh := ⟨_, rfl⟩
  have HSZ := hidYY hsh
  rw [hsh] at HSH
  have hs5 : sh.size ≤ 5 := by
    rw [← hsh]; unfold shapeZ
    repeat' split
    all_goals decide
  have esh : (sh.toList == ([] : List UInt8)) = decide (sh.size = 0) := toList_nil sh
  have HF5 : Hid (∀ k (hk : k < sh.size), formB (sh[k]).toNat (wk ws (k + 1)) = true) := by
    show ∀ k (hk : k < sh.size), formB (sh[k]).toNat (wk ws (k + 1)) = true
    rw [← hsh]
    exact fun k hk => form_at hf hk
  rw [hsh] at hz hlen
  have h3 : n = sh.size + 1 := by have := HN.out; omega
  have H3 := hidYY h3
  have hn3 : 2 ≤ n := by omega
  have hn4 : (1 : Int) < (n : Int) := by omega
  clear hsh hf hlen
  have HG : Hid (goL S ws = if S.ticks + nv (wk ws 1) ≤ 6000 then (0, { S with ticks := S.ticks + nv (wk ws 1) }) else (6, S)) := by show goL S ws = _; unfold goL; rw [if_pos hx]
  have HV1 := hidYY (fun w => value_any (wk ws 1) 10 (by decide) hs1 w)
  rw [show (valN (lt (wk ws 1)) 10 : Int) = (nv (wk ws 1) : Int) from rfl] at HV1
  clear hs1
  obtain ⟨G, hG⟩ : ∃ G, goL S ws = G := ⟨_, rfl⟩
  rw [hG] at HG ⊢
  clear hG
  generalize hx0 : wk ws 0 = xs at *
  have HX0 := hidYY hx0
  clear hx0
  rw [decide_eq_false hz] at esh
  have b6 : bg = false ∨ ((xs.toList == wNode) = false ∧ (xs.toList == wAccept) = false) := by
    cases hbg : bg
    · exact .inl rfl
    · rw [hbg, Bool.true_and, Bool.or_eq_false_iff] at hpl; exact .inr hpl
  have hwm : IntKind.i64.wrap ((sh.size : Int) + 1) = (sh.size : Int) + 1 := i64_wrap _ (by omega) (by omega)
  have hnn : (n : Int) = (sh.size : Int) + 1 := by omega
  clear hpl h3
  go_enter Tryz.func13, Tryz.ntmps13
  go_upto_region 2 with fail
  try rw [hV]
  refine (HSH.out V).mono ?_
  rintro o q1 ⟨rfl, rfl⟩
  go_upto_region 6 with fail
  go_cut [41] (fun t wx => t = .bool false ∧ wx = V)
  case first =>
    rcases b6 with rfl | ⟨b6, b7⟩
    · go_wp2_with fail
      go_meet
      case rel => exact ⟨rfl, rfl⟩
    · cases bg
      · go_wp2_with fail
        go_meet
        case rel => exact ⟨rfl, rfl⟩
      · go_wp2_with fail
        go_meet
        case rel => exact ⟨rfl, rfl⟩
  case rest =>
  obtain ⟨rfl, hcw⟩ := hcut
  clear hwm hnn b6 hz esh
  rw [hcw]
  clear hcw
  go_wp2
  go_loopw [9] (fun i wr => ∃ k : Nat, k ≤ sh.size ∧ i = .int .i64 (k : Int) ∧ lnW B w wr (scL c l h1 h2 (S.ticks : Int)) ∧ Hid (Below w.heap.size w wr)) (fun i _ => sh.size - (intOf i).toNat)
  case atStart => exact ⟨0, Nat.zero_le _, rfl, H0.out, HB0.out⟩
  case round =>
    obtain ⟨k, hk, rfl, hW, HBL⟩ := hrel
    clear H0 HB0 hV d0
    by_cases hp : k < sh.size
    · have HD := hidYY (hW.drew hB)
      have dk : wr.cell? ⟨g, k + 1, none⟩ = some (.string (wk ws (k + 1))) := (HC.out (k + 1) wr (by have := H3.out; omega) hW.k).1
      have HFO := hidYY (fun W => form_any (sh[k]).toNat (wk ws (k + 1)) (HC.out (k + 1) wr (by have := H3.out; omega) hW.k).2 W)
      rw [HF5.out k hp] at HFO
      have hw1 : IntKind.i64.wrap ((k : Int) + 1) = (k : Int) + 1 := i64_wrap _ (by omega) (by omega)
      have hi0 : (0 : Int) ≤ (k : Int) + 1 := by omega
      have hi1 : (k : Int) + 1 < (n : Int) := by have := H3.out; omega
      have hi2 : ((k : Int) + 1).toNat = k + 1 := by omega
      clear hW
      generalize hsk : wk ws (k + 1) = sk at *
      clear hsk
      go_upto_region 11 with fail
      go_region_held3 (fun W => W.cell? ⟨g, k + 1, none⟩ = some (.string sk)) (first | assumption | go_keep) (first | (go_at_call 23; refine (HFO.out _).mono ?_; rintro o q1 ⟨rfl, rfl⟩))
      go_wp2
      go_roundw
      case rel => exact ⟨k + 1, by omega, by go_num, HD.out, HBL.out.drew⟩
      case measure => simp [intOf]; omega
    · have hke : ¬ ((k : Int) < (sh.size : Int)) := by omega
      have HW := hidYY hW
      have d0 : wr.cell? ⟨g, 0, none⟩ = some (.string (wk ws 0)) := (HC.out 0 wr (by omega) hW.k).1
      rw [HX0.out] at d0
      clear hW HF5
      have d1 : wr.cell? ⟨g, 1, none⟩ = some (.string (wk ws 1)) := (HC.out 1 wr (by omega) HW.out.k).1
      have t4 := HW.out.s.cell 4 _ rfl
      have f4 := HW.out.s.free 4
      have hw1 : IntKind.i64.wrap ((S.ticks : Int) + (nv (wk ws 1) : Int)) = (S.ticks : Int) + (nv (wk ws 1) : Int) := i64_wrap _ (by have := hS.ti; omega) (by have := hS.ti; omega)
      have HT := hidYY (HW.out.tick hB ((S.ticks : Int) + (nv (wk ws 1) : Int)))
      generalize wk ws 1 = s1 at *
      go_upto_region 14 with fail
      go_cut [] (fun wx => wx = (wr.setCell ⟨w.heap.size, 4, none⟩ (.int .i64 ((S.ticks : Int) + (nv s1 : Int)))).drew)
      case first =>
        go_region_with (go_at_call 24; refine (HV1.out _).mono ?_; rintro o q1 ⟨rfl, rfl⟩)
        all_goals
          go_wp2_with fail
          go_meet
          case rel => rfl
      case rest =>
      have HT2 : Hid (lnW B w wc (scL c l h1 h2 ((S.ticks : Int) + (nv s1 : Int)))) := by
        show lnW _ _ _ _
        rw [hcut]
        exact HT.out.drew hB
      have HK2 : Hid (Ky [25] w.heap.size wr wc) := by
        show Ky [25] w.heap.size wr wc
        rw [hcut]
        exact ((Ky.refl _ _ _).setCell _ _ _ (Nat.le_refl _) ⟨_, _, _, HW.out.s, by simp⟩).below (Below.refl _ _).drew (Nat.le_of_lt (by simpa using HW.out.s.lt))
      clear hcut t4 f4 hw1 HT d0 d1
      have t4 := HT2.out.s.cell 4 _ rfl
      by_cases hq : S.ticks + nv s1 ≤ 6000
      · have hq2 : ¬ ((6000 : Int) < (S.ticks : Int) + (nv s1 : Int)) := by omega
        have HGE : Hid (G = (0, { S with ticks := S.ticks + nv s1 })) := by show G = _; rw [HG.out, if_pos hq]
        clear HG hq
        go_wp2_with (first
          | (refine wpList_load_mid (P := Tryz.prog) rfl 25 (.tmp 3) rfl w.heap.size 0 rfl (scL c l h1 h2 ((S.ticks : Int) + (nv s1 : Int))) _ HT2.out.s.load Tryz.underlying25 rfl sz25 ?_)
          | (refine wpList_store_mid (P := Tryz.prog) rfl 25 (.tmp 6) (.tmp 76) rfl (w.heap.size + 1) 0 (scL c l h1 h2 ((S.ticks : Int) + (nv s1 : Int))).toArray rfl rfl (HT2.out.r.there 0 5 (by simp)) sz25 (one25 _ _ _ _ _) ?_; generalize hX : World.setCells _ (w.heap.size + 1) 0 _ = w9; have HX : Hid (World.setCells wc (w.heap.size + 1) 0 (scL c l h1 h2 ((S.ticks : Int) + (nv s1 : Int))) = w9) := hX; clear hX))
        have e2 := HX.out
        have hF : blk w9 (w.heap.size + 1) (scL c l h1 h2 ((S.ticks : Int) + (nv s1 : Int))) 25 := e2 ▸ blk_all HT2.out.r rfl
        have hky : Ky [25] w.heap.size wc w9 := e2 ▸ (Ky.refl _ _ _).setCells _ _ _ (by omega) ⟨_, _, _, HT2.out.r, by simp⟩
        have hK9 : Ky [55, 60, 67] B w w9 := HT2.out.k.fin hky hB
        have hL := run_loadVar_mid (P := Tryz.prog) w9 (w.heap.size + 1) 0 25 _ _ hF.load Tryz.underlying25 rfl sz25
        refine bodyPost_ret (v := .tuple #[.agg (scL c l h1 h2 ((S.ticks : Int) + (nv s1 : Int))).toArray, .int .i64 0]) (Kd.results_cell_tmp Tryz.results13 _ w9 (w.heap.size + 1) _ rfl hL) rfl ?_
        have hB9 : Below w.heap.size w w9 := HBL.out.trans (HK2.out.low.trans hky.low)
        rw [HGE.out]
        have hi := HI.out.below hB9
        exact ⟨⟨h1, h2, _, rfl, fun _ => ⟨by simp, us, os, ⟨hi.su, hi.od, hi.eu, hi.eo⟩⟩⟩, hK9⟩
      · have hq2 : (6000 : Int) < (S.ticks : Int) + (nv s1 : Int) := by omega
        have HGE : Hid (G = (6, S)) := by show G = _; rw [HG.out, if_neg hq]
        clear HG hq
        go_wp2_with (first
          | (refine wpList_load_mid (P := Tryz.prog) rfl 25 (.tmp 3) rfl w.heap.size 0 rfl (scL c l h1 h2 ((S.ticks : Int) + (nv s1 : Int))) _ HT2.out.s.load Tryz.underlying25 rfl sz25 ?_)
          | (refine wpList_store_mid (P := Tryz.prog) rfl 25 (.tmp 6) (.tmp 75) rfl (w.heap.size + 1) 0 (scL c l h1 h2 ((S.ticks : Int) + (nv s1 : Int))).toArray rfl rfl (HT2.out.r.there 0 5 (by simp)) sz25 (one25 _ _ _ _ _) ?_; generalize hX : World.setCells _ (w.heap.size + 1) 0 _ = w9; have HX : Hid (World.setCells wc (w.heap.size + 1) 0 (scL c l h1 h2 ((S.ticks : Int) + (nv s1 : Int))) = w9) := hX; clear hX))
        have e2 := HX.out
        have hF : blk w9 (w.heap.size + 1) (scL c l h1 h2 ((S.ticks : Int) + (nv s1 : Int))) 25 := e2 ▸ blk_all HT2.out.r rfl
        have hky : Ky [25] w.heap.size wc w9 := e2 ▸ (Ky.refl _ _ _).setCells _ _ _ (by omega) ⟨_, _, _, HT2.out.r, by simp⟩
        have hK9 : Ky [55, 60, 67] B w w9 := HT2.out.k.fin hky hB
        have hL := run_loadVar_mid (P := Tryz.prog) w9 (w.heap.size + 1) 0 25 _ _ hF.load Tryz.underlying25 rfl sz25
        refine bodyPost_ret (v := .tuple #[.agg (scL c l h1 h2 ((S.ticks : Int) + (nv s1 : Int))).toArray, .int .i64 6]) (Kd.results_cell_tmp Tryz.results13 _ w9 (w.heap.size + 1) _ rfl hL) rfl ?_
        exact lnP.bad _ _ _ (by rw [HGE.out]; rfl) (by rw [HGE.out]; simp) hK9
abbrev suL (x : Su) (h : Hd) : List Value := [.int .i64 (x.kind : Int), .int .i64 (x.bx : Int), .int .i64 (x.fi : Int), .int .i64 (x.po : Int), .int .i64 (x.ev : Int), hdV h]
theorem one55 (x : Su) (h : Hd) : (suL x h).toArray.all (·.oneCell') = true := all_oneCell_toArray (by simp [suL, Value.oneCell'])
/-- what l6setup answers -/
def suP (w : World) (x : Su) (b : Bool) (o : Ending) (w' : World) : Prop := ∃ h : Hd, o = .returned (.tuple #[.agg (suL x h).toArray, .bool b]) ∧ w'.ownsRow w.heap.size 60 3 (hdV h) x.fs.length (x.fs.flatMap e3) ∧ Below w.heap.size w w'
theorem lnW.hd1 {B : Nat} {w W : World} {c l : Int} {h1 h2 : Hd} {t : Int} (h : lnW B w W (scL c l h1 h2 t)) (hB : B ≤ w.heap.size) (h' : Hd) : lnW B w (W.setCell ⟨w.heap.size, 2, none⟩ (hdV h')) (scL c l h' h2 t) ∧ Ky [25] w.heap.size W (W.setCell ⟨w.heap.size, 2, none⟩ (hdV h')) := by
  have hk : Ky [25] w.heap.size W (W.setCell ⟨w.heap.size, 2, none⟩ (hdV h')) := (Ky.refl _ _ _).setCell _ _ _ (Nat.le_refl _) ⟨_, _, _, h.s, by simp⟩
  exact ⟨⟨h.s.set 2 (hdV h'), h.r.setOther (by simp) 2 _, h.k.fin hk hB⟩, hk⟩
theorem lnW.hd2 {B : Nat} {w W : World} {c l : Int} {h1 h2 : Hd} {t : Int} (h : lnW B w W (scL c l h1 h2 t)) (hB : B ≤ w.heap.size) (h' : Hd) : lnW B w (W.setCell ⟨w.heap.size, 3, none⟩ (hdV h')) (scL c l h1 h' t) ∧ Ky [25] w.heap.size W (W.setCell ⟨w.heap.size, 3, none⟩ (hdV h')) := by
  have hk : Ky [25] w.heap.size W (W.setCell ⟨w.heap.size, 3, none⟩ (hdV h')) := (Ky.refl _ _ _).setCell _ _ _ (Nat.le_refl _) ⟨_, _, _, h.s, by simp⟩
  exact ⟨⟨h.s.set 3 (hdV h'), h.r.setOther (by simp) 3 _, h.k.fin hk hB⟩, hk⟩
theorem isSc.ky25 {B : Nat} {us : List (Su × Hd)} {os : List (Od × Hd)} {h1 h2 : Hd} {S : Sc} {W V : World} {b : Nat} (h : isSc B us os h1 h2 S W) (hk : Ky [25] b W V) : isSc B us os h1 h2 S V := ⟨h.su.ky hk (by decide) (by decide), h.od.ky hk (by decide) (by decide), h.eu, h.eo⟩
/-- one setup more -/
theorem isSc.moreU {B : Nat} {us : List (Su × Hd)} {os : List (Od × Hd)} {h1 h2 : Hd} {S : Sc} {W V : World} (h : isSc B us os h1 h2 S W) (x : Su) (hd h' : Hd) (hB : B ≤ W.heap.size) (hda : W.ownsRow B 60 3 (hdV hd) x.fs.length (x.fs.flatMap e3)) (hf : ∀ r ∈ us, ∀ y, r.2.1 = some y → hd.1 ≠ some y) (ho : V.ownsRow B 55 6 (hdV h') (us.length + 1) (us.flatMap (fun r => kS.enc r.1 r.2) ++ suL x hd)) (hg : W.grownBy V (hdV h1).ownBlock) : isSc B (us ++ [(x, hd)]) os h' h2 { S with su := S.su ++ [x] } V ∧ Ky [55] B W V := by
  have hk : Ky [55] B W V := h.su.grow (by simp [kS]) hg hB
  exact ⟨⟨h.su.app (by decide) (x, hd) hda hf ho hg, h.od.ky hk (by decide) (by decide), by simp [h.eu], h.eo⟩, hk⟩
theorem isSc.moreO {B : Nat} {us : List (Su × Hd)} {os : List (Od × Hd)} {h1 h2 : Hd} {S : Sc} {W V : World} (h : isSc B us os h1 h2 S W) (x : Od) (hd h' : Hd) (hB : B ≤ W.heap.size) (hda : W.ownsRow B 5 1 (hdV hd) x.d.length (bv x.d)) (hf : ∀ r ∈ os, ∀ y, r.2.1 = some y → hd.1 ≠ some y) (ho : V.ownsRow B 67 11 (hdV h') (os.length + 1) (os.flatMap (fun r => kO.enc r.1 r.2) ++ odL x hd)) (hg : W.grownBy V (hdV h2).ownBlock) : isSc B us (os ++ [(x, hd)]) h1 h' { S with od := S.od ++ [x] } V ∧ Ky [67] B W V := by
  have hk : Ky [67] B W V := h.od.grow (by simp [kO]) hg hB
  exact ⟨⟨h.su.ky hk (by decide) (by decide), h.od.app (by decide) (x, hd) hda hf ho hg, h.eu, by simp [h.eo]⟩, hk⟩
theorem own_len {w : World} {B E sz n : Nat} {h : Hd} {xs : List Value} (ho : w.ownsRow B E sz (hdV h) n xs) : h.2.1 = n := by
  rcases ownsRow_shape ho with ⟨e, e2⟩ | ⟨g, k, e, _⟩
  · rw [e2]; unfold hdV at e; injection e
  · unfold hdV at e; injection e
set_option maxHeartbeats 8000000 in
set_option maxRecDepth 40000 in
/-- spec.l6line, a node -/
theorem line_node (B Bt : Nat) (S : Sc) (us : List (Su × Hd)) (os : List (Od × Hd)) (h1 h2 : Hd) (c l : Int) (bg : Bool) (g cp : Nat) (x : List UInt8) (rest : List (List UInt8)) (w : World) (hI : isSc B us os h1 h2 S w) (hB : B ≤ w.heap.size) (hS : okS S) (hok : okWs (x :: rest)) (hl : rest.length ≤ 20000) (ht : w.ownsRow Bt 9 1 (.slice (some ⟨g, 0, none⟩) (rest.length + 1) cp) (rest.length + 1) (sv (x :: rest)))
    (hz : (shapeZ (wk (x :: rest) 0)).size ≠ 0) (hlen : rest.length = (shapeZ (wk (x :: rest) 0)).size) (hpl : (bg && (((wk (x :: rest) 0).toList == wNode) || ((wk (x :: rest) 0).toList == wAccept))) = false) (hf : formAll (x :: rest) = true) (hx : ((wk (x :: rest) 0).toList == wNode) = true) (hy : ((wk (x :: rest) 0).toList == wRun) = false) (y : Su) (bb : Bool)
    (hca : ∀ W, (∀ k, k < rest.length + 1 → W.cell? ⟨g, k, none⟩ = some (.string (wk (x :: rest) k))) → Calls Tryz.prog 25 #[.slice (some ⟨g, 0, none⟩) (rest.length + 1) cp] W (suP W y bb))
    (hgo : (¬ (bb = true ∧ S.su.length < 32) → goL S (x :: rest) = (6, S)) ∧ (bb = true → S.su.length < 32 → goL S (x :: rest) = (0, { S with su := S.su ++ [y] }))) :
    Calls Tryz.prog 13 #[.agg (scL c l h1 h2 (S.ticks : Int)).toArray, .slice (some ⟨g, 0, none⟩) (rest.length + 1) cp, .bool bg] w (lnP B w c l (goL S (x :: rest))) := by
  have HI := hidYY hI
  have HT := hidYY ht
  have HOK := hidYY hok
  have H0 := hidYY (lnW.zero B w hB (scL c l h1 h2 (S.ticks : Int)))
  have HSH := hidYY (fun W => shape_any (wd x) W)
  obtain ⟨n, hn⟩ : ∃ n, rest.length + 1 = n := ⟨_, rfl⟩
  have HN := hidYY hn
  have hn1 : 1 ≤ n := by omega
  have hn2 : n ≤ 20001 := by omega
  rw [hn] at HT ⊢
  clear hn hok hI ht hl
  have HB0 : Hid (Below w.heap.size w ((w.alloc (.cells (scL c l h1 h2 (S.ticks : Int)).toArray 25)).alloc (.cells (scL 0 0 noH noH 0).toArray 25))) := ((Below.refl _ _).alloc (Nat.le_refl _) _).alloc (by simp) _
  generalize hV : (w.alloc (.cells (scL c l h1 h2 (S.ticks : Int)).toArray 25)).alloc (.cells (scL 0 0 noH noH 0).toArray 25) = V at *
  have HC : Hid (∀ k W, k < n → Ky [55, 60, 67] B w W → W.cell? ⟨g, k, none⟩ = some (.string (wk (x :: rest) k)) ∧ (wk (x :: rest) k).size ≤ 20000) := fun k W hk hW => by
    have hk' : k < (x :: rest).length := by have := HN.out; simp only [List.length_cons]; omega
    have e : wk (x :: rest) k = wd (x :: rest)[k] := by unfold wk; rw [List.getD_eq_getElem?_getD, List.getElem?_eq_getElem hk']; rfl
    rw [e]
    exact ⟨words_at HT.out (by have := HN.out; simp only [List.length_cons]; omega) hW k hk', (HOK.out _ (List.getElem_mem hk')).2.1⟩
  have d0 : V.cell? ⟨g, 0, none⟩ = some (.string (wd x)) := (HC.out 0 V (by omega) H0.out.k).1
  obtain ⟨ws, hws⟩ : ∃ ws, x :: rest = ws := ⟨_, rfl⟩
  have HL : Hid (ws.length = n) := by show ws.length = n; rw [← hws, ← HN.out]; rfl
  have e0 : wd x = wk ws 0 := by rw [← hws]; rfl
  rw [e0] at d0 HSH
  rw [hws] at HC hz hlen hpl hf hx hy hca hgo ⊢
  clear e0
  obtain ⟨sh, hsh⟩ : ∃ sh, shapeZ (wk ws 0) = sh := ⟨_, rfl⟩
  have HSZ := hidYY hsh
  rw [hsh] at HSH
  have hs5 : sh.size ≤ 5 := by
    rw [← hsh]; unfold shapeZ
    repeat' split
    all_goals decide
  have esh : (sh.toList == ([] : List UInt8)) = decide (sh.size = 0) := toList_nil sh
  have HF5 : Hid (∀ k (hk : k < sh.size), formB (sh[k]).toNat (wk ws (k + 1)) = true) := by
    show ∀ k (hk : k < sh.size), formB (sh[k]).toNat (wk ws (k + 1)) = true
    rw [← hsh]
    exact fun k hk => form_at hf hk
  rw [hsh] at hz hlen
  have h3 : n = sh.size + 1 := by have := HN.out; omega
  have H3 := hidYY h3
  have hn3 : 2 ≤ n := by omega
  have hn4 : (1 : Int) < (n : Int) := by omega
  clear hsh hf hlen
  obtain ⟨G, hG⟩ : ∃ G, goL S ws = G := ⟨_, rfl⟩
  have HG := hidYY hgo
  rw [hG] at HG ⊢
  rw [HN.out] at hca
  have HCC := hidYY hca
  clear hG hgo hca
  generalize hx0 : wk ws 0 = xs at *
  have HX0 := hidYY hx0
  clear hx0
  rw [decide_eq_false hz] at esh
  have b6 : bg = false ∨ ((xs.toList == wNode) = false ∧ (xs.toList == wAccept) = false) := by
    cases hbg : bg
    · exact .inl rfl
    · rw [hbg, Bool.true_and, Bool.or_eq_false_iff] at hpl; exact .inr hpl
  have hwm : IntKind.i64.wrap ((sh.size : Int) + 1) = (sh.size : Int) + 1 := i64_wrap _ (by omega) (by omega)
  have hnn : (n : Int) = (sh.size : Int) + 1 := by omega
  clear hpl h3
  go_enter Tryz.func13, Tryz.ntmps13
  go_upto_region 2 with fail
  try rw [hV]
  refine (HSH.out V).mono ?_
  rintro o q1 ⟨rfl, rfl⟩
  go_upto_region 6 with fail
  go_cut [41] (fun t wx => t = .bool false ∧ wx = V)
  case first =>
    rcases b6 with rfl | ⟨b6, b7⟩
    · go_wp2_with fail
      go_meet
      case rel => exact ⟨rfl, rfl⟩
    · rw [hx] at b6
      cases b6
  case rest =>
  obtain ⟨rfl, hcw⟩ := hcut
  clear hwm hnn b6 hz esh
  rw [hcw]
  clear hcw
  go_wp2
  go_loopw [9] (fun i wr => ∃ k : Nat, k ≤ sh.size ∧ i = .int .i64 (k : Int) ∧ lnW B w wr (scL c l h1 h2 (S.ticks : Int)) ∧ Hid (Below w.heap.size w wr)) (fun i _ => sh.size - (intOf i).toNat)
  case atStart => exact ⟨0, Nat.zero_le _, rfl, H0.out, HB0.out⟩
  case round =>
    obtain ⟨k, hk, rfl, hW, HBL⟩ := hrel
    clear H0 HB0 hV d0
    by_cases hp : k < sh.size
    · have HD := hidYY (hW.drew hB)
      have dk : wr.cell? ⟨g, k + 1, none⟩ = some (.string (wk ws (k + 1))) := (HC.out (k + 1) wr (by have := H3.out; omega) hW.k).1
      have HFO := hidYY (fun W => form_any (sh[k]).toNat (wk ws (k + 1)) (HC.out (k + 1) wr (by have := H3.out; omega) hW.k).2 W)
      rw [HF5.out k hp] at HFO
      have hw1 : IntKind.i64.wrap ((k : Int) + 1) = (k : Int) + 1 := i64_wrap _ (by omega) (by omega)
      have hi0 : (0 : Int) ≤ (k : Int) + 1 := by omega
      have hi1 : (k : Int) + 1 < (n : Int) := by have := H3.out; omega
      have hi2 : ((k : Int) + 1).toNat = k + 1 := by omega
      clear hW
      generalize hsk : wk ws (k + 1) = sk at *
      clear hsk
      go_upto_region 11 with fail
      go_region_held3 (fun W => W.cell? ⟨g, k + 1, none⟩ = some (.string sk)) (first | assumption | go_keep) (first | (go_at_call 23; refine (HFO.out _).mono ?_; rintro o q1 ⟨rfl, rfl⟩))
      go_wp2
      go_roundw
      case rel => exact ⟨k + 1, by omega, by go_num, HD.out, HBL.out.drew⟩
      case measure => simp [intOf]; omega
    · have hke : ¬ ((k : Int) < (sh.size : Int)) := by omega
      have HW := hidYY hW
      have d0 : wr.cell? ⟨g, 0, none⟩ = some (.string (wk ws 0)) := (HC.out 0 wr (by omega) hW.k).1
      rw [HX0.out] at d0
      clear hW HF5
      have HCA := hidYY (HCC.out wr fun k hk => (HC.out k wr hk HW.out.k).1)
      clear HCC
      go_upto_region 20 with fail
      refine HCA.out.mono ?_
      rintro o W2 ⟨hd, rfl, hown, hb2⟩
      have HOWN := hidYY hown
      have HB2 := hidYY hb2
      clear hown hb2 HCA
      have HW2 := hidYY (HW.out.below HB2.out (Nat.le_trans hB HBL.out.size))
      have HI2 := hidYY ((HI.out.below HBL.out).below HB2.out)
      have HFR := hidYY ((HI.out.below HBL.out).su.fresh (Nat.le_refl _) HOWN.out)
      have HZ := hidYY (blk.new W2 [.int .i64 0, .int .i64 0, .int .i64 0, .int .i64 0, .int .i64 0, .slice none 0 0] 55)
      have HZB : Hid (Below W2.heap.size W2 (W2.alloc (.cells [.int .i64 0, .int .i64 0, .int .i64 0, .int .i64 0, .int .i64 0, .slice none 0 0].toArray 55))) := (Below.refl _ _).alloc (Nat.le_refl _) _
      go_upto_region 20 with (first | (refine wpList_store_mid (P := Tryz.prog) rfl 55 (.tmp 10) (.tmp 84) rfl W2.heap.size 0 (suL y hd).toArray rfl rfl (HZ.out.there 0 6 (by simp)) sz55 (one55 _ _) ?_; generalize hX : World.setCells _ W2.heap.size 0 _ = W3; have HX3 : Hid (World.setCells (W2.alloc (.cells [.int .i64 0, .int .i64 0, .int .i64 0, .int .i64 0, .int .i64 0, .slice none 0 0].toArray 55)) W2.heap.size 0 (suL y hd) = W3) := hX; clear hX))
      have HB3 : Hid (Below W2.heap.size W2 W3) := by show Below _ _ _; rw [← HX3.out]; exact setCells_below (Nat.le_refl _) 0 _ HZB.out
      have HP3 : Hid (blk W3 W2.heap.size (suL y hd) 55) := by
        show blk _ _ _ _
        rw [← HX3.out]
        exact blk_all HZ.out rfl
      clear HX3 HZ HZB
      have hBW2 : Hid (B ≤ W2.heap.size) := Nat.le_trans hB (Nat.le_trans HBL.out.size HB2.out.size)
      have HW3 := hidYY (HW2.out.below HB3.out hBW2.out)
      have HI3 := hidYY (HI2.out.below HB3.out)
      have HO3 := hidYY ((Ky.of (S := []) HB3.out (Nat.le_refl _)).row (ownsRow_lower HOWN.out (Nat.le_trans hB HBL.out.size)) (by simp))
      have t2 := HW3.out.s.cell 2 _ rfl
      have f2 := HW3.out.s.free 2
      have HLN : Hid (h1.2.1 = S.su.length) := by
        show h1.2.1 = S.su.length
        rw [← HI.out.eu, List.length_map]
        exact own_len HI.out.su.own
      clear HW2 HI2 HOWN HB2
      cases hb : bb
      · have HGE := hidYY (HG.out.1 (by rw [hb]; simp))
        clear HG hb
        go_wp2_with (first
          | (refine wpList_load_mid (P := Tryz.prog) rfl 25 (.tmp 3) rfl w.heap.size 0 rfl (scL c l h1 h2 (S.ticks : Int)) _ HW3.out.s.load Tryz.underlying25 rfl sz25 ?_)
          | (refine wpList_store_mid (P := Tryz.prog) rfl 25 (.tmp 6) (.tmp 94) rfl (w.heap.size + 1) 0 (scL c l h1 h2 (S.ticks : Int)).toArray rfl rfl (HW3.out.r.there 0 5 (by simp)) sz25 (one25 _ _ _ _ _) ?_; generalize hX : World.setCells _ (w.heap.size + 1) 0 _ = w9; have HX : Hid (World.setCells W3 (w.heap.size + 1) 0 (scL c l h1 h2 (S.ticks : Int)) = w9) := hX; clear hX))
        have e2 := HX.out
        have hF : blk w9 (w.heap.size + 1) (scL c l h1 h2 (S.ticks : Int)) 25 := e2 ▸ blk_all HW3.out.r rfl
        have hky : Ky [25] w.heap.size W3 w9 := e2 ▸ (Ky.refl _ _ _).setCells _ _ _ (by omega) ⟨_, _, _, HW3.out.r, by simp⟩
        have hK9 : Ky [55, 60, 67] B w w9 := HW3.out.k.fin hky hB
        have hL := run_loadVar_mid (P := Tryz.prog) w9 (w.heap.size + 1) 0 25 _ _ hF.load Tryz.underlying25 rfl sz25
        refine bodyPost_ret (v := .tuple #[.agg (scL c l h1 h2 (S.ticks : Int)).toArray, .int .i64 6]) (Kd.results_cell_tmp Tryz.results13 _ w9 (w.heap.size + 1) _ rfl hL) rfl ?_
        exact lnP.bad _ _ _ (by rw [HGE.out]; rfl) (by rw [HGE.out]; simp) hK9
      · by_cases hc : S.su.length = 32
        · have HGE := hidYY (HG.out.1 (by omega))
          have hc2 : h1.2.1 = 32 := HLN.out.trans hc
          clear HG hb hc
          go_wp2_with (first
            | (refine wpList_load_mid (P := Tryz.prog) rfl 25 (.tmp 3) rfl w.heap.size 0 rfl (scL c l h1 h2 (S.ticks : Int)) _ HW3.out.s.load Tryz.underlying25 rfl sz25 ?_)
            | (refine wpList_store_mid (P := Tryz.prog) rfl 25 (.tmp 6) (.tmp 94) rfl (w.heap.size + 1) 0 (scL c l h1 h2 (S.ticks : Int)).toArray rfl rfl (HW3.out.r.there 0 5 (by simp)) sz25 (one25 _ _ _ _ _) ?_; generalize hX : World.setCells _ (w.heap.size + 1) 0 _ = w9; have HX : Hid (World.setCells W3 (w.heap.size + 1) 0 (scL c l h1 h2 (S.ticks : Int)) = w9) := hX; clear hX))
          have e2 := HX.out
          have hF : blk w9 (w.heap.size + 1) (scL c l h1 h2 (S.ticks : Int)) 25 := e2 ▸ blk_all HW3.out.r rfl
          have hky : Ky [25] w.heap.size W3 w9 := e2 ▸ (Ky.refl _ _ _).setCells _ _ _ (by omega) ⟨_, _, _, HW3.out.r, by simp⟩
          have hK9 : Ky [55, 60, 67] B w w9 := HW3.out.k.fin hky hB
          have hL := run_loadVar_mid (P := Tryz.prog) w9 (w.heap.size + 1) 0 25 _ _ hF.load Tryz.underlying25 rfl sz25
          refine bodyPost_ret (v := .tuple #[.agg (scL c l h1 h2 (S.ticks : Int)).toArray, .int .i64 6]) (Kd.results_cell_tmp Tryz.results13 _ w9 (w.heap.size + 1) _ rfl hL) rfl ?_
          exact lnP.bad _ _ _ (by rw [HGE.out]; rfl) (by rw [HGE.out]; simp) hK9
        · have HGE := hidYY (HG.out.2 hb (by have := hS.su; omega))
          have hc2 : ¬ ((h1.2.1 : Int) = 32) := by have := HLN.out; omega
          clear HG hb hc
          have HNB := hidYY (heap_alloc_new W3 (.cells (suL y hd).toArray 55))
          have HB4 : Hid (Below W3.heap.size W3 (W3.alloc (.cells (suL y hd).toArray 55))) := (Below.refl _ _).alloc (Nat.le_refl _) _
          have hBW3 : Hid (B ≤ W3.heap.size) := Nat.le_trans hBW2.out HB3.out.size
          have HW4 := hidYY (HW3.out.below HB4.out hBW3.out)
          have HI4 := hidYY (HI3.out.below HB4.out)
          have HO4 := hidYY ((Ky.of (S := []) HB4.out (Nat.le_refl _)).row HO3.out (by simp))
          have hBW4 : Hid (B ≤ (W3.alloc (.cells (suL y hd).toArray 55)).heap.size) := Nat.le_trans hBW3.out HB4.out.size
          have HRL : Hid (us.length ≤ 1000000) := by
            show us.length ≤ 1000000
            have e := congrArg List.length HI.out.eu
            rw [List.length_map] at e
            have := hS.su
            omega
          go_wp2_with (first | (refine wpList_load_mid (P := Tryz.prog) rfl 55 (.tmp 10) rfl W2.heap.size 0 rfl (suL y hd) _ HP3.out.load Tryz.underlying55 rfl sz55 ?_) | (at_builtin; refine app_row rfl (.tmp 96) (.tmp 98) 22 55 _ 6 64 Tryz.info55 Tryz.underlying22 rfl (by decide) (by decide) rfl B us.length (hdV h1) (us.flatMap (fun (r : Su × Hd) => kS.enc r.1 r.2)) rfl HI4.out.su.own W3.heap.size (suL y hd) rfl rfl HNB.out (by simp [suL, Value.oneCell']) HRL.out hBW4.out ?_))
          intro g' k' w5 hown5 hgr5 hgg5
          have hm := HI4.out.moreU y hd (some ⟨g', 0, none⟩, us.length + 1, k') hBW4.out HO4.out HFR.out hown5 hgr5
          have HI5 := hidYY hm.1
          have HW5 := hidYY (HW4.out.ky (hm.2.mono (by simp) (Nat.le_refl _)))
          clear hm hown5 hgr5 hgg5 t2 f2
          have t2 := HW5.out.s.cell 2 _ rfl
          have f2 := HW5.out.s.free 2
          have hh := HW5.out.hd1 hB (some ⟨g', 0, none⟩, us.length + 1, k')
          have HW6' := hidYY hh.1
          have HI6' := hidYY (HI5.out.ky25 hh.2)
          clear hh
          go_upto_region 23 with fail
          generalize hX : World.setCell w5 _ _ = W6
          have HW6 : Hid (lnW B w W6 (scL c l (some ⟨g', 0, none⟩, us.length + 1, k') h2 (S.ticks : Int))) := by show lnW _ _ _ _; rw [← hX]; exact HW6'.out
          have HI6 : Hid (isSc B (us ++ [(y, hd)]) os (some ⟨g', 0, none⟩, us.length + 1, k') h2 { S with su := S.su ++ [y] } W6) := by show isSc _ _ _ _ _ _ _; rw [← hX]; exact HI6'.out
          clear hX HW6' HI6' HW5 HI5 t2 f2
          go_wp2_with (first
            | (refine wpList_load_mid (P := Tryz.prog) rfl 25 (.tmp 3) rfl w.heap.size 0 rfl (scL c l (some ⟨g', 0, none⟩, us.length + 1, k') h2 (S.ticks : Int)) _ HW6.out.s.load Tryz.underlying25 rfl sz25 ?_)
            | (refine wpList_store_mid (P := Tryz.prog) rfl 25 (.tmp 6) (.tmp 101) rfl (w.heap.size + 1) 0 (scL c l (some ⟨g', 0, none⟩, us.length + 1, k') h2 (S.ticks : Int)).toArray rfl rfl (HW6.out.r.there 0 5 (by simp)) sz25 (one25 _ _ _ _ _) ?_; generalize hX : World.setCells _ (w.heap.size + 1) 0 _ = w9; have HX : Hid (World.setCells W6 (w.heap.size + 1) 0 (scL c l (some ⟨g', 0, none⟩, us.length + 1, k') h2 (S.ticks : Int)) = w9) := hX; clear hX))
          have e2 := HX.out
          have hF : blk w9 (w.heap.size + 1) (scL c l (some ⟨g', 0, none⟩, us.length + 1, k') h2 (S.ticks : Int)) 25 := e2 ▸ blk_all HW6.out.r rfl
          have hky : Ky [25] w.heap.size W6 w9 := e2 ▸ (Ky.refl _ _ _).setCells _ _ _ (by omega) ⟨_, _, _, HW6.out.r, by simp⟩
          have hK9 : Ky [55, 60, 67] B w w9 := HW6.out.k.fin hky hB
          have hL := run_loadVar_mid (P := Tryz.prog) w9 (w.heap.size + 1) 0 25 _ _ hF.load Tryz.underlying25 rfl sz25
          refine bodyPost_ret (v := .tuple #[.agg (scL c l (some ⟨g', 0, none⟩, us.length + 1, k') h2 (S.ticks : Int)).toArray, .int .i64 0]) (Kd.results_cell_tmp Tryz.results13 _ w9 (w.heap.size + 1) _ rfl hL) rfl ?_
          rw [HGE.out]
          have hi := HI6.out.ky25 hky
          exact ⟨⟨_, _, _, rfl, fun _ => ⟨rfl, _, _, hi⟩⟩, hK9⟩
end Go.Proofs.YtfbeaekddgpmmaaGreatDoor
