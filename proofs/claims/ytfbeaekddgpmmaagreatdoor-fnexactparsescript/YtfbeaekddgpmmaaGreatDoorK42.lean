import Derived.Test.YtfbeaekddgpmmaaGreatDoorK41
import Derived.Test.YtfbeaekddgpmmaaGreatDoorK28
import Derived.Test.YtfbeaekddgpmmaaGreatDoorK24
import Derived.Test.YtfbeaekddgpmmaaGreatDoorK33
namespace Go.Proofs.YtfbeaekddgpmmaaGreatDoor
open Go.RowKit Kd
set_option linter.unusedVariables false
section
variable {B : Nat} {S : Sc} {us : List (Su × Hd)} {os : List (Od × Hd)} {h1 h2 : Hd} {W V : World}
theorem isSc.growF (h : isSc B us os h1 h2 S W) (hB : B ≤ W.heap.size) (n : Nat) (x : Su) (hx : Hd) (hn : n < us.length) (e1 : us[n] = (x, hx)) (hg : W.grownBy V (hdV hx).ownBlock) : Ky [60] B W V :=
  (Ky.refl _ _ _).grown hg hB fun y e => by
    have hd := h.su.dat us[n] (List.getElem_mem hn)
    rw [e1] at hd
    rcases ownsRow_shape hd with ⟨e2, _⟩ | ⟨g2, k2, e2, h2, _⟩
    · rw [e2] at e; cases e
    · obtain ⟨c2, hc2⟩ := ownsRow_kind hd e2
      rw [e2] at e
      cases e
      exact ⟨h2, _, _, _, hc2, by simp [kS]⟩
theorem isSc.cellF (h : isSc B us os h1 h2 S W) (hB : B ≤ W.heap.size) (n : Nat) (x : Su) (hx : Hd) (gS k : Nat) (hn : n < us.length) (e1 : us[n] = (x, hx)) (eh : h1 = (some ⟨gS, 0, none⟩, us.length, k)) (hg : W.grownBy V (hdV hx).ownBlock) : V.cell? ⟨gS, n * 6 + 5, none⟩ = some (hdV hx) ∧ V.frozen? ⟨gS, n * 6 + 5, none⟩ = false := by
  have hk := h.growF hB n x hx hn e1 hg
  have hs := h.su
  rw [eh] at hs
  have ho := hk.row hs.own (by decide)
  have hr : rcR kS B (.slice (some ⟨gS, 0, none⟩) us.length k) us W := hs
  have := hr.rng (fun _ _ => rfl) n hn 5 (hdV us[n].2) rfl
  rw [e1] at this
  refine ⟨?_, World.ownsRow.frozenAt ho _⟩
  obtain ⟨c, hc⟩ := ownsRow_kind hs.own rfl
  exact cell_up this (hk.keep gS c _ _ hc (by decide))
/-- one filter more -/
theorem isSc.updU (h : isSc B us os h1 h2 S W) (hB : B ≤ W.heap.size) (n : Nat) (x : Su) (hx : Hd) (f : H.R3) (gS k : Nat) (hn : n < us.length) (e1 : us[n] = (x, hx)) (eh : h1 = (some ⟨gS, 0, none⟩, us.length, k)) {g' k' : Nat}
    (ho : V.ownsRow B 60 3 (.slice (some ⟨g', 0, none⟩) (x.fs.length + 1) k') (x.fs.length + 1) (x.fs.flatMap e3 ++ e3 f)) (hg : W.grownBy V (hdV hx).ownBlock) (hgg : (hdV hx).ownBlock = some g' ∨ g' = W.heap.size) :
    isSc B (us.set n (addF x f, (some ⟨g', 0, none⟩, x.fs.length + 1, k'))) os h1 h2 { S with su := S.su.set n (addF x f) } (V.setCell ⟨gS, n * 6 + 5, none⟩ (.slice (some ⟨g', 0, none⟩) (x.fs.length + 1) k')) ∧ Ky [55, 60, 67] B W (V.setCell ⟨gS, n * 6 + 5, none⟩ (.slice (some ⟨g', 0, none⟩) (x.fs.length + 1) k')) := by
  have k1 := h.growF hB n x hx hn e1 hg
  have hs := h.su
  rw [eh] at hs
  have hr : rcR kS B (.slice (some ⟨gS, 0, none⟩) us.length k) us W := hs
  obtain ⟨c, hc⟩ := ownsRow_kind hr.own rfl
  have hBg := (ownsRow_lt hr.own rfl).2
  have k2 : Ky [55] B V (V.setCell ⟨gS, n * 6 + 5, none⟩ (.slice (some ⟨g', 0, none⟩) (x.fs.length + 1) k')) := (Ky.refl _ _ _).setCell _ _ _ hBg ⟨_, _, _, (k1.keep gS c _ _ hc (by decide)).trans hc, by simp [kS]⟩
  have hu := hr.upd (V := V) (by decide) (fun _ _ => rfl) n hn (addF x f, (some ⟨g', 0, none⟩, x.fs.length + 1, k')) 5 (.slice (some ⟨g', 0, none⟩) (x.fs.length + 1) k') (by decide) (by rw [e1]; rfl) (by
    have e : kS.dv (addF x f) = x.fs.flatMap e3 ++ e3 f := by simp [kS, addF]
    have e' : kS.dn (addF x f) = x.fs.length + 1 := by simp [kS, addF]
    rw [e, e']
    exact ho) (by rw [e1]; exact hg) (by
    rw [e1]
    rcases hgg with hgg | hgg
    · left
      have hd := h.su.dat us[n] (List.getElem_mem hn)
      rw [e1] at hd
      rcases ownsRow_shape hd with ⟨e2, _⟩ | ⟨b, cc, e2, _⟩
      · rw [e2] at hgg; cases hgg
      · have e2' := e2
        injection e2' with e3 _ _
        rw [e2] at hgg
        cases hgg
        exact e3.symm
    · exact .inr ⟨g', rfl, by omega⟩)
  refine ⟨⟨?_, (h.od.ky k1 (by decide) (by decide)).ky k2 (by decide) (by decide), ?_, h.eo⟩, (k1.mono (by simp) (Nat.le_refl _)).trans (k2.mono (by simp) (Nat.le_refl _))⟩
  · rw [eh]
    exact hu
  · rw [List.map_set, h.eu]
end
set_option maxHeartbeats 8000000 in
set_option maxRecDepth 40000 in
/-- spec.l6line, a filter -/
theorem line_accept (B Bt : Nat) (S : Sc) (us : List (Su × Hd)) (os : List (Od × Hd)) (h1 h2 : Hd) (c l : Int) (bg : Bool) (g cp : Nat) (x : List UInt8) (rest : List (List UInt8)) (w : World) (hI : isSc B us os h1 h2 S w) (hB : B ≤ w.heap.size) (hS : okS S) (hok : okWs (x :: rest)) (hl : rest.length ≤ 20000) (ht : w.ownsRow Bt 9 1 (.slice (some ⟨g, 0, none⟩) (rest.length + 1) cp) (rest.length + 1) (sv (x :: rest)))
    (hz : (shapeZ (wk (x :: rest) 0)).size ≠ 0) (hlen : rest.length = (shapeZ (wk (x :: rest) 0)).size) (hpl : (bg && (((wk (x :: rest) 0).toList == wNode) || ((wk (x :: rest) 0).toList == wAccept))) = false) (hf : formAll (x :: rest) = true) (hx : ((wk (x :: rest) 0).toList == wAccept) = true) (hy : ((wk (x :: rest) 0).toList == wRun) = false) (hu : ((wk (x :: rest) 0).toList == wNode) = false) (f : H.R3) (hs1 : (wk (x :: rest) 1).size ≤ 8)
    (hca : ∀ W, (∀ k, k < rest.length + 1 → W.cell? ⟨g, k, none⟩ = some (.string (wk (x :: rest) k))) → Calls Tryz.prog 26 #[.slice (some ⟨g, 0, none⟩) (rest.length + 1) cp] W fun o w' => o = .returned (H.flV f.e f.m f.k) ∧ Below W.heap.size W w')
    (hgo : goL S (x :: rest) = if S.su.length ≤ nv (wk (x :: rest) 1) then (6, S) else (match S.su[nv (wk (x :: rest) 1)]? with
     | some y => if H.okFs (y.fs ++ [f]) = true then (0, { S with su := S.su.set (nv (wk (x :: rest) 1)) (addF y f) }) else (6, S)
     | none => (6, S))) :
    Calls Tryz.prog 13 #[.agg (scL c l h1 h2 (S.ticks : Int)).toArray, .slice (some ⟨g, 0, none⟩) (rest.length + 1) cp, .bool bg] w (lnP B w c l (goL S (x :: rest))) := by
  have HI := hidYY hI
  have HT := hidYY ht
  have HOK := hidYY hok
  have H0 := hidYY (lnW.zero B w hB (scL c l h1 h2 (S.ticks : Int)))
  have HSH := hidYY (fun W => shape_any (wd x) W)
  obtain ⟨n, hn⟩ : ∃ n, rest.length + 1 = n := ⟨_, rfl⟩
  have HN := hidYY hn
  have hn1 : 1 ≤ n := by omega
  have hn2 : n ≤ 20001 := by omega
  rw [hn] at HT ⊢
  clear hn hok hI ht hl
  have HB0 : Hid (Below w.heap.size w ((w.alloc (.cells (scL c l h1 h2 (S.ticks : Int)).toArray 25)).alloc (.cells (scL 0 0 noH noH 0).toArray 25))) := ((Below.refl _ _).alloc (Nat.le_refl _) _).alloc (by simp) _
  generalize hV : (w.alloc (.cells (scL c l h1 h2 (S.ticks : Int)).toArray 25)).alloc (.cells (scL 0 0 noH noH 0).toArray 25) = V at *
  have HC : Hid (∀ k W, k < n → Ky [55, 60, 67] B w W → W.cell? ⟨g, k, none⟩ = some (.string (wk (x :: rest) k)) ∧ (wk (x :: rest) k).size ≤ 20000) := fun k W hk hW => by
    have hk' : k < (x :: rest).length := by have := HN.out; simp only [List.length_cons]; omega
    have e : wk (x :: rest) k = wd (x :: rest)[k] := by unfold wk; rw [List.getD_eq_getElem?_getD, List.getElem?_eq_getElem hk']; rfl
    rw [e]
    exact ⟨words_at HT.out (by have := HN.out; simp only [List.length_cons]; omega) hW k hk', (HOK.out _ (List.getElem_mem hk')).2.1⟩
  have d0 : V.cell? ⟨g, 0, none⟩ = some (.string (wd x)) := (HC.out 0 V (by omega) H0.out.k).1
  obtain ⟨ws, hws⟩ : ∃ ws, x :: rest = ws := ⟨_, rfl⟩
  have HL : Hid (ws.length = n) := by show ws.length = n; rw [← hws, ← HN.out]; rfl
  have e0 : wd x = wk ws 0 := by rw [← hws]; rfl
  rw [e0] at d0 HSH
  rw [hws] at HC hz hlen hpl hf hx hy hu hs1 hca hgo ⊢
  clear e0
  obtain ⟨sh, hsh⟩ : ∃ sh, shapeZ (wk ws 0) = sh := ⟨_, rfl⟩
  have HSZ := hidYY hsh
  rw [hsh] at HSH
  have hs5 : sh.size ≤ 5 := by
    rw [← hsh]; unfold shapeZ
    repeat' split
    all_goals decide
  have esh : (sh.toList == ([] : List UInt8)) = decide (sh.size = 0) := toList_nil sh
  have HF5 : Hid (∀ k (hk : k < sh.size), formB (sh[k]).toNat (wk ws (k + 1)) = true) := by
    show ∀ k (hk : k < sh.size), formB (sh[k]).toNat (wk ws (k + 1)) = true
    rw [← hsh]
    exact fun k hk => form_at hf hk
  rw [hsh] at hz hlen
  have h3 : n = sh.size + 1 := by have := HN.out; omega
  have H3 := hidYY h3
  have hn3 : 2 ≤ n := by omega
  have hn4 : (1 : Int) < (n : Int) := by omega
  clear hsh hf hlen
  obtain ⟨G, hG⟩ : ∃ G, goL S ws = G := ⟨_, rfl⟩
  have HG1 := hidYY hgo
  rw [hG] at HG1 ⊢
  rw [HN.out] at hca
  have HCC := hidYY hca
  have HV1 := hidYY (fun w => value_any (wk ws 1) 10 (by decide) hs1 w)
  rw [show (valN (lt (wk ws 1)) 10 : Int) = (nv (wk ws 1) : Int) from rfl] at HV1
  clear hG hgo hca hs1
  generalize hx0 : wk ws 0 = xs at *
  have HX0 := hidYY hx0
  clear hx0
  rw [decide_eq_false hz] at esh
  have b6 : bg = false ∨ ((xs.toList == wNode) = false ∧ (xs.toList == wAccept) = false) := by
    cases hbg : bg
    · exact .inl rfl
    · rw [hbg, Bool.true_and, Bool.or_eq_false_iff] at hpl; exact .inr hpl
  have hwm : IntKind.i64.wrap ((sh.size : Int) + 1) = (sh.size : Int) + 1 := i64_wrap _ (by omega) (by omega)
  have hnn : (n : Int) = (sh.size : Int) + 1 := by omega
  clear hpl h3
  go_enter Tryz.func13, Tryz.ntmps13
  go_upto_region 2 with fail
  try rw [hV]
  refine (HSH.out V).mono ?_
  rintro o q1 ⟨rfl, rfl⟩
  go_upto_region 6 with fail
  go_cut [41] (fun t wx => t = .bool false ∧ wx = V)
  case first =>
    rcases b6 with rfl | ⟨b6, b7⟩
    · go_wp2_with fail
      go_meet
      case rel => exact ⟨rfl, rfl⟩
    · rw [hx] at b7
      cases b7
  case rest =>
  obtain ⟨rfl, hcw⟩ := hcut
  clear hwm hnn b6 hz esh
  rw [hcw]
  clear hcw
  go_wp2
  go_loopw [9] (fun i wr => ∃ k : Nat, k ≤ sh.size ∧ i = .int .i64 (k : Int) ∧ lnW B w wr (scL c l h1 h2 (S.ticks : Int)) ∧ Hid (Below w.heap.size w wr)) (fun i _ => sh.size - (intOf i).toNat)
  case atStart => exact ⟨0, Nat.zero_le _, rfl, H0.out, HB0.out⟩
  case round =>
    obtain ⟨k, hk, rfl, hW, HBL⟩ := hrel
    clear H0 HB0 hV d0
    by_cases hp : k < sh.size
    · have HD := hidYY (hW.drew hB)
      have dk : wr.cell? ⟨g, k + 1, none⟩ = some (.string (wk ws (k + 1))) := (HC.out (k + 1) wr (by have := H3.out; omega) hW.k).1
      have HFO := hidYY (fun W => form_any (sh[k]).toNat (wk ws (k + 1)) (HC.out (k + 1) wr (by have := H3.out; omega) hW.k).2 W)
      rw [HF5.out k hp] at HFO
      have hw1 : IntKind.i64.wrap ((k : Int) + 1) = (k : Int) + 1 := i64_wrap _ (by omega) (by omega)
      have hi0 : (0 : Int) ≤ (k : Int) + 1 := by omega
      have hi1 : (k : Int) + 1 < (n : Int) := by have := H3.out; omega
      have hi2 : ((k : Int) + 1).toNat = k + 1 := by omega
      clear hW
      generalize hsk : wk ws (k + 1) = sk at *
      clear hsk
      go_upto_region 11 with fail
      go_region_held3 (fun W => W.cell? ⟨g, k + 1, none⟩ = some (.string sk)) (first | assumption | go_keep) (first | (go_at_call 23; refine (HFO.out _).mono ?_; rintro o q1 ⟨rfl, rfl⟩))
      go_wp2
      go_roundw
      case rel => exact ⟨k + 1, by omega, by go_num, HD.out, HBL.out.drew⟩
      case measure => simp [intOf]; omega
    · have hke : ¬ ((k : Int) < (sh.size : Int)) := by omega
      have HW := hidYY hW
      have d0 : wr.cell? ⟨g, 0, none⟩ = some (.string (wk ws 0)) := (HC.out 0 wr (by omega) hW.k).1
      rw [HX0.out] at d0
      clear hW HF5
      have HBW : Hid (B ≤ wr.heap.size) := Nat.le_trans hB HBL.out.size
      have HFL := hidYY (HCC.out wr.drew fun k hk => (HC.out k wr.drew hk (HW.out.drew hB).k).1)
      rw [show wr.drew.heap.size = wr.heap.size from rfl] at HFL
      clear HCC
      have d1 : wr.cell? ⟨g, 1, none⟩ = some (.string (wk ws 1)) := (HC.out 1 wr (by omega) HW.out.k).1
      have s2 := HW.out.s.cell 2 _ rfl
      have HLU : Hid (h1.2.1 = S.su.length) := by
        show h1.2.1 = S.su.length
        rw [← HI.out.eu, List.length_map]
        exact own_len HI.out.su.own
      generalize wk ws 1 = s1 at *
      by_cases hq : S.su.length ≤ nv s1
      · have HGE : Hid (G = (6, S)) := by show G = _; rw [HG1.out, if_pos hq]
        have hq2 : (h1.2.1 : Int) ≤ (nv s1 : Int) := by have := HLU.out; omega
        clear HG1 hq HFL
        go_upto_region 25 with (first | (go_at_call 24; refine (HV1.out _).mono ?_; rintro o q1 ⟨rfl, rfl⟩))
        go_wp2_with (first
          | (refine wpList_load_mid (P := Tryz.prog) rfl 25 (.tmp 3) rfl w.heap.size 0 rfl (scL c l h1 h2 (S.ticks : Int)) _ HW.out.s.load Tryz.underlying25 rfl sz25 ?_)
          | (refine wpList_store_mid (P := Tryz.prog) rfl 25 (.tmp 6) (.tmp 111) rfl (w.heap.size + 1) 0 (scL c l h1 h2 (S.ticks : Int)).toArray rfl rfl (HW.out.r.there 0 5 (by simp)) sz25 (one25 _ _ _ _ _) ?_; generalize hX : World.setCells _ (w.heap.size + 1) 0 _ = w9; have HX : Hid (World.setCells wr (w.heap.size + 1) 0 (scL c l h1 h2 (S.ticks : Int)) = w9) := hX; clear hX))
        have e2 := HX.out
        have hF : blk w9 (w.heap.size + 1) (scL c l h1 h2 (S.ticks : Int)) 25 := e2 ▸ blk_all HW.out.r rfl
        have hky : Ky [25] w.heap.size wr w9 := e2 ▸ (Ky.refl _ _ _).setCells _ _ _ (by omega) ⟨_, _, _, HW.out.r, by simp⟩
        have hK9 : Ky [55, 60, 67] B w w9 := HW.out.k.fin hky hB
        have hL := run_loadVar_mid (P := Tryz.prog) w9 (w.heap.size + 1) 0 25 _ _ hF.load Tryz.underlying25 rfl sz25
        refine bodyPost_ret (v := .tuple #[.agg (scL c l h1 h2 (S.ticks : Int)).toArray, .int .i64 6]) (Kd.results_cell_tmp Tryz.results13 _ w9 (w.heap.size + 1) _ rfl hL) rfl ?_
        exact lnP.bad _ _ _ (by rw [HGE.out]; rfl) (by rw [HGE.out]; simp) hK9
      · obtain ⟨m, hm⟩ : ∃ m, nv s1 = m := ⟨_, rfl⟩
        rw [hm] at HV1 HG1 hq
        clear hm
        have hul : us.length = S.su.length := by rw [← HI.out.eu, List.length_map]
        have hnu : m < us.length := by omega
        obtain ⟨x1, hx1, e1⟩ : ∃ x1 hx1, us[m] = (x1, hx1) := ⟨_, _, rfl⟩
        have ex1 : S.su[m]? = some x1 := by rw [← HI.out.eu, List.getElem?_map, List.getElem?_eq_getElem hnu, e1]; rfl
        have hxl : x1.fs.length ≤ 16 := hS.fl x1 (List.mem_of_getElem? ex1)
        have HG2 : Hid (G = if H.okFs (x1.fs ++ [f]) = true then (0, { S with su := S.su.set m (addF x1 f) }) else (6, S)) := by
          show G = _
          rw [HG1.out, if_neg hq, ex1]
        obtain ⟨gS, kS1, eh1, hsl⟩ : ∃ gS kS1, h1 = (some ⟨gS, 0, none⟩, us.length, kS1) ∧ us.length ≤ kS1 := by
          rcases ownsRow_shape HI.out.su.own with ⟨_, e⟩ | ⟨g, c, e, _, _, hc⟩
          · omega
          · injection e with a b c'
            obtain ⟨p, q, r⟩ := h1
            exact ⟨g, c, by simp only at a b c'; rw [a, b, c'], hc⟩
        have HRC := hidYY (HI.out.below HBL.out)
        have hwS : w.heap.size ≠ gS := by
          intro e
          have ho := HI.out.su.own
          rw [eh1] at ho
          have := (ownsRow_lt ho rfl).1
          omega
        obtain ⟨nl, hnl⟩ : ∃ nl, us.length = nl := ⟨_, rfl⟩
        have HNL := hidYY hnl
        have hu32 : nl ≤ 32 := by have := hS.su; omega
        have hnn : (m : Int) < (nl : Int) := by omega
        have hnn2 : ¬ (nl : Int) ≤ (m : Int) := by omega
        rw [eh1, hnl] at s2
        have HKP : Hid (∀ V U : World, (fun V => V.cell? ⟨w.heap.size, 2, none⟩ = some (.slice (some ⟨gS, 0, none⟩) nl kS1)) V → Below V.heap.size V U → (fun V => V.cell? ⟨w.heap.size, 2, none⟩ = some (.slice (some ⟨gS, 0, none⟩) nl kS1)) U) := fun V U a hb => (hb.cell (World.block_lt_of_cell? V _ a)).trans a
        have HHD : Hid (∀ V, Below wr.heap.size wr V → V.cell? ⟨gS, m * 6 + 5, none⟩ = some (hdV hx1)) := fun V hV => by
          have hrV := HRC.out.below hV
          exact (hrV.cellF (V := V) (Nat.le_trans HBW.out hV.size) m x1 hx1 gS kS1 hnu e1 eh1 ⟨rfl, rfl, rfl, Nat.le_refl _, fun _ _ _ => rfl⟩).1
        clear HG1 hq hnl ex1 hul
        go_upto_region 25 with (first | (go_at_call 24; refine (HV1.out _).mono ?_; rintro o q1 ⟨rfl, rfl⟩))
        go_upto_region 28 with fail
        go_cut [] (fun wx => ∃ g' k', isSc B (us.set m (addF x1 f, (some ⟨g', 0, none⟩, x1.fs.length + 1, k'))) os h1 h2 { S with su := S.su.set m (addF x1 f) } wx ∧ lnW B w wx (scL c l h1 h2 (S.ticks : Int)))
        case first =>
          refine wp_region_held (S := (fun V => V.cell? ⟨w.heap.size, 2, none⟩ = some (.slice (some ⟨gS, 0, none⟩) nl kS1))) (by kernel_rfl) ?_
          have hS : (fun V => V.cell? ⟨w.heap.size, 2, none⟩ = some (.slice (some ⟨gS, 0, none⟩) nl kS1)) wr.drew := (HKP.out wr wr.drew s2 (Below.refl _ _).drew)
          refine wpAnyH_take (i := 0) (v := (.pointer (some ⟨w.heap.size, 2, none⟩))) rfl (by kernel_rfl) (by kernel_rfl) (by kernel_rfl) (fun _ _ _ h => h) (Or.inl ⟨by rfl, ?_⟩) hS ?_
          · intro W hSw
            clear hS
            go_simp
          simp only [Act.put, List.setIfInBounds_toArray, List.set_cons_zero, List.set_cons_succ, List.getElem_toArray, List.getElem_cons_zero]
          refine wpAnyH_take (i := 1) (v := (.slice (some ⟨gS, 0, none⟩) nl kS1)) rfl (by kernel_rfl) (by kernel_rfl) (by kernel_rfl) (fun _ _ _ h => h) (Or.inl ⟨by rfl, ?_⟩) hS ?_
          · intro W hSw
            clear hS
            go_simp
          simp only [Act.put, List.setIfInBounds_toArray, List.set_cons_zero, List.set_cons_succ, List.getElem_toArray, List.getElem_cons_zero, List.getElem_cons_succ]
          refine wpAnyH_take (i := 2) (v := (.int .i64 (m : Int))) rfl (by kernel_rfl) (by kernel_rfl) (by kernel_rfl) (fun _ _ _ h => h) (Or.inl ⟨by rfl, ?_⟩) hS ?_
          · intro W hSw
            clear hS
            go_simp
          simp only [Act.put, List.setIfInBounds_toArray, List.set_cons_zero, List.set_cons_succ, List.getElem_toArray, List.getElem_cons_zero, List.getElem_cons_succ]
          refine wpAnyH_take (i := 3) (v := (.pointer (some ⟨w.heap.size, 2, none⟩))) rfl (by kernel_rfl) (by kernel_rfl) (by kernel_rfl) (fun _ _ _ h => h) (Or.inl ⟨by rfl, ?_⟩) hS ?_
          · intro W hSw
            clear hS
            go_simp
          simp only [Act.put, List.setIfInBounds_toArray, List.set_cons_zero, List.set_cons_succ, List.getElem_toArray, List.getElem_cons_zero, List.getElem_cons_succ]
          refine wpAnyH_take (i := 4) (v := (.slice (some ⟨gS, 0, none⟩) nl kS1)) rfl (by kernel_rfl) (by kernel_rfl) (by kernel_rfl) (fun _ _ _ h => h) (Or.inl ⟨by rfl, ?_⟩) hS ?_
          · intro W hSw
            clear hS
            go_simp
          simp only [Act.put, List.setIfInBounds_toArray, List.set_cons_zero, List.set_cons_succ, List.getElem_toArray, List.getElem_cons_zero, List.getElem_cons_succ]
          refine wpAnyH_take (i := 5) (v := (.int .i64 (m : Int))) rfl (by kernel_rfl) (by kernel_rfl) (by kernel_rfl) (fun _ _ _ h => h) (Or.inl ⟨by rfl, ?_⟩) hS ?_
          · intro W hSw
            clear hS
            go_simp
          simp only [Act.put, List.setIfInBounds_toArray, List.set_cons_zero, List.set_cons_succ, List.getElem_toArray, List.getElem_cons_zero, List.getElem_cons_succ]
          refine wpAnyH_take (i := 6) (v := (.pointer (some ⟨gS, m * 6, none⟩))) rfl (by kernel_rfl) (by kernel_rfl) (by kernel_rfl) (fun _ _ _ h => h) (Or.inl ⟨by rfl, ?_⟩) hS ?_
          · intro W hSw
            clear hS
            go_simp
          simp only [Act.put, List.setIfInBounds_toArray, List.set_cons_zero, List.set_cons_succ, List.getElem_toArray, List.getElem_cons_zero, List.getElem_cons_succ]
          refine wpAnyH_take (i := 7) (v := (.pointer (some ⟨gS, m * 6 + 5, none⟩))) rfl (by kernel_rfl) (by kernel_rfl) (by kernel_rfl) (fun _ _ _ h => h) (Or.inl ⟨by rfl, ?_⟩) hS ?_
          · intro W hSw
            clear hS
            go_simp
          simp only [Act.put, List.setIfInBounds_toArray, List.set_cons_zero, List.set_cons_succ, List.getElem_toArray, List.getElem_cons_zero, List.getElem_cons_succ]
          refine wpAnyH_take (i := 9) (v := (.slice (some ⟨g, 0, none⟩) n cp)) rfl (by kernel_rfl) (by kernel_rfl) (by kernel_rfl) (fun _ _ _ h => h) (Or.inl ⟨by rfl, ?_⟩) hS ?_
          · intro W hSw
            clear hS
            go_simp
          simp only [Act.put, List.setIfInBounds_toArray, List.set_cons_zero, List.set_cons_succ, List.getElem_toArray, List.getElem_cons_zero, List.getElem_cons_succ]
          refine wpAnyH_all (rs := [8, 10]) (by kernel_rfl) (by simp) ?_
          refine AllReadyH.cons rfl (fun K hK => ?_) (AllReadyH.cons rfl (fun K hK => ?_) AllReadyH.nil)
          · have yh0 := HHD.out wr.drew (Below.refl _ _).drew
            go_simp
            refine hK.out _ _ hS (fun hS2 => ?_)
            clear hS hK K
            have hS := hS2
            clear hS2
            refine wpAnyH_all (rs := [10]) (by kernel_rfl) (by simp) ?_
            refine AllReadyH.cons rfl (fun K hK => ?_) AllReadyH.nil
            go_simp
            refine HFL.out.mono ?_
            rintro o q1 ⟨rfl, hq⟩
            have hSq : (fun V => V.cell? ⟨w.heap.size, 2, none⟩ = some (.slice (some ⟨gS, 0, none⟩) nl kS1)) q1 := HKP.out _ _ hS hq
            have HQ := hidYY ((Below.refl wr.heap.size wr).drew.trans hq)
            have yh := HHD.out q1 HQ.out
            clear hq
            go_wp2_with fail
            refine hK.out _ _ hSq (fun hS2 => ?_)
            clear hSq
            clear hS hK K
            have hS := hS2
            clear hS2
            refine wpAnyH_all (rs := [11]) (by kernel_rfl) (by simp) ?_
            refine AllReadyH.cons rfl (fun K hK => ?_) AllReadyH.nil
            go_simp
            have hSq : (fun V => V.cell? ⟨w.heap.size, 2, none⟩ = some (.slice (some ⟨gS, 0, none⟩) nl kS1)) (q1.alloc (.cells [.bool f.e, .int .u32 f.m, .int .u32 f.k].toArray 60)) := HKP.out _ _ hS ((Below.refl _ _).alloc (Nat.le_refl _) _)
            have HQA : Hid (Below wr.heap.size wr (q1.alloc (.cells [.bool f.e, .int .u32 f.m, .int .u32 f.k].toArray 60))) := HQ.out.alloc HQ.out.size _
            have yh2 := HHD.out _ HQA.out
            refine hK.out _ _ hSq (fun hS2 => ?_)
            clear hSq
            clear hS hK K
            have hS := hS2
            clear hS2
            have HA := hidYY (HRC.out.below HQA.out)
            have HNB := hidYY (heap_alloc_new q1 (.cells [.bool f.e, .int .u32 f.m, .int .u32 f.k].toArray 60))
            have hBA : Hid (B ≤ (q1.alloc (.cells [.bool f.e, .int .u32 f.m, .int .u32 f.k].toArray 60)).heap.size) := Nat.le_trans HBW.out HQA.out.size
            refine wpAnyH_all (rs := [12]) (by kernel_rfl) (by simp) ?_
            refine AllReadyH.cons rfl (fun K hK => ?_) AllReadyH.nil
            have hdt := HA.out.su.dat us[m] (List.getElem_mem hnu)
            rw [e1] at hdt
            refine wp_app_row (.tmp 124) (.tmp 127) 53 60 _ 3 12 H.Tryz.info60 Tryz.underlying53 rfl (by decide) (by decide) rfl B x1.fs.length (hdV hx1) (x1.fs.flatMap e3) rfl hdt q1.heap.size [.bool f.e, .int .u32 f.m, .int .u32 f.k] rfl rfl HNB.out (by simp [Value.oneCell']) (by omega) hBA.out ?_
            intro g' k' w5 hown5 hgr5 hgg5
            have hm := HA.out.updU hBA.out m x1 hx1 f gS kS1 hnu e1 eh1 hown5 hgr5 hgg5
            have HM := hidYY hm
            have hv5 : w5.heap[w.heap.size]? = (q1.alloc (.cells [.bool f.e, .int .u32 f.m, .int .u32 f.k].toArray 60)).heap[w.heap.size]? := (HA.out.growF hBA.out m x1 hx1 hnu e1 hgr5).keep w.heap.size _ 25 (0, 0) (HW.out.s.below HQA.out) (by decide)
            have hSq : (fun V => V.cell? ⟨w.heap.size, 2, none⟩ = some (.slice (some ⟨gS, 0, none⟩) nl kS1)) w5 := cell_up hS hv5
            obtain ⟨yc, yf⟩ := HA.out.cellF hBA.out m x1 hx1 gS kS1 hnu e1 eh1 hgr5
            clear hm hown5 hgr5 hgg5
            refine hK.out _ _ hSq (fun hS2 => ?_)
            clear hSq
            clear hS hK K
            have hS := hS2
            clear hS2
            refine wpAnyH_take (i := 13) (v := (.pointer (some ⟨gS, m * 6, none⟩))) rfl (by kernel_rfl) (by kernel_rfl) (by kernel_rfl) (fun _ _ _ h => h) (Or.inl ⟨by rfl, ?_⟩) hS ?_
            · intro W hSw
              clear hS
              go_simp
            simp only [Act.put, List.setIfInBounds_toArray, List.set_cons_zero, List.set_cons_succ, List.getElem_toArray, List.getElem_cons_zero, List.getElem_cons_succ]
            refine wpAnyH_take (i := 14) (v := (.pointer (some ⟨gS, m * 6 + 5, none⟩))) rfl (by kernel_rfl) (by kernel_rfl) (by kernel_rfl) (fun _ _ _ h => h) (Or.inl ⟨by rfl, ?_⟩) hS ?_
            · intro W hSw
              clear hS
              go_simp
            simp only [Act.put, List.setIfInBounds_toArray, List.set_cons_zero, List.set_cons_succ, List.getElem_toArray, List.getElem_cons_zero, List.getElem_cons_succ]
            refine wpAnyH_all (rs := [15]) (by kernel_rfl) (by simp) ?_
            refine AllReadyH.cons rfl (fun K hK => ?_) AllReadyH.nil
            go_simp
            have hSq : (fun V => V.cell? ⟨w.heap.size, 2, none⟩ = some (.slice (some ⟨gS, 0, none⟩) nl kS1)) (w5.setCell ⟨gS, m * 6 + 5, none⟩ (.slice (some ⟨g', 0, none⟩) (x1.fs.length + 1) k')) := cell_up hS (heap_setCell_other _ _ _ _ hwS)
            refine hK.out _ _ hSq (fun hS2 => ?_)
            clear hSq hS hK K hS2
            refine wpAnyH_done (by kernel_rfl) ?_ _
            go_wp2_with fail
            go_meet
            case rel => exact ⟨_, _, HM.out.1, HW.out.ky ((Ky.of HQA.out HBW.out).trans HM.out.2)⟩
          · have yh0 := HHD.out wr.drew (Below.refl _ _).drew
            go_simp
            refine HFL.out.mono ?_
            rintro o q1 ⟨rfl, hq⟩
            have hSq : (fun V => V.cell? ⟨w.heap.size, 2, none⟩ = some (.slice (some ⟨gS, 0, none⟩) nl kS1)) q1 := HKP.out _ _ hS hq
            have HQ := hidYY ((Below.refl wr.heap.size wr).drew.trans hq)
            have yh := HHD.out q1 HQ.out
            clear hq
            go_wp2_with fail
            refine hK.out _ _ hSq (fun hS2 => ?_)
            clear hSq
            clear hS hK K
            have hS := hS2
            clear hS2
            refine wpAnyH_all (rs := [8, 11]) (by kernel_rfl) (by simp) ?_
            refine AllReadyH.cons rfl (fun K hK => ?_) (AllReadyH.cons rfl (fun K hK => ?_) AllReadyH.nil)
            · go_simp
              refine hK.out _ _ hS (fun hS2 => ?_)
              clear hS hK K
              have hS := hS2
              clear hS2
              refine wpAnyH_all (rs := [11]) (by kernel_rfl) (by simp) ?_
              refine AllReadyH.cons rfl (fun K hK => ?_) AllReadyH.nil
              go_simp
              have hSq : (fun V => V.cell? ⟨w.heap.size, 2, none⟩ = some (.slice (some ⟨gS, 0, none⟩) nl kS1)) (q1.alloc (.cells [.bool f.e, .int .u32 f.m, .int .u32 f.k].toArray 60)) := HKP.out _ _ hS ((Below.refl _ _).alloc (Nat.le_refl _) _)
              have HQA : Hid (Below wr.heap.size wr (q1.alloc (.cells [.bool f.e, .int .u32 f.m, .int .u32 f.k].toArray 60))) := HQ.out.alloc HQ.out.size _
              have yh2 := HHD.out _ HQA.out
              refine hK.out _ _ hSq (fun hS2 => ?_)
              clear hSq
              clear hS hK K
              have hS := hS2
              clear hS2
              have HA := hidYY (HRC.out.below HQA.out)
              have HNB := hidYY (heap_alloc_new q1 (.cells [.bool f.e, .int .u32 f.m, .int .u32 f.k].toArray 60))
              have hBA : Hid (B ≤ (q1.alloc (.cells [.bool f.e, .int .u32 f.m, .int .u32 f.k].toArray 60)).heap.size) := Nat.le_trans HBW.out HQA.out.size
              refine wpAnyH_all (rs := [12]) (by kernel_rfl) (by simp) ?_
              refine AllReadyH.cons rfl (fun K hK => ?_) AllReadyH.nil
              have hdt := HA.out.su.dat us[m] (List.getElem_mem hnu)
              rw [e1] at hdt
              refine wp_app_row (.tmp 124) (.tmp 127) 53 60 _ 3 12 H.Tryz.info60 Tryz.underlying53 rfl (by decide) (by decide) rfl B x1.fs.length (hdV hx1) (x1.fs.flatMap e3) rfl hdt q1.heap.size [.bool f.e, .int .u32 f.m, .int .u32 f.k] rfl rfl HNB.out (by simp [Value.oneCell']) (by omega) hBA.out ?_
              intro g' k' w5 hown5 hgr5 hgg5
              have hm := HA.out.updU hBA.out m x1 hx1 f gS kS1 hnu e1 eh1 hown5 hgr5 hgg5
              have HM := hidYY hm
              have hv5 : w5.heap[w.heap.size]? = (q1.alloc (.cells [.bool f.e, .int .u32 f.m, .int .u32 f.k].toArray 60)).heap[w.heap.size]? := (HA.out.growF hBA.out m x1 hx1 hnu e1 hgr5).keep w.heap.size _ 25 (0, 0) (HW.out.s.below HQA.out) (by decide)
              have hSq : (fun V => V.cell? ⟨w.heap.size, 2, none⟩ = some (.slice (some ⟨gS, 0, none⟩) nl kS1)) w5 := cell_up hS hv5
              obtain ⟨yc, yf⟩ := HA.out.cellF hBA.out m x1 hx1 gS kS1 hnu e1 eh1 hgr5
              clear hm hown5 hgr5 hgg5
              refine hK.out _ _ hSq (fun hS2 => ?_)
              clear hSq
              clear hS hK K
              have hS := hS2
              clear hS2
              refine wpAnyH_take (i := 13) (v := (.pointer (some ⟨gS, m * 6, none⟩))) rfl (by kernel_rfl) (by kernel_rfl) (by kernel_rfl) (fun _ _ _ h => h) (Or.inl ⟨by rfl, ?_⟩) hS ?_
              · intro W hSw
                clear hS
                go_simp
              simp only [Act.put, List.setIfInBounds_toArray, List.set_cons_zero, List.set_cons_succ, List.getElem_toArray, List.getElem_cons_zero, List.getElem_cons_succ]
              refine wpAnyH_take (i := 14) (v := (.pointer (some ⟨gS, m * 6 + 5, none⟩))) rfl (by kernel_rfl) (by kernel_rfl) (by kernel_rfl) (fun _ _ _ h => h) (Or.inl ⟨by rfl, ?_⟩) hS ?_
              · intro W hSw
                clear hS
                go_simp
              simp only [Act.put, List.setIfInBounds_toArray, List.set_cons_zero, List.set_cons_succ, List.getElem_toArray, List.getElem_cons_zero, List.getElem_cons_succ]
              refine wpAnyH_all (rs := [15]) (by kernel_rfl) (by simp) ?_
              refine AllReadyH.cons rfl (fun K hK => ?_) AllReadyH.nil
              go_simp
              have hSq : (fun V => V.cell? ⟨w.heap.size, 2, none⟩ = some (.slice (some ⟨gS, 0, none⟩) nl kS1)) (w5.setCell ⟨gS, m * 6 + 5, none⟩ (.slice (some ⟨g', 0, none⟩) (x1.fs.length + 1) k')) := cell_up hS (heap_setCell_other _ _ _ _ hwS)
              refine hK.out _ _ hSq (fun hS2 => ?_)
              clear hSq hS hK K hS2
              refine wpAnyH_done (by kernel_rfl) ?_ _
              go_wp2_with fail
              go_meet
              case rel => exact ⟨_, _, HM.out.1, HW.out.ky ((Ky.of HQA.out HBW.out).trans HM.out.2)⟩
            · go_simp
              have hSq : (fun V => V.cell? ⟨w.heap.size, 2, none⟩ = some (.slice (some ⟨gS, 0, none⟩) nl kS1)) (q1.alloc (.cells [.bool f.e, .int .u32 f.m, .int .u32 f.k].toArray 60)) := HKP.out _ _ hS ((Below.refl _ _).alloc (Nat.le_refl _) _)
              have HQA : Hid (Below wr.heap.size wr (q1.alloc (.cells [.bool f.e, .int .u32 f.m, .int .u32 f.k].toArray 60))) := HQ.out.alloc HQ.out.size _
              have yh2 := HHD.out _ HQA.out
              refine hK.out _ _ hSq (fun hS2 => ?_)
              clear hSq
              clear hS hK K
              have hS := hS2
              clear hS2
              refine wpAnyH_all (rs := [8]) (by kernel_rfl) (by simp) ?_
              refine AllReadyH.cons rfl (fun K hK => ?_) AllReadyH.nil
              go_simp
              refine hK.out _ _ hS (fun hS2 => ?_)
              clear hS hK K
              have hS := hS2
              clear hS2
              have HA := hidYY (HRC.out.below HQA.out)
              have HNB := hidYY (heap_alloc_new q1 (.cells [.bool f.e, .int .u32 f.m, .int .u32 f.k].toArray 60))
              have hBA : Hid (B ≤ (q1.alloc (.cells [.bool f.e, .int .u32 f.m, .int .u32 f.k].toArray 60)).heap.size) := Nat.le_trans HBW.out HQA.out.size
              refine wpAnyH_all (rs := [12]) (by kernel_rfl) (by simp) ?_
              refine AllReadyH.cons rfl (fun K hK => ?_) AllReadyH.nil
              have hdt := HA.out.su.dat us[m] (List.getElem_mem hnu)
              rw [e1] at hdt
              refine wp_app_row (.tmp 124) (.tmp 127) 53 60 _ 3 12 H.Tryz.info60 Tryz.underlying53 rfl (by decide) (by decide) rfl B x1.fs.length (hdV hx1) (x1.fs.flatMap e3) rfl hdt q1.heap.size [.bool f.e, .int .u32 f.m, .int .u32 f.k] rfl rfl HNB.out (by simp [Value.oneCell']) (by omega) hBA.out ?_
              intro g' k' w5 hown5 hgr5 hgg5
              have hm := HA.out.updU hBA.out m x1 hx1 f gS kS1 hnu e1 eh1 hown5 hgr5 hgg5
              have HM := hidYY hm
              have hv5 : w5.heap[w.heap.size]? = (q1.alloc (.cells [.bool f.e, .int .u32 f.m, .int .u32 f.k].toArray 60)).heap[w.heap.size]? := (HA.out.growF hBA.out m x1 hx1 hnu e1 hgr5).keep w.heap.size _ 25 (0, 0) (HW.out.s.below HQA.out) (by decide)
              have hSq : (fun V => V.cell? ⟨w.heap.size, 2, none⟩ = some (.slice (some ⟨gS, 0, none⟩) nl kS1)) w5 := cell_up hS hv5
              obtain ⟨yc, yf⟩ := HA.out.cellF hBA.out m x1 hx1 gS kS1 hnu e1 eh1 hgr5
              clear hm hown5 hgr5 hgg5
              refine hK.out _ _ hSq (fun hS2 => ?_)
              clear hSq
              clear hS hK K
              have hS := hS2
              clear hS2
              refine wpAnyH_take (i := 13) (v := (.pointer (some ⟨gS, m * 6, none⟩))) rfl (by kernel_rfl) (by kernel_rfl) (by kernel_rfl) (fun _ _ _ h => h) (Or.inl ⟨by rfl, ?_⟩) hS ?_
              · intro W hSw
                clear hS
                go_simp
              simp only [Act.put, List.setIfInBounds_toArray, List.set_cons_zero, List.set_cons_succ, List.getElem_toArray, List.getElem_cons_zero, List.getElem_cons_succ]
              refine wpAnyH_take (i := 14) (v := (.pointer (some ⟨gS, m * 6 + 5, none⟩))) rfl (by kernel_rfl) (by kernel_rfl) (by kernel_rfl) (fun _ _ _ h => h) (Or.inl ⟨by rfl, ?_⟩) hS ?_
              · intro W hSw
                clear hS
                go_simp
              simp only [Act.put, List.setIfInBounds_toArray, List.set_cons_zero, List.set_cons_succ, List.getElem_toArray, List.getElem_cons_zero, List.getElem_cons_succ]
              refine wpAnyH_all (rs := [15]) (by kernel_rfl) (by simp) ?_
              refine AllReadyH.cons rfl (fun K hK => ?_) AllReadyH.nil
              go_simp
              have hSq : (fun V => V.cell? ⟨w.heap.size, 2, none⟩ = some (.slice (some ⟨gS, 0, none⟩) nl kS1)) (w5.setCell ⟨gS, m * 6 + 5, none⟩ (.slice (some ⟨g', 0, none⟩) (x1.fs.length + 1) k')) := cell_up hS (heap_setCell_other _ _ _ _ hwS)
              refine hK.out _ _ hSq (fun hS2 => ?_)
              clear hSq hS hK K hS2
              refine wpAnyH_done (by kernel_rfl) ?_ _
              go_wp2_with fail
              go_meet
              case rel => exact ⟨_, _, HM.out.1, HW.out.ky ((Ky.of HQA.out HBW.out).trans HM.out.2)⟩
        case rest =>
        obtain ⟨g', k', hI7, hW7⟩ := hcut
        have HI7 := hidYY hI7
        have HW7 := hidYY hW7
        have hB7 : B ≤ wc.heap.size := Nat.le_trans hB hW7.k.low.size
        have y7 := (hI7.cellF (V := wc) hB7 m (addF x1 f) (some ⟨g', 0, none⟩, x1.fs.length + 1, k') gS kS1 (by simpa using hnu) (by rw [List.getElem_set_self]) (by rw [eh1, List.length_set]) ⟨rfl, rfl, rfl, Nat.le_refl _, fun _ _ _ => rfl⟩).1
        have hd7 := hI7.su.dat (addF x1 f, (some ⟨g', 0, none⟩, x1.fs.length + 1, k')) (by rw [List.mem_iff_getElem]; exact ⟨m, by simpa using hnu, by rw [List.getElem_set_self]⟩)
        have hr7 : H.isR3s wc (some ⟨g', 0, none⟩) (x1.fs.length + 1) k' (x1.fs ++ [f]) := own_isR3s (h := (some ⟨g', 0, none⟩, x1.fs.length + 1, k')) hd7
        have HOF := hidYY (H.l3okFilters_any wc _ _ _ _ hr7 (by omega))
        have t2 := hW7.s.cell 2 _ rfl
        rw [eh1] at t2
        clear hI7 hW7 hd7 hr7 s2 d0 d1
        subst eh1
        rw [HNL.out] at t2
        have t3 : wc.cell? ⟨w.heap.size, 2, none⟩ = some (.slice (some ⟨gS, 0, none⟩) nl kS1) := t2
        have y8 : wc.cell? ⟨gS, m * 6 + 5, none⟩ = some (.slice (some ⟨g', 0, none⟩) (x1.fs.length + 1) k') := y7
        clear t2 y7
        generalize H.okFs (x1.fs ++ [f]) = bo at HOF HG2
        cases bo
        · have HGE : Hid (G = (6, S)) := by show G = _; rw [HG2.out]; rfl
          clear HG2
          go_upto_region 30 with fail
          refine HOF.out.mono ?_
          rintro o w7 ⟨rfl, hb7⟩
          have HW8 := hidYY (HW7.out.below hb7 hB7)
          clear hb7
          go_wp2_with (first
            | (refine wpList_load_mid (P := Tryz.prog) rfl 25 (.tmp 3) rfl w.heap.size 0 rfl (scL c l (some ⟨gS, 0, none⟩, us.length, kS1) h2 (S.ticks : Int)) _ HW8.out.s.load Tryz.underlying25 rfl sz25 ?_)
            | (refine wpList_store_mid (P := Tryz.prog) rfl 25 (.tmp 6) (.tmp 139) rfl (w.heap.size + 1) 0 (scL c l (some ⟨gS, 0, none⟩, us.length, kS1) h2 (S.ticks : Int)).toArray rfl rfl (HW8.out.r.there 0 5 (by simp)) sz25 (one25 _ _ _ _ _) ?_; generalize hX : World.setCells _ (w.heap.size + 1) 0 _ = w9; have HX : Hid (World.setCells w7 (w.heap.size + 1) 0 (scL c l (some ⟨gS, 0, none⟩, us.length, kS1) h2 (S.ticks : Int)) = w9) := hX; clear hX))
          have e2 := HX.out
          have hF : blk w9 (w.heap.size + 1) (scL c l (some ⟨gS, 0, none⟩, us.length, kS1) h2 (S.ticks : Int)) 25 := e2 ▸ blk_all HW8.out.r rfl
          have hky : Ky [25] w.heap.size w7 w9 := e2 ▸ (Ky.refl _ _ _).setCells _ _ _ (by omega) ⟨_, _, _, HW8.out.r, by simp⟩
          have hK9 : Ky [55, 60, 67] B w w9 := HW8.out.k.fin hky hB
          have hL := run_loadVar_mid (P := Tryz.prog) w9 (w.heap.size + 1) 0 25 _ _ hF.load Tryz.underlying25 rfl sz25
          refine bodyPost_ret (v := .tuple #[.agg (scL c l (some ⟨gS, 0, none⟩, us.length, kS1) h2 (S.ticks : Int)).toArray, .int .i64 6]) (Kd.results_cell_tmp Tryz.results13 _ w9 (w.heap.size + 1) _ rfl hL) rfl ?_
          exact lnP.bad _ _ _ (by rw [HGE.out]; rfl) (by rw [HGE.out]; simp) hK9
        · have HGE : Hid (G = (0, { S with su := S.su.set m (addF x1 f) })) := by show G = _; rw [HG2.out]; rfl
          clear HG2
          go_upto_region 30 with fail
          refine HOF.out.mono ?_
          rintro o w7 ⟨rfl, hb7⟩
          have HW8 := hidYY (HW7.out.below hb7 hB7)
          have HI8 := hidYY (HI7.out.below hb7)
          clear hb7
          go_wp2_with (first
            | (refine wpList_load_mid (P := Tryz.prog) rfl 25 (.tmp 3) rfl w.heap.size 0 rfl (scL c l (some ⟨gS, 0, none⟩, us.length, kS1) h2 (S.ticks : Int)) _ HW8.out.s.load Tryz.underlying25 rfl sz25 ?_)
            | (refine wpList_store_mid (P := Tryz.prog) rfl 25 (.tmp 6) (.tmp 140) rfl (w.heap.size + 1) 0 (scL c l (some ⟨gS, 0, none⟩, us.length, kS1) h2 (S.ticks : Int)).toArray rfl rfl (HW8.out.r.there 0 5 (by simp)) sz25 (one25 _ _ _ _ _) ?_; generalize hX : World.setCells _ (w.heap.size + 1) 0 _ = w9; have HX : Hid (World.setCells w7 (w.heap.size + 1) 0 (scL c l (some ⟨gS, 0, none⟩, us.length, kS1) h2 (S.ticks : Int)) = w9) := hX; clear hX))
          have e2 := HX.out
          have hF : blk w9 (w.heap.size + 1) (scL c l (some ⟨gS, 0, none⟩, us.length, kS1) h2 (S.ticks : Int)) 25 := e2 ▸ blk_all HW8.out.r rfl
          have hky : Ky [25] w.heap.size w7 w9 := e2 ▸ (Ky.refl _ _ _).setCells _ _ _ (by omega) ⟨_, _, _, HW8.out.r, by simp⟩
          have hK9 : Ky [55, 60, 67] B w w9 := HW8.out.k.fin hky hB
          have hL := run_loadVar_mid (P := Tryz.prog) w9 (w.heap.size + 1) 0 25 _ _ hF.load Tryz.underlying25 rfl sz25
          refine bodyPost_ret (v := .tuple #[.agg (scL c l (some ⟨gS, 0, none⟩, us.length, kS1) h2 (S.ticks : Int)).toArray, .int .i64 0]) (Kd.results_cell_tmp Tryz.results13 _ w9 (w.heap.size + 1) _ rfl hL) rfl ?_
          rw [HGE.out]
          have hi := HI8.out.ky25 hky
          exact ⟨⟨_, _, _, rfl, fun _ => ⟨rfl, _, _, hi⟩⟩, hK9⟩
end Go.Proofs.YtfbeaekddgpmmaaGreatDoor
