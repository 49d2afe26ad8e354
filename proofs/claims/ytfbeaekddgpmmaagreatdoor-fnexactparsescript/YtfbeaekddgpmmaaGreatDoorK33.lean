import Derived.Test.YtfbeaekddgpmmaaGreatDoorK30
import Derived.Test.YtfbeaekddgpmmaaGreatDoorK28
import Derived.Test.YtfbeaekddgpmmaaGreatDoorK24
import Derived.Test.YtfbeaekddgpmmaaGreatDoorK32
namespace Go.Proofs.YtfbeaekddgpmmaaGreatDoor
open Go.RowKit Kd
set_option linter.unusedVariables false
section
variable {B rb gr : Nat} {S : Sc} {ln : Int} {bg : Bool} {us : List (Su × Hd)} {os : List (Od × Hd)} {h1 h2 : Hd} {W V : World}
theorem rdS.growF (h : rdS B rb gr S ln bg us os h1 h2 W) (n : Nat) (x : Su) (hx : Hd) (hn : n < us.length) (e1 : us[n] = (x, hx)) (hg : W.grownBy V (hdV hx).ownBlock) : Ky [60] B W V :=
  (Ky.refl _ _ _).grown hg (Nat.le_trans h.lo (Nat.le_of_lt h.r.lt)) fun y e => by
    have hd := h.su.dat us[n] (List.getElem_mem hn)
    rw [e1] at hd
    rcases ownsRow_shape hd with ⟨e2, _⟩ | ⟨g2, k2, e2, h2, _⟩
    · rw [e2] at e; cases e
    · obtain ⟨c2, hc2⟩ := ownsRow_kind hd e2
      rw [e2] at e
      cases e
      exact ⟨h2, _, _, _, hc2, by simp [kS]⟩
theorem rdS.cellF (h : rdS B rb gr S ln bg us os h1 h2 W) (n : Nat) (x : Su) (hx : Hd) (gS k : Nat) (hn : n < us.length) (e1 : us[n] = (x, hx)) (eh : h1 = (some ⟨gS, 0, none⟩, us.length, k)) (hg : W.grownBy V (hdV hx).ownBlock) : V.cell? ⟨gS, n * 6 + 5, none⟩ = some (hdV hx) ∧ V.frozen? ⟨gS, n * 6 + 5, none⟩ = false := by
  have hk := h.growF n x hx hn e1 hg
  have hs := h.su
  rw [eh] at hs
  have ho := hk.row hs.own (by decide)
  have hr : rcR kS B (.slice (some ⟨gS, 0, none⟩) us.length k) us W := hs
  have := hr.rng (fun _ _ => rfl) n hn 5 (hdV us[n].2) rfl
  rw [e1] at this
  refine ⟨?_, World.ownsRow.frozenAt ho _⟩
  obtain ⟨c, hc⟩ := ownsRow_kind hs.own rfl
  exact cell_up this (hk.keep gS c _ _ hc (by decide))
/-- the reader behind one filter more -/
theorem rdS.updU (h : rdS B rb gr S ln bg us os h1 h2 W) (n : Nat) (x : Su) (hx : Hd) (f : H.R3) (gS k : Nat) (hn : n < us.length) (e1 : us[n] = (x, hx)) (eh : h1 = (some ⟨gS, 0, none⟩, us.length, k)) {g' k' : Nat}
    (ho : V.ownsRow B 60 3 (.slice (some ⟨g', 0, none⟩) (x.fs.length + 1) k') (x.fs.length + 1) (x.fs.flatMap e3 ++ e3 f)) (hg : W.grownBy V (hdV hx).ownBlock) (hgg : (hdV hx).ownBlock = some g' ∨ g' = W.heap.size) :
    rdS B rb gr { S with su := S.su.set n (addF x f) } ln bg (us.set n (addF x f, (some ⟨g', 0, none⟩, x.fs.length + 1, k'))) os h1 h2 (V.setCell ⟨gS, n * 6 + 5, none⟩ (.slice (some ⟨g', 0, none⟩) (x.fs.length + 1) k')) ∧ Ky [55, 60, 67, 73] B W (V.setCell ⟨gS, n * 6 + 5, none⟩ (.slice (some ⟨g', 0, none⟩) (x.fs.length + 1) k')) := by
  have k1 := h.growF n x hx hn e1 hg
  have hs := h.su
  rw [eh] at hs
  have hr : rcR kS B (.slice (some ⟨gS, 0, none⟩) us.length k) us W := hs
  obtain ⟨c, hc⟩ := ownsRow_kind hr.own rfl
  have hBg := (ownsRow_lt hr.own rfl).2
  have k2 : Ky [55] B V (V.setCell ⟨gS, n * 6 + 5, none⟩ (.slice (some ⟨g', 0, none⟩) (x.fs.length + 1) k')) := (Ky.refl _ _ _).setCell _ _ _ hBg ⟨_, _, _, (k1.keep gS c _ _ hc (by decide)).trans hc, by simp [kS]⟩
  have hu := hr.upd (V := V) (by decide) (fun _ _ => rfl) n hn (addF x f, (some ⟨g', 0, none⟩, x.fs.length + 1, k')) 5 (.slice (some ⟨g', 0, none⟩) (x.fs.length + 1) k') (by decide) (by rw [e1]; rfl) (by
    have e : kS.dv (addF x f) = x.fs.flatMap e3 ++ e3 f := by simp [kS, addF]
    have e' : kS.dn (addF x f) = x.fs.length + 1 := by simp [kS, addF]
    rw [e, e']
    exact ho) (by rw [e1]; exact hg) (by
    rw [e1]
    rcases hgg with hgg | hgg
    · left
      have hd := h.su.dat us[n] (List.getElem_mem hn)
      rw [e1] at hd
      rcases ownsRow_shape hd with ⟨e2, _⟩ | ⟨b, cc, e2, _⟩
      · rw [e2] at hgg; cases hgg
      · have e2' := e2
        injection e2' with e3 _ _
        rw [e2] at hgg
        cases hgg
        exact e3.symm
    · exact .inr ⟨g', rfl, by omega⟩)
  refine ⟨⟨k2.blk (k1.blk h.r (by decide)) (by decide), ?_, (h.od.ky k1 (by decide) (by decide)).ky k2 (by decide) (by decide), ?_, h.eo, k2.blk (k1.blk h.lr (by decide)) (by decide), h.lo⟩, (k1.mono (by simp) (Nat.le_refl _)).trans (k2.mono (by simp) (Nat.le_refl _))⟩
  · rw [eh]
    exact hu
  · rw [List.map_set, h.eu]
end
set_option maxHeartbeats 8000000 in
set_option maxRecDepth 20000 in
/-- (*reader).takeAccept -/
theorem takeAccept_yes {B rb gr : Nat} {S : Sc} {ln : Int} {bg : Bool} {us : List (Su × Hd)} {os : List (Od × Hd)} {h1 h2 : Hd} (gv cp n ex m k : Nat) (x4 : Int) (h5 : Hd) (x : Su) (hx : Hd) (w : World) (hR : rdS B rb gr S ln bg us os h1 h2 w) (hnu : n < us.length) (e1 : us[n] = (x, hx)) (hxl : x.fs.length ≤ 16) (hul : us.length ≤ 32) (c0 : w.cell? ⟨gv, 0, none⟩ = some (.int .i64 (n : Int))) (c3 : w.cell? ⟨gv, 3, none⟩ = some (.int .i64 (ex : Int))) (c4 : w.cell? ⟨gv, 4, none⟩ = some (.int .u32 x4)) (c5 : w.cell? ⟨gv, 5, none⟩ = some (hdV h5)) (c7 : w.cell? ⟨gv, 7, none⟩ = some (.int .u32 (m : Int))) (c10 : w.cell? ⟨gv, 10, none⟩ = some (.int .u32 (k : Int))) (cT : ∃ cs, w.heap[gv]? = some (.cells cs 132 (0, 0))) :
    Calls Tryz.prog 50 #[.pointer (some ⟨rb, 0, none⟩), .slice (some ⟨gv, 0, none⟩) 4 cp] w fun o w' => o = .returned (.bool (H.okFs (x.fs ++ [⟨(ex : Int) == 1, (m : Int), (k : Int)⟩]))) ∧ rdE B rb gr { S with su := S.su.set n (addF x ⟨(ex : Int) == 1, (m : Int), (k : Int)⟩) } ln bg w' ∧ Ky [55, 60, 67, 73] B w w' := by
  have hgl : gv < w.heap.size := World.block_lt_of_cell? w _ c0
  have hBl : B ≤ w.heap.size := Nat.le_trans hR.lo (Nat.le_of_lt hR.r.lt)
  obtain ⟨gS, kS1, eh1, hsl⟩ : ∃ gS kS1, h1 = (some ⟨gS, 0, none⟩, us.length, kS1) ∧ us.length ≤ kS1 := by
    rcases ownsRow_shape hR.su.own with ⟨_, e⟩ | ⟨g, c, e, _, _, hc⟩
    · omega
    · injection e with a b c'
      obtain ⟨p, q, r⟩ := h1
      exact ⟨g, c, by simp only at a b c'; rw [a, b, c'], hc⟩
  have r2 : w.cell? ⟨rb, 2, none⟩ = some (.slice (some ⟨gS, 0, none⟩) us.length kS1) := by
    have := hR.r.cell 2 _ rfl
    rw [eh1] at this
    exact this
  obtain ⟨cs, hcs⟩ := cT
  have hgvS : gv ≠ gS := by
    intro e
    have ho := hR.su.own
    rw [eh1] at ho
    obtain ⟨c2, hc2⟩ := ownsRow_kind ho rfl
    rw [← e, hcs] at hc2
    injection hc2 with hc2
    injection hc2 with _ hc2 _
    cases hc2
  have HR := hidYY hR
  have HIS := hidYY (fun W => isExt_any (ex : Int) x4 h5 W)
  have HKP : Hid (∀ V U : World, (fun V => V.cell? ⟨gv, 3, none⟩ = some (.int .i64 (ex : Int)) ∧ V.cell? ⟨gv, 4, none⟩ = some (.int .u32 x4) ∧ V.cell? ⟨gv, 5, none⟩ = some (hdV h5) ∧ V.cell? ⟨gv, 7, none⟩ = some (.int .u32 (m : Int)) ∧ V.cell? ⟨gv, 10, none⟩ = some (.int .u32 (k : Int))) V → Below V.heap.size V U → (fun V => V.cell? ⟨gv, 3, none⟩ = some (.int .i64 (ex : Int)) ∧ V.cell? ⟨gv, 4, none⟩ = some (.int .u32 x4) ∧ V.cell? ⟨gv, 5, none⟩ = some (hdV h5) ∧ V.cell? ⟨gv, 7, none⟩ = some (.int .u32 (m : Int)) ∧ V.cell? ⟨gv, 10, none⟩ = some (.int .u32 (k : Int))) U) := fun V U ⟨a, b, c, d, e⟩ hb => by
    have hl : gv < V.heap.size := World.block_lt_of_cell? V _ a
    exact ⟨(hb.cell hl).trans a, (hb.cell hl).trans b, (hb.cell hl).trans c, (hb.cell hl).trans d, (hb.cell hl).trans e⟩
  have HUP : Hid (∀ V U : World, U.heap[gv]? = V.heap[gv]? → (fun V => V.cell? ⟨gv, 3, none⟩ = some (.int .i64 (ex : Int)) ∧ V.cell? ⟨gv, 4, none⟩ = some (.int .u32 x4) ∧ V.cell? ⟨gv, 5, none⟩ = some (hdV h5) ∧ V.cell? ⟨gv, 7, none⟩ = some (.int .u32 (m : Int)) ∧ V.cell? ⟨gv, 10, none⟩ = some (.int .u32 (k : Int))) V → (fun V => V.cell? ⟨gv, 3, none⟩ = some (.int .i64 (ex : Int)) ∧ V.cell? ⟨gv, 4, none⟩ = some (.int .u32 x4) ∧ V.cell? ⟨gv, 5, none⟩ = some (hdV h5) ∧ V.cell? ⟨gv, 7, none⟩ = some (.int .u32 (m : Int)) ∧ V.cell? ⟨gv, 10, none⟩ = some (.int .u32 (k : Int))) U) := fun V U he ⟨a, b, c, d, e⟩ => ⟨cell_up a he, cell_up b he, cell_up c he, cell_up d he, cell_up e he⟩
  obtain ⟨nl, hnl⟩ : ∃ nl, us.length = nl := ⟨_, rfl⟩
  have HNL := hidYY hnl
  rw [hnl] at r2 hsl hul
  have hnn : (n : Int) < (nl : Int) := by omega
  have hnn2 : ¬ (nl : Int) ≤ (n : Int) := by omega
  clear hR hnl
  go_enter Tryz.func50, Tryz.ntmps50
  go_upto_region 1 with fail
  go_cut [16] (fun b wx => b = .bool false ∧ wx = w.drew)
  case first =>
    go_region
    all_goals
      go_wp2_with fail
      go_meet
      case rel => exact ⟨rfl, rfl⟩
  case rest =>
  obtain ⟨rfl, rfl⟩ := hcut
  go_upto_region 3 with fail
  go_cut [5] (fun p wx => p = .pointer (some ⟨gS, n * 6, none⟩) ∧ wx = w.drew.drew)
  case first =>
    go_region
    all_goals
      go_wp2_with fail
      go_meet
      case rel => exact ⟨rfl, rfl⟩
  case rest =>
  obtain ⟨rfl, hwc⟩ := hcut
  have hBC : Below w.heap.size w wc := by rw [hwc]; exact (Below.refl _ _).drew.drew
  have HBC := hidYY hBC
  have HRC := hidYY (HR.out.below hBC)
  have HKC := hidYY (Ky.of (S := [55, 60, 67, 73]) (B := B) hBC hBl)
  have HCT : Hid (∃ cs', gv < wc.heap.size ∧ wc.heap[gv]? = some (.cells cs' 132 (0, 0))) := ⟨cs, Nat.lt_of_lt_of_le hgl hBC.size, (hBC.block gv hgl).trans hcs⟩
  have HHD : Hid (∀ V, Below wc.heap.size wc V → V.cell? ⟨gS, n * 6 + 5, none⟩ = some (hdV hx)) := fun V hV => by
    have hrV := HRC.out.below hV
    exact (hrV.cellF (V := V) n x hx gS kS1 hnu e1 eh1 ⟨rfl, rfl, rfl, Nat.le_refl _, fun _ _ _ => rfl⟩).1
  have e3' := (hBC.cell (p := ⟨gv, 3, none⟩) hgl).trans c3
  have e4' := (hBC.cell (p := ⟨gv, 4, none⟩) hgl).trans c4
  have e5' := (hBC.cell (p := ⟨gv, 5, none⟩) hgl).trans c5
  have e7' := (hBC.cell (p := ⟨gv, 7, none⟩) hgl).trans c7
  have e10' := (hBC.cell (p := ⟨gv, 10, none⟩) hgl).trans c10
  clear c0 c3 c4 c5 c7 c10 r2 hBC hwc
  go_upto_region 4 with fail
  go_cut [] (fun wx => ∃ us' hx', rdS B rb gr { S with su := S.su.set n (addF x ⟨(ex : Int) == 1, (m : Int), (k : Int)⟩) } ln bg us' os h1 h2 wx ∧ us'[n]? = some (addF x ⟨(ex : Int) == 1, (m : Int), (k : Int)⟩, hx') ∧ Ky [55, 60, 67, 73] B w wx)
  case first =>
    obtain ⟨cs', hct⟩ := HCT.out
    have HCT : Hid (gv < wc.heap.size ∧ wc.heap[gv]? = some (.cells cs' 132 (0, 0))) := hct
    clear hct
    refine wp_region_held (S := (fun V => V.cell? ⟨gv, 3, none⟩ = some (.int .i64 (ex : Int)) ∧ V.cell? ⟨gv, 4, none⟩ = some (.int .u32 x4) ∧ V.cell? ⟨gv, 5, none⟩ = some (hdV h5) ∧ V.cell? ⟨gv, 7, none⟩ = some (.int .u32 (m : Int)) ∧ V.cell? ⟨gv, 10, none⟩ = some (.int .u32 (k : Int)))) (by kernel_rfl) ?_
    have hS : (fun V => V.cell? ⟨gv, 3, none⟩ = some (.int .i64 (ex : Int)) ∧ V.cell? ⟨gv, 4, none⟩ = some (.int .u32 x4) ∧ V.cell? ⟨gv, 5, none⟩ = some (hdV h5) ∧ V.cell? ⟨gv, 7, none⟩ = some (.int .u32 (m : Int)) ∧ V.cell? ⟨gv, 10, none⟩ = some (.int .u32 (k : Int))) wc.drew := ⟨e3', e4', e5', e7', e10'⟩
    refine wpAnyH_take (i := 0) (v := (.pointer (some ⟨gS, n * 6, none⟩))) rfl (by kernel_rfl) (by kernel_rfl) (by kernel_rfl) (fun _ _ _ h => h) (Or.inl ⟨by rfl, ?_⟩) hS ?_
    · intro W hSw
      clear hS
      obtain ⟨s1, s2, s3, s4, s5⟩ := hSw
      go_simp
    simp only [Act.put, List.setIfInBounds_toArray, List.set_cons_zero, List.set_cons_succ, List.getElem_toArray, List.getElem_cons_zero]
    refine wpAnyH_take (i := 1) (v := (.pointer (some ⟨gS, n * 6, none⟩))) rfl (by kernel_rfl) (by kernel_rfl) (by kernel_rfl) (fun _ _ _ h => h) (Or.inl ⟨by rfl, ?_⟩) hS ?_
    · intro W hSw
      clear hS
      obtain ⟨s1, s2, s3, s4, s5⟩ := hSw
      go_simp
    simp only [Act.put, List.setIfInBounds_toArray, List.set_cons_zero, List.set_cons_succ, List.getElem_toArray, List.getElem_cons_zero, List.getElem_cons_succ]
    refine wpAnyH_take (i := 2) (v := (.pointer (some ⟨gS, n * 6, none⟩))) rfl (by kernel_rfl) (by kernel_rfl) (by kernel_rfl) (fun _ _ _ h => h) (Or.inl ⟨by rfl, ?_⟩) hS ?_
    · intro W hSw
      clear hS
      obtain ⟨s1, s2, s3, s4, s5⟩ := hSw
      go_simp
    simp only [Act.put, List.setIfInBounds_toArray, List.set_cons_zero, List.set_cons_succ, List.getElem_toArray, List.getElem_cons_zero, List.getElem_cons_succ]
    refine wpAnyH_take (i := 3) (v := (.pointer (some ⟨gS, n * 6 + 5, none⟩))) rfl (by kernel_rfl) (by kernel_rfl) (by kernel_rfl) (fun _ _ _ h => h) (Or.inl ⟨by rfl, ?_⟩) hS ?_
    · intro W hSw
      clear hS
      obtain ⟨s1, s2, s3, s4, s5⟩ := hSw
      go_simp
    simp only [Act.put, List.setIfInBounds_toArray, List.set_cons_zero, List.set_cons_succ, List.getElem_toArray, List.getElem_cons_zero, List.getElem_cons_succ]
    refine wpAnyH_take (i := 5) (v := (.slice (some ⟨gv, 0, none⟩) 4 cp)) rfl (by kernel_rfl) (by kernel_rfl) (by kernel_rfl) (fun _ _ _ h => h) (Or.inl ⟨by rfl, ?_⟩) hS ?_
    · intro W hSw
      clear hS
      obtain ⟨s1, s2, s3, s4, s5⟩ := hSw
      go_simp
    simp only [Act.put, List.setIfInBounds_toArray, List.set_cons_zero, List.set_cons_succ, List.getElem_toArray, List.getElem_cons_zero, List.getElem_cons_succ]
    refine wpAnyH_take (i := 6) (v := (.pointer (some ⟨gv, 3, none⟩))) rfl (by kernel_rfl) (by kernel_rfl) (by kernel_rfl) (fun _ _ _ h => h) (Or.inl ⟨by rfl, ?_⟩) hS ?_
    · intro W hSw
      clear hS
      obtain ⟨s1, s2, s3, s4, s5⟩ := hSw
      go_simp
    simp only [Act.put, List.setIfInBounds_toArray, List.set_cons_zero, List.set_cons_succ, List.getElem_toArray, List.getElem_cons_zero, List.getElem_cons_succ]
    refine wpAnyH_take (i := 7) (v := (vlV (ex : Int) x4 (hdV h5))) rfl (by kernel_rfl) (by kernel_rfl) (by kernel_rfl) (fun _ _ _ h => h) (Or.inl ⟨by rfl, ?_⟩) hS ?_
    · intro W hSw
      clear hS
      obtain ⟨s1, s2, s3, s4, s5⟩ := hSw
      go_simp
    simp only [Act.put, List.setIfInBounds_toArray, List.set_cons_zero, List.set_cons_succ, List.getElem_toArray, List.getElem_cons_zero, List.getElem_cons_succ]
    refine wpAnyH_take (i := 9) (v := (.slice (some ⟨gv, 0, none⟩) 4 cp)) rfl (by kernel_rfl) (by kernel_rfl) (by kernel_rfl) (fun _ _ _ h => h) (Or.inl ⟨by rfl, ?_⟩) hS ?_
    · intro W hSw
      clear hS
      obtain ⟨s1, s2, s3, s4, s5⟩ := hSw
      go_simp
    simp only [Act.put, List.setIfInBounds_toArray, List.set_cons_zero, List.set_cons_succ, List.getElem_toArray, List.getElem_cons_zero, List.getElem_cons_succ]
    refine wpAnyH_take (i := 10) (v := (.pointer (some ⟨gv, 6, none⟩))) rfl (by kernel_rfl) (by kernel_rfl) (by kernel_rfl) (fun _ _ _ h => h) (Or.inl ⟨by rfl, ?_⟩) hS ?_
    · intro W hSw
      clear hS
      obtain ⟨s1, s2, s3, s4, s5⟩ := hSw
      go_simp
    simp only [Act.put, List.setIfInBounds_toArray, List.set_cons_zero, List.set_cons_succ, List.getElem_toArray, List.getElem_cons_zero, List.getElem_cons_succ]
    refine wpAnyH_take (i := 11) (v := (.pointer (some ⟨gv, 7, none⟩))) rfl (by kernel_rfl) (by kernel_rfl) (by kernel_rfl) (fun _ _ _ h => h) (Or.inl ⟨by rfl, ?_⟩) hS ?_
    · intro W hSw
      clear hS
      obtain ⟨s1, s2, s3, s4, s5⟩ := hSw
      go_simp
    simp only [Act.put, List.setIfInBounds_toArray, List.set_cons_zero, List.set_cons_succ, List.getElem_toArray, List.getElem_cons_zero, List.getElem_cons_succ]
    refine wpAnyH_take (i := 12) (v := (.int .u32 (m : Int))) rfl (by kernel_rfl) (by kernel_rfl) (by kernel_rfl) (fun _ _ _ h => h) (Or.inl ⟨by rfl, ?_⟩) hS ?_
    · intro W hSw
      clear hS
      obtain ⟨s1, s2, s3, s4, s5⟩ := hSw
      go_simp
    simp only [Act.put, List.setIfInBounds_toArray, List.set_cons_zero, List.set_cons_succ, List.getElem_toArray, List.getElem_cons_zero, List.getElem_cons_succ]
    refine wpAnyH_take (i := 13) (v := (.slice (some ⟨gv, 0, none⟩) 4 cp)) rfl (by kernel_rfl) (by kernel_rfl) (by kernel_rfl) (fun _ _ _ h => h) (Or.inl ⟨by rfl, ?_⟩) hS ?_
    · intro W hSw
      clear hS
      obtain ⟨s1, s2, s3, s4, s5⟩ := hSw
      go_simp
    simp only [Act.put, List.setIfInBounds_toArray, List.set_cons_zero, List.set_cons_succ, List.getElem_toArray, List.getElem_cons_zero, List.getElem_cons_succ]
    refine wpAnyH_take (i := 14) (v := (.pointer (some ⟨gv, 9, none⟩))) rfl (by kernel_rfl) (by kernel_rfl) (by kernel_rfl) (fun _ _ _ h => h) (Or.inl ⟨by rfl, ?_⟩) hS ?_
    · intro W hSw
      clear hS
      obtain ⟨s1, s2, s3, s4, s5⟩ := hSw
      go_simp
    simp only [Act.put, List.setIfInBounds_toArray, List.set_cons_zero, List.set_cons_succ, List.getElem_toArray, List.getElem_cons_zero, List.getElem_cons_succ]
    refine wpAnyH_take (i := 15) (v := (.pointer (some ⟨gv, 10, none⟩))) rfl (by kernel_rfl) (by kernel_rfl) (by kernel_rfl) (fun _ _ _ h => h) (Or.inl ⟨by rfl, ?_⟩) hS ?_
    · intro W hSw
      clear hS
      obtain ⟨s1, s2, s3, s4, s5⟩ := hSw
      go_simp
    simp only [Act.put, List.setIfInBounds_toArray, List.set_cons_zero, List.set_cons_succ, List.getElem_toArray, List.getElem_cons_zero, List.getElem_cons_succ]
    refine wpAnyH_take (i := 16) (v := (.int .u32 (k : Int))) rfl (by kernel_rfl) (by kernel_rfl) (by kernel_rfl) (fun _ _ _ h => h) (Or.inl ⟨by rfl, ?_⟩) hS ?_
    · intro W hSw
      clear hS
      obtain ⟨s1, s2, s3, s4, s5⟩ := hSw
      go_simp
    simp only [Act.put, List.setIfInBounds_toArray, List.set_cons_zero, List.set_cons_succ, List.getElem_toArray, List.getElem_cons_zero, List.getElem_cons_succ]
    refine wpAnyH_all (rs := [4, 8]) (by kernel_rfl) (by simp) ?_
    refine AllReadyH.cons rfl (fun K hK => ?_) (AllReadyH.cons rfl (fun K hK => ?_) AllReadyH.nil)
    · have yh0 := HHD.out wc (Below.refl _ _)
      go_simp
      refine hK.out _ _ hS (fun hS2 => ?_)
      clear hS hK K
      have hS := hS2
      clear hS2
      refine wpAnyH_all (rs := [8]) (by kernel_rfl) (by simp) ?_
      refine AllReadyH.cons rfl (fun K hK => ?_) AllReadyH.nil
      go_simp
      refine (HIS.out _).mono ?_
      rintro o q1 ⟨rfl, hq⟩
      have hSq : (fun V => V.cell? ⟨gv, 3, none⟩ = some (.int .i64 (ex : Int)) ∧ V.cell? ⟨gv, 4, none⟩ = some (.int .u32 x4) ∧ V.cell? ⟨gv, 5, none⟩ = some (hdV h5) ∧ V.cell? ⟨gv, 7, none⟩ = some (.int .u32 (m : Int)) ∧ V.cell? ⟨gv, 10, none⟩ = some (.int .u32 (k : Int))) q1 := HKP.out _ _ hS hq
      have HQ := hidYY ((Below.refl wc.heap.size wc).drew.trans hq)
      have yh := HHD.out q1 HQ.out
      clear hq
      go_wp2_with fail
      refine hK.out _ _ hSq (fun hS2 => ?_)
      clear hSq
      clear hS hK K
      have hS := hS2
      clear hS2
      refine wpAnyH_take (i := 17) (v := (.agg [.bool ((ex : Int) == 1), .int .u32 (m : Int), .int .u32 (k : Int)].toArray)) rfl (by kernel_rfl) (by kernel_rfl) (by kernel_rfl) (fun _ _ _ h => h) (Or.inl ⟨by rfl, ?_⟩) hS ?_
      · intro W hSw
        clear hS
        obtain ⟨s1, s2, s3, s4, s5⟩ := hSw
        go_simp
      simp only [Act.put, List.setIfInBounds_toArray, List.set_cons_zero, List.set_cons_succ, List.getElem_toArray, List.getElem_cons_zero, List.getElem_cons_succ]
      refine wpAnyH_all (rs := [18]) (by kernel_rfl) (by simp) ?_
      refine AllReadyH.cons rfl (fun K hK => ?_) AllReadyH.nil
      go_simp
      have hSq : (fun V => V.cell? ⟨gv, 3, none⟩ = some (.int .i64 (ex : Int)) ∧ V.cell? ⟨gv, 4, none⟩ = some (.int .u32 x4) ∧ V.cell? ⟨gv, 5, none⟩ = some (hdV h5) ∧ V.cell? ⟨gv, 7, none⟩ = some (.int .u32 (m : Int)) ∧ V.cell? ⟨gv, 10, none⟩ = some (.int .u32 (k : Int))) (q1.alloc (.cells [.bool ((ex : Int) == 1), .int .u32 (m : Int), .int .u32 (k : Int)].toArray 60)) := HKP.out _ _ hS ((Below.refl _ _).alloc (Nat.le_refl _) _)
      have HQA : Hid (Below wc.heap.size wc (q1.alloc (.cells [.bool ((ex : Int) == 1), .int .u32 (m : Int), .int .u32 (k : Int)].toArray 60))) := HQ.out.alloc HQ.out.size _
      have yh2 := HHD.out _ HQA.out
      refine hK.out _ _ hSq (fun hS2 => ?_)
      clear hSq
      clear hS hK K
      have hS := hS2
      clear hS2
      have HA := hidYY (HRC.out.below HQA.out)
      have HNB := hidYY (heap_alloc_new q1 (.cells [.bool ((ex : Int) == 1), .int .u32 (m : Int), .int .u32 (k : Int)].toArray 60))
      refine wpAnyH_all (rs := [19]) (by kernel_rfl) (by simp) ?_
      refine AllReadyH.cons rfl (fun K hK => ?_) AllReadyH.nil
      have hdt := HA.out.su.dat us[n] (List.getElem_mem hnu)
      rw [e1] at hdt
      refine wp_app_row (.tmp 31) (.tmp 45) 53 60 _ 3 12 H.Tryz.info60 Tryz.underlying53 rfl (by decide) (by decide) rfl B x.fs.length (hdV hx) (x.fs.flatMap e3) rfl hdt q1.heap.size [.bool ((ex : Int) == 1), .int .u32 (m : Int), .int .u32 (k : Int)] rfl rfl HNB.out (by simp [Value.oneCell']) (by omega) (Nat.le_trans HA.out.lo (Nat.le_of_lt HA.out.r.lt)) ?_
      intro g' k' w5 hown5 hgr5 hgg5
      have hm := HA.out.updU n x hx ⟨(ex : Int) == 1, (m : Int), (k : Int)⟩ gS kS1 hnu e1 eh1 hown5 hgr5 hgg5
      have HM := hidYY hm
      have hv5 : w5.heap[gv]? = (q1.alloc (.cells [.bool ((ex : Int) == 1), .int .u32 (m : Int), .int .u32 (k : Int)].toArray 60)).heap[gv]? := (HA.out.growF n x hx hnu e1 hgr5).keep gv cs' 132 (0, 0) ((HQA.out.block gv HCT.out.1).trans HCT.out.2) (by decide)
      have hSq : (fun V => V.cell? ⟨gv, 3, none⟩ = some (.int .i64 (ex : Int)) ∧ V.cell? ⟨gv, 4, none⟩ = some (.int .u32 x4) ∧ V.cell? ⟨gv, 5, none⟩ = some (hdV h5) ∧ V.cell? ⟨gv, 7, none⟩ = some (.int .u32 (m : Int)) ∧ V.cell? ⟨gv, 10, none⟩ = some (.int .u32 (k : Int))) w5 := HUP.out _ _ hv5 hS
      obtain ⟨yc, yf⟩ := HA.out.cellF n x hx gS kS1 hnu e1 eh1 hgr5
      clear hm hown5 hgr5 hgg5
      refine hK.out _ _ hSq (fun hS2 => ?_)
      clear hSq
      clear hS hK K
      have hS := hS2
      clear hS2
      refine wpAnyH_take (i := 20) (v := (.pointer (some ⟨gS, n * 6, none⟩))) rfl (by kernel_rfl) (by kernel_rfl) (by kernel_rfl) (fun _ _ _ h => h) (Or.inl ⟨by rfl, ?_⟩) hS ?_
      · intro W hSw
        clear hS
        obtain ⟨s1, s2, s3, s4, s5⟩ := hSw
        go_simp
      simp only [Act.put, List.setIfInBounds_toArray, List.set_cons_zero, List.set_cons_succ, List.getElem_toArray, List.getElem_cons_zero, List.getElem_cons_succ]
      refine wpAnyH_take (i := 21) (v := (.pointer (some ⟨gS, n * 6 + 5, none⟩))) rfl (by kernel_rfl) (by kernel_rfl) (by kernel_rfl) (fun _ _ _ h => h) (Or.inl ⟨by rfl, ?_⟩) hS ?_
      · intro W hSw
        clear hS
        obtain ⟨s1, s2, s3, s4, s5⟩ := hSw
        go_simp
      simp only [Act.put, List.setIfInBounds_toArray, List.set_cons_zero, List.set_cons_succ, List.getElem_toArray, List.getElem_cons_zero, List.getElem_cons_succ]
      refine wpAnyH_all (rs := [22]) (by kernel_rfl) (by simp) ?_
      refine AllReadyH.cons rfl (fun K hK => ?_) AllReadyH.nil
      go_simp
      have hSq : (fun V => V.cell? ⟨gv, 3, none⟩ = some (.int .i64 (ex : Int)) ∧ V.cell? ⟨gv, 4, none⟩ = some (.int .u32 x4) ∧ V.cell? ⟨gv, 5, none⟩ = some (hdV h5) ∧ V.cell? ⟨gv, 7, none⟩ = some (.int .u32 (m : Int)) ∧ V.cell? ⟨gv, 10, none⟩ = some (.int .u32 (k : Int))) (w5.setCell ⟨gS, n * 6 + 5, none⟩ (.slice (some ⟨g', 0, none⟩) (x.fs.length + 1) k')) := HUP.out _ _ (heap_setCell_other _ _ _ _ hgvS) hS
      refine hK.out _ _ hSq (fun hS2 => ?_)
      clear hSq hS hK K hS2
      refine wpAnyH_done (by kernel_rfl) ?_ _
      go_wp2_with fail
      go_meet
      case rel => exact ⟨_, _, HM.out.1, List.getElem?_eq_getElem (by simpa using hnu) |>.trans (by rw [List.getElem_set_self]), (HKC.out.below HQA.out (Nat.le_trans hBl HBC.out.size)).trans HM.out.2⟩
    · go_simp
      refine (HIS.out _).mono ?_
      rintro o q1 ⟨rfl, hq⟩
      have hSq : (fun V => V.cell? ⟨gv, 3, none⟩ = some (.int .i64 (ex : Int)) ∧ V.cell? ⟨gv, 4, none⟩ = some (.int .u32 x4) ∧ V.cell? ⟨gv, 5, none⟩ = some (hdV h5) ∧ V.cell? ⟨gv, 7, none⟩ = some (.int .u32 (m : Int)) ∧ V.cell? ⟨gv, 10, none⟩ = some (.int .u32 (k : Int))) q1 := HKP.out _ _ hS hq
      have HQ := hidYY ((Below.refl wc.heap.size wc).drew.trans hq)
      have yh := HHD.out q1 HQ.out
      clear hq
      go_wp2_with fail
      refine hK.out _ _ hSq (fun hS2 => ?_)
      clear hSq
      clear hS hK K
      have hS := hS2
      clear hS2
      refine wpAnyH_take (i := 17) (v := (.agg [.bool ((ex : Int) == 1), .int .u32 (m : Int), .int .u32 (k : Int)].toArray)) rfl (by kernel_rfl) (by kernel_rfl) (by kernel_rfl) (fun _ _ _ h => h) (Or.inl ⟨by rfl, ?_⟩) hS ?_
      · intro W hSw
        clear hS
        obtain ⟨s1, s2, s3, s4, s5⟩ := hSw
        go_simp
      simp only [Act.put, List.setIfInBounds_toArray, List.set_cons_zero, List.set_cons_succ, List.getElem_toArray, List.getElem_cons_zero, List.getElem_cons_succ]
      refine wpAnyH_all (rs := [4, 18]) (by kernel_rfl) (by simp) ?_
      refine AllReadyH.cons rfl (fun K hK => ?_) (AllReadyH.cons rfl (fun K hK => ?_) AllReadyH.nil)
      · go_simp
        refine hK.out _ _ hS (fun hS2 => ?_)
        clear hS hK K
        have hS := hS2
        clear hS2
        refine wpAnyH_all (rs := [18]) (by kernel_rfl) (by simp) ?_
        refine AllReadyH.cons rfl (fun K hK => ?_) AllReadyH.nil
        go_simp
        have hSq : (fun V => V.cell? ⟨gv, 3, none⟩ = some (.int .i64 (ex : Int)) ∧ V.cell? ⟨gv, 4, none⟩ = some (.int .u32 x4) ∧ V.cell? ⟨gv, 5, none⟩ = some (hdV h5) ∧ V.cell? ⟨gv, 7, none⟩ = some (.int .u32 (m : Int)) ∧ V.cell? ⟨gv, 10, none⟩ = some (.int .u32 (k : Int))) (q1.alloc (.cells [.bool ((ex : Int) == 1), .int .u32 (m : Int), .int .u32 (k : Int)].toArray 60)) := HKP.out _ _ hS ((Below.refl _ _).alloc (Nat.le_refl _) _)
        have HQA : Hid (Below wc.heap.size wc (q1.alloc (.cells [.bool ((ex : Int) == 1), .int .u32 (m : Int), .int .u32 (k : Int)].toArray 60))) := HQ.out.alloc HQ.out.size _
        have yh2 := HHD.out _ HQA.out
        refine hK.out _ _ hSq (fun hS2 => ?_)
        clear hSq
        clear hS hK K
        have hS := hS2
        clear hS2
        have HA := hidYY (HRC.out.below HQA.out)
        have HNB := hidYY (heap_alloc_new q1 (.cells [.bool ((ex : Int) == 1), .int .u32 (m : Int), .int .u32 (k : Int)].toArray 60))
        refine wpAnyH_all (rs := [19]) (by kernel_rfl) (by simp) ?_
        refine AllReadyH.cons rfl (fun K hK => ?_) AllReadyH.nil
        have hdt := HA.out.su.dat us[n] (List.getElem_mem hnu)
        rw [e1] at hdt
        refine wp_app_row (.tmp 31) (.tmp 45) 53 60 _ 3 12 H.Tryz.info60 Tryz.underlying53 rfl (by decide) (by decide) rfl B x.fs.length (hdV hx) (x.fs.flatMap e3) rfl hdt q1.heap.size [.bool ((ex : Int) == 1), .int .u32 (m : Int), .int .u32 (k : Int)] rfl rfl HNB.out (by simp [Value.oneCell']) (by omega) (Nat.le_trans HA.out.lo (Nat.le_of_lt HA.out.r.lt)) ?_
        intro g' k' w5 hown5 hgr5 hgg5
        have hm := HA.out.updU n x hx ⟨(ex : Int) == 1, (m : Int), (k : Int)⟩ gS kS1 hnu e1 eh1 hown5 hgr5 hgg5
        have HM := hidYY hm
        have hv5 : w5.heap[gv]? = (q1.alloc (.cells [.bool ((ex : Int) == 1), .int .u32 (m : Int), .int .u32 (k : Int)].toArray 60)).heap[gv]? := (HA.out.growF n x hx hnu e1 hgr5).keep gv cs' 132 (0, 0) ((HQA.out.block gv HCT.out.1).trans HCT.out.2) (by decide)
        have hSq : (fun V => V.cell? ⟨gv, 3, none⟩ = some (.int .i64 (ex : Int)) ∧ V.cell? ⟨gv, 4, none⟩ = some (.int .u32 x4) ∧ V.cell? ⟨gv, 5, none⟩ = some (hdV h5) ∧ V.cell? ⟨gv, 7, none⟩ = some (.int .u32 (m : Int)) ∧ V.cell? ⟨gv, 10, none⟩ = some (.int .u32 (k : Int))) w5 := HUP.out _ _ hv5 hS
        obtain ⟨yc, yf⟩ := HA.out.cellF n x hx gS kS1 hnu e1 eh1 hgr5
        clear hm hown5 hgr5 hgg5
        refine hK.out _ _ hSq (fun hS2 => ?_)
        clear hSq
        clear hS hK K
        have hS := hS2
        clear hS2
        refine wpAnyH_take (i := 20) (v := (.pointer (some ⟨gS, n * 6, none⟩))) rfl (by kernel_rfl) (by kernel_rfl) (by kernel_rfl) (fun _ _ _ h => h) (Or.inl ⟨by rfl, ?_⟩) hS ?_
        · intro W hSw
          clear hS
          obtain ⟨s1, s2, s3, s4, s5⟩ := hSw
          go_simp
        simp only [Act.put, List.setIfInBounds_toArray, List.set_cons_zero, List.set_cons_succ, List.getElem_toArray, List.getElem_cons_zero, List.getElem_cons_succ]
        refine wpAnyH_take (i := 21) (v := (.pointer (some ⟨gS, n * 6 + 5, none⟩))) rfl (by kernel_rfl) (by kernel_rfl) (by kernel_rfl) (fun _ _ _ h => h) (Or.inl ⟨by rfl, ?_⟩) hS ?_
        · intro W hSw
          clear hS
          obtain ⟨s1, s2, s3, s4, s5⟩ := hSw
          go_simp
        simp only [Act.put, List.setIfInBounds_toArray, List.set_cons_zero, List.set_cons_succ, List.getElem_toArray, List.getElem_cons_zero, List.getElem_cons_succ]
        refine wpAnyH_all (rs := [22]) (by kernel_rfl) (by simp) ?_
        refine AllReadyH.cons rfl (fun K hK => ?_) AllReadyH.nil
        go_simp
        have hSq : (fun V => V.cell? ⟨gv, 3, none⟩ = some (.int .i64 (ex : Int)) ∧ V.cell? ⟨gv, 4, none⟩ = some (.int .u32 x4) ∧ V.cell? ⟨gv, 5, none⟩ = some (hdV h5) ∧ V.cell? ⟨gv, 7, none⟩ = some (.int .u32 (m : Int)) ∧ V.cell? ⟨gv, 10, none⟩ = some (.int .u32 (k : Int))) (w5.setCell ⟨gS, n * 6 + 5, none⟩ (.slice (some ⟨g', 0, none⟩) (x.fs.length + 1) k')) := HUP.out _ _ (heap_setCell_other _ _ _ _ hgvS) hS
        refine hK.out _ _ hSq (fun hS2 => ?_)
        clear hSq hS hK K hS2
        refine wpAnyH_done (by kernel_rfl) ?_ _
        go_wp2_with fail
        go_meet
        case rel => exact ⟨_, _, HM.out.1, List.getElem?_eq_getElem (by simpa using hnu) |>.trans (by rw [List.getElem_set_self]), (HKC.out.below HQA.out (Nat.le_trans hBl HBC.out.size)).trans HM.out.2⟩
      · go_simp
        have hSq : (fun V => V.cell? ⟨gv, 3, none⟩ = some (.int .i64 (ex : Int)) ∧ V.cell? ⟨gv, 4, none⟩ = some (.int .u32 x4) ∧ V.cell? ⟨gv, 5, none⟩ = some (hdV h5) ∧ V.cell? ⟨gv, 7, none⟩ = some (.int .u32 (m : Int)) ∧ V.cell? ⟨gv, 10, none⟩ = some (.int .u32 (k : Int))) (q1.alloc (.cells [.bool ((ex : Int) == 1), .int .u32 (m : Int), .int .u32 (k : Int)].toArray 60)) := HKP.out _ _ hS ((Below.refl _ _).alloc (Nat.le_refl _) _)
        have HQA : Hid (Below wc.heap.size wc (q1.alloc (.cells [.bool ((ex : Int) == 1), .int .u32 (m : Int), .int .u32 (k : Int)].toArray 60))) := HQ.out.alloc HQ.out.size _
        have yh2 := HHD.out _ HQA.out
        refine hK.out _ _ hSq (fun hS2 => ?_)
        clear hSq
        clear hS hK K
        have hS := hS2
        clear hS2
        refine wpAnyH_all (rs := [4]) (by kernel_rfl) (by simp) ?_
        refine AllReadyH.cons rfl (fun K hK => ?_) AllReadyH.nil
        go_simp
        refine hK.out _ _ hS (fun hS2 => ?_)
        clear hS hK K
        have hS := hS2
        clear hS2
        have HA := hidYY (HRC.out.below HQA.out)
        have HNB := hidYY (heap_alloc_new q1 (.cells [.bool ((ex : Int) == 1), .int .u32 (m : Int), .int .u32 (k : Int)].toArray 60))
        refine wpAnyH_all (rs := [19]) (by kernel_rfl) (by simp) ?_
        refine AllReadyH.cons rfl (fun K hK => ?_) AllReadyH.nil
        have hdt := HA.out.su.dat us[n] (List.getElem_mem hnu)
        rw [e1] at hdt
        refine wp_app_row (.tmp 31) (.tmp 45) 53 60 _ 3 12 H.Tryz.info60 Tryz.underlying53 rfl (by decide) (by decide) rfl B x.fs.length (hdV hx) (x.fs.flatMap e3) rfl hdt q1.heap.size [.bool ((ex : Int) == 1), .int .u32 (m : Int), .int .u32 (k : Int)] rfl rfl HNB.out (by simp [Value.oneCell']) (by omega) (Nat.le_trans HA.out.lo (Nat.le_of_lt HA.out.r.lt)) ?_
        intro g' k' w5 hown5 hgr5 hgg5
        have hm := HA.out.updU n x hx ⟨(ex : Int) == 1, (m : Int), (k : Int)⟩ gS kS1 hnu e1 eh1 hown5 hgr5 hgg5
        have HM := hidYY hm
        have hv5 : w5.heap[gv]? = (q1.alloc (.cells [.bool ((ex : Int) == 1), .int .u32 (m : Int), .int .u32 (k : Int)].toArray 60)).heap[gv]? := (HA.out.growF n x hx hnu e1 hgr5).keep gv cs' 132 (0, 0) ((HQA.out.block gv HCT.out.1).trans HCT.out.2) (by decide)
        have hSq : (fun V => V.cell? ⟨gv, 3, none⟩ = some (.int .i64 (ex : Int)) ∧ V.cell? ⟨gv, 4, none⟩ = some (.int .u32 x4) ∧ V.cell? ⟨gv, 5, none⟩ = some (hdV h5) ∧ V.cell? ⟨gv, 7, none⟩ = some (.int .u32 (m : Int)) ∧ V.cell? ⟨gv, 10, none⟩ = some (.int .u32 (k : Int))) w5 := HUP.out _ _ hv5 hS
        obtain ⟨yc, yf⟩ := HA.out.cellF n x hx gS kS1 hnu e1 eh1 hgr5
        clear hm hown5 hgr5 hgg5
        refine hK.out _ _ hSq (fun hS2 => ?_)
        clear hSq
        clear hS hK K
        have hS := hS2
        clear hS2
        refine wpAnyH_take (i := 20) (v := (.pointer (some ⟨gS, n * 6, none⟩))) rfl (by kernel_rfl) (by kernel_rfl) (by kernel_rfl) (fun _ _ _ h => h) (Or.inl ⟨by rfl, ?_⟩) hS ?_
        · intro W hSw
          clear hS
          obtain ⟨s1, s2, s3, s4, s5⟩ := hSw
          go_simp
        simp only [Act.put, List.setIfInBounds_toArray, List.set_cons_zero, List.set_cons_succ, List.getElem_toArray, List.getElem_cons_zero, List.getElem_cons_succ]
        refine wpAnyH_take (i := 21) (v := (.pointer (some ⟨gS, n * 6 + 5, none⟩))) rfl (by kernel_rfl) (by kernel_rfl) (by kernel_rfl) (fun _ _ _ h => h) (Or.inl ⟨by rfl, ?_⟩) hS ?_
        · intro W hSw
          clear hS
          obtain ⟨s1, s2, s3, s4, s5⟩ := hSw
          go_simp
        simp only [Act.put, List.setIfInBounds_toArray, List.set_cons_zero, List.set_cons_succ, List.getElem_toArray, List.getElem_cons_zero, List.getElem_cons_succ]
        refine wpAnyH_all (rs := [22]) (by kernel_rfl) (by simp) ?_
        refine AllReadyH.cons rfl (fun K hK => ?_) AllReadyH.nil
        go_simp
        have hSq : (fun V => V.cell? ⟨gv, 3, none⟩ = some (.int .i64 (ex : Int)) ∧ V.cell? ⟨gv, 4, none⟩ = some (.int .u32 x4) ∧ V.cell? ⟨gv, 5, none⟩ = some (hdV h5) ∧ V.cell? ⟨gv, 7, none⟩ = some (.int .u32 (m : Int)) ∧ V.cell? ⟨gv, 10, none⟩ = some (.int .u32 (k : Int))) (w5.setCell ⟨gS, n * 6 + 5, none⟩ (.slice (some ⟨g', 0, none⟩) (x.fs.length + 1) k')) := HUP.out _ _ (heap_setCell_other _ _ _ _ hgvS) hS
        refine hK.out _ _ hSq (fun hS2 => ?_)
        clear hSq hS hK K hS2
        refine wpAnyH_done (by kernel_rfl) ?_ _
        go_wp2_with fail
        go_meet
        case rel => exact ⟨_, _, HM.out.1, List.getElem?_eq_getElem (by simpa using hnu) |>.trans (by rw [List.getElem_set_self]), (HKC.out.below HQA.out (Nat.le_trans hBl HBC.out.size)).trans HM.out.2⟩
  case rest =>
  obtain ⟨us', hx', hR', hu', hK'⟩ := hcut
  obtain ⟨hn', eu'⟩ := List.getElem?_eq_some_iff.1 hu'
  have hlen : us'.length = us.length := by
    have a1 := hR'.ul.1
    have a2 := HR.out.ul.1
    simp only [List.length_set] at a1
    omega
  have eh1' : h1 = (some ⟨gS, 0, none⟩, us'.length, kS1) := by rw [hlen]; exact eh1
  have y5 := (hR'.cellF (V := wc) n _ hx' gS kS1 hn' eu' eh1' ⟨rfl, rfl, rfl, Nat.le_refl _, fun _ _ _ => rfl⟩).1
  have hdt := hR'.su.dat us'[n] (List.getElem_mem hn')
  rw [eu'] at hdt
  have his := own_isR3s (l := x.fs ++ [⟨(ex : Int) == 1, (m : Int), (k : Int)⟩]) hdt
  have HVF := hidYY (H.validFilters_any wc hx'.1 hx'.2.1 hx'.2.2 _ his (by have := his.len; simp only [List.length_append, List.length_cons, List.length_nil] at this; omega))
  have HR' := hidYY hR'
  have HK' := hidYY hK'
  have hBx : B ≤ wc.heap.size := Nat.le_trans hR'.lo (Nat.le_of_lt hR'.r.lt)
  clear hdt his hR' hK' hu' eu' e3' e4' e5' e7' e10'
  go_wp2_with fail
  refine HVF.out.mono ?_
  rintro o w7 ⟨rfl, b7⟩
  go_wp2_with fail
  go_ret
  exact ⟨rfl, ⟨_, _, _, _, HR'.out.below b7⟩, HK'.out.below b7 hBx⟩
set_option maxHeartbeats 4000000 in
set_option maxRecDepth 20000 in
theorem takeAccept_no {B rb gr : Nat} {S : Sc} {ln : Int} {bg : Bool} {us : List (Su × Hd)} {os : List (Od × Hd)} {h1 h2 : Hd} (gv cp n : Nat) (w : World) (hR : rdS B rb gr S ln bg us os h1 h2 w) (hnu : S.su.length ≤ n) (hul : S.su.length ≤ 32) (c0 : w.cell? ⟨gv, 0, none⟩ = some (.int .i64 (n : Int))) :
    Calls Tryz.prog 50 #[.pointer (some ⟨rb, 0, none⟩), .slice (some ⟨gv, 0, none⟩) 4 cp] w fun o w' => o = .returned (.bool false) ∧ Below w.heap.size w w' := by
  have r2 := hR.r.cell 2 _ rfl
  obtain ⟨nl, hnl⟩ : ∃ nl, h1.2.1 = nl := ⟨_, rfl⟩
  simp only [hdV] at r2
  have hn2 := hR.ul.2
  rw [hnl] at r2 hn2
  have hle : (nl : Int) ≤ (n : Int) := by omega
  clear hR hnl
  go_enter Tryz.func50, Tryz.ntmps50
  go_wp2
  go_region
  all_goals
    go_wp2
    go_ret
    exact ⟨rfl, (Below.refl _ _).drew⟩
/-- what a take leaves: the line's code is 0 and the script is the next, or it is 6 -/
def tkP (B rb gr : Nat) (S : Sc) (ln : Int) (bg : Bool) (w : World) (ws : List (List UInt8)) (o : Ending) (w' : World) : Prop :=
  (∃ b : Bool, o = .returned (.bool b) ∧ (b = true → (goL S ws).1 = 0 ∧ rdE B rb gr (goL S ws).2 ln bg w') ∧ (b = false → (goL S ws).1 = 6)) ∧ Ky [55, 60, 67, 73] B w w' ∧ w'.cell? ⟨rb, 6, none⟩ = some (.int .i64 ln)
theorem rdE.line {B rb gr : Nat} {S : Sc} {ln : Int} {bg : Bool} {W : World} (h : rdE B rb gr S ln bg W) : W.cell? ⟨rb, 6, none⟩ = some (.int .i64 ln) := by
  obtain ⟨us, os, h1, h2, h⟩ := h
  exact h.r.cell 6 _ rfl
theorem vcell {B gv n k : Nat} {rs : List (Vl × Hd)} {w : World} (h : rcR kV B (.slice (some ⟨gv, 0, none⟩) n k) rs w) (j : Nat) (hj : j < rs.length) : w.cell? ⟨gv, j * 3, none⟩ = some (.int .i64 rs[j].1.n) ∧ w.cell? ⟨gv, j * 3 + 1, none⟩ = some (.int .u32 rs[j].1.x) ∧ w.cell? ⟨gv, j * 3 + 2, none⟩ = some (hdV rs[j].2) := by
  have := h.rng (fun _ _ => rfl) j hj
  exact ⟨this 0 _ rfl, this 1 _ rfl, this 2 _ rfl⟩
/-- a row of values as the take finds it -/
theorem vrow {B : Nat} {v : Value} {rs : List (Vl × Hd)} {w : World} (h : rcR kV B v rs w) (hn : 0 < rs.length) : ∃ gv cp, v = .slice (some ⟨gv, 0, none⟩) rs.length cp ∧ ∃ cs, w.heap[gv]? = some (.cells cs 132 (0, 0)) := by
  rcases ownsRow_shape h.own with ⟨_, e⟩ | ⟨g, c, e, _⟩
  · omega
  · obtain ⟨cs, hc⟩ := ownsRow_kind h.own e
    exact ⟨g, c, e, cs, hc⟩
/-- an order's answer against the line's -/
theorem tk_od {B rb gr : Nat} {S : Sc} {ln : Int} {bg : Bool} {w w' : World} {x a : List UInt8} {rest : List (List UInt8)} {o : Ending} (h1 : (x == wRun) = false) (h2 : (x == wNode) = false) (h3 : (x == wAccept) = false) (od : Od) (E : Bool) (hod : odOf S.ticks (x :: a :: rest) = od) (hnode : od.node = nv (wd a)) (hok : odOk (x :: a :: rest) = (decide (od.tag ≤ 9999) && J.validB od.e od.id od.r (od.dlc : Int) od.d.length && E))
    (hE : o = .returned (.bool (ordB S od && E)) ∧ rdE B rb gr { S with od := S.od ++ [od] } ln bg w' ∧ Ky [55, 60, 67, 73] B w w') : tkP B rb gr S ln bg w (x :: a :: rest) o w' := by
  obtain ⟨rfl, hE, hK⟩ := hE
  refine ⟨⟨_, rfl, fun hb => ?_, fun hb => ?_⟩, hK, hE.line⟩
  · unfold ordB at hb
    rw [Bool.and_eq_true, Bool.and_eq_true, Bool.and_eq_true, Bool.and_eq_true, decide_eq_true_eq, decide_eq_true_eq] at hb
    obtain ⟨⟨⟨⟨b1, b2⟩, b3⟩, b4⟩, b5⟩ := hb
    rw [goL_od S x a rest h1 h2 h3, if_neg (by omega), if_pos ⟨by rw [hok, b3, b4, b5]; rfl, b1⟩, hod]
    exact ⟨rfl, hE⟩
  · rw [goL_od S x a rest h1 h2 h3]
    by_cases hn : S.su.length ≤ nv (wd a)
    · rw [if_pos hn]
    · rw [if_neg hn, if_neg]
      rintro ⟨c1, c2⟩
      rw [hok] at c1
      rw [Bool.and_eq_true, Bool.and_eq_true] at c1
      unfold ordB at hb
      rw [c1.1.1, c1.1.2, c1.2] at hb
      have : od.node < S.su.length := by omega
      simp [c2, this] at hb
theorem fm_n {s : ByteArray} (h : formI 110 s = true) : nv s < 1000000 := num_lt s 10 6 (by decide) h
theorem fm_k {s : ByteArray} (h : formI 107 s = true) : (vlOf 107 s).n = (isN s wOpt : Int) := choice_isN s wRef wOpt (by decide) h
theorem fm_p {s : ByteArray} (h : formI 112 s = true) : (vlOf 112 s).n = (isN s wNew : Int) := choice_isN s wOld wNew (by decide) h
theorem fm_w {s : ByteArray} (h : formI 119 s = true) : (vlOf 119 s).n = (isN s wX : Int) := choice_isN s wB wX (by decide) h
/-- the bytes of a data word -/
theorem fm_d {s : ByteArray} (h : formI 100 s = true) : (∀ y ∈ datL s, y < 256) ∧ (datL s).length ≤ 8 := by
  have h' : ((s.toList == wDash) || (decide (s.size % 2 = 0) && numB (lt s) 16 16)) = true := h
  unfold datL
  cases hd : (s.toList == wDash)
  · rw [hd, Bool.false_or, Bool.and_eq_true, decide_eq_true_eq] at h'
    have hsz := num_size s 16 16 h'.2
    simp only [Bool.false_eq_true, if_false]
    refine ⟨fun y hy => ?_, by rw [dtK_len]; omega⟩
    unfold dtK at hy
    obtain ⟨k, hk, rfl⟩ := List.mem_map.1 hy
    have hk' : k < s.size / 2 := List.mem_range.1 hk
    refine byteAt_lt s k ?_
    cases hc : dgB (lt (s.extract (2 * k) (2 * k + 2))) 16 2
    · have := pairs_bad s k (by omega) hc
      rw [this] at h'
      cases h'.2
    · rfl
  · simp
section
variable {B B' rb gr : Nat} {S : Sc} {ln : Int} {bg : Bool} {us : List (Su × Hd)} {os : List (Od × Hd)} {h1 h2 : Hd}
set_option maxRecDepth 20000 in
theorem take_run (gv cp : Nat) (a : List UInt8) (q0 : Hd) (w : World) (hR : rdS B rb gr S ln bg us os h1 h2 w) (hS : okS S) (hV : rcR kV B' (.slice (some ⟨gv, 0, none⟩) 1 cp) [(vlOf 110 (wd a), q0)] w) (hB : B ≤ B') (hne : gv ≠ rb) (hcT : ∃ cs, w.heap[gv]? = some (.cells cs 132 (0, 0))) (hfr : ∀ q ∈ [(vlOf 110 (wd a), q0)], ∀ r ∈ os, ∀ y, r.2.1 = some y → q.2.1 ≠ some y) (f0 : formI 110 (wd a) = true) :
    Calls Tryz.prog 57 #[.pointer (some ⟨rb, 0, none⟩), .slice (some ⟨gv, 0, none⟩) 1 cp] w (tkP B rb gr S ln bg w (wRun :: [a])) := by
  obtain ⟨n0, x0, g0⟩ := vcell hV 0 (by simp)
  refine (takeRun_any gv cp (nv (wd a)) w hR hS.ti (fm_n f0) hne n0).mono ?_
  rintro o w' ⟨rfl, hE, hK⟩
  refine ⟨⟨_, rfl, fun hb => ?_, fun hb => ?_⟩, hK, hE.r.cell 6 _ rfl⟩
  · rw [decide_eq_true_eq] at hb
    rw [goL_run, if_pos hb]
    exact ⟨rfl, _, _, _, _, hE⟩
  · rw [decide_eq_false_iff_not] at hb
    rw [goL_run, if_neg hb]
set_option maxRecDepth 20000 in
theorem take_node (gv cp : Nat) (a b c d e : List UInt8) (q0 q1 q2 q3 q4 : Hd) (w : World) (hR : rdS B rb gr S ln bg us os h1 h2 w) (hS : okS S) (hV : rcR kV B' (.slice (some ⟨gv, 0, none⟩) 5 cp) [(vlOf 107 (wd a), q0), (vlOf 110 (wd b), q1), (vlOf 110 (wd c), q2), (vlOf 112 (wd d), q3), (vlOf 110 (wd e), q4)] w) (hB : B ≤ B') (hne : gv ≠ rb) (hcT : ∃ cs, w.heap[gv]? = some (.cells cs 132 (0, 0))) (hfr : ∀ q ∈ [(vlOf 107 (wd a), q0), (vlOf 110 (wd b), q1), (vlOf 110 (wd c), q2), (vlOf 112 (wd d), q3), (vlOf 110 (wd e), q4)], ∀ r ∈ os, ∀ y, r.2.1 = some y → q.2.1 ≠ some y) (f0 : formI 107 (wd a) = true) (f1 : formI 110 (wd b) = true) (f2 : formI 110 (wd c) = true) (f3 : formI 112 (wd d) = true) (f4 : formI 110 (wd e) = true) :
    Calls Tryz.prog 49 #[.pointer (some ⟨rb, 0, none⟩), .slice (some ⟨gv, 0, none⟩) 5 cp] w (tkP B rb gr S ln bg w (wNode :: [a, b, c, d, e])) := by
  obtain ⟨n0, x0, g0⟩ := vcell hV 0 (by simp)
  obtain ⟨n1, x1, g1⟩ := vcell hV 1 (by simp)
  obtain ⟨n2, x2, g2⟩ := vcell hV 2 (by simp)
  obtain ⟨n3, x3, g3⟩ := vcell hV 3 (by simp)
  obtain ⟨n4, x4, g4⟩ := vcell hV 4 (by simp)
  rw [show ([(vlOf 107 (wd a), q0), (vlOf 110 (wd b), q1), (vlOf 110 (wd c), q2), (vlOf 112 (wd d), q3), (vlOf 110 (wd e), q4)] : List (Vl × Hd))[0].1 = vlOf 107 (wd a) from rfl, fm_k f0] at n0
  rw [show ([(vlOf 107 (wd a), q0), (vlOf 110 (wd b), q1), (vlOf 110 (wd c), q2), (vlOf 112 (wd d), q3), (vlOf 110 (wd e), q4)] : List (Vl × Hd))[3].1 = vlOf 112 (wd d) from rfl, fm_p f3] at n3
  refine (takeNode_any gv cp (isN (wd a) wOpt) (nv (wd b)) (nv (wd c)) (isN (wd d) wNew) (nv (wd e)) w hR hS.su hne n0 n1 n2 n3 n4).mono ?_
  rintro o w' ⟨rfl, hE, hK⟩
  refine ⟨⟨_, rfl, fun hb => ?_, fun hb => ?_⟩, hK, hE.line⟩
  · rw [Bool.and_eq_true, decide_eq_true_eq] at hb
    rw [goL_node, if_pos ⟨hb.2, hb.1⟩]
    exact ⟨rfl, hE⟩
  · rw [goL_node, if_neg]
    rintro ⟨c1, c2⟩
    rw [c1] at hb
    simp [c2] at hb
set_option maxRecDepth 20000 in
theorem take_accept (gv cp : Nat) (a b c d : List UInt8) (q0 q1 q2 q3 : Hd) (w : World) (hR : rdS B rb gr S ln bg us os h1 h2 w) (hS : okS S) (hV : rcR kV B' (.slice (some ⟨gv, 0, none⟩) 4 cp) [(vlOf 110 (wd a), q0), (vlOf 119 (wd b), q1), (vlOf 104 (wd c), q2), (vlOf 104 (wd d), q3)] w) (hB : B ≤ B') (hne : gv ≠ rb) (hcT : ∃ cs, w.heap[gv]? = some (.cells cs 132 (0, 0))) (hfr : ∀ q ∈ [(vlOf 110 (wd a), q0), (vlOf 119 (wd b), q1), (vlOf 104 (wd c), q2), (vlOf 104 (wd d), q3)], ∀ r ∈ os, ∀ y, r.2.1 = some y → q.2.1 ≠ some y) (f0 : formI 110 (wd a) = true) (f1 : formI 119 (wd b) = true) (f2 : formI 104 (wd c) = true) (f3 : formI 104 (wd d) = true) :
    Calls Tryz.prog 50 #[.pointer (some ⟨rb, 0, none⟩), .slice (some ⟨gv, 0, none⟩) 4 cp] w (tkP B rb gr S ln bg w (wAccept :: [a, b, c, d])) := by
  obtain ⟨n0, x0, g0⟩ := vcell hV 0 (by simp)
  obtain ⟨n1, x1, g1⟩ := vcell hV 1 (by simp)
  obtain ⟨n2, x2, g2⟩ := vcell hV 2 (by simp)
  obtain ⟨n3, x3, g3⟩ := vcell hV 3 (by simp)
  rw [show ([(vlOf 110 (wd a), q0), (vlOf 119 (wd b), q1), (vlOf 104 (wd c), q2), (vlOf 104 (wd d), q3)] : List (Vl × Hd))[1].1 = vlOf 119 (wd b) from rfl, fm_w f1] at n1
  have hul := hR.ul.1
  rcases Nat.lt_or_ge (nv (wd a)) us.length with hn | hn
  · have hx : us[nv (wd a)] = (us[nv (wd a)].1, us[nv (wd a)].2) := rfl
    have hs : S.su[nv (wd a)]? = some us[nv (wd a)].1 := by rw [← hR.eu, List.getElem?_map, List.getElem?_eq_getElem hn]; rfl
    have hxl : us[nv (wd a)].1.fs.length ≤ 16 := hS.fl _ (List.mem_of_getElem? hs)
    refine (takeAccept_yes gv cp (nv (wd a)) (isN (wd b) wX) (hv (wd c)) (hv (wd d)) _ _ _ _ w hR hn hx hxl (by rw [hul]; exact hS.su) n0 n1 x1 g1 x2 x3 hcT).mono ?_
    rintro o w' ⟨rfl, hE, hK⟩
    rw [isN_one] at hE ⊢
    refine ⟨⟨_, rfl, fun hb => ?_, fun hb => ?_⟩, hK, hE.line⟩
    · rw [goL_accept, if_neg (by omega), hs]
      simp only
      have hb' : H.okFs (us[nv (wd a)].1.fs ++ [flOf (wd b) (wd c) (wd d)]) = true := hb
      rw [if_pos hb']
      exact ⟨rfl, hE⟩
    · rw [goL_accept, if_neg (by omega), hs]
      simp only
      have hb' : H.okFs (us[nv (wd a)].1.fs ++ [flOf (wd b) (wd c) (wd d)]) = false := hb
      rw [if_neg (by rw [hb']; simp)]
  · refine (takeAccept_no gv cp (nv (wd a)) w hR (by omega) hS.su n0).mono ?_
    rintro o w' ⟨rfl, hb⟩
    refine ⟨⟨_, rfl, fun h => (by cases h), fun _ => ?_⟩, Ky.of hb (Nat.le_trans hR.lo (Nat.le_of_lt hR.r.lt)), (hR.below hb).r.cell 6 _ rfl⟩
    rw [goL_accept, if_pos (by omega)]
set_option maxRecDepth 20000 in
theorem take_send (gv cp : Nat) (a b c d e : List UInt8) (q0 q1 q2 q3 q4 : Hd) (w : World) (hR : rdS B rb gr S ln bg us os h1 h2 w) (hS : okS S) (hV : rcR kV B' (.slice (some ⟨gv, 0, none⟩) 5 cp) [(vlOf 110 (wd a), q0), (vlOf 110 (wd b), q1), (vlOf 119 (wd c), q2), (vlOf 104 (wd d), q3), (vlOf 100 (wd e), q4)] w) (hB : B ≤ B') (hne : gv ≠ rb) (hcT : ∃ cs, w.heap[gv]? = some (.cells cs 132 (0, 0))) (hfr : ∀ q ∈ [(vlOf 110 (wd a), q0), (vlOf 110 (wd b), q1), (vlOf 119 (wd c), q2), (vlOf 104 (wd d), q3), (vlOf 100 (wd e), q4)], ∀ r ∈ os, ∀ y, r.2.1 = some y → q.2.1 ≠ some y) (f0 : formI 110 (wd a) = true) (f1 : formI 110 (wd b) = true) (f2 : formI 119 (wd c) = true) (f3 : formI 104 (wd d) = true) (f4 : formI 100 (wd e) = true) :
    Calls Tryz.prog 51 #[.pointer (some ⟨rb, 0, none⟩), .slice (some ⟨gv, 0, none⟩) 5 cp] w (tkP B rb gr S ln bg w (wSend :: [a, b, c, d, e])) := by
  obtain ⟨n0, x0, g0⟩ := vcell hV 0 (by simp)
  obtain ⟨n1, x1, g1⟩ := vcell hV 1 (by simp)
  obtain ⟨n2, x2, g2⟩ := vcell hV 2 (by simp)
  obtain ⟨n3, x3, g3⟩ := vcell hV 3 (by simp)
  obtain ⟨n4, x4, g4⟩ := vcell hV 4 (by simp)
  rw [show ([(vlOf 110 (wd a), q0), (vlOf 110 (wd b), q1), (vlOf 119 (wd c), q2), (vlOf 104 (wd d), q3), (vlOf 100 (wd e), q4)] : List (Vl × Hd))[2].1 = vlOf 119 (wd c) from rfl, fm_w f2] at n2
  have hd1 := ownsRow_lower (hV.dat (vlOf 100 (wd e), q4) (by simp)) hB
  refine (takeSend_any gv cp (nv (wd a)) (nv (wd b)) (isN (wd c) wX) (hv (wd d)) _ _ q4 (datL (wd e)) w hR hS.od n0 n1 n2 x2 g2 x3 g4 hd1 (fm_d f4).1 (hfr (vlOf 100 (wd e), q4) (by simp))).mono ?_
  intro o w' hE
  rw [isN_one] at hE
  refine tk_od (by decide) (by decide) (by decide) _ true (od_send _ _ _ _ _ _) rfl ?_ (by rw [Bool.and_true]; exact hE)
  unfold odOk
  rw [od_send]
  simp
set_option maxRecDepth 20000 in
theorem take_ask (gv cp : Nat) (a b c d e : List UInt8) (q0 q1 q2 q3 q4 : Hd) (w : World) (hR : rdS B rb gr S ln bg us os h1 h2 w) (hS : okS S) (hV : rcR kV B' (.slice (some ⟨gv, 0, none⟩) 5 cp) [(vlOf 110 (wd a), q0), (vlOf 110 (wd b), q1), (vlOf 119 (wd c), q2), (vlOf 104 (wd d), q3), (vlOf 110 (wd e), q4)] w) (hB : B ≤ B') (hne : gv ≠ rb) (hcT : ∃ cs, w.heap[gv]? = some (.cells cs 132 (0, 0))) (hfr : ∀ q ∈ [(vlOf 110 (wd a), q0), (vlOf 110 (wd b), q1), (vlOf 119 (wd c), q2), (vlOf 104 (wd d), q3), (vlOf 110 (wd e), q4)], ∀ r ∈ os, ∀ y, r.2.1 = some y → q.2.1 ≠ some y) (f0 : formI 110 (wd a) = true) (f1 : formI 110 (wd b) = true) (f2 : formI 119 (wd c) = true) (f3 : formI 104 (wd d) = true) (f4 : formI 110 (wd e) = true) :
    Calls Tryz.prog 52 #[.pointer (some ⟨rb, 0, none⟩), .slice (some ⟨gv, 0, none⟩) 5 cp] w (tkP B rb gr S ln bg w (wAsk :: [a, b, c, d, e])) := by
  obtain ⟨n0, x0, g0⟩ := vcell hV 0 (by simp)
  obtain ⟨n1, x1, g1⟩ := vcell hV 1 (by simp)
  obtain ⟨n2, x2, g2⟩ := vcell hV 2 (by simp)
  obtain ⟨n3, x3, g3⟩ := vcell hV 3 (by simp)
  obtain ⟨n4, x4, g4⟩ := vcell hV 4 (by simp)
  rw [show ([(vlOf 110 (wd a), q0), (vlOf 110 (wd b), q1), (vlOf 119 (wd c), q2), (vlOf 104 (wd d), q3), (vlOf 110 (wd e), q4)] : List (Vl × Hd))[2].1 = vlOf 119 (wd c) from rfl, fm_w f2] at n2
  refine (takeAsk_any gv cp (nv (wd a)) (nv (wd b)) (isN (wd c) wX) (hv (wd d)) (nv (wd e)) _ _ w hR hS.od n0 n1 n2 x2 g2 x3 n4).mono ?_
  intro o w' hE
  rw [isN_one] at hE
  refine tk_od (by decide) (by decide) (by decide) _ true (od_ask _ _ _ _ _ _) rfl ?_ (by rw [Bool.and_true]; exact hE)
  unfold odOk
  rw [od_ask]
  simp
set_option maxRecDepth 20000 in
theorem take_drop (gv cp : Nat) (a b : List UInt8) (q0 q1 : Hd) (w : World) (hR : rdS B rb gr S ln bg us os h1 h2 w) (hS : okS S) (hV : rcR kV B' (.slice (some ⟨gv, 0, none⟩) 2 cp) [(vlOf 110 (wd a), q0), (vlOf 110 (wd b), q1)] w) (hB : B ≤ B') (hne : gv ≠ rb) (hcT : ∃ cs, w.heap[gv]? = some (.cells cs 132 (0, 0))) (hfr : ∀ q ∈ [(vlOf 110 (wd a), q0), (vlOf 110 (wd b), q1)], ∀ r ∈ os, ∀ y, r.2.1 = some y → q.2.1 ≠ some y) (f0 : formI 110 (wd a) = true) (f1 : formI 110 (wd b) = true) :
    Calls Tryz.prog 53 #[.pointer (some ⟨rb, 0, none⟩), .slice (some ⟨gv, 0, none⟩) 2 cp] w (tkP B rb gr S ln bg w (wDrop :: [a, b])) := by
  obtain ⟨n0, x0, g0⟩ := vcell hV 0 (by simp)
  obtain ⟨n1, x1, g1⟩ := vcell hV 1 (by simp)
  refine (takeDrop_any gv cp (nv (wd a)) (nv (wd b)) w hR hS.od n0 n1).mono ?_
  intro o w' hE
  refine tk_od (by decide) (by decide) (by decide) _ true (od_drop _ _ _) rfl ?_ (by rw [Bool.and_true]; exact hE)
  unfold odOk
  rw [od_drop]
  simp [odNone]
  try rfl
set_option maxRecDepth 20000 in
theorem take_restart (gv cp : Nat) (a : List UInt8) (q0 : Hd) (w : World) (hR : rdS B rb gr S ln bg us os h1 h2 w) (hS : okS S) (hV : rcR kV B' (.slice (some ⟨gv, 0, none⟩) 1 cp) [(vlOf 110 (wd a), q0)] w) (hB : B ≤ B') (hne : gv ≠ rb) (hcT : ∃ cs, w.heap[gv]? = some (.cells cs 132 (0, 0))) (hfr : ∀ q ∈ [(vlOf 110 (wd a), q0)], ∀ r ∈ os, ∀ y, r.2.1 = some y → q.2.1 ≠ some y) (f0 : formI 110 (wd a) = true) :
    Calls Tryz.prog 54 #[.pointer (some ⟨rb, 0, none⟩), .slice (some ⟨gv, 0, none⟩) 1 cp] w (tkP B rb gr S ln bg w (wRestart :: [a])) := by
  obtain ⟨n0, x0, g0⟩ := vcell hV 0 (by simp)
  refine (takeRestart_any gv cp (nv (wd a)) w hR hS.od n0).mono ?_
  intro o w' hE
  refine tk_od (by decide) (by decide) (by decide) _ true (od_restart _ _) rfl ?_ (by rw [Bool.and_true]; exact hE)
  unfold odOk
  rw [od_restart]
  simp [odNone]
  try rfl
set_option maxRecDepth 20000 in
theorem take_fetch (gv cp : Nat) (a : List UInt8) (q0 : Hd) (w : World) (hR : rdS B rb gr S ln bg us os h1 h2 w) (hS : okS S) (hV : rcR kV B' (.slice (some ⟨gv, 0, none⟩) 1 cp) [(vlOf 110 (wd a), q0)] w) (hB : B ≤ B') (hne : gv ≠ rb) (hcT : ∃ cs, w.heap[gv]? = some (.cells cs 132 (0, 0))) (hfr : ∀ q ∈ [(vlOf 110 (wd a), q0)], ∀ r ∈ os, ∀ y, r.2.1 = some y → q.2.1 ≠ some y) (f0 : formI 110 (wd a) = true) :
    Calls Tryz.prog 55 #[.pointer (some ⟨rb, 0, none⟩), .slice (some ⟨gv, 0, none⟩) 1 cp] w (tkP B rb gr S ln bg w (wFetch :: [a])) := by
  obtain ⟨n0, x0, g0⟩ := vcell hV 0 (by simp)
  refine (takeFetch_any gv cp (nv (wd a)) w hR hS.od n0).mono ?_
  intro o w' hE
  refine tk_od (by decide) (by decide) (by decide) _ true (od_fetch _ _) rfl ?_ (by rw [Bool.and_true]; exact hE)
  unfold odOk
  rw [od_fetch]
  simp [odNone]
  try rfl
set_option maxRecDepth 20000 in
theorem take_flip (gv cp : Nat) (a b c : List UInt8) (q0 q1 q2 : Hd) (w : World) (hR : rdS B rb gr S ln bg us os h1 h2 w) (hS : okS S) (hV : rcR kV B' (.slice (some ⟨gv, 0, none⟩) 3 cp) [(vlOf 110 (wd a), q0), (vlOf 110 (wd b), q1), (vlOf 110 (wd c), q2)] w) (hB : B ≤ B') (hne : gv ≠ rb) (hcT : ∃ cs, w.heap[gv]? = some (.cells cs 132 (0, 0))) (hfr : ∀ q ∈ [(vlOf 110 (wd a), q0), (vlOf 110 (wd b), q1), (vlOf 110 (wd c), q2)], ∀ r ∈ os, ∀ y, r.2.1 = some y → q.2.1 ≠ some y) (f0 : formI 110 (wd a) = true) (f1 : formI 110 (wd b) = true) (f2 : formI 110 (wd c) = true) :
    Calls Tryz.prog 56 #[.pointer (some ⟨rb, 0, none⟩), .slice (some ⟨gv, 0, none⟩) 3 cp] w (tkP B rb gr S ln bg w (wFlip :: [a, b, c])) := by
  obtain ⟨n0, x0, g0⟩ := vcell hV 0 (by simp)
  obtain ⟨n1, x1, g1⟩ := vcell hV 1 (by simp)
  obtain ⟨n2, x2, g2⟩ := vcell hV 2 (by simp)
  refine (takeFlip_any gv cp (nv (wd a)) (nv (wd b)) (nv (wd c)) w hR hS.od hS.ti (fm_n f1) (fm_n f2) n0 n1 n2).mono ?_
  intro o w' hE
  refine tk_od (by decide) (by decide) (by decide) _ (decide (nv (wd b) ≤ 6000) && decide (nv (wd c) ≤ 6000)) (od_flip _ _ _ _) rfl ?_ (by rw [← Bool.and_assoc]; exact hE)
  unfold odOk
  rw [od_flip]
  simp [odNone, Bool.and_assoc]
  try rfl
end
end Go.Proofs.YtfbeaekddgpmmaaGreatDoor
