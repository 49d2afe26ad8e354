import Derived.Test.YtfbeaekddgpmmaaGreatDoorK31
namespace Go.Proofs.YtfbeaekddgpmmaaGreatDoor
open Go.RowKit Kd
set_option linter.unusedVariables false
set_option maxHeartbeats 4000000 in
set_option maxRecDepth 20000 in
theorem takeSend_any {B rb gr : Nat} {S : Sc} {ln : Int} {bg : Bool} {us : List (Su × Hd)} {os : List (Od × Hd)} {h1 h2 : Hd} (gv cp n m ex id : Nat) (x7 : Int) (h8 hd : Hd) (d : List Nat) (w : World) (hR : rdS B rb gr S ln bg us os h1 h2 w) (hSo : S.od.length ≤ 500) (c0 : w.cell? ⟨gv, 0, none⟩ = some (.int .i64 (n : Int))) (c3 : w.cell? ⟨gv, 3, none⟩ = some (.int .i64 (m : Int))) (c6 : w.cell? ⟨gv, 6, none⟩ = some (.int .i64 (ex : Int))) (c7 : w.cell? ⟨gv, 7, none⟩ = some (.int .u32 x7)) (c8 : w.cell? ⟨gv, 8, none⟩ = some (hdV h8)) (c10 : w.cell? ⟨gv, 10, none⟩ = some (.int .u32 (id : Int))) (c14 : w.cell? ⟨gv, 14, none⟩ = some (hdV hd)) (hd1 : w.ownsRow B 5 1 (hdV hd) d.length (bv d)) (hd2 : ∀ y ∈ d, y < 256) (hfr : ∀ r ∈ os, ∀ y, r.2.1 = some y → hd.1 ≠ some y) :
    Calls Tryz.prog 51 #[.pointer (some ⟨rb, 0, none⟩), .slice (some ⟨gv, 0, none⟩) 5 cp] w fun o w' => o = .returned (.bool (ordB S ⟨S.ticks, 1, n, m, (ex : Int) == 1, id, false, d.length, d, 0, 0⟩)) ∧ rdE B rb gr { S with od := S.od ++ [⟨S.ticks, 1, n, m, (ex : Int) == 1, id, false, d.length, d, 0, 0⟩] } ln bg w' ∧ Ky [55, 60, 67, 73] B w w' := by
  have hgl : gv < w.heap.size := World.block_lt_of_cell? w _ c0
  have HR := hidYY hR
  have hBl : B ≤ w.heap.size := Nat.le_trans hR.lo (Nat.le_of_lt hR.r.lt)
  clear hR
  have hdl : hd.2.1 = d.length := (own_isBytes hd1 hd2).len
  have HDD := hidYY (And.intro hd1 (And.intro hd2 hfr))
  have HDL := hidYY hdl
  clear hd1 hd2 hfr hdl
  have HIS := hidYY (fun W => isExt_any (ex : Int) x7 h8 W)
  have HC : Hid (∀ V, Below w.heap.size w V → V.cell? ⟨gv, 0, none⟩ = some (.int .i64 (n : Int)) ∧ V.cell? ⟨gv, 3, none⟩ = some (.int .i64 (m : Int))) := fun V hV => ⟨(hV.cell hgl).trans c0, (hV.cell hgl).trans c3⟩
  have HKP : Hid (∀ V U : World, (fun V => V.cell? ⟨gv, 6, none⟩ = some (.int .i64 (ex : Int)) ∧ V.cell? ⟨gv, 7, none⟩ = some (.int .u32 x7) ∧ V.cell? ⟨gv, 8, none⟩ = some (hdV h8) ∧ V.cell? ⟨gv, 10, none⟩ = some (.int .u32 (id : Int)) ∧ V.cell? ⟨gv, 14, none⟩ = some (hdV hd)) V → Below V.heap.size V U → (fun V => V.cell? ⟨gv, 6, none⟩ = some (.int .i64 (ex : Int)) ∧ V.cell? ⟨gv, 7, none⟩ = some (.int .u32 x7) ∧ V.cell? ⟨gv, 8, none⟩ = some (hdV h8) ∧ V.cell? ⟨gv, 10, none⟩ = some (.int .u32 (id : Int)) ∧ V.cell? ⟨gv, 14, none⟩ = some (hdV hd)) U) := fun V U ⟨a, b, c, d, e⟩ hb => by
    have hl : gv < V.heap.size := World.block_lt_of_cell? V _ a
    exact ⟨(hb.cell hl).trans a, (hb.cell hl).trans b, (hb.cell hl).trans c, (hb.cell hl).trans d, (hb.cell hl).trans e⟩
  have HKS : Hid (∀ (V : World) (N : Nat) (vs : List Value), w.heap.size ≤ N → (fun V => V.cell? ⟨gv, 6, none⟩ = some (.int .i64 (ex : Int)) ∧ V.cell? ⟨gv, 7, none⟩ = some (.int .u32 x7) ∧ V.cell? ⟨gv, 8, none⟩ = some (hdV h8) ∧ V.cell? ⟨gv, 10, none⟩ = some (.int .u32 (id : Int)) ∧ V.cell? ⟨gv, 14, none⟩ = some (hdV hd)) V → (fun V => V.cell? ⟨gv, 6, none⟩ = some (.int .i64 (ex : Int)) ∧ V.cell? ⟨gv, 7, none⟩ = some (.int .u32 x7) ∧ V.cell? ⟨gv, 8, none⟩ = some (hdV h8) ∧ V.cell? ⟨gv, 10, none⟩ = some (.int .u32 (id : Int)) ∧ V.cell? ⟨gv, 14, none⟩ = some (hdV hd)) (V.setCells N 0 vs)) := fun V N vs hN ⟨a, b, c, d, e⟩ => by
    have e1 : (V.setCells N 0 vs).heap[gv]? = V.heap[gv]? := setCells_other _ _ (by omega) _ _ _
    exact ⟨cell_up a e1, cell_up b e1, cell_up c e1, cell_up d e1, cell_up e e1⟩
  go_enter Tryz.func51, Tryz.ntmps51
  go_upto_region 1 with fail
  go_cut [5] (fun p wx => ∃ N, p = .pointer (some ⟨N, 0, none⟩) ∧ w.heap.size ≤ N ∧ blk wx N [.bool ((ex : Int) == 1), .int .u32 (id : Int), .bool false, .int .i64 (hd.2.1 : Int), hdV hd] 65 ∧ Below w.heap.size w wx)
  case first =>
    refine wp_region_held (S := (fun V => V.cell? ⟨gv, 6, none⟩ = some (.int .i64 (ex : Int)) ∧ V.cell? ⟨gv, 7, none⟩ = some (.int .u32 x7) ∧ V.cell? ⟨gv, 8, none⟩ = some (hdV h8) ∧ V.cell? ⟨gv, 10, none⟩ = some (.int .u32 (id : Int)) ∧ V.cell? ⟨gv, 14, none⟩ = some (hdV hd))) (by kernel_rfl) ?_
    have hS : (fun V => V.cell? ⟨gv, 6, none⟩ = some (.int .i64 (ex : Int)) ∧ V.cell? ⟨gv, 7, none⟩ = some (.int .u32 x7) ∧ V.cell? ⟨gv, 8, none⟩ = some (hdV h8) ∧ V.cell? ⟨gv, 10, none⟩ = some (.int .u32 (id : Int)) ∧ V.cell? ⟨gv, 14, none⟩ = some (hdV hd)) w.drew := ⟨c6, c7, c8, c10, c14⟩
    refine wpAnyH_take (i := 0) (v := (.slice (some ⟨gv, 0, none⟩) 5 cp)) rfl (by kernel_rfl) (by kernel_rfl) (by kernel_rfl) (fun _ _ _ h => h) (Or.inl ⟨by rfl, ?_⟩) hS ?_
    · intro W hSw
      clear hS
      obtain ⟨s1, s2, s3, s4, s5⟩ := hSw
      go_simp
    simp only [Act.put, List.setIfInBounds_toArray, List.set_cons_zero, List.set_cons_succ, List.getElem_toArray, List.getElem_cons_zero]
    refine wpAnyH_take (i := 1) (v := (.pointer (some ⟨gv, 6, none⟩))) rfl (by kernel_rfl) (by kernel_rfl) (by kernel_rfl) (fun _ _ _ h => h) (Or.inl ⟨by rfl, ?_⟩) hS ?_
    · intro W hSw
      clear hS
      obtain ⟨s1, s2, s3, s4, s5⟩ := hSw
      go_simp
    simp only [Act.put, List.setIfInBounds_toArray, List.set_cons_zero, List.set_cons_succ, List.getElem_toArray, List.getElem_cons_zero, List.getElem_cons_succ]
    refine wpAnyH_take (i := 2) (v := (vlV (ex : Int) x7 (hdV h8))) rfl (by kernel_rfl) (by kernel_rfl) (by kernel_rfl) (fun _ _ _ h => h) (Or.inl ⟨by rfl, ?_⟩) hS ?_
    · intro W hSw
      clear hS
      obtain ⟨s1, s2, s3, s4, s5⟩ := hSw
      go_simp
    simp only [Act.put, List.setIfInBounds_toArray, List.set_cons_zero, List.set_cons_succ, List.getElem_toArray, List.getElem_cons_zero, List.getElem_cons_succ]
    refine wpAnyH_take (i := 4) (v := (.slice (some ⟨gv, 0, none⟩) 5 cp)) rfl (by kernel_rfl) (by kernel_rfl) (by kernel_rfl) (fun _ _ _ h => h) (Or.inl ⟨by rfl, ?_⟩) hS ?_
    · intro W hSw
      clear hS
      obtain ⟨s1, s2, s3, s4, s5⟩ := hSw
      go_simp
    simp only [Act.put, List.setIfInBounds_toArray, List.set_cons_zero, List.set_cons_succ, List.getElem_toArray, List.getElem_cons_zero, List.getElem_cons_succ]
    refine wpAnyH_take (i := 5) (v := (.pointer (some ⟨gv, 9, none⟩))) rfl (by kernel_rfl) (by kernel_rfl) (by kernel_rfl) (fun _ _ _ h => h) (Or.inl ⟨by rfl, ?_⟩) hS ?_
    · intro W hSw
      clear hS
      obtain ⟨s1, s2, s3, s4, s5⟩ := hSw
      go_simp
    simp only [Act.put, List.setIfInBounds_toArray, List.set_cons_zero, List.set_cons_succ, List.getElem_toArray, List.getElem_cons_zero, List.getElem_cons_succ]
    refine wpAnyH_take (i := 6) (v := (.pointer (some ⟨gv, 10, none⟩))) rfl (by kernel_rfl) (by kernel_rfl) (by kernel_rfl) (fun _ _ _ h => h) (Or.inl ⟨by rfl, ?_⟩) hS ?_
    · intro W hSw
      clear hS
      obtain ⟨s1, s2, s3, s4, s5⟩ := hSw
      go_simp
    simp only [Act.put, List.setIfInBounds_toArray, List.set_cons_zero, List.set_cons_succ, List.getElem_toArray, List.getElem_cons_zero, List.getElem_cons_succ]
    refine wpAnyH_take (i := 7) (v := (.int .u32 (id : Int))) rfl (by kernel_rfl) (by kernel_rfl) (by kernel_rfl) (fun _ _ _ h => h) (Or.inl ⟨by rfl, ?_⟩) hS ?_
    · intro W hSw
      clear hS
      obtain ⟨s1, s2, s3, s4, s5⟩ := hSw
      go_simp
    simp only [Act.put, List.setIfInBounds_toArray, List.set_cons_zero, List.set_cons_succ, List.getElem_toArray, List.getElem_cons_zero, List.getElem_cons_succ]
    refine wpAnyH_take (i := 8) (v := (.slice (some ⟨gv, 0, none⟩) 5 cp)) rfl (by kernel_rfl) (by kernel_rfl) (by kernel_rfl) (fun _ _ _ h => h) (Or.inl ⟨by rfl, ?_⟩) hS ?_
    · intro W hSw
      clear hS
      obtain ⟨s1, s2, s3, s4, s5⟩ := hSw
      go_simp
    simp only [Act.put, List.setIfInBounds_toArray, List.set_cons_zero, List.set_cons_succ, List.getElem_toArray, List.getElem_cons_zero, List.getElem_cons_succ]
    refine wpAnyH_take (i := 9) (v := (.pointer (some ⟨gv, 12, none⟩))) rfl (by kernel_rfl) (by kernel_rfl) (by kernel_rfl) (fun _ _ _ h => h) (Or.inl ⟨by rfl, ?_⟩) hS ?_
    · intro W hSw
      clear hS
      obtain ⟨s1, s2, s3, s4, s5⟩ := hSw
      go_simp
    simp only [Act.put, List.setIfInBounds_toArray, List.set_cons_zero, List.set_cons_succ, List.getElem_toArray, List.getElem_cons_zero, List.getElem_cons_succ]
    refine wpAnyH_take (i := 10) (v := (.pointer (some ⟨gv, 14, none⟩))) rfl (by kernel_rfl) (by kernel_rfl) (by kernel_rfl) (fun _ _ _ h => h) (Or.inl ⟨by rfl, ?_⟩) hS ?_
    · intro W hSw
      clear hS
      obtain ⟨s1, s2, s3, s4, s5⟩ := hSw
      go_simp
    simp only [Act.put, List.setIfInBounds_toArray, List.set_cons_zero, List.set_cons_succ, List.getElem_toArray, List.getElem_cons_zero, List.getElem_cons_succ]
    refine wpAnyH_take (i := 11) (v := (hdV hd)) rfl (by kernel_rfl) (by kernel_rfl) (by kernel_rfl) (fun _ _ _ h => h) (Or.inl ⟨by rfl, ?_⟩) hS ?_
    · intro W hSw
      clear hS
      obtain ⟨s1, s2, s3, s4, s5⟩ := hSw
      go_simp
    simp only [Act.put, List.setIfInBounds_toArray, List.set_cons_zero, List.set_cons_succ, List.getElem_toArray, List.getElem_cons_zero, List.getElem_cons_succ]
    refine wpAnyH_take (i := 12) (v := (.int .i64 (hd.2.1 : Int))) rfl (by kernel_rfl) (by kernel_rfl) (by kernel_rfl) (fun _ _ _ h => h) (Or.inl ⟨by rfl, ?_⟩) hS ?_
    · intro W hSw
      clear hS
      obtain ⟨s1, s2, s3, s4, s5⟩ := hSw
      go_simp
    simp only [Act.put, List.setIfInBounds_toArray, List.set_cons_zero, List.set_cons_succ, List.getElem_toArray, List.getElem_cons_zero, List.getElem_cons_succ]
    refine wpAnyH_take (i := 13) (v := (.slice (some ⟨gv, 0, none⟩) 5 cp)) rfl (by kernel_rfl) (by kernel_rfl) (by kernel_rfl) (fun _ _ _ h => h) (Or.inl ⟨by rfl, ?_⟩) hS ?_
    · intro W hSw
      clear hS
      obtain ⟨s1, s2, s3, s4, s5⟩ := hSw
      go_simp
    simp only [Act.put, List.setIfInBounds_toArray, List.set_cons_zero, List.set_cons_succ, List.getElem_toArray, List.getElem_cons_zero, List.getElem_cons_succ]
    refine wpAnyH_take (i := 14) (v := (.pointer (some ⟨gv, 12, none⟩))) rfl (by kernel_rfl) (by kernel_rfl) (by kernel_rfl) (fun _ _ _ h => h) (Or.inl ⟨by rfl, ?_⟩) hS ?_
    · intro W hSw
      clear hS
      obtain ⟨s1, s2, s3, s4, s5⟩ := hSw
      go_simp
    simp only [Act.put, List.setIfInBounds_toArray, List.set_cons_zero, List.set_cons_succ, List.getElem_toArray, List.getElem_cons_zero, List.getElem_cons_succ]
    refine wpAnyH_take (i := 15) (v := (.pointer (some ⟨gv, 14, none⟩))) rfl (by kernel_rfl) (by kernel_rfl) (by kernel_rfl) (fun _ _ _ h => h) (Or.inl ⟨by rfl, ?_⟩) hS ?_
    · intro W hSw
      clear hS
      obtain ⟨s1, s2, s3, s4, s5⟩ := hSw
      go_simp
    simp only [Act.put, List.setIfInBounds_toArray, List.set_cons_zero, List.set_cons_succ, List.getElem_toArray, List.getElem_cons_zero, List.getElem_cons_succ]
    refine wpAnyH_take (i := 16) (v := (hdV hd)) rfl (by kernel_rfl) (by kernel_rfl) (by kernel_rfl) (fun _ _ _ h => h) (Or.inl ⟨by rfl, ?_⟩) hS ?_
    · intro W hSw
      clear hS
      obtain ⟨s1, s2, s3, s4, s5⟩ := hSw
      go_simp
    simp only [Act.put, List.setIfInBounds_toArray, List.set_cons_zero, List.set_cons_succ, List.getElem_toArray, List.getElem_cons_zero, List.getElem_cons_succ]
    refine wpAnyH_all (rs := [3, 18]) (by kernel_rfl) (by simp) ?_
    refine AllReadyH.cons rfl (fun K hK => ?_) (AllReadyH.cons rfl (fun K hK => ?_) AllReadyH.nil)
    · go_simp
      refine (HIS.out _).mono ?_
      rintro o q1 ⟨rfl, hq⟩
      have hSq : (fun V => V.cell? ⟨gv, 6, none⟩ = some (.int .i64 (ex : Int)) ∧ V.cell? ⟨gv, 7, none⟩ = some (.int .u32 x7) ∧ V.cell? ⟨gv, 8, none⟩ = some (hdV h8) ∧ V.cell? ⟨gv, 10, none⟩ = some (.int .u32 (id : Int)) ∧ V.cell? ⟨gv, 14, none⟩ = some (hdV hd)) q1 := HKP.out _ _ hS hq
      go_wp2_with fail
      refine hK.out _ _ hSq (fun hS2 => ?_)
      clear hS hK K hSq
      have hS := hS2
      clear hS2
      try simp only [Act.put, List.setIfInBounds_toArray, List.set_cons_zero, List.set_cons_succ]
      refine wpAnyH_take (i := 17) (v := (.agg [.bool ((ex : Int) == 1), .int .u32 (id : Int), .bool false, .int .i64 (hd.2.1 : Int), hdV hd].toArray)) rfl (by kernel_rfl) (by kernel_rfl) (by kernel_rfl) (fun _ _ _ h => h) (Or.inl ⟨by rfl, ?_⟩) hS ?_
      · intro W hSw
        clear hS
        obtain ⟨s1, s2, s3, s4, s5⟩ := hSw
        go_simp
      simp only [Act.put, List.setIfInBounds_toArray, List.set_cons_zero, List.set_cons_succ, List.getElem_toArray, List.getElem_cons_zero, List.getElem_cons_succ]
      refine wpAnyH_all (rs := [18]) (by kernel_rfl) (by simp) ?_
      refine AllReadyH.cons rfl (fun K hK => ?_) AllReadyH.nil
      go_simp
      have hSq : (fun V => V.cell? ⟨gv, 6, none⟩ = some (.int .i64 (ex : Int)) ∧ V.cell? ⟨gv, 7, none⟩ = some (.int .u32 x7) ∧ V.cell? ⟨gv, 8, none⟩ = some (hdV h8) ∧ V.cell? ⟨gv, 10, none⟩ = some (.int .u32 (id : Int)) ∧ V.cell? ⟨gv, 14, none⟩ = some (hdV hd)) (q1.alloc (.cells zFr.toArray 65)) := HKP.out _ _ hS ((Below.refl _ _).alloc (Nat.le_refl _) _)
      refine hK.out _ _ hSq (fun hS2 => ?_)
      clear hS hK K hSq
      have hS := hS2
      clear hS2
      try simp only [Act.put, List.setIfInBounds_toArray, List.set_cons_zero, List.set_cons_succ]
      refine wpAnyH_all (rs := [19]) (by kernel_rfl) (by simp) ?_
      refine AllReadyH.cons rfl (fun K hK => ?_) AllReadyH.nil
      have hB0 : blk (q1.alloc (.cells zFr.toArray 65)) q1.heap.size zFr 65 := blk.new q1 zFr 65
      have hBw : Below w.heap.size w (q1.alloc (.cells zFr.toArray 65)) := ((Below.refl _ _).drew.trans hq).alloc hq.size _
      have hNw : w.heap.size ≤ q1.heap.size := by first | exact Nat.le_refl _ | exact hq.size
      refine wp_store_mid (P := Tryz.prog) 65 (.tmp 5) (.tmp 23) rfl q1.heap.size 0 [.bool ((ex : Int) == 1), .int .u32 (id : Int), .bool false, .int .i64 (hd.2.1 : Int), hdV hd].toArray rfl rfl (hB0.there 0 5 (by simp)) sz29 (one65 ((ex : Int) == 1) (id : Int) false (hd.2.1 : Int) hd) ?_
      have hF := blk_all (vs := [.bool ((ex : Int) == 1), .int .u32 (id : Int), .bool false, .int .i64 (hd.2.1 : Int), hdV hd]) hB0 rfl
      have hFB : Below w.heap.size w (World.setCells ((q1.alloc (.cells zFr.toArray 65))) q1.heap.size 0 [.bool ((ex : Int) == 1), .int .u32 (id : Int), .bool false, .int .i64 (hd.2.1 : Int), hdV hd]) := setCells_below hNw 0 _ hBw
      have hSq : (fun V => V.cell? ⟨gv, 6, none⟩ = some (.int .i64 (ex : Int)) ∧ V.cell? ⟨gv, 7, none⟩ = some (.int .u32 x7) ∧ V.cell? ⟨gv, 8, none⟩ = some (hdV h8) ∧ V.cell? ⟨gv, 10, none⟩ = some (.int .u32 (id : Int)) ∧ V.cell? ⟨gv, 14, none⟩ = some (hdV hd)) (World.setCells ((q1.alloc (.cells zFr.toArray 65))) q1.heap.size 0 [.bool ((ex : Int) == 1), .int .u32 (id : Int), .bool false, .int .i64 (hd.2.1 : Int), hdV hd]) := HKS.out _ _ _ hNw hS
      refine hK.out _ _ hSq (fun hS2 => ?_)
      clear hS hK K hSq hS2
      refine wpAnyH_done (by kernel_rfl) ?_ _
      go_wp2_with fail
      go_meet
      case rel => exact ⟨q1.heap.size, rfl, hNw, hF, hFB⟩
    · go_simp
      have hSq : (fun V => V.cell? ⟨gv, 6, none⟩ = some (.int .i64 (ex : Int)) ∧ V.cell? ⟨gv, 7, none⟩ = some (.int .u32 x7) ∧ V.cell? ⟨gv, 8, none⟩ = some (hdV h8) ∧ V.cell? ⟨gv, 10, none⟩ = some (.int .u32 (id : Int)) ∧ V.cell? ⟨gv, 14, none⟩ = some (hdV hd)) (w.drew.alloc (.cells zFr.toArray 65)) := HKP.out _ _ hS ((Below.refl _ _).alloc (Nat.le_refl _) _)
      refine hK.out _ _ hSq (fun hS2 => ?_)
      clear hS hK K hSq
      have hS := hS2
      clear hS2
      try simp only [Act.put, List.setIfInBounds_toArray, List.set_cons_zero, List.set_cons_succ]
      refine wpAnyH_all (rs := [3]) (by kernel_rfl) (by simp) ?_
      refine AllReadyH.cons rfl (fun K hK => ?_) AllReadyH.nil
      go_simp
      refine (HIS.out _).mono ?_
      rintro o q1 ⟨rfl, hq⟩
      have hSq : (fun V => V.cell? ⟨gv, 6, none⟩ = some (.int .i64 (ex : Int)) ∧ V.cell? ⟨gv, 7, none⟩ = some (.int .u32 x7) ∧ V.cell? ⟨gv, 8, none⟩ = some (hdV h8) ∧ V.cell? ⟨gv, 10, none⟩ = some (.int .u32 (id : Int)) ∧ V.cell? ⟨gv, 14, none⟩ = some (hdV hd)) q1 := HKP.out _ _ hS hq
      go_wp2_with fail
      refine hK.out _ _ hSq (fun hS2 => ?_)
      clear hS hK K hSq
      have hS := hS2
      clear hS2
      try simp only [Act.put, List.setIfInBounds_toArray, List.set_cons_zero, List.set_cons_succ]
      refine wpAnyH_take (i := 17) (v := (.agg [.bool ((ex : Int) == 1), .int .u32 (id : Int), .bool false, .int .i64 (hd.2.1 : Int), hdV hd].toArray)) rfl (by kernel_rfl) (by kernel_rfl) (by kernel_rfl) (fun _ _ _ h => h) (Or.inl ⟨by rfl, ?_⟩) hS ?_
      · intro W hSw
        clear hS
        obtain ⟨s1, s2, s3, s4, s5⟩ := hSw
        go_simp
      simp only [Act.put, List.setIfInBounds_toArray, List.set_cons_zero, List.set_cons_succ, List.getElem_toArray, List.getElem_cons_zero, List.getElem_cons_succ]
      refine wpAnyH_all (rs := [19]) (by kernel_rfl) (by simp) ?_
      refine AllReadyH.cons rfl (fun K hK => ?_) AllReadyH.nil
      have hB0 : blk q1 w.heap.size zFr 65 := blk.below (w := w.drew.alloc (.cells zFr.toArray 65)) (blk.new w.drew zFr 65) hq
      have hBw : Below w.heap.size w q1 := ((Below.refl w.heap.size w).drew.alloc (Nat.le_refl _) _).trans (hq.mono ((Below.refl w.heap.size w).drew.alloc (Nat.le_refl _) _).size)
      have hNw : w.heap.size ≤ w.heap.size := by first | exact Nat.le_refl _ | exact hq.size
      refine wp_store_mid (P := Tryz.prog) 65 (.tmp 5) (.tmp 23) rfl w.heap.size 0 [.bool ((ex : Int) == 1), .int .u32 (id : Int), .bool false, .int .i64 (hd.2.1 : Int), hdV hd].toArray rfl rfl (hB0.there 0 5 (by simp)) sz29 (one65 ((ex : Int) == 1) (id : Int) false (hd.2.1 : Int) hd) ?_
      have hF := blk_all (vs := [.bool ((ex : Int) == 1), .int .u32 (id : Int), .bool false, .int .i64 (hd.2.1 : Int), hdV hd]) hB0 rfl
      have hFB : Below w.heap.size w (World.setCells (q1) w.heap.size 0 [.bool ((ex : Int) == 1), .int .u32 (id : Int), .bool false, .int .i64 (hd.2.1 : Int), hdV hd]) := setCells_below hNw 0 _ hBw
      have hSq : (fun V => V.cell? ⟨gv, 6, none⟩ = some (.int .i64 (ex : Int)) ∧ V.cell? ⟨gv, 7, none⟩ = some (.int .u32 x7) ∧ V.cell? ⟨gv, 8, none⟩ = some (hdV h8) ∧ V.cell? ⟨gv, 10, none⟩ = some (.int .u32 (id : Int)) ∧ V.cell? ⟨gv, 14, none⟩ = some (hdV hd)) (World.setCells (q1) w.heap.size 0 [.bool ((ex : Int) == 1), .int .u32 (id : Int), .bool false, .int .i64 (hd.2.1 : Int), hdV hd]) := HKS.out _ _ _ hNw hS
      refine hK.out _ _ hSq (fun hS2 => ?_)
      clear hS hK K hSq hS2
      refine wpAnyH_done (by kernel_rfl) ?_ _
      go_wp2_with fail
      go_meet
      case rel => exact ⟨w.heap.size, rfl, hNw, hF, hFB⟩
  case rest =>
  obtain ⟨N, rfl, hN, hF, hB⟩ := hcut
  obtain ⟨d0, d3⟩ := HC.out wc hB
  have z0 := hF.cell 0 _ rfl
  have z1 := hF.cell 1 _ rfl
  have z2 := hF.cell 2 _ rfl
  have z3 := hF.cell 3 _ rfl
  have z4 := hF.cell 4 _ rfl
  have HRC := hidYY (HR.out.below hB)
  have HKC := hidYY ((Ky.of (S := [55, 60, 67, 73]) (B := B) hB hBl).below (Below.refl wc.heap.size wc).drew (Nat.le_trans hBl hB.size))
  rw [HDL.out] at z3
  have HO := hidYY (order_any 0 ⟨S.ticks, 1, n, m, (ex : Int) == 1, id, false, d.length, d, 0, 0⟩ hd wc.drew (HRC.out.below (Below.refl _ _).drew) rfl hSo ((Ky.of (S := []) (Below.refl wc.heap.size wc).drew (Nat.le_refl _)).row ((Ky.of (S := []) hB (Nat.le_refl _)).row HDD.out.1 (by simp)) (by simp)) HDD.out.2.1 HDD.out.2.2)
  clear c0 c3 c6 c7 c8 c10 c14 hF hB
  go_wp2
  go_region_with (go_at_call 75; refine HO.out.mono ?_; rintro o w7 ⟨rfl, hE, hK⟩)
  all_goals
    go_wp2
    go_ret
    exact ⟨rfl, hE, HKC.out.trans hK⟩
end Go.Proofs.YtfbeaekddgpmmaaGreatDoor
