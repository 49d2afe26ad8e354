import Derived.Test.YtjmlalojfghkiaaDoorI
import Derived.Deep.RegionHeld3
namespace Go.Proofs.YtjmlalojfghkiaaDoor
open Go.RowKit
/-- what stays in the draw of l2take's last statement -/
structure tS (w : World) (B : Nat) (e : Bool) (i : Nat) (r : Bool) (d : Int) (g n k : Nat) (W : World) : Prop where
  p : blk W w.heap.size [.bool e, .int .u32 (i : Int), .bool r, .int .i64 d, .slice (some ⟨g, 0, none⟩) n k] 29
  r : blk W (w.heap.size + 1) ([] ++ [.bool false, .int .u32 0, .bool false, .int .i64 0, .slice none 0 0] ++ []) 29
  b : Below B w W
theorem last_val (x b : Nat) : IntKind.u8.wrap (IntKind.u8.wrap (2 * (x : Int)) + (b : Int)) = (((2 * x + b) % 256 : Nat) : Int) := by
  rw [IntKind.wrap_u8, IntKind.wrap_u8]; omega
theorem bv_set (l : List Nat) (j x : Nat) : bv (l.set j x) = (bv l).set j (.int .u8 (x : Int)) := by simp [bv, List.map_set]
set_option maxHeartbeats 4000000 in
set_option maxRecDepth 20000 in
theorem l2take_last (w : World) (B : Nat) (hB : B ≤ w.heap.size) (e : Bool) (i : Nat) (r : Bool) (d : Int) (g m k : Nat) (l : List Nat) (ho : ownsB w B (.slice (some ⟨g, 0, none⟩) (m + 1) k) l) (hn : m + 1 = l.length) (hn8 : m ≤ 7) (t : Nat) (ht : t % 8 ≠ 0) (ht1 : t ≤ 100) (b : Nat) (hb : b < 2) :
    Calls Tryd.prog 23 #[frV e i r d (some ⟨g, 0, none⟩) (m + 1) k, .int .i64 9, .int .i64 (t : Int), .int .i64 (b : Int)] w fun o w' => o = .returned (frV e i r d (some ⟨g, 0, none⟩) (m + 1) k) ∧ ownsB w' B (.slice (some ⟨g, 0, none⟩) (m + 1) k) (l.set m ((2 * l.getD m 0 + b) % 256)) ∧ Below B w w' ∧ (∀ q, q ≠ g → q < w.heap.size → w'.heap[q]? = w.heap[q]?) := by
  have hgl := World.ownsRow.lt ho g rfl
  have HGL : Hid (B ≤ g ∧ g < w.heap.size) := hgl
  have h1 : w.ownsRow B 5 1 (.slice (some ⟨g, 0, none⟩) (m + 1) k) (m + 1) (bv l) := by unfold ownsB at ho; rw [← hn] at ho; exact ho
  have HC : Hid (w.cell? ⟨g, m, none⟩ = some (.int .u8 ((l.getD m 0 : Nat) : Int)) ∧ w.frozen? ⟨g, m, none⟩ = false) := by
    have h2 := World.ownsRow.cellAt h1 m (by omega)
    have h3 : m < l.length := by omega
    rw [bv_at l m h3] at h2
    simp only [List.getD, List.getElem?_eq_getElem h3, Option.getD_some]
    exact ⟨h2, World.ownsRow.frozenAt h1 m⟩
  have HO : Hid (w.ownsRow B 5 1 (.slice (some ⟨g, 0, none⟩) (m + 1) k) (m + 1) (bv l)) := h1
  have HL : Hid (m + 1 = l.length) := hn
  have hkk : m + 1 ≤ k := by
    rcases h1.2 with ⟨e, _⟩ | ⟨g1, cap, cur, hv', hb, hg, hcp, hmx, hsz, htk⟩
    · cases e
    · cases hv'; exact hcp
  generalize hX : l.getD m 0 = x at *
  have HE := last_val x b
  generalize (2 * x + b) % 256 = y at *
  have hS0 : tS w B e i r d g (m + 1) k ((w.alloc (.cells #[.bool e, .int .u32 (i : Int), .bool r, .int .i64 d, .slice (some ⟨g, 0, none⟩) (m + 1) k] 29)).alloc (.cells #[.bool false, .int .u32 0, .bool false, .int .i64 0, .slice none 0 0] 29)) := by
    refine ⟨(blk.new w _ 29).alloc _, ?_, (((Below.refl w.heap.size w).alloc (Nat.le_refl _) _).alloc (by simp) _).mono hB⟩
    have := blk.new (w.alloc (.cells #[.bool e, .int .u32 (i : Int), .bool r, .int .i64 d, .slice (some ⟨g, 0, none⟩) (m + 1) k] 29)) [.bool false, .int .u32 0, .bool false, .int .i64 0, .slice none 0 0] 29
    simpa using this
  have HS0 : Hid (tS w B e i r d g (m + 1) k ((w.alloc (.cells #[.bool e, .int .u32 (i : Int), .bool r, .int .i64 d, .slice (some ⟨g, 0, none⟩) (m + 1) k] 29)).alloc (.cells #[.bool false, .int .u32 0, .bool false, .int .i64 0, .slice none 0 0] 29)) ∧ Below w.heap.size w ((w.alloc (.cells #[.bool e, .int .u32 (i : Int), .bool r, .int .i64 d, .slice (some ⟨g, 0, none⟩) (m + 1) k] 29)).alloc (.cells #[.bool false, .int .u32 0, .bool false, .int .i64 0, .slice none 0 0] 29))) := ⟨hS0, ((Below.refl w.heap.size w).alloc (Nat.le_refl _) _).alloc (by simp) _⟩
  have h8 : ((t : Int)).tmod 8 ≠ 0 := by rw [Int.tmod_eq_emod_of_nonneg (by omega)]; omega
  clear ho hn hgl hS0 hX h1
  go_enter Tryd.func23, Tryd.ntmps23
  go_wp2_with fail
  refine wp_region_held (S := tS w B e i r d g (m + 1) k) (by kernel_rfl) ?_
  generalize hW2 : (w.alloc (.cells #[.bool e, .int .u32 (i : Int), .bool r, .int .i64 d, .slice (some ⟨g, 0, none⟩) (m + 1) k] 29)).alloc (.cells #[.bool false, .int .u32 0, .bool false, .int .i64 0, .slice none 0 0] 29) = W2 at *
  obtain ⟨wd, hwd⟩ : ∃ wd, wd = W2.drew := ⟨_, rfl⟩
  change wpAnyH _ _ _ _ _ _ _ _ W2.drew
  rw [← hwd]
  have hwb : Below W2.heap.size W2 wd := hwd ▸ (Below.refl _ _).drew
  have hs : tS w B e i r d g (m + 1) k wd := ⟨HS0.out.1.p.below hwb, HS0.out.1.r.below hwb, HS0.out.1.b.trans (hwb.mono (Nat.le_trans hB HS0.out.2.size))⟩
  have HWD : Hid (Below w.heap.size w wd) := HS0.out.2.trans (hwb.mono HS0.out.2.size)
  have hc := (HWD.out.cell (p := ⟨g, m, none⟩) HGL.out.2).trans HC.out.1
  have hfz := (HWD.out.frozen (p := ⟨g, m, none⟩) HGL.out.2).trans HC.out.2
  have HO2 : Hid (wd.ownsRow B 5 1 (.slice (some ⟨g, 0, none⟩) (m + 1) k) (m + 1) (bv l)) := ownsRow_keep HO.out (HWD.out.block g HGL.out.2)
  clear HS0 hwb hwd hW2 HO HC
  refine wpAnyH_take (i := 0) (v := .pointer (some ⟨w.heap.size, 4, none⟩)) rfl (by kernel_rfl) (by kernel_rfl) (by kernel_rfl) (fun _ _ _ h => h) (Or.inl ⟨by rfl, ?_⟩) hs ?_
  · intro W hW
    clear hs
    go_simp
  simp only [Act.put, List.setIfInBounds_toArray, List.set_cons_zero, List.set_cons_succ, List.getElem_toArray, List.getElem_cons_zero]
  refine wpAnyH_take (i := 1) (v := .slice (some ⟨g, 0, none⟩) (m + 1) k) rfl (by kernel_rfl) (by kernel_rfl) (by kernel_rfl) (fun _ _ _ h => h) (Or.inl ⟨by rfl, ?_⟩) hs ?_
  · intro W hW
    clear hs
    have z4 := hW.p.cell 4 _ rfl
    go_simp
  simp only [Act.put, List.setIfInBounds_toArray, List.set_cons_zero, List.set_cons_succ, List.getElem_toArray, List.getElem_cons_zero, List.getElem_cons_succ]
  refine wpAnyH_take (i := 2) (v := .int .i64 (m : Int)) rfl (by kernel_rfl) (by kernel_rfl) (by kernel_rfl) (fun _ _ _ h => h) (Or.inl ⟨by rfl, ?_⟩) hs ?_
  · intro W hW
    clear hs
    go_simp
  simp only [Act.put, List.setIfInBounds_toArray, List.set_cons_zero, List.set_cons_succ, List.getElem_toArray, List.getElem_cons_zero, List.getElem_cons_succ]
  refine wpAnyH_take (i := 3) (v := .pointer (some ⟨w.heap.size, 4, none⟩)) rfl (by kernel_rfl) (by kernel_rfl) (by kernel_rfl) (fun _ _ _ h => h) (Or.inl ⟨by rfl, ?_⟩) hs ?_
  · intro W hW
    clear hs
    go_simp
  simp only [Act.put, List.setIfInBounds_toArray, List.set_cons_zero, List.set_cons_succ, List.getElem_toArray, List.getElem_cons_zero, List.getElem_cons_succ]
  refine wpAnyH_take (i := 4) (v := .slice (some ⟨g, 0, none⟩) (m + 1) k) rfl (by kernel_rfl) (by kernel_rfl) (by kernel_rfl) (fun _ _ _ h => h) (Or.inl ⟨by rfl, ?_⟩) hs ?_
  · intro W hW
    clear hs
    have z4 := hW.p.cell 4 _ rfl
    go_simp
  simp only [Act.put, List.setIfInBounds_toArray, List.set_cons_zero, List.set_cons_succ, List.getElem_toArray, List.getElem_cons_zero, List.getElem_cons_succ]
  refine wpAnyH_take (i := 5) (v := .int .i64 (m : Int)) rfl (by kernel_rfl) (by kernel_rfl) (by kernel_rfl) (fun _ _ _ h => h) (Or.inl ⟨by rfl, ?_⟩) hs ?_
  · intro W hW
    clear hs
    go_simp
  simp only [Act.put, List.setIfInBounds_toArray, List.set_cons_zero, List.set_cons_succ, List.getElem_toArray, List.getElem_cons_zero, List.getElem_cons_succ]
  refine wpAnyH_take (i := 6) (v := .pointer (some ⟨g, m, none⟩)) rfl (by kernel_rfl) (by kernel_rfl) (by kernel_rfl) (fun _ _ _ h => h) (Or.inl ⟨by rfl, ?_⟩) hs ?_
  · intro W hW
    clear hs
    go_simp
    intro h
    omega
  simp only [Act.put, List.setIfInBounds_toArray, List.set_cons_zero, List.set_cons_succ, List.getElem_toArray, List.getElem_cons_zero, List.getElem_cons_succ]
  refine wpAnyH_take (i := 9) (v := .int .i64 (b : Int)) rfl (by kernel_rfl) (by kernel_rfl) (by kernel_rfl) (fun _ _ _ h => h) (Or.inl ⟨by rfl, ?_⟩) hs ?_
  · intro W hW
    clear hs
    go_simp
  simp only [Act.put, List.setIfInBounds_toArray, List.set_cons_zero, List.set_cons_succ, List.getElem_toArray, List.getElem_cons_zero, List.getElem_cons_succ]
  refine wpAnyH_take (i := 10) (v := .int .u8 (b : Int)) rfl (by kernel_rfl) (by kernel_rfl) (by kernel_rfl) (fun _ _ _ h => h) (Or.inl ⟨by rfl, ?_⟩) hs ?_
  · intro W hW
    clear hs
    go_simp
    rw [IntKind.wrap_u8]
    omega
  simp only [Act.put, List.setIfInBounds_toArray, List.set_cons_zero, List.set_cons_succ, List.getElem_toArray, List.getElem_cons_zero, List.getElem_cons_succ]
  refine wpAnyH_all (rs := [7]) (by kernel_rfl) (by simp) ?_
  refine AllReadyH.cons rfl (fun K hK => ?_) AllReadyH.nil
  go_simp
  refine hK.out _ _ hs (fun hs2 => ?_)
  clear hK K hs2
  refine wpAnyH_take (i := 8) (v := .int .u8 (IntKind.u8.wrap (2 * (x : Int)))) rfl (by kernel_rfl) (by kernel_rfl) (by kernel_rfl) (fun _ _ _ h => h) (Or.inl ⟨by rfl, ?_⟩) hs ?_
  · intro W hW
    clear hs
    go_simp
  simp only [Act.put, List.setIfInBounds_toArray, List.set_cons_zero, List.set_cons_succ, List.getElem_toArray, List.getElem_cons_zero, List.getElem_cons_succ]
  refine wpAnyH_take (i := 11) (v := .int .u8 (y : Int)) rfl (by kernel_rfl) (by kernel_rfl) (by kernel_rfl) (fun _ _ _ h => h) (Or.inl ⟨by rfl, ?_⟩) hs ?_
  · intro W hW
    clear hs
    go_simp
  simp only [Act.put, List.setIfInBounds_toArray, List.set_cons_zero, List.set_cons_succ, List.getElem_toArray, List.getElem_cons_zero, List.getElem_cons_succ]
  refine wpAnyH_take (i := 12) (v := .pointer (some ⟨g, m, none⟩)) rfl (by kernel_rfl) (by kernel_rfl) (by kernel_rfl) (fun _ _ _ h => h) (Or.inl ⟨by rfl, ?_⟩) hs ?_
  · intro W hW
    clear hs
    go_simp
    intro h
    omega
  simp only [Act.put, List.setIfInBounds_toArray, List.set_cons_zero, List.set_cons_succ, List.getElem_toArray, List.getElem_cons_zero, List.getElem_cons_succ]
  refine wpAnyH_all (rs := [13]) (by kernel_rfl) (by simp) ?_
  refine AllReadyH.cons rfl (fun K hK => ?_) AllReadyH.nil
  go_simp
  have hgl := HGL.out
  have hs9 : tS w B e i r d g (m + 1) k (wd.setCell ⟨g, m, none⟩ (.int .u8 (y : Int))) := ⟨hs.p.setOther (by omega) _ _, hs.r.setOther (by omega) _ _, hs.b.setCell (by show B ≤ g; omega) _⟩
  refine hK.out _ _ hs9 (fun hs2 => ?_)
  clear hK K hs2 hs
  refine wpAnyH_done (by kernel_rfl) ?_ _
  have HS9 : Hid _ := hs9
  have HK9 : Hid (∀ q, q ≠ g → q < w.heap.size → (wd.setCell ⟨g, m, none⟩ (.int .u8 (y : Int))).heap[q]? = w.heap[q]?) := fun q h1 h2 => (heap_setCell_other _ _ _ _ (by exact h1)).trans (HWD.out.block q h2)
  have HO9 : Hid ((wd.setCell ⟨g, m, none⟩ (.int .u8 (y : Int))).ownsRow B 5 1 (.slice (some ⟨g, 0, none⟩) (m + 1) k) (m + 1) ((bv l).set m (.int .u8 (y : Int)))) := (World.ownsRow.stored HO2.out m _).1
  generalize wd.setCell ⟨g, m, none⟩ (.int .u8 (y : Int)) = w9 at *
  clear hs9 hc hfz
  go_wp2_with (first
    | (refine wpList_load_mid (P := Tryd.prog) rfl 29 (.tmp 4) rfl w.heap.size 0 rfl _ _ HS9.out.p.load Tryd.underlying29 rfl sz29 ?_)
    | (refine wpList_store_mid (P := Tryd.prog) rfl 29 (.tmp 8) (.tmp 74) rfl (w.heap.size + 1) 0 #[.bool e, .int .u32 (i : Int), .bool r, .int .i64 d, .slice (some ⟨g, 0, none⟩) (m + 1) k] rfl rfl (HS9.out.r.there 0 5 (by simp)) sz29 (one5 _ _ _ _ _ _ _) ?_; generalize hW8 : World.setCells w9 (w.heap.size + 1) 0 _ = w8; have HW8 : Hid (World.setCells w9 (w.heap.size + 1) 0 [.bool e, .int .u32 (i : Int), .bool r, .int .i64 d, .slice (some ⟨g, 0, none⟩) (m + 1) k] = w8) := hW8; clear hW8))
  have e8 := HW8.out
  have hF : blk w8 (w.heap.size + 1) [.bool e, .int .u32 (i : Int), .bool r, .int .i64 d, .slice (some ⟨g, 0, none⟩) (m + 1) k] 29 := e8 ▸ blk.put [] [.bool false, .int .u32 0, .bool false, .int .i64 0, .slice none 0 0] [] _ HS9.out.r rfl
  have hL := run_loadVar_mid (P := Tryd.prog) w8 (w.heap.size + 1) 0 29 _ _ hF.load Tryd.underlying29 rfl sz29
  refine bodyPost_ret (v := frV e i r d (some ⟨g, 0, none⟩) (m + 1) k) (results_cell Tryd.results23 _ w8 (w.heap.size + 1) _ rfl hL) rfl ?_
  refine ⟨rfl, ?_, ?_, fun q h1 h2 => ?_⟩
  · have h1 := ownsRow_keep (w' := w8) HO9.out (by rw [← e8, setCells_other _ _ (by omega)])
    unfold ownsB
    rw [bv_set, List.length_set, ← HL.out]
    exact h1
  · rw [← e8]
    exact setCells_below (by omega) _ _ HS9.out.b
  · rw [← e8, setCells_other _ _ (by omega)]
    exact HK9.out q h1 h2
end Go.Proofs.YtjmlalojfghkiaaDoor
