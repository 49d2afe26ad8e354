import Derived.Test.YtihndnclplkleaaHQ
import Derived.Test.YtihndnclplkleaaHR
import Derived.Deep.RegionHeld3
namespace Go.Proofs.Ytihndnclplkleaa
open Go.RowKit
/-- the cells of a core -/
def coL (C : Co) (s : Sl) : List Value := [.int .i64 C.p, .int .i64 C.ct, .int .i64 C.lv, .bool C.wk, .bool C.ov, .bool C.ow, .bool C.tx, .bool C.ak, .int .i64 C.rn, .int .i64 C.te, .int .i64 C.re, .int .i64 C.ho.c0, .int .i64 C.ho.c1, .int .i64 C.ho.c2, .int .i64 C.ho.c3, .slice s.a1 s.n1 s.k1, .slice s.a2 s.n2 s.k2, .slice s.a3 s.n3 s.k3, .slice s.a4 s.n4 s.k4, .int .i64 C.ho.lo, .int .i64 C.ho.st]
theorem coV_L (C : Co) (s : Sl) : coV C s = .agg (coL C s).toArray := rfl
theorem coL_len (C : Co) (s : Sl) : (coL C s).length = 21 := rfl
theorem coL_one (C : Co) (s : Sl) : (coL C s).toArray.all (·.oneCell') = true := all_oneCell_toArray (by simp [coL, Value.oneCell'])
theorem sz57 : (Try.prog.info? 57).map (·.size) = some 21 := by kernel_rfl
theorem sz57L (C : Co) (s : Sl) : (Try.prog.info? 57).map (·.size) = some (coL C s).length := sz57
theorem sz61L (C : Co) (s : Sl) : (Try.prog.info? 61).map (·.size) = some (coL C s).length := sz61
theorem sz61A (C : Co) (s : Sl) : (Try.prog.info? 61).map (·.size) = some (coL C s).toArray.size := sz61
attribute [irreducible] coL
theorem law_x0 {C : Co} {s s4 : Sl} {w w3 w4 w5 : World} {b : Nat} (hp : w4.heap[w.heap.size]? = some (.cells (coL C s).toArray 57)) (hb : w4.heap.size = b) (hs : St w3.heap.size w4 (fun W => isHo W C.ho s4)) (hB : Below w.heap.size w w4)
    (e : World.setCells (w4.alloc (.cells [.int .i64 0, .int .i64 0, .int .i64 0, .bool false, .bool false, .bool false, .bool false, .bool false, .int .i64 0, .int .i64 0, .int .i64 0, .int .i64 0, .int .i64 0, .int .i64 0, .int .i64 0, .slice none 0 0, .slice none 0 0, .slice none 0 0, .slice none 0 0, .int .i64 0, .int .i64 0].toArray 61)) b 0 (coL C s4).toArray.toList = w5) : w5.heap[w.heap.size]? = some (.cells (coL C s).toArray 57) ∧ w5.heap[b]? = some (.cells (coL C s4).toArray 61) ∧ isHo w5 C.ho s4 ∧ Below w.heap.size w w5 := by
  subst hb
  subst e
  have hz := lt_of_block hp
  have key : ∀ k, k < w4.heap.size → (World.setCells (w4.alloc (.cells [.int .i64 0, .int .i64 0, .int .i64 0, .bool false, .bool false, .bool false, .bool false, .bool false, .int .i64 0, .int .i64 0, .int .i64 0, .int .i64 0, .int .i64 0, .int .i64 0, .int .i64 0, .slice none 0 0, .slice none 0 0, .slice none 0 0, .slice none 0 0, .int .i64 0, .int .i64 0].toArray 61)) w4.heap.size 0 (coL C s4).toArray.toList).heap[k]? = w4.heap[k]? := fun k hk => (setCells_other _ k (by omega) _ _ 0).trans (Below.heap_alloc w4 _ k hk)
  refine ⟨(key _ hz).trans hp, ?_, hs _ (fun k _ hk => key k hk), ?_⟩
  · exact setCells_block w4.heap.size 61 (coL C s4) [.int .i64 0, .int .i64 0, .int .i64 0, .bool false, .bool false, .bool false, .bool false, .bool false, .int .i64 0, .int .i64 0, .int .i64 0, .int .i64 0, .int .i64 0, .int .i64 0, .int .i64 0, .slice none 0 0, .slice none 0 0, .slice none 0 0, .slice none 0 0, .int .i64 0, .int .i64 0] [] [] _ (by rw [coL_len]; rfl) (heap_alloc_new w4 _) |>.trans (by simp)
  · rw [setCells_row]
    exact setRow_below _ _ hB.size w _ _ _ (hB.alloc hB.size _)
theorem inv_be (w : World) (C : Co) (s s4 : Sl) (b : Nat) (W W' : World) (h : W.heap[w.heap.size]? = some (.cells (coL C s).toArray 57) ∧ W.heap[b]? = some (.cells (coL C s4).toArray 61) ∧ isHo W C.ho s4 ∧ Below w.heap.size w W) (hb : Below W.heap.size W W') : (fun W => W.heap[w.heap.size]? = some (.cells (coL C s).toArray 57) ∧ W.heap[b]? = some (.cells (coL C s4).toArray 61) ∧ isHo W C.ho s4 ∧ Below w.heap.size w W) W' :=
  ⟨(hb.block _ (lt_of_block h.1)).trans h.1, (hb.block _ (lt_of_block h.2.1)).trans h.2.1, h.2.2.1.below hb, h.2.2.2.trans (hb.mono h.2.2.2.size)⟩
theorem inv_h {w : World} {C : Co} {s s4 : Sl} {b : Nat} {W : World} (h : W.heap[w.heap.size]? = some (.cells (coL C s).toArray 57) ∧ W.heap[b]? = some (.cells (coL C s4).toArray 61) ∧ isHo W C.ho s4 ∧ Below w.heap.size w W) : isHo W C.ho s4 := h.2.2.1
theorem inv_b {w : World} {C : Co} {s s4 : Sl} {b : Nat} {W : World} (h : W.heap[w.heap.size]? = some (.cells (coL C s).toArray 57) ∧ W.heap[b]? = some (.cells (coL C s4).toArray 61) ∧ isHo W C.ho s4 ∧ Below w.heap.size w W) : Below w.heap.size w W := h.2.2.2
set_option maxHeartbeats 4000000 in
set_option maxRecDepth 40000 in
/-- laws.FnExactErrorState -/
theorem lawErrorState (C : Co) (s : Sl) (w : World) (h : isHo w C.ho s) (hn : C.ho.le 9223372036854775807) :
    Calls Try.prog 5 #[coV C s] w fun o w' => o = .returned (.bool true) ∧ Below w.heap.size w w' := by
  rw [coV_L]
  have HS : Hid (∀ X, Below w.heap.size w X → Calls Try.prog 21 #[.agg (coL C s).toArray, .int .i64 1048576] X fun o w' => ∃ z : Int, o = .returned (.int .i64 z) ∧ Below X.heap.size X w' ∧ (z = -1 ∨ ∃ m' : Nat, z = (m' : Int) ∧ C.ho.le 1048576)) := by
    intro X hX
    rw [← coV_L]
    exact szCore_any X C s (h.below hX) hn
  have HT : Hid (C.ho.le 1048576 → ∀ X, Below w.heap.size w X → Calls Try.prog 23 #[.agg (coL C s).toArray] X fun o w' => ∃ s', o = .returned (.agg (coL C s').toArray) ∧ St X.heap.size w' (fun W => isHo W C.ho s') ∧ Below X.heap.size X w') := by
    intro hm X hX
    rw [← coV_L]
    refine (toCore_any X C s (h.below hX) hm).mono ?_
    rintro o w' ⟨s', rfl, h1, h2⟩
    exact ⟨s', by rw [coV_L], h1, h2⟩
  have HE : Hid (∀ X s', Calls Try.prog 22 #[.agg (coL C s').toArray] X fun o w' => o = .returned (.int .i64 (esZ C.p C.te C.re)) ∧ Below X.heap.size X w') := by
    intro X s'
    rw [← coV_L]
    exact specES_any X C s'
  have HI : Hid (∀ X s', Calls Try.prog 24 #[.agg (coL C s').toArray] X fun o w' => o = .returned (.int .i64 (esZ C.p C.te C.re)) ∧ Below X.heap.size X w') := by
    intro X s'
    rw [← coV_L]
    exact implES_any X C s'
  have HQ : Hid (C.ho.le 1048576 → ∀ X s1 s2, isHo X C.ho s1 → isHo X C.ho s2 → Calls Try.prog 25 #[.agg (coL C s1).toArray, .agg (coL C s2).toArray] X fun o w' => o = .returned (.bool true) ∧ Below X.heap.size X w') := by
    intro hm X s1 s2 h1 h2
    rw [← coV_L, ← coV_L]
    exact eqCore_same X C s1 s2 h1 h2 hm
  clear h hn
  generalize esZ C.p C.te C.re = z0 at *
  have P0 : (w.alloc (.cells (coL C s).toArray 57)).heap[w.heap.size]? = some (.cells (coL C s).toArray 57) := heap_alloc_new w _
  have hA : Below w.heap.size w (w.alloc (.cells (coL C s).toArray 57)) := (Below.refl _ _).alloc (Nat.le_refl _) _
  have HA : Hid (Below w.heap.size w (w.alloc (.cells (coL C s).toArray 57))) := hA
  have hzA : w.heap.size < (w.alloc (.cells (coL C s).toArray 57)).heap.size := by simp
  have HZA : Hid (w.heap.size < (w.alloc (.cells (coL C s).toArray 57)).heap.size) := hzA
  clear hA hzA
  go_enter Try.func5, Try.ntmps5
  go_wp2_with (first | (refine wpList_load_mid (P := Try.prog) rfl 57 (.tmp 1) rfl w.heap.size 0 rfl (coL C s) _ (range_block (by assumption)) Try.underlying57 rfl (sz57L C s) ?_))
  refine (HS.out _ HA.out).mono ?_
  rintro o w1 ⟨z, rfl, b1, h1⟩
  have B1 : Below w.heap.size w w1 := HA.out.trans (b1.mono (Nat.le_of_lt HZA.out))
  have P1 : w1.heap[w.heap.size]? = some (.cells (coL C s).toArray 57) := (b1.block _ HZA.out).trans P0
  have HB1 : Hid (Below w.heap.size w w1) := B1
  clear b1 B1 P0
  rcases h1 with rfl | ⟨m', rfl, hle⟩
  · clear P1
    go_wp2_with fail
    go_ret
    exact ⟨rfl, HB1.out⟩
  · have HLE : Hid (C.ho.le 1048576) := hle
    clear hle
    go_wp2_with (first | (refine wpList_load_mid (P := Try.prog) rfl 57 (.tmp 1) rfl w.heap.size 0 rfl (coL C s) _ (range_block (by assumption)) Try.underlying57 rfl (sz57L C s) ?_))
    refine (HT.out HLE.out _ HB1.out).mono ?_
    rintro o w2 ⟨s2, rfl, S2, b2⟩
    have P2 : w2.heap[w.heap.size]? = some (.cells (coL C s).toArray 57) := (b2.block _ (lt_of_block P1)).trans P1
    have HB2 : Hid (Below w.heap.size w w2) := HB1.out.trans (b2.mono HB1.out.size)
    clear S2 b2 P1
    go_wp2_with fail
    refine (HE.out w2 s2).mono ?_
    rintro o w3 ⟨rfl, b3⟩
    have P3 : w3.heap[w.heap.size]? = some (.cells (coL C s).toArray 57) := (b3.block _ (lt_of_block P2)).trans P2
    have HB3 : Hid (Below w.heap.size w w3) := HB2.out.trans (b3.mono HB2.out.size)
    clear b3 P2
    go_wp2_with (first | (refine wpList_load_mid (P := Try.prog) rfl 57 (.tmp 1) rfl w.heap.size 0 rfl (coL C s) _ (range_block (by assumption)) Try.underlying57 rfl (sz57L C s) ?_))
    refine (HT.out HLE.out _ HB3.out).mono ?_
    rintro o w4 ⟨s4, rfl, S4, b4⟩
    have P4 : w4.heap[w.heap.size]? = some (.cells (coL C s).toArray 57) := (b4.block _ (lt_of_block P3)).trans P3
    have HB4 : Hid (Below w.heap.size w w4) := HB3.out.trans (b4.mono HB3.out.size)
    have HS4 : Hid (St w3.heap.size w4 (fun W => isHo W C.ho s4)) := S4
    clear b4 P3 S4
    have HP4 : Hid (w4.heap[w.heap.size]? = some (.cells (coL C s).toArray 57)) := P4
    clear P4
    generalize hb : w4.heap.size = b at *
    have HBB : Hid (w4.heap.size = b) := hb
    have HN : Hid ((w4.alloc (.cells [.int .i64 0, .int .i64 0, .int .i64 0, .bool false, .bool false, .bool false, .bool false, .bool false, .int .i64 0, .int .i64 0, .int .i64 0, .int .i64 0, .int .i64 0, .int .i64 0, .int .i64 0, .slice none 0 0, .slice none 0 0, .slice none 0 0, .slice none 0 0, .int .i64 0, .int .i64 0].toArray 61)).heap[b]? = some (.cells [.int .i64 0, .int .i64 0, .int .i64 0, .bool false, .bool false, .bool false, .bool false, .bool false, .int .i64 0, .int .i64 0, .int .i64 0, .int .i64 0, .int .i64 0, .int .i64 0, .int .i64 0, .slice none 0 0, .slice none 0 0, .slice none 0 0, .slice none 0 0, .int .i64 0, .int .i64 0].toArray 61)) := by rw [← hb]; exact heap_alloc_new w4 _
    go_wp2_with (first | (refine wpList_store_mid (P := Try.prog) rfl 61 (.tmp 5) (.tmp 16) rfl b 0 (coL C s4).toArray rfl rfl (there_block HN.out 0 (coL C s4).toArray.size (by rw [List.size_toArray, coL_len]; decide)) (sz61A C s4) (coL_one C s4) ?_; generalize hW5 : World.setCells (w4.alloc _) b 0 _ = w5; obtain ⟨P5, X5, O5, B5⟩ := law_x0 HP4.out HBB.out HS4.out HB4.out hW5; have HO5 : Hid (isHo w5 C.ho s4) := O5; have HB5 : Hid (Below w.heap.size w w5) := B5; clear O5 B5 hW5) | (refine wpList_load_mid (P := Try.prog) rfl 61 (.tmp 5) rfl b 0 rfl (coL C s4) _ (range_block (by assumption)) Try.underlying61 rfl (sz61L C s4) ?_))
    refine (HI.out w5 s4).mono ?_
    rintro o w6 ⟨rfl, b6⟩
    have hS0 : w6.heap[w.heap.size]? = some (.cells (coL C s).toArray 57) ∧ w6.heap[b]? = some (.cells (coL C s4).toArray 61) ∧ isHo w6 C.ho s4 ∧ Below w.heap.size w w6 := inv_be w C s s4 b w5 w6 ⟨P5, X5, HO5.out, HB5.out⟩ b6
    have HB6 : Hid (Below w.heap.size w w6) := hS0.2.2.2
    clear P5 X5 b6 hb
    go_wp2_with fail
    refine wp_region_held (S := (fun W => W.heap[w.heap.size]? = some (.cells (coL C s).toArray 57) ∧ W.heap[b]? = some (.cells (coL C s4).toArray 61) ∧ isHo W C.ho s4 ∧ Below w.heap.size w W)) (by kernel_rfl) ?_
    have hS := inv_be w C s s4 b w6 w6.drew hS0 (Below.refl _ _).drew
    refine wpAnyH_take (i := 0) (v := .agg (coL C s4).toArray) rfl (by kernel_rfl) (by kernel_rfl) (by kernel_rfl) (fun _ _ _ h => h) (yieldsIf_load_mid (by rfl) 61 (.tmp 5) rfl b 0 rfl (coL C s4) _ (fun W h => range_block h.2.1) Try.underlying61 rfl (sz61L C s4)) hS ?_
    simp only [Act.put, List.setIfInBounds_toArray, List.set_cons_zero, List.set_cons_succ, List.getElem_toArray, List.getElem_cons_zero]
    refine wpAnyH_take (i := 1) (v := .agg (coL C s).toArray) rfl (by kernel_rfl) (by kernel_rfl) (by kernel_rfl) (fun _ _ _ h => h) (yieldsIf_load_mid (by rfl) 57 (.tmp 1) rfl w.heap.size 0 rfl (coL C s) _ (fun W h => range_block h.1) Try.underlying57 rfl (sz57L C s)) hS ?_
    simp only [Act.put, List.setIfInBounds_toArray, List.set_cons_zero, List.set_cons_succ, List.getElem_toArray, List.getElem_cons_zero, List.getElem_cons_succ]
    refine wpAnyH_all (rs := [2]) (by kernel_rfl) (by simp) ?_
    refine AllReadyH.cons rfl (fun K hK => ?_) AllReadyH.nil
    go_simp
    refine (HT.out HLE.out _ (inv_b hS)).mono ?_
    rintro o w7 ⟨s7, rfl, S7, b7⟩
    have HS7 : Hid (isHo w7 C.ho s7) := S7.now
    have hS7 := inv_be w C s s4 b _ w7 hS b7
    clear S7 b7 hS0
    go_wp2_with fail
    refine hK.out _ _ hS7 (fun hS2 => ?_)
    clear hS hK K hS7
    have hS := hS2
    clear hS2
    refine wpAnyH_all (rs := [3]) (by kernel_rfl) (by simp) ?_
    refine AllReadyH.cons rfl (fun K hK => ?_) AllReadyH.nil
    go_simp
    refine (HQ.out HLE.out _ s4 s7 (inv_h hS) HS7.out).mono ?_
    rintro o w8 ⟨rfl, b8⟩
    have hS8 := inv_be w C s s4 b _ w8 hS b8
    clear b8
    go_wp2_with fail
    refine hK.out _ _ hS8 (fun hS2 => ?_)
    clear hS hK K hS8
    have hS := hS2
    clear hS2
    refine wpAnyH_take (i := 4) (v := .bool false) rfl (by kernel_rfl) (by kernel_rfl) (by kernel_rfl) (fun _ _ _ h => h) (Or.inl ⟨by rfl, ?_⟩) hS ?_
    · intro W hSw
      clear hS
      go_simp
    simp only [Act.put, List.setIfInBounds_toArray, List.set_cons_zero, List.set_cons_succ, List.getElem_toArray, List.getElem_cons_zero, List.getElem_cons_succ]
    refine wpAnyH_done (by kernel_rfl) ?_ _
    have HB8 : Hid (Below w.heap.size w w8) := inv_b hS
    clear hS
    go_wp2
    go_ret
    exact ⟨rfl, HB8.out⟩
end Go.Proofs.Ytihndnclplkleaa
