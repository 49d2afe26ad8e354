import Derived.Test.YtaamahohdnbpiaaGreatB15
import Derived.Deep.RegionHeld3
import Derived.Test.YtaamahohdnbpiaaGreatB02
import Derived.ProofKit
import Derived.OpenShut
import Derived.Lib.SmallJoins
import Derived.Test.YtaamahohdnbpiaaGreatRows
import Derived.WalkKit
import Derived.ShutString
import Derived.ChangeOld
import Derived.Below
namespace Go.Proofs.YtaamahohdnbpiaaGreat
open Go.RowKit
set_option linter.unusedVariables false
theorem sz61h : (Tryz.prog.info? 61).map (·.size) = some 10 := by kernel_rfl
theorem sz61L (H : Ho) (s : Sl) : (Tryz.prog.info? 61).map (·.size) = some (hoL H s).length := sz61h
theorem szL (X : World) (H : Ho) (s : Sl) (h : isHo X H s) (hn : H.le 9223372036854775807) : Calls Tryz.prog 35 #[.agg (hoL H s).toArray, .int .i64 1048576] X fun o w' => ∃ z : Int, o = .returned (.int .i64 z) ∧ Below X.heap.size X w' ∧ (z = -1 ∨ ∃ m' : Nat, z = (m' : Int) ∧ H.le 1048576) := by
  have := szHost_any X H s h hn 1048576 (Nat.le_refl _)
  exact this
theorem toL (X : World) (H : Ho) (s : Sl) (h : isHo X H s) (hm : H.le 1048576) : Calls Tryz.prog 36 #[.agg (hoL H s).toArray] X fun o w' => ∃ s', o = .returned (.agg (hoL H s').toArray) ∧ slSome s' ∧ St X.heap.size w' (fun W => isHo W H s') ∧ Below X.heap.size X w' := by
  rw [← hoV_L]
  refine (toHost_some X H s h hm).mono ?_
  rintro o w' ⟨s', rfl, h0, h1, h2⟩
  exact ⟨s', by rw [hoV_L], h0, h1, h2⟩
theorem eqL (X : World) (H : Ho) (s1 s2 : Sl) (h1 : isHo X H s1) (h2 : isHo X H s2) (hm : H.le 1048576) : Calls Tryz.prog 37 #[.agg (hoL H s1).toArray, .agg (hoL H s2).toArray] X fun o w' => o = .returned (.bool true) ∧ Below X.heap.size X w' := by
  rw [← hoV_L, ← hoV_L]
  exact eqHost_same X H s1 s2 h1 h2 hm
theorem law_x0H {H : Ho} {s s4 : Sl} {w w3 w4 w5 : World} {b : Nat} (hp : w4.heap[w.heap.size]? = some (.cells (hoL H s).toArray 61)) (hb : w4.heap.size = b) (hs : St w3.heap.size w4 (fun W => isHo W H s4)) (hB : Below w.heap.size w w4)
    (e : World.setCells (w4.alloc (.cells [.int .i64 0, .int .i64 0, .int .i64 0, .int .i64 0, .slice none 0 0, .slice none 0 0, .slice none 0 0, .slice none 0 0, .int .i64 0, .int .i64 0].toArray 35)) b 0 (hoL H s4).toArray.toList = w5) : w5.heap[w.heap.size]? = some (.cells (hoL H s).toArray 61) ∧ w5.heap[b]? = some (.cells (hoL H s4).toArray 35) ∧ isHo w5 H s4 ∧ Below w.heap.size w w5 := by
  subst hb
  subst e
  have hz := lt_of_block hp
  have key : ∀ k, k < w4.heap.size → (World.setCells (w4.alloc (.cells [.int .i64 0, .int .i64 0, .int .i64 0, .int .i64 0, .slice none 0 0, .slice none 0 0, .slice none 0 0, .slice none 0 0, .int .i64 0, .int .i64 0].toArray 35)) w4.heap.size 0 (hoL H s4).toArray.toList).heap[k]? = w4.heap[k]? := fun k hk => (setCells_other _ k (by omega) _ _ 0).trans (Below.heap_alloc w4 _ k hk)
  refine ⟨(key _ hz).trans hp, ?_, hs _ (fun k _ hk => key k hk), ?_⟩
  · exact setCells_block w4.heap.size 35 (hoL H s4) [.int .i64 0, .int .i64 0, .int .i64 0, .int .i64 0, .slice none 0 0, .slice none 0 0, .slice none 0 0, .slice none 0 0, .int .i64 0, .int .i64 0] [] [] _ (by rw [hoL_len]; rfl) (heap_alloc_new w4 _) |>.trans (by simp)
  · rw [setCells_row]
    exact setRow_below _ _ hB.size w _ _ _ (hB.alloc hB.size _)
theorem invH_be (w : World) (H : Ho) (s s4 : Sl) (b : Nat) (W W' : World) (h : W.heap[w.heap.size]? = some (.cells (hoL H s).toArray 61) ∧ W.heap[b]? = some (.cells (hoL H s4).toArray 35) ∧ isHo W H s4 ∧ Below w.heap.size w W) (hb : Below W.heap.size W W') : (fun W => W.heap[w.heap.size]? = some (.cells (hoL H s).toArray 61) ∧ W.heap[b]? = some (.cells (hoL H s4).toArray 35) ∧ isHo W H s4 ∧ Below w.heap.size w W) W' :=
  ⟨(hb.block _ (lt_of_block h.1)).trans h.1, (hb.block _ (lt_of_block h.2.1)).trans h.2.1, h.2.2.1.below hb, h.2.2.2.trans (hb.mono h.2.2.2.size)⟩
theorem invH_h {w : World} {H : Ho} {s s4 : Sl} {b : Nat} {W : World} (h : W.heap[w.heap.size]? = some (.cells (hoL H s).toArray 61) ∧ W.heap[b]? = some (.cells (hoL H s4).toArray 35) ∧ isHo W H s4 ∧ Below w.heap.size w W) : isHo W H s4 := h.2.2.1
theorem invH_b {w : World} {H : Ho} {s s4 : Sl} {b : Nat} {W : World} (h : W.heap[w.heap.size]? = some (.cells (hoL H s).toArray 61) ∧ W.heap[b]? = some (.cells (hoL H s4).toArray 35) ∧ isHo W H s4 ∧ Below w.heap.size w W) : Below w.heap.size w W := h.2.2.2
set_option maxHeartbeats 4000000 in
set_option maxRecDepth 40000 in
/-- laws.FnExactBest -/
theorem lawBest (H : Ho) (s : Sl) (w : World) (h : isHo w H s) (hn : H.le 9223372036854775807) :
    Calls Tryz.prog 5 #[hoV H s] w fun o w' => o = .returned (.bool true) ∧ Below w.heap.size w w' := by
  rw [hoV_L]
  have HS : Hid (∀ X, Below w.heap.size w X → Calls Tryz.prog 35 #[.agg (hoL H s).toArray, .int .i64 1048576] X fun o w' => ∃ z : Int, o = .returned (.int .i64 z) ∧ Below X.heap.size X w' ∧ (z = -1 ∨ ∃ m' : Nat, z = (m' : Int) ∧ H.le 1048576)) := fun X hX => szL X H s (h.below hX) hn
  have HT : Hid (H.le 1048576 → ∀ X, Below w.heap.size w X → Calls Tryz.prog 36 #[.agg (hoL H s).toArray] X fun o w' => ∃ s', o = .returned (.agg (hoL H s').toArray) ∧ slSome s' ∧ St X.heap.size w' (fun W => isHo W H s') ∧ Below X.heap.size X w') := fun hm X hX => toL X H s (h.below hX) hm
  have HE : Hid (H.le 1048576 → ∀ X s', isHo X H s' → Calls Tryz.prog 27 #[.agg (hoL H s').toArray] X fun o w' => ∃ r : Int, o = .returned (.int .i64 r) ∧ bestH H r ∧ Below X.heap.size X w') := fun hm X s' h' => specBest_any X H s' h' hm
  have HI : Hid (H.le 1048576 → ∀ r : Int, bestH H r → ∀ X s', isHo X H s' → slSome s' → Calls Tryz.prog 17 #[.agg (hoL H s').toArray] X fun o w' => o = .returned (.int .i64 r) ∧ Below X.heap.size X w') := fun hm r hr X s' h' hs' => (implBest_any X H s' h' hs' hm).mono (by rintro o w' ⟨r', rfl, hr', hb⟩; rw [bestH_one hr' hr]; exact ⟨rfl, hb⟩)
  have HQ : Hid (H.le 1048576 → ∀ X s1 s2, isHo X H s1 → isHo X H s2 → Calls Tryz.prog 37 #[.agg (hoL H s1).toArray, .agg (hoL H s2).toArray] X fun o w' => o = .returned (.bool true) ∧ Below X.heap.size X w') := fun hm X s1 s2 h1 h2 => eqL X H s1 s2 h1 h2 hm
  clear h hn
  have P0 : (w.alloc (.cells (hoL H s).toArray 61)).heap[w.heap.size]? = some (.cells (hoL H s).toArray 61) := heap_alloc_new w _
  have hA : Below w.heap.size w (w.alloc (.cells (hoL H s).toArray 61)) := (Below.refl _ _).alloc (Nat.le_refl _) _
  have HA : Hid (Below w.heap.size w (w.alloc (.cells (hoL H s).toArray 61))) := hA
  have hzA : w.heap.size < (w.alloc (.cells (hoL H s).toArray 61)).heap.size := by simp
  have HZA : Hid (w.heap.size < (w.alloc (.cells (hoL H s).toArray 61)).heap.size) := hzA
  clear hA hzA
  go_enter Tryz.func5, Tryz.ntmps5
  go_wp2_with (first | (refine wpList_load_mid (P := Tryz.prog) rfl 61 (.tmp 1) rfl w.heap.size 0 rfl (hoL H s) _ (range_block (by assumption)) Tryz.underlying61 rfl (sz61L H s) ?_))
  refine (HS.out _ HA.out).mono ?_
  rintro o w1 ⟨z, rfl, b1, h1⟩
  have B1 : Below w.heap.size w w1 := HA.out.trans (b1.mono (Nat.le_of_lt HZA.out))
  have P1 : w1.heap[w.heap.size]? = some (.cells (hoL H s).toArray 61) := (b1.block _ HZA.out).trans P0
  have HB1 : Hid (Below w.heap.size w w1) := B1
  clear b1 B1 P0
  rcases h1 with rfl | ⟨m', rfl, hle⟩
  · clear P1
    go_wp2_with fail
    go_ret
    exact ⟨rfl, HB1.out⟩
  · have HLE : Hid (H.le 1048576) := hle
    clear hle
    go_wp2_with (first | (refine wpList_load_mid (P := Tryz.prog) rfl 61 (.tmp 1) rfl w.heap.size 0 rfl (hoL H s) _ (range_block (by assumption)) Tryz.underlying61 rfl (sz61L H s) ?_))
    refine (HT.out HLE.out _ HB1.out).mono ?_
    rintro o w2 ⟨s2, rfl, _, S2, b2⟩
    have HO2 : Hid (isHo w2 H s2) := S2.now
    have P2 : w2.heap[w.heap.size]? = some (.cells (hoL H s).toArray 61) := (b2.block _ (lt_of_block P1)).trans P1
    have HB2 : Hid (Below w.heap.size w w2) := HB1.out.trans (b2.mono HB1.out.size)
    clear S2 b2 P1
    go_wp2_with fail
    refine (HE.out HLE.out w2 s2 HO2.out).mono ?_
    rintro o w3 ⟨z0, rfl, hz0, b3⟩
    have HZ0 : Hid (bestH H z0) := hz0
    clear hz0
    have P3 : w3.heap[w.heap.size]? = some (.cells (hoL H s).toArray 61) := (b3.block _ (lt_of_block P2)).trans P2
    have HB3 : Hid (Below w.heap.size w w3) := HB2.out.trans (b3.mono HB2.out.size)
    clear b3 P2
    go_wp2_with (first | (refine wpList_load_mid (P := Tryz.prog) rfl 61 (.tmp 1) rfl w.heap.size 0 rfl (hoL H s) _ (range_block (by assumption)) Tryz.underlying61 rfl (sz61L H s) ?_))
    refine (HT.out HLE.out _ HB3.out).mono ?_
    rintro o w4 ⟨s4, rfl, sl4, S4, b4⟩
    have HSL : Hid (slSome s4) := sl4
    clear sl4
    have P4 : w4.heap[w.heap.size]? = some (.cells (hoL H s).toArray 61) := (b4.block _ (lt_of_block P3)).trans P3
    have HB4 : Hid (Below w.heap.size w w4) := HB3.out.trans (b4.mono HB3.out.size)
    have HS4 : Hid (St w3.heap.size w4 (fun W => isHo W H s4)) := S4
    clear b4 P3 S4
    have HP4 : Hid (w4.heap[w.heap.size]? = some (.cells (hoL H s).toArray 61)) := P4
    clear P4
    generalize hb : w4.heap.size = b at *
    have HBB : Hid (w4.heap.size = b) := hb
    have HN : Hid ((w4.alloc (.cells [.int .i64 0, .int .i64 0, .int .i64 0, .int .i64 0, .slice none 0 0, .slice none 0 0, .slice none 0 0, .slice none 0 0, .int .i64 0, .int .i64 0].toArray 35)).heap[b]? = some (.cells [.int .i64 0, .int .i64 0, .int .i64 0, .int .i64 0, .slice none 0 0, .slice none 0 0, .slice none 0 0, .slice none 0 0, .int .i64 0, .int .i64 0].toArray 35)) := by rw [← hb]; exact heap_alloc_new w4 _
    go_wp2_with (first | (refine wpList_store_mid (P := Tryz.prog) rfl 35 (.tmp 5) (.tmp 16) rfl b 0 (hoL H s4).toArray rfl rfl (there_block HN.out 0 (hoL H s4).toArray.size (by rw [List.size_toArray, hoL_len]; decide)) (sz41A H s4) (hoL_one H s4) ?_; generalize hW5 : World.setCells (w4.alloc _) b 0 _ = w5; obtain ⟨P5, X5, O5, B5⟩ := law_x0H HP4.out HBB.out HS4.out HB4.out hW5; have HO5 : Hid (isHo w5 H s4) := O5; have HB5 : Hid (Below w.heap.size w w5) := B5; clear O5 B5 hW5) | (refine wpList_load_mid (P := Tryz.prog) rfl 35 (.tmp 5) rfl b 0 rfl (hoL H s4) _ (range_block (by assumption)) Tryz.underlying35 rfl (sz41L H s4) ?_))
    refine (HI.out HLE.out z0 HZ0.out w5 s4 HO5.out HSL.out).mono ?_
    rintro o w6 ⟨rfl, b6⟩
    have hS0 : w6.heap[w.heap.size]? = some (.cells (hoL H s).toArray 61) ∧ w6.heap[b]? = some (.cells (hoL H s4).toArray 35) ∧ isHo w6 H s4 ∧ Below w.heap.size w w6 := invH_be w H s s4 b w5 w6 ⟨P5, X5, HO5.out, HB5.out⟩ b6
    have HB6 : Hid (Below w.heap.size w w6) := hS0.2.2.2
    clear P5 X5 b6 hb
    go_wp2_with fail
    refine wp_region_held (S := (fun W => W.heap[w.heap.size]? = some (.cells (hoL H s).toArray 61) ∧ W.heap[b]? = some (.cells (hoL H s4).toArray 35) ∧ isHo W H s4 ∧ Below w.heap.size w W)) (by kernel_rfl) ?_
    have hS := invH_be w H s s4 b w6 w6.drew hS0 (Below.refl _ _).drew
    refine wpAnyH_take (i := 0) (v := .agg (hoL H s4).toArray) rfl (by kernel_rfl) (by kernel_rfl) (by kernel_rfl) (fun _ _ _ h => h) (yieldsIf_load_mid (by rfl) 35 (.tmp 5) rfl b 0 rfl (hoL H s4) _ (fun W h => range_block h.2.1) Tryz.underlying35 rfl (sz41L H s4)) hS ?_
    simp only [Act.put, List.setIfInBounds_toArray, List.set_cons_zero, List.set_cons_succ, List.getElem_toArray, List.getElem_cons_zero]
    refine wpAnyH_take (i := 1) (v := .agg (hoL H s).toArray) rfl (by kernel_rfl) (by kernel_rfl) (by kernel_rfl) (fun _ _ _ h => h) (yieldsIf_load_mid (by rfl) 61 (.tmp 1) rfl w.heap.size 0 rfl (hoL H s) _ (fun W h => range_block h.1) Tryz.underlying61 rfl (sz61L H s)) hS ?_
    simp only [Act.put, List.setIfInBounds_toArray, List.set_cons_zero, List.set_cons_succ, List.getElem_toArray, List.getElem_cons_zero, List.getElem_cons_succ]
    refine wpAnyH_all (rs := [2]) (by kernel_rfl) (by simp) ?_
    refine AllReadyH.cons rfl (fun K hK => ?_) AllReadyH.nil
    go_simp
    refine (HT.out HLE.out _ (invH_b hS)).mono ?_
    rintro o w7 ⟨s7, rfl, _, S7, b7⟩
    have HS7 : Hid (isHo w7 H s7) := S7.now
    have hS7 := invH_be w H s s4 b _ w7 hS b7
    clear S7 b7 hS0
    go_wp2_with fail
    refine hK.out _ _ hS7 (fun hS2 => ?_)
    clear hS hK K hS7
    have hS := hS2
    clear hS2
    refine wpAnyH_all (rs := [3]) (by kernel_rfl) (by simp) ?_
    refine AllReadyH.cons rfl (fun K hK => ?_) AllReadyH.nil
    go_simp
    refine (HQ.out HLE.out _ s4 s7 (invH_h hS) HS7.out).mono ?_
    rintro o w8 ⟨rfl, b8⟩
    have hS8 := invH_be w H s s4 b _ w8 hS b8
    clear b8
    go_wp2_with fail
    refine hK.out _ _ hS8 (fun hS2 => ?_)
    clear hS hK K hS8
    have hS := hS2
    clear hS2
    refine wpAnyH_take (i := 4) (v := .bool false) rfl (by kernel_rfl) (by kernel_rfl) (by kernel_rfl) (fun _ _ _ h => h) (Or.inl ⟨by rfl, ?_⟩) hS ?_
    · intro W hSw
      clear hS
      go_simp
    simp only [Act.put, List.setIfInBounds_toArray, List.set_cons_zero, List.set_cons_succ, List.getElem_toArray, List.getElem_cons_zero, List.getElem_cons_succ]
    refine wpAnyH_done (by kernel_rfl) ?_ _
    have HB8 : Hid (Below w.heap.size w w8) := invH_b hS
    clear hS
    go_wp2
    go_ret
    exact ⟨rfl, HB8.out⟩
end Go.Proofs.YtaamahohdnbpiaaGreat
namespace Go.Proofs.YtaamahohdnbpiaaGreat
open Go.ChangeShapes Go.WideShapes Go.ChangeAt Go.RowKit
theorem Tryz.cells3 : Tryz.prog.cellsOf 3 = 1 := by kernel_rfl
theorem Tryz.cells4 : Tryz.prog.cellsOf 4 = 1 := by kernel_rfl
theorem Tryz.cells5 : Tryz.prog.cellsOf 5 = 1 := by kernel_rfl
theorem Tryz.cells23 : Tryz.prog.cellsOf 23 = 1 := by kernel_rfl
theorem Tryz.cells22 : Tryz.prog.cellsOf 22 = 1 := by kernel_rfl
theorem Tryz.cells160 : Tryz.prog.cellsOf 160 = 3 := by kernel_rfl
theorem Tryz.cells71 : Tryz.prog.cellsOf 71 = 5 := by kernel_rfl
theorem Tryz.cells155 : Tryz.prog.cellsOf 155 = 8 := by kernel_rfl
theorem Tryz.cells158 : Tryz.prog.cellsOf 158 = 8 := by kernel_rfl
theorem bytes_open {H : Type} {enc : TypeId × Value → H} {W : World} {fuel : Nat} {v : Value} {y : DataW H × List MemPlace}
    (h : DataW.trod enc Tryz.prog W 0 (fun _ => true) true fuel 22 [v] = some y) : ∃ a n cap l, v = .slice a n cap ∧ isBytes W a n cap l ∧ n ≤ maxLen := by
  rcases open_ints Tryz.underlying22 Tryz.underlying5 Tryz.cells5 h with ⟨hcs, _⟩ | ⟨x, n, c, zs, hcs, _, hl, hm, hz, _, hcell, hwz⟩
  · simp at hcs
    exact ⟨none, 0, 0, [], hcs, ⟨rfl, Nat.le_refl _, (fun x hx => by cases hx), fun e => absurd rfl e⟩, by unfold maxLen; omega⟩
  · simp at hcs
    have hz' : zs.length = c := by simpa using hz
    have hb : ∀ z ∈ zs, 0 ≤ z ∧ z < 256 := by
      intro z hzz
      have := bounds_u8 (hwz z hzz)
      omega
    have hlen : (zs.take n).length = n := by rw [List.length_take]; omega
    refine ⟨some x, n, c, (zs.take n).map Int.toNat, hcs, ⟨by rw [List.length_map, hlen], hl, ?_, ?_⟩, by omega⟩
    · intro u hu
      rw [List.mem_map] at hu
      obtain ⟨z, hz1, rfl⟩ := hu
      have := hb z (List.mem_of_mem_take hz1)
      omega
    · intro hne
      have hn0 : 0 < n := by
        rcases Nat.eq_zero_or_pos n with e | e
        · subst e; simp at hne
        · exact e
      obtain ⟨b, off, spot⟩ := x
      have hc0 := hcell 0 (by omega)
      have hspot : spot = none := by simpa [Addr.add] using World.cell?_spot hc0
      subst hspot
      refine ⟨b, off, rfl, fun j hj => ?_⟩
      have hj' : j < n := by rw [List.length_map, hlen] at hj; exact hj
      have hcj := hcell j (by omega)
      have e2 : (⟨b, off, none⟩ : Addr).add j = ⟨b, off + j, none⟩ := by simp only [Addr.add]; split <;> simp_all
      rw [e2] at hcj
      rw [hcj]
      have hzj : zs.getD j 0 = zs[j]'(by omega) := by simp [List.getD, show j < zs.length by omega]
      have hbj := hb (zs[j]'(by omega)) (List.getElem_mem _)
      rw [hzj, List.getElem_map, List.getElem_take]
      congr 2
      omega
set_option maxRecDepth 20000 in
theorem rec3_open {H : Type} {enc : TypeId × Value → H} {W : World} {fuel : Nat} {cs : List Value} {y : DataW H × List MemPlace}
    (h : DataW.trod enc Tryz.prog W 0 (fun _ => true) true fuel 160 cs = some y) : ∃ b : R3, cs = [.bool b.e, .int .u32 b.m, .int .u32 b.k] := by
  obtain ⟨xs, n, _, _, hcl, hlen, hfs⟩ := DataW.trod_struct Tryz.underlying160 h
  rw [Tryz.cells160] at hcl
  match cs, hcl with
  | [c0, c1, c2], _ =>
    match xs, hlen with
    | [y0, y1, y2], _ =>
      have h0 : DataW.trod enc Tryz.prog W 0 (fun _ => true) true n 4 (List.take (Tryz.prog.cellsOf 4) [c0, c1, c2]) = some y0 := hfs 0 _ rfl
      have h1 : DataW.trod enc Tryz.prog W 0 (fun _ => true) true n 23 (List.take (Tryz.prog.cellsOf 23) [c1, c2]) = some y1 := hfs 1 _ rfl
      have h2 : DataW.trod enc Tryz.prog W 0 (fun _ => true) true n 23 (List.take (Tryz.prog.cellsOf 23) [c2]) = some y2 := hfs 2 _ rfl
      rw [Tryz.cells4] at h0
      rw [Tryz.cells23] at h1 h2
      obtain ⟨e, e0, _⟩ := DataW.trod_bool Tryz.underlying4 h0
      obtain ⟨x1, e1, _, _⟩ := DataW.trod_int Tryz.underlying23 h1
      obtain ⟨x2, e2, _, _⟩ := DataW.trod_int Tryz.underlying23 h2
      refine ⟨⟨e, x1, x2⟩, ?_⟩
      simp at e0 e1 e2
      rw [e0, e1, e2]
set_option maxRecDepth 20000 in
theorem rec5_open {H : Type} {enc : TypeId × Value → H} {W : World} {fuel : Nat} {cs : List Value} {y : DataW H × List MemPlace}
    (h : DataW.trod enc Tryz.prog W 0 (fun _ => true) true fuel 71 cs = some y) : ∃ (b : R5) (a : Option Addr) (n cap : Nat), cs = [.bool b.e, .int .u32 (b.i : Int), .bool b.r, .int .i64 b.d, .slice a n cap] ∧ isBytes W a n cap b.l ∧ n ≤ maxLen := by
  obtain ⟨xs, n, _, _, hcl, hlen, hfs⟩ := DataW.trod_struct Tryz.underlying71 h
  rw [Tryz.cells71] at hcl
  match cs, hcl with
  | [c0, c1, c2, c3, c4], _ =>
    match xs, hlen with
    | [y0, y1, y2, y3, y4], _ =>
      have h0 : DataW.trod enc Tryz.prog W 0 (fun _ => true) true n 4 (List.take (Tryz.prog.cellsOf 4) [c0, c1, c2, c3, c4]) = some y0 := hfs 0 _ rfl
      have h1 : DataW.trod enc Tryz.prog W 0 (fun _ => true) true n 23 (List.take (Tryz.prog.cellsOf 23) [c1, c2, c3, c4]) = some y1 := hfs 1 _ rfl
      have h2 : DataW.trod enc Tryz.prog W 0 (fun _ => true) true n 4 (List.take (Tryz.prog.cellsOf 4) [c2, c3, c4]) = some y2 := hfs 2 _ rfl
      have h3 : DataW.trod enc Tryz.prog W 0 (fun _ => true) true n 3 (List.take (Tryz.prog.cellsOf 3) [c3, c4]) = some y3 := hfs 3 _ rfl
      have h4 : DataW.trod enc Tryz.prog W 0 (fun _ => true) true n 22 (List.take (Tryz.prog.cellsOf 22) [c4]) = some y4 := hfs 4 _ rfl
      rw [Tryz.cells4] at h0 h2
      rw [Tryz.cells23] at h1
      rw [Tryz.cells3] at h3
      rw [Tryz.cells22] at h4
      obtain ⟨e, e0, _⟩ := DataW.trod_bool Tryz.underlying4 h0
      obtain ⟨i, e1, _, wi⟩ := DataW.trod_int Tryz.underlying23 h1
      obtain ⟨rr, e2, _⟩ := DataW.trod_bool Tryz.underlying4 h2
      obtain ⟨dd, e3, _, _⟩ := DataW.trod_int Tryz.underlying3 h3
      obtain ⟨a, m, cap, l, e4, hy, hm⟩ := bytes_open h4
      have hi := bounds_u32 wi
      refine ⟨⟨e, i.toNat, rr, dd, l⟩, a, m, cap, ?_, hy, hm⟩
      have e1' : ((i.toNat : Nat) : Int) = i := by omega
      simp only [e1']
      simp at e0 e1 e2 e3
      rw [e0, e1, e2, e3, e4]
set_option maxRecDepth 20000 in
theorem box_open {H : Type} {enc : TypeId × Value → H} {W : World} {fuel : Nat} {cs : List Value} {y : DataW H × List MemPlace}
    (h : DataW.trod enc Tryz.prog W 0 (fun _ => true) true fuel 155 cs = some y) : ∃ (b : R8) (a : Option Addr) (n cap : Nat), cs = [.int .i64 b.x, .int .i64 b.y, .int .i64 b.z, .bool b.e, .int .u32 (b.i : Int), .bool b.r, .int .i64 b.d, .slice a n cap] ∧ isBytes W a n cap b.l ∧ n ≤ maxLen := by
  obtain ⟨xs, n, _, _, hcl, hlen, hfs⟩ := DataW.trod_struct Tryz.underlying155 h
  rw [Tryz.cells155] at hcl
  match cs, hcl with
  | [c0, c1, c2, c3, c4, c5, c6, c7], _ =>
    match xs, hlen with
    | [y0, y1, y2, y3], _ =>
      have h0 : DataW.trod enc Tryz.prog W 0 (fun _ => true) true n 3 (List.take (Tryz.prog.cellsOf 3) [c0, c1, c2, c3, c4, c5, c6, c7]) = some y0 := hfs 0 _ rfl
      have h1 : DataW.trod enc Tryz.prog W 0 (fun _ => true) true n 3 (List.take (Tryz.prog.cellsOf 3) [c1, c2, c3, c4, c5, c6, c7]) = some y1 := hfs 1 _ rfl
      have h2 : DataW.trod enc Tryz.prog W 0 (fun _ => true) true n 3 (List.take (Tryz.prog.cellsOf 3) [c2, c3, c4, c5, c6, c7]) = some y2 := hfs 2 _ rfl
      have h3 : DataW.trod enc Tryz.prog W 0 (fun _ => true) true n 71 (List.take (Tryz.prog.cellsOf 71) [c3, c4, c5, c6, c7]) = some y3 := hfs 3 _ rfl
      rw [Tryz.cells3] at h0 h1 h2
      rw [Tryz.cells71] at h3
      obtain ⟨x0, e0, _, _⟩ := DataW.trod_int Tryz.underlying3 h0
      obtain ⟨x1, e1, _, _⟩ := DataW.trod_int Tryz.underlying3 h1
      obtain ⟨x2, e2, _, _⟩ := DataW.trod_int Tryz.underlying3 h2
      obtain ⟨f, a, m, cap, e3, hy, hm⟩ := rec5_open h3
      refine ⟨⟨x0, x1, x2, f.e, f.i, f.r, f.d, f.l⟩, a, m, cap, ?_, hy, hm⟩
      simp at e0 e1 e2 e3
      obtain ⟨q3, q4, q5, q6, q7⟩ := e3
      rw [e0, e1, e2, q3, q4, q5, q6, q7]
set_option maxRecDepth 20000 in
theorem event_open {H : Type} {enc : TypeId × Value → H} {W : World} {fuel : Nat} {cs : List Value} {y : DataW H × List MemPlace}
    (h : DataW.trod enc Tryz.prog W 0 (fun _ => true) true fuel 158 cs = some y) : ∃ (b : R8) (a : Option Addr) (n cap : Nat), cs = [.int .i64 b.x, .int .i64 b.y, .int .i64 b.z, .bool b.e, .int .u32 (b.i : Int), .bool b.r, .int .i64 b.d, .slice a n cap] ∧ isBytes W a n cap b.l ∧ n ≤ maxLen := by
  obtain ⟨xs, n, _, _, hcl, hlen, hfs⟩ := DataW.trod_struct Tryz.underlying158 h
  rw [Tryz.cells158] at hcl
  match cs, hcl with
  | [c0, c1, c2, c3, c4, c5, c6, c7], _ =>
    match xs, hlen with
    | [y0, y1, y2, y3], _ =>
      have h0 : DataW.trod enc Tryz.prog W 0 (fun _ => true) true n 3 (List.take (Tryz.prog.cellsOf 3) [c0, c1, c2, c3, c4, c5, c6, c7]) = some y0 := hfs 0 _ rfl
      have h1 : DataW.trod enc Tryz.prog W 0 (fun _ => true) true n 3 (List.take (Tryz.prog.cellsOf 3) [c1, c2, c3, c4, c5, c6, c7]) = some y1 := hfs 1 _ rfl
      have h2 : DataW.trod enc Tryz.prog W 0 (fun _ => true) true n 3 (List.take (Tryz.prog.cellsOf 3) [c2, c3, c4, c5, c6, c7]) = some y2 := hfs 2 _ rfl
      have h3 : DataW.trod enc Tryz.prog W 0 (fun _ => true) true n 71 (List.take (Tryz.prog.cellsOf 71) [c3, c4, c5, c6, c7]) = some y3 := hfs 3 _ rfl
      rw [Tryz.cells3] at h0 h1 h2
      rw [Tryz.cells71] at h3
      obtain ⟨x0, e0, _, _⟩ := DataW.trod_int Tryz.underlying3 h0
      obtain ⟨x1, e1, _, _⟩ := DataW.trod_int Tryz.underlying3 h1
      obtain ⟨x2, e2, _, _⟩ := DataW.trod_int Tryz.underlying3 h2
      obtain ⟨f, a, m, cap, e3, hy, hm⟩ := rec5_open h3
      refine ⟨⟨x0, x1, x2, f.e, f.i, f.r, f.d, f.l⟩, a, m, cap, ?_, hy, hm⟩
      simp at e0 e1 e2 e3
      obtain ⟨q3, q4, q5, q6, q7⟩ := e3
      rw [e0, e1, e2, q3, q4, q5, q6, q7]
/-- a slice of records, element by element -/
theorem rows_open {H : Type} {enc : TypeId × Value → H} {W : World} {fuel : Nat} {v : Value} {y : DataW H × List MemPlace} {t e : TypeId} (ht : Tryz.prog.underlying t = some (.slice e)) (sz : Nat) (hsz : Tryz.prog.cellsOf e = sz) (hs0 : 0 < sz)
    (h : DataW.trod enc Tryz.prog W 0 (fun _ => true) true fuel t [v] = some y) : ∃ (a : Option Addr) (n cap : Nat), v = .slice a n cap ∧ n ≤ cap ∧ n ≤ maxLen ∧ (n ≠ 0 → ∃ g off, a = some ⟨g, off, none⟩ ∧ ∀ i, i < n → ∃ (cs : List Value) (m : Nat) (z : DataW H × List MemPlace), DataW.trod enc Tryz.prog W 0 (fun _ => true) true m e cs = some z ∧ ∀ j, j < sz → W.cell? ⟨g, off + i * sz + j, none⟩ = cs[j]?) := by
  rcases DataW.trod_slice ht h with ⟨hcs, _⟩ | ⟨x, len, cap, elems, rest, n, _, hcs, _, _, hl, hm, hel, hall, _, _⟩
  · simp at hcs
    exact ⟨none, 0, 0, hcs, Nat.le_refl _, by unfold maxLen; omega, fun h => absurd rfl h⟩
  · simp at hcs
    refine ⟨some x, len, cap, hcs, hl, by omega, fun hn0 => ?_⟩
    rw [hsz] at hall
    have get : ∀ i, i < len → ∃ cs, W.cells? 0 (x.add (i * sz)) sz = some cs ∧ ∃ z, DataW.trod enc Tryz.prog W 0 (fun _ => true) true n e cs = some z := by
      intro i hi
      have h1 := hall i hi
      rw [List.getElem?_eq_getElem (by omega)] at h1
      cases h2 : W.cells? 0 (x.add (i * sz)) sz with
      | none => rw [h2] at h1; simp at h1
      | some cs => rw [h2] at h1; exact ⟨cs, rfl, _, h1⟩
    obtain ⟨b, off, spot⟩ := x
    obtain ⟨cs0, hc0, _⟩ := get 0 (by omega)
    have hspot : spot = none := by
      have hl0 := (World.cells?_some hc0).2.1
      have h3 := (World.cells?_some hc0).2.2 0 hs0
      rw [List.getElem?_eq_getElem (by omega)] at h3
      simpa [Addr.add] using World.cell?_spot h3
    subst hspot
    refine ⟨b, off, rfl, fun i hi => ?_⟩
    obtain ⟨cs, hc, z, hz⟩ := get i hi
    refine ⟨cs, n, z, hz, fun j hj => ?_⟩
    have := (World.cells?_some hc).2.2 j hj
    rw [Addr.add_mid, Addr.add_mid] at this
    exact this
theorem pick_list {α : Type} {n : Nat} {p : Nat → α → Prop} (h : ∀ i, i < n → ∃ b, p i b) : ∃ bs : List α, bs.length = n ∧ ∀ j (hj : j < bs.length), p j bs[j] := by
  refine ⟨List.ofFn (n := n) fun i => Classical.choose (h i.1 i.2), by simp, fun j hj => ?_⟩
  rw [List.getElem_ofFn]
  exact Classical.choose_spec (h j (by simpa using hj))
theorem boxS_rows {H : Type} {enc : TypeId × Value → H} {W : World} {fuel : Nat} {v : Value} {y : DataW H × List MemPlace} (h : DataW.trod enc Tryz.prog W 0 (fun _ => true) true fuel 57 [v] = some y) :
    ∃ (a : Option Addr) (n cap : Nat) (bs : List R8), v = .slice a n cap ∧ isR8s W a n cap bs ∧ bs.length ≤ 9223372036854775807 ∧ ∀ j (h : j < bs.length), bs[j].l.length ≤ 9223372036854775807 := by
  obtain ⟨a, n, cap, rfl, hc, hm, hall⟩ := rows_open Tryz.underlying57 8 Tryz.cells155 (by decide) h
  have hm' : n ≤ 9223372036854775807 := by unfold maxLen at hm; omega
  by_cases h0 : n = 0
  · subst h0
    exact ⟨a, 0, cap, [], rfl, ⟨rfl, hc, fun e => absurd rfl e⟩, by simp, fun j hj => by cases hj⟩
  · obtain ⟨g, off, rfl, hx⟩ := hall h0
    obtain ⟨bs, hl, hb⟩ := pick_list (p := fun i (b : R8) => (∃ ao m c, at8 W g (off + i * 8) b ao m c) ∧ b.l.length ≤ 9223372036854775807) (fun i hi => by
      obtain ⟨cs, m, z, hz, hj⟩ := hx i hi
      obtain ⟨b, ao, k, c, rfl, hy, hk⟩ := box_open hz
      exact ⟨b, ⟨ao, k, c, hj 0 (by decide), hj 1 (by decide), hj 2 (by decide), hj 3 (by decide), hj 4 (by decide), hj 5 (by decide), hj 6 (by decide), hj 7 (by decide), hy⟩, by rw [← hy.len]; unfold maxLen at hk; omega⟩)
    exact ⟨_, n, cap, bs, rfl, ⟨hl.symm, hc, fun _ => ⟨g, off, rfl, fun j hj => (hb j hj).1⟩⟩, by omega, fun j hj => (hb j hj).2⟩
theorem frameS_rows {H : Type} {enc : TypeId × Value → H} {W : World} {fuel : Nat} {v : Value} {y : DataW H × List MemPlace} (h : DataW.trod enc Tryz.prog W 0 (fun _ => true) true fuel 58 [v] = some y) :
    ∃ (a : Option Addr) (n cap : Nat) (bs : List R5), v = .slice a n cap ∧ isR5s W a n cap bs ∧ bs.length ≤ 9223372036854775807 ∧ ∀ j (h : j < bs.length), bs[j].l.length ≤ 9223372036854775807 := by
  obtain ⟨a, n, cap, rfl, hc, hm, hall⟩ := rows_open Tryz.underlying58 5 Tryz.cells71 (by decide) h
  have hm' : n ≤ 9223372036854775807 := by unfold maxLen at hm; omega
  by_cases h0 : n = 0
  · subst h0
    exact ⟨a, 0, cap, [], rfl, ⟨rfl, hc, fun e => absurd rfl e⟩, by simp, fun j hj => by cases hj⟩
  · obtain ⟨g, off, rfl, hx⟩ := hall h0
    obtain ⟨bs, hl, hb⟩ := pick_list (p := fun i (b : R5) => (∃ ao m c, at5 W g (off + i * 5) b ao m c) ∧ b.l.length ≤ 9223372036854775807) (fun i hi => by
      obtain ⟨cs, m, z, hz, hj⟩ := hx i hi
      obtain ⟨b, ao, k, c, rfl, hy, hk⟩ := rec5_open hz
      exact ⟨b, ⟨ao, k, c, hj 0 (by decide), hj 1 (by decide), hj 2 (by decide), hj 3 (by decide), hj 4 (by decide), hy⟩, by rw [← hy.len]; unfold maxLen at hk; omega⟩)
    exact ⟨_, n, cap, bs, rfl, ⟨hl.symm, hc, fun _ => ⟨g, off, rfl, fun j hj => (hb j hj).1⟩⟩, by omega, fun j hj => (hb j hj).2⟩
theorem eventS_rows {H : Type} {enc : TypeId × Value → H} {W : World} {fuel : Nat} {v : Value} {y : DataW H × List MemPlace} (h : DataW.trod enc Tryz.prog W 0 (fun _ => true) true fuel 59 [v] = some y) :
    ∃ (a : Option Addr) (n cap : Nat) (bs : List R8), v = .slice a n cap ∧ isR8s W a n cap bs ∧ bs.length ≤ 9223372036854775807 ∧ ∀ j (h : j < bs.length), bs[j].l.length ≤ 9223372036854775807 := by
  obtain ⟨a, n, cap, rfl, hc, hm, hall⟩ := rows_open Tryz.underlying59 8 Tryz.cells158 (by decide) h
  have hm' : n ≤ 9223372036854775807 := by unfold maxLen at hm; omega
  by_cases h0 : n = 0
  · subst h0
    exact ⟨a, 0, cap, [], rfl, ⟨rfl, hc, fun e => absurd rfl e⟩, by simp, fun j hj => by cases hj⟩
  · obtain ⟨g, off, rfl, hx⟩ := hall h0
    obtain ⟨bs, hl, hb⟩ := pick_list (p := fun i (b : R8) => (∃ ao m c, at8 W g (off + i * 8) b ao m c) ∧ b.l.length ≤ 9223372036854775807) (fun i hi => by
      obtain ⟨cs, m, z, hz, hj⟩ := hx i hi
      obtain ⟨b, ao, k, c, rfl, hy, hk⟩ := event_open hz
      exact ⟨b, ⟨ao, k, c, hj 0 (by decide), hj 1 (by decide), hj 2 (by decide), hj 3 (by decide), hj 4 (by decide), hj 5 (by decide), hj 6 (by decide), hj 7 (by decide), hy⟩, by rw [← hy.len]; unfold maxLen at hk; omega⟩)
    exact ⟨_, n, cap, bs, rfl, ⟨hl.symm, hc, fun _ => ⟨g, off, rfl, fun j hj => (hb j hj).1⟩⟩, by omega, fun j hj => (hb j hj).2⟩
theorem filterS_rows {H : Type} {enc : TypeId × Value → H} {W : World} {fuel : Nat} {v : Value} {y : DataW H × List MemPlace} (h : DataW.trod enc Tryz.prog W 0 (fun _ => true) true fuel 56 [v] = some y) :
    ∃ (a : Option Addr) (n cap : Nat) (bs : List R3), v = .slice a n cap ∧ isR3s W a n cap bs ∧ bs.length ≤ 9223372036854775807 := by
  obtain ⟨a, n, cap, rfl, hc, hm, hall⟩ := rows_open Tryz.underlying56 3 Tryz.cells160 (by decide) h
  have hm' : n ≤ 9223372036854775807 := by unfold maxLen at hm; omega
  by_cases h0 : n = 0
  · subst h0
    exact ⟨a, 0, cap, [], rfl, ⟨rfl, hc, fun e => absurd rfl e⟩, by simp⟩
  · obtain ⟨g, off, rfl, hx⟩ := hall h0
    obtain ⟨bs, hl, hb⟩ := pick_list (p := fun i (b : R3) => at3 W g (off + i * 3) b) (fun i hi => by
      obtain ⟨cs, m, z, hz, hj⟩ := hx i hi
      obtain ⟨b, rfl⟩ := rec3_open hz
      exact ⟨b, hj 0 (by decide), hj 1 (by decide), hj 2 (by decide)⟩)
    exact ⟨_, n, cap, bs, rfl, ⟨hl.symm, hc, fun _ => ⟨g, off, rfl, fun j hj => hb j hj⟩⟩, by omega⟩
end Go.Proofs.YtaamahohdnbpiaaGreat
namespace Go.Proofs.YtaamahohdnbpiaaGreat
open Go.ChangeShapes Go.WideShapes Go.ChangeAt Go.RowKit
theorem Tryz.cells55 : Tryz.prog.cellsOf 55 = 4 := by kernel_rfl
theorem Tryz.cells56 : Tryz.prog.cellsOf 56 = 1 := by kernel_rfl
theorem Tryz.cells57 : Tryz.prog.cellsOf 57 = 1 := by kernel_rfl
theorem Tryz.cells58 : Tryz.prog.cellsOf 58 = 1 := by kernel_rfl
theorem Tryz.cells59 : Tryz.prog.cellsOf 59 = 1 := by kernel_rfl
theorem Tryz.cells61 : Tryz.prog.cellsOf 61 = 10 := by kernel_rfl
set_option maxRecDepth 20000 in
theorem config_open {H : Type} {enc : TypeId × Value → H} {W : World} {fuel : Nat} {cs : List Value} {y : DataW H × List MemPlace}
    (h : DataW.trod enc Tryz.prog W 0 (fun _ => true) true fuel 55 cs = some y) : ∃ a b c d : Int, cs = [.int .i64 a, .int .i64 b, .int .i64 c, .int .i64 d] := by
  obtain ⟨xs, n, _, _, hcl, hlen, hfs⟩ := DataW.trod_struct Tryz.underlying55 h
  rw [Tryz.cells55] at hcl
  match cs, hcl with
  | [c0, c1, c2, c3], _ =>
    match xs, hlen with
    | [y0, y1, y2, y3], _ =>
      have h0 : DataW.trod enc Tryz.prog W 0 (fun _ => true) true n 3 (List.take (Tryz.prog.cellsOf 3) [c0, c1, c2, c3]) = some y0 := hfs 0 _ rfl
      have h1 : DataW.trod enc Tryz.prog W 0 (fun _ => true) true n 3 (List.take (Tryz.prog.cellsOf 3) [c1, c2, c3]) = some y1 := hfs 1 _ rfl
      have h2 : DataW.trod enc Tryz.prog W 0 (fun _ => true) true n 3 (List.take (Tryz.prog.cellsOf 3) [c2, c3]) = some y2 := hfs 2 _ rfl
      have h3 : DataW.trod enc Tryz.prog W 0 (fun _ => true) true n 3 (List.take (Tryz.prog.cellsOf 3) [c3]) = some y3 := hfs 3 _ rfl
      rw [Tryz.cells3] at h0 h1 h2 h3
      obtain ⟨x0, e0, _, _⟩ := DataW.trod_int Tryz.underlying3 h0
      obtain ⟨x1, e1, _, _⟩ := DataW.trod_int Tryz.underlying3 h1
      obtain ⟨x2, e2, _, _⟩ := DataW.trod_int Tryz.underlying3 h2
      obtain ⟨x3, e3, _, _⟩ := DataW.trod_int Tryz.underlying3 h3
      simp at e0 e1 e2 e3
      exact ⟨x0, x1, x2, x3, by rw [e0, e1, e2, e3]⟩
set_option maxRecDepth 20000 in
theorem host_open {H : Type} {enc : TypeId × Value → H} {W : World} {fuel : Nat} {cs : List Value} {y : DataW H × List MemPlace}
    (h : DataW.trod enc Tryz.prog W 0 (fun _ => true) true fuel 61 cs = some y) : ∃ (h : Ho) (s : Sl), cs = [.int .i64 h.c0, .int .i64 h.c1, .int .i64 h.c2, .int .i64 h.c3, .slice s.a1 s.n1 s.k1, .slice s.a2 s.n2 s.k2, .slice s.a3 s.n3 s.k3, .slice s.a4 s.n4 s.k4, .int .i64 h.lo, .int .i64 h.st] ∧ isHo W h s ∧ h.le 9223372036854775807 := by
  obtain ⟨xs, n, _, _, hcl, hlen, hfs⟩ := DataW.trod_struct Tryz.underlying61 h
  rw [Tryz.cells61] at hcl
  match cs, hcl with
  | [c0, c1, c2, c3, c4, c5, c6, c7, c8, c9], _ =>
    match xs, hlen with
    | [y0, y1, y2, y3, y4, y5, y6], _ =>
      have h0 : DataW.trod enc Tryz.prog W 0 (fun _ => true) true n 55 (List.take (Tryz.prog.cellsOf 55) [c0, c1, c2, c3, c4, c5, c6, c7, c8, c9]) = some y0 := hfs 0 _ rfl
      have h1 : DataW.trod enc Tryz.prog W 0 (fun _ => true) true n 56 (List.take (Tryz.prog.cellsOf 56) [c4, c5, c6, c7, c8, c9]) = some y1 := hfs 1 _ rfl
      have h2 : DataW.trod enc Tryz.prog W 0 (fun _ => true) true n 57 (List.take (Tryz.prog.cellsOf 57) [c5, c6, c7, c8, c9]) = some y2 := hfs 2 _ rfl
      have h3 : DataW.trod enc Tryz.prog W 0 (fun _ => true) true n 58 (List.take (Tryz.prog.cellsOf 58) [c6, c7, c8, c9]) = some y3 := hfs 3 _ rfl
      have h4 : DataW.trod enc Tryz.prog W 0 (fun _ => true) true n 59 (List.take (Tryz.prog.cellsOf 59) [c7, c8, c9]) = some y4 := hfs 4 _ rfl
      have h5 : DataW.trod enc Tryz.prog W 0 (fun _ => true) true n 3 (List.take (Tryz.prog.cellsOf 3) [c8, c9]) = some y5 := hfs 5 _ rfl
      have h6 : DataW.trod enc Tryz.prog W 0 (fun _ => true) true n 3 (List.take (Tryz.prog.cellsOf 3) [c9]) = some y6 := hfs 6 _ rfl
      rw [Tryz.cells55] at h0
      rw [Tryz.cells56] at h1
      rw [Tryz.cells57] at h2
      rw [Tryz.cells58] at h3
      rw [Tryz.cells59] at h4
      rw [Tryz.cells3] at h5 h6
      obtain ⟨x0, x1, x2, x3, e0⟩ := config_open h0
      obtain ⟨a1, n1, k1, fs, e1, r1, l1⟩ := filterS_rows h1
      obtain ⟨a2, n2, k2, bx, e2, r2, l2, d2⟩ := boxS_rows h2
      obtain ⟨a3, n3, k3, ff, e3, r3, l3, d3⟩ := frameS_rows h3
      obtain ⟨a4, n4, k4, qu, e4, r4, l4, d4⟩ := eventS_rows h4
      obtain ⟨lo, e5, _, _⟩ := DataW.trod_int Tryz.underlying3 h5
      obtain ⟨st, e6, _, _⟩ := DataW.trod_int Tryz.underlying3 h6
      refine ⟨⟨x0, x1, x2, x3, fs, bx, ff, qu, lo, st⟩, ⟨a1, n1, k1, a2, n2, k2, a3, n3, k3, a4, n4, k4⟩, ?_, ⟨r1, r2, r3, r4⟩, ⟨l1, l2, l3, l4, d2, d3, d4⟩⟩
      simp at e0 e5 e6
      obtain ⟨q0, q1, q2, q3⟩ := e0
      rw [q0, q1, q2, q3, e1, e2, e3, e4, e5, e6]
end Go.Proofs.YtaamahohdnbpiaaGreat
namespace Go.Proofs.YtaamahohdnbpiaaGreat
open Go.ChangeShapes Go.WideShapes Go.ChangeAt Go.RowKit
set_option maxRecDepth 20000 in
theorem hostV_open {H : Type} {enc : TypeId × Value → H} {W : World} {r : Reach} {b0 : Nat} {v : Value} {d : DataW H} {p : List MemPlace}
    (hv : Value.okWide Tryz.prog W r b0 61 v) (h : DataW.Trod enc Tryz.prog W 0 (fun _ => true) true 61 v d p) :
    ∃ (C : Ho) (s : Sl), v = hoV C s ∧ isHo W C s ∧ C.le 9223372036854775807 := by
  obtain ⟨cs, rfl, hsz⟩ := okWide_struct Tryz.underlying61 hv
  obtain ⟨fuel, hf⟩ := h
  obtain ⟨C, s, e, r, l⟩ := host_open hf
  refine ⟨C, s, ?_, r, l⟩
  have e' : cs.toList = _ := e
  cases cs
  simp only [] at e'
  rw [e']
end Go.Proofs.YtaamahohdnbpiaaGreat
namespace Go.Proofs.YtaamahohdnbpiaaGreat
open Go.ChangeShapes Go.WideShapes Go.ChangeAt Go.RowKit
open Go.ChangeMaps (open_string shut_string)
set_option linter.unusedVariables false

theorem fnExactBest_own : ownKnob Tryz.prog.godebug = none := by kernel_rfl
theorem fnExactBest_laidOut : laidOutB Tryz.prog = true := by kernel_rfl
set_option maxRecDepth 100000 in
theorem fnExactBest_lifted (os : Os) (started : os.Started) (H : Type) (enc : TypeId × Value → H) :
    ReturnsInHanded {} Tryz.checked os 5 .any (Rows.fnExactBestSpec.pre6 enc Tryz.prog Tryz.f5 Rows.fnExactBestRow.domain false) (Rows.fnExactBestSpec.post enc Tryz.prog Tryz.f5 false true false false) := by
  refine returnsInHanded_of_change (C := Tryz.checked) fnExactBest_own started (by kernel_rfl) Tryz.func5
    (ChangeSpec.witness6 (enc := enc) (C := Tryz.checked) false ⟨#[], #[.agg #[.int .i64 0, .int .i64 0, .int .i64 0, .int .i64 0, .slice none 0 0, .slice none 0 0, .slice none 0 0, .slice none 0 0, .int .i64 0, .int .i64 0]], []⟩ 8 (by kernel_rfl) (by kernel_rfl) (by kernel_rfl) (by kernel_rfl)) ?_
  intro W base args ds gs before hval0 hW hcnd _
  have hval : ∀ (j : Nat) t v, Tryz.f5.params[j]? = some t → args[j]? = some v → Value.okWide Tryz.prog W .any base t v := hval0
  have hW' := hW
  obtain ⟨p, q, hA0, hV, rfl, hfz, hnd⟩ := hW
  have hA : DataW.TrodAll enc Tryz.prog W 0 (fun _ => true) true Tryz.f5.params.toList args.toList ds p := hA0
  rw [Tryz.params5] at hA hval
  obtain ⟨v0, vs0, d0, ds0, p0, q0, hargs, rfl, rfl, h0, r0⟩ := trodAll_cons hA
  obtain ⟨rfl, rfl, rfl⟩ := trodAll_nil r0
  obtain rfl : args = #[v0] := by cases args; simp_all
  obtain ⟨rfl, rfl⟩ := trodVars_none hV
  have k0 := h0
  have lt0 : ∀ x ∈ p0, x.block < W.heap.size := by obtain ⟨m, hm⟩ := k0; exact DataW.trod_lt m _ _ _ hm
  obtain ⟨C0, s0, rfl, w0, mm0⟩ := hostV_open (hval 0 61 v0 rfl rfl) h0
  clear hA0 hval0
  refine (lawBest C0 s0 W w0 mm0).mono fun e W' ⟨he, bel⟩ => ?_
  subst he
  exact ⟨_, rfl, _, _, _, [], _, [], hW', trodAll_mk1 (shut_bool Tryz.underlying4 _), (trodAll_cons_mk (Below.trod fnExactBest_laidOut (by kernel_rfl) (of_decide_eq_true (by kernel_rfl)) k0 bel lt0) trodAll_mk0), rfl, bel.frame _, fun h => by cases h⟩

theorem fnExactBest_proved : Rows.FnExactBestSaid :=
  OpenClaim.holds_of_wide 5 Tryz.f5 rfl rfl rfl rfl rfl rfl rfl ⟨rfl, rfl, rfl, rfl, rfl⟩ rfl rfl rfl rfl rfl (by kernel_rfl) Tryz.func5 (by kernel_rfl)
    (of_decide_eq_true (by kernel_rfl)) (by unfold Func.isWrapper; first | (rw [if_pos (by decide +kernel)]; kernel_rfl) | (rw [if_neg (by decide +kernel)]; exact ⟨rfl, rfl⟩))
    (fun os started H enc _ => fnExactBest_lifted os started H enc)
end Go.Proofs.YtaamahohdnbpiaaGreat
