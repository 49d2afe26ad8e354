import Derived.Test.YtaamahohdnbpiaaGreatGI
import Derived.Test.YtaamahohdnbpiaaGreatHX
namespace Go.Proofs.YtaamahohdnbpiaaGreat
open Go.RowKit
/-- a made row, as an operation of a region that draws -/
theorem wp_make_Zc {o : Oper} {a : Act} {K : Act → World → Prop} {Q : Exit → Act → World → Prop} (w : World) (T E : TypeId) (Z : Value) (sz by_ : Nat) (hi0 : (Tryz.prog.info? E).map (fun i => (i.zero, i.size, i.bytes)) = some (some Z, sz, by_)) (hu : Tryz.prog.underlying T = some (.slice E)) (hby : by_ ≤ 1000)
    (l c : Operand) (hop : o.op = Op.makeSlice T l c) (n : Nat) (hl : a.eval l = .int .i64 (n : Int)) (hc : a.eval c = .int .i64 (n : Int)) (hn : n ≤ 100000000)
    (hK : ∀ w', rowZ w' w.heap.size (n * sz) → (∀ t, t < n * sz → w'.cell? ⟨w.heap.size, t, none⟩ = some Z.cells[t % Z.cells.size]!) → Below w.heap.size w w' → w.heap.size < w'.heap.size → K (a.put o.dst (.slice (some ⟨w.heap.size, 0, none⟩) n n)) w') :
    o.wp Tryz.prog a w K Q := by
  obtain ⟨i0, hi, hz0, hz1, hz2⟩ := info_parts hi0
  have hmul : by_ * n ≤ 1000 * n := Nat.mul_le_mul_right _ hby
  obtain ⟨w', hrun, ho, hgr⟩ := run_make_full (P := Tryz.prog) w w.heap.size T E i0 Z sz hu hi hz0 hz1 .i64 .i64 n (by rw [hz2]; omega) (by unfold maxLen; omega) (Nat.le_refl _)
  have hcell : ∀ t, t < n * sz → w'.cell? ⟨w.heap.size, t, none⟩ = some Z.cells[t % Z.cells.size]! := by
    intro t ht
    rw [World.ownsRow.cellAt ho t (by omega), Array.getElem?_toList]
    simp [madeCells, ht]
  unfold Oper.wp
  simp [execOp, hop, hl, hc, hrun, Result.andThen]
  exact hK w' ⟨fun t ht => ⟨_, hcell t ht⟩, fun t => World.ownsRow.frozenAt ho t⟩ hcell ((Below.refl _ _).grown hgr (Nat.le_refl _) (by intro k e; cases e)) (World.ownsRow.lt ho _ rfl).2
theorem rowZ_alloc (w : World) (l : List Value) (T : TypeId) : rowZ (w.alloc (.cells l.toArray T)) w.heap.size l.length := by
  have e : (w.alloc (.cells l.toArray T)).heap[w.heap.size]? = some (.cells l.toArray T) := heap_alloc_new w _
  refine ⟨fun t ht => ?_, fun t => ?_⟩
  · have := there_block e 0 l.length (by omega) t ht
    rw [Nat.zero_add] at this
    exact Option.isSome_iff_exists.1 this.1
  · unfold World.frozen?
    rw [e]
    simp
/-- what stays true in impl.NewHost's last statement -/
structure nhS (w : World) (m b c d : Int) (W : World) : Prop where
  p : W.heap[w.heap.size]? = some (.cells [.int .i64 m, .int .i64 b, .int .i64 c, .int .i64 d].toArray 29)
  r : rowZ W (w.heap.size + 1) 10
  b : Below w.heap.size w W
  z : w.heap.size + 2 ≤ W.heap.size
theorem nhS.below {w : World} {m b c d : Int} {W W' : World} (h : nhS w m b c d W) (hb : Below W.heap.size W W') : nhS w m b c d W' :=
  ⟨(hb.block _ (by have := h.z; omega)).trans h.p, h.r.below hb (by have := h.z; omega), h.b.trans (hb.mono h.b.size), Nat.le_trans h.z hb.size⟩
theorem nhS.put {w : World} {m b c d : Int} {W : World} (h : nhS w m b c d W) (vs : List Value) (hv : vs.length = 10) : nhS w m b c d (setRow W (w.heap.size + 1) 0 vs) :=
  ⟨(setRow_block _ _ (by omega) vs W 0).trans h.p, h.r.put vs 0 (by omega), setRow_below _ _ (by omega) w vs W 0 h.b, by rw [setRow_size]; exact h.z⟩
theorem nhS.cell {w : World} {m b c d : Int} {W : World} (h : nhS w m b c d W) : W.cell? ⟨w.heap.size, 0, none⟩ = some (.int .i64 m) := by
  have := range_block h.p 0 (.int .i64 m) rfl
  simpa using this
theorem sz35 : (Tryz.prog.info? 29).map (·.size) = some 4 := by kernel_rfl
/-- what impl.NewHost leaves -/
structure nhOut (w w' : World) (g1 n k1 g2 m : Nat) (bs : List R3) : Prop where
  ne : g1 ≠ g2
  l1 : w.heap.size ≤ g1
  u1 : g1 < w'.heap.size
  l2 : w.heap.size ≤ g2
  u2 : g2 < w'.heap.size
  c1 : n ≤ k1
  z1 : rowZ w' g1 (n * 3)
  z2 : rowZ w' g2 (m * 8)
  s1 : St (w.heap.size + 2) w' (fun V => isR3s V (some ⟨g1, 0, none⟩) n k1 bs)
  a2 : ∀ j, j < m → at8 w' g2 (j * 8) bx0 none 0 0
theorem at8.upN {W w : World} {g o : Nat} (h : at8 w g o bx0 none 0 0) (he : W.heap[g]? = w.heap[g]?) : at8 W g o bx0 none 0 0 :=
  ⟨cell_up h.c0 he, cell_up h.c1 he, cell_up h.c2 he, cell_up h.c3 he, cell_up h.c4 he, cell_up h.c5 he, cell_up h.c6 he, cell_up h.cs he, ⟨rfl, Nat.le_refl _, fun _ hx => (by cases hx), fun hne => absurd rfl hne⟩⟩
theorem nhOut.put {w W : World} {g1 n k1 g2 m : Nat} {bs : List R3} (h : nhOut w W g1 n k1 g2 m bs) (h1 : w.heap.size + 2 ≤ g1) (h2 : w.heap.size + 2 ≤ g2) (vs : List Value) : nhOut w (setRow W (w.heap.size + 1) 0 vs) g1 n k1 g2 m bs := by
  have e1 := setRow_block (w.heap.size + 1) g1 (by omega) vs W 0
  have e2 := setRow_block (w.heap.size + 1) g2 (by omega) vs W 0
  refine ⟨h.ne, h.l1, by rw [setRow_size]; exact h.u1, h.l2, by rw [setRow_size]; exact h.u2, h.c1, h.z1.up e1, h.z2.up e2, ?_, fun j hj => (h.a2 j hj).upN e2⟩
  rw [← setCells_row]
  exact h.s1.setCells _ _ (by omega) vs
set_option maxHeartbeats 4000000 in
set_option maxRecDepth 20000 in
theorem newHost_ok (w : World) (m : Nat) (b c d : Int) (g n cap : Nat) (bs : List R3) (h : okCf m b c d = true) (hf : isR3s w (some ⟨g, 0, none⟩) n cap bs) (hn : n ≤ 1048576) (hm : m ≤ 8) (h2 : okFs bs = true) :
    Calls Tryz.prog 14 #[cfV m b c d, .slice (some ⟨g, 0, none⟩) n cap] w fun o w' => ∃ g1 k1 g2, o = .returned (.tuple #[hoV ⟨m, b, c, d, bs, List.replicate m bx0, [], [], 0, 0⟩ ⟨some ⟨g1, 0, none⟩, n, k1, some ⟨g2, 0, none⟩, m, m, none, 0, 0, none, 0, 0⟩, .int .i64 0]) ∧ nhOut w w' g1 n k1 g2 m bs ∧ Below w.heap.size w w' := by
  have HE : Hid (∀ W, Calls Tryz.prog 53 #[cfV m b c d] W fun o w' => o = .returned (.bool true) ∧ Below W.heap.size W w') := fun W => by have := validConfig_any W m b c d; rw [h] at this; exact this
  have HF : Hid (∀ W, Below w.heap.size w W → Calls Tryz.prog 54 #[.slice (some ⟨g, 0, none⟩) n cap] W fun o w' => o = .returned (.bool true) ∧ Below W.heap.size W w') := fun W hW => by have := validFilters_any W _ n cap bs (hf.below hW) hn; rw [h2] at this; exact this
  have HC : Hid (∀ W, Below w.heap.size w W → Calls Tryz.prog 55 #[.slice (some ⟨g, 0, none⟩) n cap] W fun e w' => ∃ g1 k1, e = .returned (.slice (some ⟨g1, 0, none⟩) n k1) ∧ (W.heap.size ≤ g1 ∧ g1 < w'.heap.size ∧ n ≤ k1 ∧ rowZ w' g1 (n * 3) ∧ St W.heap.size w' (fun V => isR3s V (some ⟨g1, 0, none⟩) n k1 bs)) ∧ Below W.heap.size W w') := fun W hW => cloneN hf hn W hW
  clear h hf h2
  go_enter Tryz.func14, Tryz.ntmps14
  go_wp2_with fail
  refine (HE.out _).mono ?_
  rintro o w1 ⟨rfl, hb1⟩
  have N1 : nhS w m b c d w1 := by
    refine nhS.below (W := (w.alloc (.cells #[.int .i64 m, .int .i64 b, .int .i64 c, .int .i64 d] 29)).alloc (.cells #[.int .i64 0, .int .i64 0, .int .i64 0, .int .i64 0, .slice none 0 0, .slice none 0 0, .slice none 0 0, .slice none 0 0, .int .i64 0, .int .i64 0] 35)) ⟨?_, ?_, ((Below.refl _ _).alloc (Nat.le_refl _) _).alloc (by simp) _, by simp⟩ hb1
    · rw [Below.heap_alloc _ _ _ (by simp)]
      exact heap_alloc_new w _
    · have := rowZ_alloc (w.alloc (.cells #[.int .i64 m, .int .i64 b, .int .i64 c, .int .i64 d] 29)) [.int .i64 0, .int .i64 0, .int .i64 0, .int .i64 0, .slice none 0 0, .slice none 0 0, .slice none 0 0, .slice none 0 0, .int .i64 0, .int .i64 0] 35
      simpa using this
  have HN1 : Hid (nhS w m b c d w1) := N1
  clear N1 hb1
  go_wp2_with fail
  refine (HF.out _ HN1.out.b).mono ?_
  rintro o w2 ⟨rfl, hb2⟩
  have HN2 : Hid (nhS w m b c d w2) := HN1.out.below hb2
  clear hb2
  go_wp2_with (first | (go_at_call 55; fail))
  refine wp_region_held (S := nhS w m b c d) (by kernel_rfl) ?_
  have hS := HN2.out.below (W' := w2.drew) (Below.refl _ _).drew
  refine wpAnyH_take (i := 0) (v := .agg [.int .i64 m, .int .i64 b, .int .i64 c, .int .i64 d].toArray) rfl (by kernel_rfl) (by kernel_rfl) (by kernel_rfl) (fun _ _ _ h => h) (yieldsIf_load_mid (by rfl) 29 (.tmp 2) rfl w.heap.size 0 rfl [.int .i64 m, .int .i64 b, .int .i64 c, .int .i64 d] _ (fun W h => range_block h.p) Tryz.underlying29 rfl sz35) hS ?_
  simp only [Act.put, List.setIfInBounds_toArray, List.set_cons_zero, List.set_cons_succ, List.getElem_toArray, List.getElem_cons_zero]
  refine wpAnyH_take (i := 1) (v := .slice (some ⟨g, 0, none⟩) n cap) rfl (by kernel_rfl) (by kernel_rfl) (by kernel_rfl) (fun _ _ _ h => h) (Or.inl ⟨by rfl, ?_⟩) hS ?_
  · intro W hSw
    clear hS
    go_simp
  simp only [Act.put, List.setIfInBounds_toArray, List.set_cons_zero, List.set_cons_succ, List.getElem_toArray, List.getElem_cons_zero, List.getElem_cons_succ]
  refine wpAnyH_take (i := 3) (v := .pointer (some ⟨w.heap.size, 0, none⟩)) rfl (by kernel_rfl) (by kernel_rfl) (by kernel_rfl) (fun _ _ _ h => h) (Or.inl ⟨by rfl, ?_⟩) hS ?_
  · intro W hSw
    clear hS
    go_simp
  simp only [Act.put, List.setIfInBounds_toArray, List.set_cons_zero, List.set_cons_succ, List.getElem_toArray, List.getElem_cons_zero, List.getElem_cons_succ]
  refine wpAnyH_take (i := 4) (v := .int .i64 m) rfl (by kernel_rfl) (by kernel_rfl) (by kernel_rfl) (fun _ _ _ h => h) (Or.inl ⟨by rfl, ?_⟩) hS ?_
  · intro W hSw
    clear hS
    have := hSw.cell
    go_simp
  simp only [Act.put, List.setIfInBounds_toArray, List.set_cons_zero, List.set_cons_succ, List.getElem_toArray, List.getElem_cons_zero, List.getElem_cons_succ]
  refine wpAnyH_all (rs := [2, 5]) (by kernel_rfl) (by simp) ?_
  refine AllReadyH.cons rfl (fun K hK => ?_) (AllReadyH.cons rfl (fun K hK => ?_) AllReadyH.nil)
  · go_simp
    refine (HC.out _ hS.b).mono ?_
    rintro o w7 ⟨g1, k1, rfl, ⟨q1, q2, q3, q4, q5⟩, b7⟩
    have hS7 := hS.below b7
    have hz2 := hS.z
    go_wp2_with fail
    refine hK.out _ _ hS7 (fun hS2 => ?_)
    clear hS hK K hS7
    have hS := hS2
    clear hS2
    refine wpAnyH_all (rs := [5]) (by kernel_rfl) (by simp) ?_
    refine AllReadyH.cons rfl (fun K hK => ?_) AllReadyH.nil
    rw [if_pos (by rfl)]
    refine wp_make_Zc w7 31 97 _ 8 72 Tryz.info97 Tryz.underlying31 (by decide) (.tmp 18) (.tmp 18) rfl m rfl rfl (by omega) ?_
    intro w8 hrow hcells b8 hz8
    have hS8 := hS.below b8
    have HG1 : Hid (w.heap.size + 2 ≤ g1) := Nat.le_trans hz2 q1
    have HG2 : Hid (w.heap.size + 2 ≤ w7.heap.size) := hS.z
    have HO8 : Hid (nhOut w w8 g1 n k1 w7.heap.size m bs) := ⟨by omega, by have := HG1.out; omega, by omega, by have := HG2.out; omega, hz8, q3, q4.below b8 q2, hrow, (q5.mono hz2).below b8, fun j hj => zero_boxes hcells j hj⟩
    clear q1 q2 q3 q4 q5 b7 b8 hrow hcells hz8 hz2
    simp only [Act.put, List.setIfInBounds_toArray, List.set_cons_zero, List.set_cons_succ, List.getElem_toArray, List.getElem_cons_zero, List.getElem_cons_succ]
    refine hK.out _ _ hS8 (fun hS2 => ?_)
    clear hS hK K hS8
    have hS := hS2
    clear hS2
    refine wpAnyH_take (i := 6) (v := .agg [.int .i64 m, .int .i64 b, .int .i64 c, .int .i64 d, .slice (some ⟨g1, 0, none⟩) n k1, .slice (some ⟨w7.heap.size, 0, none⟩) m m, .slice none 0 0, .slice none 0 0, .int .i64 0, .int .i64 0].toArray) rfl (by kernel_rfl) (by kernel_rfl) (by kernel_rfl) (fun _ _ _ h => h) (Or.inl ⟨by rfl, ?_⟩) hS ?_
    · intro W hSw
      clear hS
      go_simp
    simp only [Act.put, List.setIfInBounds_toArray, List.set_cons_zero, List.set_cons_succ, List.getElem_toArray, List.getElem_cons_zero, List.getElem_cons_succ]
    refine wpAnyH_all (rs := [7]) (by kernel_rfl) (by simp) ?_
    refine AllReadyH.cons rfl (fun K hK => ?_) AllReadyH.nil
    rw [if_pos (by rfl)]
    refine wp_store_mid (P := Tryz.prog) 35 (.tmp 4) (.tmp 20) rfl (w.heap.size + 1) 0 _ rfl rfl (hS.r.there 0 _ (by simp)) sz41 (one10 _ _ _ _ _ _ _ _ _ _ _ _ _ _ _ _ _ _) ?_
    rw [setCells_row]
    have hS9 := hS.put [.int .i64 m, .int .i64 b, .int .i64 c, .int .i64 d, .slice (some ⟨g1, 0, none⟩) n k1, .slice (some ⟨w7.heap.size, 0, none⟩) m m, .slice none 0 0, .slice none 0 0, .int .i64 0, .int .i64 0] rfl
    have HO9 : Hid _ := HO8.out.put HG1.out HG2.out [.int .i64 m, .int .i64 b, .int .i64 c, .int .i64 d, .slice (some ⟨g1, 0, none⟩) n k1, .slice (some ⟨w7.heap.size, 0, none⟩) m m, .slice none 0 0, .slice none 0 0, .int .i64 0, .int .i64 0]
    have C9 := fun t ht => setRow_at (w.heap.size + 1) [.int .i64 m, .int .i64 b, .int .i64 c, .int .i64 d, .slice (some ⟨g1, 0, none⟩) n k1, .slice (some ⟨w7.heap.size, 0, none⟩) m m, .slice none 0 0, .slice none 0 0, .int .i64 0, .int .i64 0] w8 0 t ht (hS.r.cell _ (by simp at ht; omega))
    refine hK.out _ _ hS9 (fun hS2 => ?_)
    generalize hw9 : setRow w8 (w.heap.size + 1) 0 _ = w9 at *
    clear hS hK K hS9 hw9
    have HS9 : Hid _ := hS2
    refine wpAnyH_take (i := 8) (v := .int .i64 0) rfl (by kernel_rfl) (by kernel_rfl) (by kernel_rfl) (fun _ _ _ h => h) (Or.inl ⟨by rfl, ?_⟩) hS2 ?_
    · intro W hSw
      clear hS2
      go_simp
    clear hS2
    simp only [Act.put, List.setIfInBounds_toArray, List.set_cons_zero, List.set_cons_succ, List.getElem_toArray, List.getElem_cons_zero, List.getElem_cons_succ]
    refine wpAnyH_done (by kernel_rfl) ?_ _
    have x0 := C9 0 (by simp)
    have x1 := C9 1 (by simp)
    have x2 := C9 2 (by simp)
    have x3 := C9 3 (by simp)
    have x4 := C9 4 (by simp)
    have x5 := C9 5 (by simp)
    have x6 := C9 6 (by simp)
    have x7 := C9 7 (by simp)
    have x8 := C9 8 (by simp)
    have x9 := C9 9 (by simp)
    clear C9
    simp only [List.getElem_cons_zero, List.getElem_cons_succ, Nat.zero_add] at x0 x1 x2 x3 x4 x5 x6 x7 x8 x9
    go_wp2_with fail
    refine bodyPost_ret (v := .tuple #[hoV ⟨m, b, c, d, bs, List.replicate m bx0, [], [], 0, 0⟩ ⟨some ⟨g1, 0, none⟩, n, k1, some ⟨w7.heap.size, 0, none⟩, m, m, none, 0, 0, none, 0, 0⟩, .int .i64 0]) (by simp [results, Tryz.results14, go_sem, x0, x1, x2, x3, x4, x5, x6, x7, x8, x9]) rfl ?_
    exact ⟨g1, k1, _, rfl, HO9.out, HS9.out.b⟩
  · rw [if_pos (by rfl)]
    refine wp_make_Zc _ 31 97 _ 8 72 Tryz.info97 Tryz.underlying31 (by decide) (.tmp 18) (.tmp 18) rfl m rfl rfl (by omega) ?_
    intro w7 hrow hcells b7 hz7
    dsimp only at hrow hcells b7 hz7
    have hS7 := hS.below b7
    have HG2 : Hid (w.heap.size + 2 ≤ w2.heap.size) := hS.z
    refine hK.out _ _ hS7 (fun hS2 => ?_)
    clear hS hK K hS7
    have hS := hS2
    clear hS2
    simp only [Act.put, List.setIfInBounds_toArray, List.set_cons_zero, List.set_cons_succ, List.getElem_toArray, List.getElem_cons_zero, List.getElem_cons_succ]
    refine wpAnyH_all (rs := [2]) (by kernel_rfl) (by simp) ?_
    refine AllReadyH.cons rfl (fun K hK => ?_) AllReadyH.nil
    go_simp
    refine (HC.out _ hS.b).mono ?_
    rintro o w8 ⟨g1, k1, rfl, ⟨q1, q2, q3, q4, q5⟩, b8⟩
    have hS8 := hS.below b8
    have HG1 : Hid (w.heap.size + 2 ≤ g1) := by have := HG2.out; show _ ≤ _; omega
    have HO8 : Hid (nhOut w w8 g1 n k1 w2.heap.size m bs) := ⟨by omega, by have := HG1.out; omega, by omega, by have := HG2.out; omega, by have := b8.size; omega, q3, q4, hrow.below b8 hz7, q5.mono hS.z, fun j hj => (zero_boxes hcells j hj).below b8⟩
    clear q1 q2 q3 q4 q5 b7 b8 hrow hcells hz7
    go_wp2_with fail
    refine hK.out _ _ hS8 (fun hS2 => ?_)
    clear hS hK K hS8
    have hS := hS2
    clear hS2
    refine wpAnyH_take (i := 6) (v := .agg [.int .i64 m, .int .i64 b, .int .i64 c, .int .i64 d, .slice (some ⟨g1, 0, none⟩) n k1, .slice (some ⟨w2.heap.size, 0, none⟩) m m, .slice none 0 0, .slice none 0 0, .int .i64 0, .int .i64 0].toArray) rfl (by kernel_rfl) (by kernel_rfl) (by kernel_rfl) (fun _ _ _ h => h) (Or.inl ⟨by rfl, ?_⟩) hS ?_
    · intro W hSw
      clear hS
      go_simp
    simp only [Act.put, List.setIfInBounds_toArray, List.set_cons_zero, List.set_cons_succ, List.getElem_toArray, List.getElem_cons_zero, List.getElem_cons_succ]
    refine wpAnyH_all (rs := [7]) (by kernel_rfl) (by simp) ?_
    refine AllReadyH.cons rfl (fun K hK => ?_) AllReadyH.nil
    rw [if_pos (by rfl)]
    refine wp_store_mid (P := Tryz.prog) 35 (.tmp 4) (.tmp 20) rfl (w.heap.size + 1) 0 _ rfl rfl (hS.r.there 0 _ (by simp)) sz41 (one10 _ _ _ _ _ _ _ _ _ _ _ _ _ _ _ _ _ _) ?_
    rw [setCells_row]
    have hS9 := hS.put [.int .i64 m, .int .i64 b, .int .i64 c, .int .i64 d, .slice (some ⟨g1, 0, none⟩) n k1, .slice (some ⟨w2.heap.size, 0, none⟩) m m, .slice none 0 0, .slice none 0 0, .int .i64 0, .int .i64 0] rfl
    have HO9 : Hid _ := HO8.out.put HG1.out HG2.out [.int .i64 m, .int .i64 b, .int .i64 c, .int .i64 d, .slice (some ⟨g1, 0, none⟩) n k1, .slice (some ⟨w2.heap.size, 0, none⟩) m m, .slice none 0 0, .slice none 0 0, .int .i64 0, .int .i64 0]
    have C9 := fun t ht => setRow_at (w.heap.size + 1) [.int .i64 m, .int .i64 b, .int .i64 c, .int .i64 d, .slice (some ⟨g1, 0, none⟩) n k1, .slice (some ⟨w2.heap.size, 0, none⟩) m m, .slice none 0 0, .slice none 0 0, .int .i64 0, .int .i64 0] w8 0 t ht (hS.r.cell _ (by simp at ht; omega))
    refine hK.out _ _ hS9 (fun hS2 => ?_)
    generalize hw9 : setRow w8 (w.heap.size + 1) 0 _ = w9 at *
    clear hS hK K hS9 hw9
    have HS9 : Hid _ := hS2
    refine wpAnyH_take (i := 8) (v := .int .i64 0) rfl (by kernel_rfl) (by kernel_rfl) (by kernel_rfl) (fun _ _ _ h => h) (Or.inl ⟨by rfl, ?_⟩) hS2 ?_
    · intro W hSw
      clear hS2
      go_simp
    clear hS2
    simp only [Act.put, List.setIfInBounds_toArray, List.set_cons_zero, List.set_cons_succ, List.getElem_toArray, List.getElem_cons_zero, List.getElem_cons_succ]
    refine wpAnyH_done (by kernel_rfl) ?_ _
    have x0 := C9 0 (by simp)
    have x1 := C9 1 (by simp)
    have x2 := C9 2 (by simp)
    have x3 := C9 3 (by simp)
    have x4 := C9 4 (by simp)
    have x5 := C9 5 (by simp)
    have x6 := C9 6 (by simp)
    have x7 := C9 7 (by simp)
    have x8 := C9 8 (by simp)
    have x9 := C9 9 (by simp)
    clear C9
    simp only [List.getElem_cons_zero, List.getElem_cons_succ, Nat.zero_add] at x0 x1 x2 x3 x4 x5 x6 x7 x8 x9
    go_wp2_with fail
    refine bodyPost_ret (v := .tuple #[hoV ⟨m, b, c, d, bs, List.replicate m bx0, [], [], 0, 0⟩ ⟨some ⟨g1, 0, none⟩, n, k1, some ⟨w2.heap.size, 0, none⟩, m, m, none, 0, 0, none, 0, 0⟩, .int .i64 0]) (by simp [results, Tryz.results14, go_sem, x0, x1, x2, x3, x4, x5, x6, x7, x8, x9]) rfl ?_
    exact ⟨g1, k1, _, rfl, HO9.out, HS9.out.b⟩
end Go.Proofs.YtaamahohdnbpiaaGreat
